import Derived.Test.YtkcmpipipelgoaaKStP1
import Derived.BigQuiet
/- A step of the law: Put. -/
namespace Go.Proofs.Ytkcmpipipelgoaa
open Go.RowKit Go

set_option maxRecDepth 100000 in
set_option maxHeartbeats 4000000 in
theorem step_put {w : World} {o : Nat → Nat} {b : Nat} {cur : Array Value} {C T : List Value} {cv tv : Value} {lo : Option Addr} {n lc : Nat} {L : List Fr} {TB : Nat} (h : PQ w o b cur C T cv tv lo n lc L TB) (d : Opd) (hd : OpIn w o d) (hlv : ∀ rv, cur[2 + pkN d.on 2]? = some rv → rv ≠ .pointer none) (hk : d.k = 1) (hTB : TB ≤ 10000000) (hB : C.length + 20 * n ≤ 500000000000) (hTl : T.length ≤ 500000000000) :
    Calls Try.prog 19 #[.pointer (some ⟨b, 0, none⟩), opV d] w fun r w' => r = .returned (.bool true) ∧ StOut w o b C T n TB w' := by
  have HK : Hid (d.k = 1) := hk
  clear hk
  have HBnd : Hid (TB ≤ 10000000 ∧ C.length + 20 * n ≤ 500000000000 ∧ T.length ≤ 500000000000) := ⟨hTB, hB, hTl⟩
  obtain ⟨p, hp⟩ : ∃ p, p = pkN d.on 2 := ⟨_, rfl⟩
  have hp2 : p < 2 := by rw [hp]; exact pkN_lt _ (by omega)
  obtain ⟨N, hN⟩ : ∃ N, N = w.heap.size := ⟨_, rfl⟩
  obtain ⟨m, hm⟩ : ∃ m, m = d.t.cols.length := ⟨_, rfl⟩
  obtain ⟨w0, hw0⟩ : ∃ w0, w0 = w.alloc (.cells #[.int .i64 d.k, .int .i64 d.on, .int .i64 d.x, .int .i64 d.i, .int .i64 d.t.id, .int .i64 d.t.ver, .string d.t.nm, .slice d.ao d.t.cols.length d.c, .int .i64 d.t.key] 67) := ⟨_, rfl⟩
  have t0 : Tch (fun _ => False) w w0 := by rw [hw0]; exact Tch.alloc _ _ _
  have bX : w0.heap[N]? = some (.cells #[.int .i64 d.k, .int .i64 d.on, .int .i64 d.x, .int .i64 d.i, .int .i64 d.t.id, .int .i64 d.t.ver, .string d.t.nm, .slice d.ao d.t.cols.length d.c, .int .i64 d.t.key] 67 (0, 0)) := by rw [hw0, hN]; exact alloc_new _ _
  obtain ⟨o0, ho0⟩ : ∃ o0, o0 = ext w o 0 := ⟨_, rfl⟩
  have e0 : Ev (fun j => j = 0) w o w0 o0 := by rw [ho0]; exact Ev.quiet 0 t0
  have hoN : o0 N = 0 := by rw [ho0, hN]; exact if_neg (by omega)
  have H0 : Hid (PQ w0 o0 b cur C T cv tv lo n lc L TB) := h.ev e0 (by omega)
  have HD0 : Hid (OpIn w0 o0 d) := hd.ev e0 (by omega)
  have HE0 : Hid (Ev (fun j => j ≠ 15) w o w0 o0) := e0.mono (fun j e => by omega)
  have qP : ∀ W, Calls Try.prog 8 #[.int .i64 d.on, .int .i64 2] W fun x w' => x = .returned (.int .i64 p) ∧ w' = W := fun W => by rw [hp]; exact pick_any d.on 2 W hd.on.1 hd.on.2 (by omega) (by omega)
  have HQP : Hid _ := qP
  obtain ⟨hv, rv, c1, c2, hsd⟩ := H0.out.sd p hp2
  obtain ⟨hb, rb, hh, dd, rfl, rfl, hH, hD, hLk, hT⟩ : ∃ hb rb h d, hv = .pointer (some ⟨hb, 0, none⟩) ∧ rv = .pointer (some ⟨rb, 0, none⟩) ∧ HF w0 (Oth w0 o0 (1 + p)) hb h ∧ DF w0 (Oth w0 o0 (3 + p)) rb d ∧ Lk h d ∧ h.T ≤ TB := by
    rcases hsd with ⟨_, e⟩ | hsd
    · exact absurd e (hlv rv (by rw [← hp]; exact c2))
    · exact hsd
  have HC1 : Hid (cur[p]? = some (.pointer (some ⟨hb, 0, none⟩)) ∧ cur[2 + p]? = some (.pointer (some ⟨rb, 0, none⟩))) := ⟨c1, c2⟩
  have z0 : w0.cell? ⟨b, p, none⟩ = some (.pointer (some ⟨hb, 0, none⟩)) := by rw [blk_cell H0.out.lw.blk]; exact c1
  have z2 : w0.cell? ⟨b, 2 + p, none⟩ = some (.pointer (some ⟨rb, 0, none⟩)) := by rw [blk_cell H0.out.lw.blk]; exact c2
  have x1 : w0.cell? ⟨N, 1, none⟩ = some (.int .i64 d.on) := blk_cell bX 1
  have HW0 : Hid (w0 = _) := hw0
  have HN : Hid (N = w.heap.size) := hN
  have HX0 : Hid _ := bX
  have HoN : Hid (o0 N = 0) := hoN
  have Hm : Hid (m = d.t.cols.length) := hm
  have hp2' : (p : Int) < 2 := by omega
  have HH0 : Hid (HF w0 (Oth w0 o0 (1 + p)) hb hh) := hH
  have HDo0 : Hid (DF w0 (Oth w0 o0 (3 + p)) rb dd) := hD
  have HLk : Hid (Lk hh dd ∧ hh.T ≤ TB) := ⟨hLk, hT⟩
  clear hH hD hLk hT hw0 hN t0 bX ho0 e0 hoN h hd qP hp c1 c2 hm hTB hB hTl
  go_enter Try.func19, Try.ntmps19
  go_upto_region 1 with (fail)
  rw [← HW0.out, ← HN.out]
  go_wp2_with fail
  go_quiet ((go_at_call 8; exact Calls.quiet_of_same (HQP.out _)))
  obtain ⟨w1, hw1⟩ : ∃ w1, w1 = w0.drewN nq := ⟨_, rfl⟩
  have t1 : Tch (fun _ => False) w0 w1 := by rw [hw1]; exact (Tch.refl _ _).drewN nq
  have y2 : w1.cell? ⟨b, 2 + p, none⟩ = some (.pointer (some ⟨rb, 0, none⟩)) := (t1.cell (p := ⟨b, 2 + p, none⟩) (cell_lt z2) (fun e => e)).trans z2
  have y1 : w1.cell? ⟨N, 1, none⟩ = some (.int .i64 d.on) := (t1.cell (p := ⟨N, 1, none⟩) (cell_lt x1) (fun e => e)).trans x1
  rw [← hw1]
  have HT1 : Hid (Tch (fun _ => False) w0 w1) := t1
  clear hw1 t1 z0 z2 x1
  go_wp2_with fail
  go_quiet ((go_at_call 8; exact Calls.quiet_of_same (HQP.out _)))
  obtain ⟨w2, hw2⟩ : ∃ w2, w2 = w1.drewN nq := ⟨_, rfl⟩
  have t2 : Tch (fun _ => False) w0 w2 := by rw [hw2]; exact HT1.out.drewN nq
  rw [← hw2]
  obtain ⟨o2, ho2⟩ : ∃ o2, o2 = ext w0 o0 0 := ⟨_, rfl⟩
  have e2 : Ev (fun j => j = 0) w0 o0 w2 o2 := by rw [ho2]; exact Ev.quiet 0 t2
  have H2 : Hid (PQ w2 o2 b cur C T cv tv lo n lc L TB) := H0.out.ev e2 (by omega)
  have HD2 : Hid (OpIn w2 o2 d) := HD0.out.ev e2 (by omega)
  have HE2 : Hid (Ev (fun j => j ≠ 15) w o w2 o2) := HE0.out.trans (e2.mono (fun j e => by omega))
  have hX2 := (t2.block N (blk_lt HX0.out) (fun e => e)).trans HX0.out
  have HX2 : Hid _ := hX2
  have HoN2 : Hid (o2 N = 0) := by show _ = _; rw [ho2]; show ext w0 o0 0 N = 0; unfold ext; rw [if_pos (blk_lt HX0.out)]; exact HoN.out
  have HH2 : Hid (HF w2 (Oth w2 o2 (1 + p)) hb hh) := HH0.out.ev e2 (by omega)
  have HDo2 : Hid (DF w2 (Oth w2 o2 (3 + p)) rb dd) := HDo0.out.ev e2 (by omega)
  have x0 : w2.cell? ⟨N, 0, none⟩ = some (.int .i64 d.k) := blk_cell hX2 0
  have x7 : w2.cell? ⟨N, 7, none⟩ = some (.slice d.ao d.t.cols.length d.c) := blk_cell hX2 7
  have k1 : (d.k == 1) = true := by simp [HK.out]
  clear hlv
  obtain ⟨mv, hmc, hmo⟩ := H2.out.me
  clear hw2 t2 ho2 e2 hX2 y1 y2 HH0 HDo0 H0 HD0 HE0 HX0 HoN HT1
  have HMC : Hid (cur[7]? = some mv) := hmc
  have z7 : w2.cell? ⟨b, 7, none⟩ = some mv := by rw [blk_cell H2.out.lw.blk]; exact hmc
  have hm9 : m ≤ 100000000 := by have := HD2.out.le; have := Hm.out; omega
  have hw8 : IntKind.i64.wrap ((m : Int) + 8) = (m : Int) + 8 := wrap_of (by omega) (by omega)
  have x7' : w2.cell? ⟨N, 7, none⟩ = some (.slice d.ao m d.c) := by rw [Hm.out]; exact x7
  obtain ⟨mo, ml, hmv⟩ : ∃ mo ml, mv = .slice mo ml ml := by
    rcases hmo with e | ⟨g, m', _, e, _⟩
    · exact ⟨none, 0, e⟩
    · exact ⟨_, m', e⟩
  subst hmv
  have HMO : Hid (MemO w2 o2 (.slice mo ml ml)) := hmo
  clear x7 hmc hmo
  by_cases hlt : (ml : Int) < (m : Int) + 8
  · have hw40 : IntKind.i64.wrap ((m : Int) + 40) = (m : Int) + 40 := wrap_of (by omega) (by omega)
    go_upto_region 7 with (fail)
    go_quiet (fail)
    obtain ⟨w3, hw3⟩ : ∃ w3, w3 = w2.drewN nq := ⟨_, rfl⟩
    have t3 : Tch (fun _ => False) w2 w3 := by rw [hw3]; exact (Tch.refl _ _).drewN nq
    obtain ⟨o3, ho3⟩ : ∃ o3, o3 = ext w2 o2 0 := ⟨_, rfl⟩
    have e3 : Ev (fun j => j = 0) w2 o2 w3 o3 := by rw [ho3]; exact Ev.quiet 0 t3
    have hP3 := H2.out.ev e3 (by omega)
    obtain ⟨mc, hmc⟩ : ∃ mc, mc = m + 40 := ⟨_, rfl⟩
    obtain ⟨gm, hgm⟩ : ∃ gm, gm = w3.heap.size := ⟨_, rfl⟩
    obtain ⟨hP4, e34⟩ := hP3.mem mc (rep mc [.string ⟨#[]⟩, .int .i64 0, .bool false]).toArray (by rw [List.size_toArray, rep_len]; rfl) (by omega) (by omega)
    rw [← hgm] at hP4 e34
    obtain ⟨w4, hw4⟩ : ∃ w4, w4 = (w3.alloc (.cells (rep mc [.string ⟨#[]⟩, .int .i64 0, .bool false]).toArray 80)).setCell ⟨b, 7, none⟩ (.slice (some ⟨gm, 0, none⟩) mc mc) := ⟨_, rfl⟩
    obtain ⟨o4, ho4⟩ : ∃ o4, o4 = ext w3 o3 11 := ⟨_, rfl⟩
    obtain ⟨cur4, hcur4⟩ : ∃ cur4, cur4 = cur.setIfInBounds 7 (.slice (some ⟨gm, 0, none⟩) mc mc) := ⟨_, rfl⟩
    rw [← hw4, ← ho4] at hP4 e34
    rw [← hcur4] at hP4
    have e4 : Ev (fun j => j = 0 ∨ j = 5 ∨ j = 11) w2 o2 w4 o4 := (e3.mono (fun j e => .inl e)).trans (e34.mono (fun j e => by omega))
    have HP4 : Hid (PQ w4 o4 b cur4 C T cv tv lo n lc L TB) := hP4
    have HE4 : Hid (Ev (fun j => j ≠ 15) w o w4 o4) := HE2.out.trans (e4.mono (fun j e => by omega))
    have HD4 : Hid (OpIn w4 o4 d) := HD2.out.ev e4 (by omega)
    have HH4 : Hid (HF w4 (Oth w4 o4 (1 + p)) hb hh) := HH2.out.ev e4 (by omega)
    have HDo4 : Hid (DF w4 (Oth w4 o4 (3 + p)) rb dd) := HDo2.out.ev e4 (by omega)
    have hX3 := (t3.block N (blk_lt HX2.out) (fun e => e)).trans HX2.out
    have hoN3 : o3 N = 0 := by rw [ho3]; show ext w2 o2 0 N = 0; unfold ext; rw [if_pos (blk_lt HX2.out)]; exact HoN2.out
    have HX4 : Hid _ := (e34.tch.block N (blk_lt hX3) (fun e => by omega)).trans hX3
    have HoN4 : Hid (o4 N = 0) := by show _ = _; rw [ho4]; show ext w3 o3 11 N = 0; unfold ext; rw [if_pos (blk_lt hX3)]; exact hoN3
    have HC4 : Hid (cur4[p]? = some (.pointer (some ⟨hb, 0, none⟩)) ∧ cur4[2 + p]? = some (.pointer (some ⟨rb, 0, none⟩))) := ⟨by rw [hcur4, Array.getElem?_setIfInBounds_ne (by omega)]; exact HC1.out.1, by rw [hcur4, Array.getElem?_setIfInBounds_ne (by omega)]; exact HC1.out.2⟩
    have hc7 : cur4[7]? = some (.slice (some ⟨gm, 0, none⟩) mc mc) := by rw [hcur4, Array.getElem?_setIfInBounds_self_of_lt (by rw [H2.out.lw.sz]; decide)]
    have HGM : Hid (cur4[7]? = some (.slice (some ⟨gm, 0, none⟩) mc mc) ∧ o4 gm = 11 ∧ ∃ cu, w4.heap[gm]? = some (.cells cu 80 (0, 0)) ∧ cu.size = mc * 3) := by
      obtain ⟨mv', hm1, hm2⟩ := hP4.me
      rw [hc7] at hm1
      injection hm1 with hm1
      subst hm1
      rcases hm2 with e | ⟨g', m', cu, e, h2, h3, h4, _⟩
      · cases e
      · injection e with ea eb ec
        injection ea with ea
        injection ea with ea
        subst ea
        subst eb
        exact ⟨hc7, h2, cu, h3, h4⟩
    have hmc8 : m + 8 ≤ mc := by omega
    have hm0 : 0 < mc := by omega
    have hml : mc ≤ 200000000 := by omega
    have HW4 : Hid (w4 = _) := hw4
    have Hmc : Hid (mc = m + 40) := hmc
    have Hgm : Hid (gm = w3.heap.size) := hgm
    have hmk : (Instr.makeSlice 34 (.int .i64 ((m : Int) + 40)) (.int .i64 ((m : Int) + 40))).run Try.prog w3 = .ok (.slice (some ⟨gm, 0, none⟩) mc mc) (w3.alloc (.cells (rep mc [.string ⟨#[]⟩, .int .i64 0, .bool false]).toArray 80)) := by
      have := make_col mc w3 (by omega)
      rw [← hgm] at this
      rw [show ((m : Int) + 40) = (mc : Int) by omega]
      exact this
    have x73 : w3.cell? ⟨N, 7, none⟩ = some (.slice d.ao m d.c) := (t3.cell (p := ⟨N, 7, none⟩) (cell_lt x7') (fun e => e)).trans x7'
    have z7a : (w3.alloc (.cells (rep mc [.string ⟨#[]⟩, .int .i64 0, .bool false]).toArray 80)).cell? ⟨b, 7, none⟩ = some (.slice mo ml ml) := ((Tch.alloc (fun _ => False) w3 (.cells (rep mc [.string ⟨#[]⟩, .int .i64 0, .bool false]).toArray 80)).cell (p := ⟨b, 7, none⟩) (blk_lt hP3.lw.blk) (fun e => e)).trans ((t3.cell (p := ⟨b, 7, none⟩) (cell_lt z7) (fun e => e)).trans z7)
    have zfa : ∀ j, (w3.alloc (.cells (rep mc [.string ⟨#[]⟩, .int .i64 0, .bool false]).toArray 80)).frozen? ⟨b, j, none⟩ = false := fun j => blk_frozen (((Tch.alloc (fun _ => False) w3 (.cells (rep mc [.string ⟨#[]⟩, .int .i64 0, .bool false]).toArray 80)).block b (blk_lt hP3.lw.blk) (fun e => e)).trans hP3.lw.blk) j
    rw [← hw3]
    clear hw3 t3 ho3 e3 hP3 hmc hgm hP4 e34 hw4 ho4 hcur4 e4 hX3 hoN3 hc7 z7 x7' x0 H2 HD2 HH2 HDo2 HE2 HMO HMC
    go_upto_region 9 with (fail)
    rw [← HW4.out]
    clear hmk x73 z7a zfa
    have HS4 : Hid (SL w4 d.ao (ccl d.t.cols)) := HD4.out.sl
    have HNo : Hid (d.ao = none → d.t.cols = [] ∧ d.c = 0) := HD4.out.no
    have Hgb : Hid (gm ≠ b ∧ gm ≠ N ∧ gm < w4.heap.size) := ⟨fun e => by have h1 := HGM.out.2.1; rw [e, HP4.out.lw.own] at h1; omega, fun e => by have h1 := HGM.out.2.1; rw [e, HoN4.out] at h1; omega, by obtain ⟨cu, h1, _⟩ := HGM.out.2.2; exact blk_lt h1⟩
    obtain ⟨cu, hcu, hcs⟩ := HGM.out.2.2
    have HCA : Hid (∀ p W, C9 w4 d.t gm m mc [] p W → Calls Try.prog 28 #[.slice (some ⟨gm, 0, none⟩) (m + 8) mc, tA d.t.id d.t.ver d.t.nm (.slice d.ao m d.c) d.t.key] W fun r w' => r = .returned (lnT d.t gm m mc) ∧ C9 w4 d.t gm m mc [lnT d.t gm m mc] p w') := fun p W hW => hW.call hcu hcs Hm.out hmc8 hm9 HS4.out HNo.out
    have hKK : ∀ s p W, C9 w4 d.t gm m mc s p W → W.cell? ⟨b, 7, none⟩ = some (.slice (some ⟨gm, 0, none⟩) mc mc) ∧ W.cell? ⟨N, 4, none⟩ = some (.int .i64 d.t.id) ∧ W.cell? ⟨N, 5, none⟩ = some (.int .i64 d.t.ver) ∧ W.cell? ⟨N, 6, none⟩ = some (.string d.t.nm) ∧ W.cell? ⟨N, 7, none⟩ = some (.slice d.ao m d.c) ∧ W.cell? ⟨N, 8, none⟩ = some (.int .i64 d.t.key) := fun s p W hW => by
      have h1 := (hW.1.block N (blk_lt HX4.out) (fun e => Hgb.out.2.1 e.symm)).trans HX4.out
      have h2 := (hW.1.block b (blk_lt HP4.out.lw.blk) (fun e => Hgb.out.1 e.symm)).trans HP4.out.lw.blk
      exact ⟨by rw [blk_cell h2]; exact HGM.out.1, blk_cell h1 4, blk_cell h1 5, blk_cell h1 6, by rw [Hm.out]; exact blk_cell h1 7, blk_cell h1 8⟩
    obtain ⟨CC, hCC⟩ : ∃ CC : List Value → Option Value → World → Prop, CC = C9 w4 d.t gm m mc := ⟨_, rfl⟩
    have h0' : CC [] none w4.drew := by rw [hCC]; exact C9.zero _ _ _ _ _
    have hFl : ∀ s W, CC s none W → CC s (some (.pointer (some ⟨W.heap.size, 0, none⟩))) (W.alloc (.cells #[.int .i64 0, .int .i64 0, .string ⟨#[]⟩, .slice none 0 0, .int .i64 0] 36)) := fun s W hW => by rw [hCC] at hW ⊢; exact hW.fl
    rw [← hCC] at hKK HCA
    have hsh : Hid (∀ y p W, CC [y] p W → y = .tuple #[tA d.t.id d.t.ver d.t.nm (.slice (some ⟨gm, 0, none⟩) m mc) d.t.key, .slice (some ⟨gm, 0, none⟩) (m + 8) mc]) := fun y p W hW => by rw [hCC] at hW; exact hW.one
    have hptr : ∀ s v W, CC s (some v) W → ∃ mb, v = .pointer (some ⟨mb, 0, none⟩) := fun s v W hW => by rw [hCC] at hW; exact hW.ptr
    have hst : ∀ y z mb (W : World), CC [y] (some (.pointer (some ⟨mb, 0, none⟩))) W → (∃ z0 z1 z2 z3 z4, W.heap[mb]? = some (.cells #[z0, z1, z2, z3, z4] 36 (0, 0))) ∧ CC [y, z] (some (.pointer (some ⟨mb, 0, none⟩))) (((((W.setCell ⟨mb, 0, none⟩ (.int .i64 d.t.id)).setCell ⟨mb, 1, none⟩ (.int .i64 d.t.ver)).setCell ⟨mb, 2, none⟩ (.string d.t.nm)).setCell ⟨mb, 3, none⟩ (.slice (some ⟨gm, 0, none⟩) m mc)).setCell ⟨mb, 4, none⟩ (.int .i64 d.t.key)) := fun y z mb W hW => by rw [hCC] at hW ⊢; exact hW.st Hgb.out.2.2
    have HEND : Hid (∀ y z mb W, CC [y, z] (some (.pointer (some ⟨mb, 0, none⟩))) W → Tch (fun i => i = gm) w4 W ∧ LB W gm mc d.t.cols (m + 8) ∧ W.heap[mb]? = some (.cells #[.int .i64 d.t.id, .int .i64 d.t.ver, .string d.t.nm, .slice (some ⟨gm, 0, none⟩) m mc, .int .i64 d.t.key] 36 (0, 0)) ∧ w4.heap.size ≤ mb) := fun y z mb W hW => by rw [hCC] at hW; exact hW.fin
    clear hCC hcu hcs
    have h08 : 0 ≤ (m : Int) + 8 := by omega
    have h8m : (m : Int) + 8 ≤ (mc : Int) := by omega
    have htn : ((m : Int) + 8).toNat = m + 8 := by omega
    refine wp_region_floo [12, 17] 16 _ CC [0, 1, 2, 3, 4, 5, 6, 7, 8, 9, 10, 11, 12, 13, 14, 15, 16, 17, 18] (by kernel_rfl) (by kernel_rfl) rfl rfl (by rfl) (by kernel_rfl) (fun s a W hW b K Q hK' => ?_) h0' ?_
    · go_simp
      exact hK' _ _ (hFl s W hW)
    clear h0'
    refine floo_read rfl (by go_simp) (by rfl) (by rfl) ?_
    apply Exists.intro
    refine ⟨fun s' p' W hl hW b K Q hK' => ?_, fun K hK' => ?_⟩
    · obtain ⟨q7, x4, x5, x6, x7, x8⟩ := hKK _ _ W hW
      go_simp
      exact hK' W hW
    go_simp
    refine hK' _ ?_
    clear hK' K
    refine floo_read rfl (by go_simp) (by rfl) (by rfl) ?_
    apply Exists.intro
    refine ⟨fun s' p' W hl hW b K Q hK' => ?_, fun K hK' => ?_⟩
    · obtain ⟨q7, x4, x5, x6, x7, x8⟩ := hKK _ _ W hW
      go_simp
      exact hK' W hW
    go_simp
    refine hK' _ ?_
    clear hK' K
    refine floo_read rfl (by go_simp) (by rfl) (by rfl) ?_
    apply Exists.intro
    refine ⟨fun s' p' W hl hW b K Q hK' => ?_, fun K hK' => ?_⟩
    · obtain ⟨q7, x4, x5, x6, x7, x8⟩ := hKK _ _ W hW
      go_simp
      exact hK' W hW
    go_simp
    refine hK' _ ?_
    clear hK' K
    refine floo_read rfl (by go_simp) (by rfl) (by rfl) ?_
    apply Exists.intro
    refine ⟨fun s' p' W hl hW b K Q hK' => ?_, fun K hK' => ?_⟩
    · obtain ⟨q7, x4, x5, x6, x7, x8⟩ := hKK _ _ W hW
      go_simp
      exact hK' W hW
    go_simp
    refine hK' _ ?_
    clear hK' K
    refine floo_read rfl (by go_simp) (by rfl) (by rfl) ?_
    apply Exists.intro
    refine ⟨fun s' p' W hl hW b K Q hK' => ?_, fun K hK' => ?_⟩
    · obtain ⟨q7, x4, x5, x6, x7, x8⟩ := hKK _ _ W hW
      go_simp
      exact hK' W hW
    go_simp
    refine hK' _ ?_
    clear hK' K
    refine floo_read rfl (by go_simp) (by rfl) (by rfl) ?_
    apply Exists.intro
    refine ⟨fun s' p' W hl hW b K Q hK' => ?_, fun K hK' => ?_⟩
    · obtain ⟨q7, x4, x5, x6, x7, x8⟩ := hKK _ _ W hW
      go_simp
      exact hK' W hW
    go_simp
    refine hK' _ ?_
    clear hK' K
    refine floo_read rfl (by go_simp) (by rfl) (by rfl) ?_
    apply Exists.intro
    refine ⟨fun s' p' W hl hW b K Q hK' => ?_, fun K hK' => ?_⟩
    · obtain ⟨q7, x4, x5, x6, x7, x8⟩ := hKK _ _ W hW
      go_simp
      exact hK' W hW
    go_simp
    refine hK' _ ?_
    clear hK' K
    refine floo_read rfl (by go_simp) (by rfl) (by rfl) ?_
    apply Exists.intro
    refine ⟨fun s' p' W hl hW b K Q hK' => ?_, fun K hK' => ?_⟩
    · obtain ⟨q7, x4, x5, x6, x7, x8⟩ := hKK _ _ W hW
      go_simp
      exact hK' W hW
    go_simp
    refine hK' _ ?_
    clear hK' K
    refine floo_read rfl (by go_simp) (by rfl) (by rfl) ?_
    apply Exists.intro
    refine ⟨fun s' p' W hl hW b K Q hK' => ?_, fun K hK' => ?_⟩
    · obtain ⟨q7, x4, x5, x6, x7, x8⟩ := hKK _ _ W hW
      go_simp
      exact hK' W hW
    go_simp
    refine hK' _ ?_
    clear hK' K
    refine floo_read rfl (by go_simp) (by rfl) (by rfl) ?_
    apply Exists.intro
    refine ⟨fun s' p' W hl hW b K Q hK' => ?_, fun K hK' => ?_⟩
    · obtain ⟨q7, x4, x5, x6, x7, x8⟩ := hKK _ _ W hW
      go_simp
      exact hK' W hW
    go_simp
    refine hK' _ ?_
    clear hK' K
    refine floo_read rfl (by go_simp) (by rfl) (by rfl) ?_
    apply Exists.intro
    refine ⟨fun s' p' W hl hW b K Q hK' => ?_, fun K hK' => ?_⟩
    · obtain ⟨q7, x4, x5, x6, x7, x8⟩ := hKK _ _ W hW
      go_simp
      exact hK' W hW
    go_simp
    refine hK' _ ?_
    clear hK' K
    refine floo_read rfl (by go_simp) (by rfl) (by rfl) ?_
    apply Exists.intro
    refine ⟨fun s' p' W hl hW b K Q hK' => ?_, fun K hK' => ?_⟩
    · obtain ⟨q7, x4, x5, x6, x7, x8⟩ := hKK _ _ W hW
      go_simp
      exact hK' W hW
    go_simp
    refine hK' _ ?_
    clear hK' K
    refine floo_turn rfl (by go_simp) (by rfl) (fun p' hl W hW b K Q hK' => ?_) (fun u hu K hK' => ?_)
    · go_simp
      go_at_call 28
      refine (HCA.out p' W hW).mono ?_
      rintro r w' ⟨rfl, h1⟩
      exact hK' _ w' h1
    obtain rfl : u = .tuple #[tA d.t.id d.t.ver d.t.nm (.slice (some ⟨gm, 0, none⟩) m mc) d.t.key, .slice (some ⟨gm, 0, none⟩) (m + 8) mc] := by
      obtain ⟨p', W', _, hW'⟩ := hu
      exact hsh.out u p' W' hW'
    clear hu hsh
    go_simp
    refine hK' _ ?_
    clear hK' K
    refine floo_read rfl (by go_simp) (by rfl) (by rfl) ?_
    apply Exists.intro
    refine ⟨fun s' p' W hl hW b K Q hK' => ?_, fun K hK' => ?_⟩
    · go_simp
      exact hK' W hW
    go_simp
    refine hK' _ ?_
    clear hK' K
    refine floo_read rfl (by go_simp) (by rfl) (by rfl) ?_
    apply Exists.intro
    refine ⟨fun s' p' W hl hW b K Q hK' => ?_, fun K hK' => ?_⟩
    · go_simp
      exact hK' W hW
    go_simp
    refine hK' _ ?_
    clear hK' K
    refine floo_read rfl (by go_simp) (by rfl) (by rfl) ?_
    apply Exists.intro
    refine ⟨fun s' p' W hl hW b K Q hK' => ?_, fun K hK' => ?_⟩
    · go_simp
      exact hK' W hW
    go_simp
    refine hK' _ ?_
    clear hK' K
    refine floo_float rfl (by go_simp) (by rfl) (by rfl) (fun W hW b K Q hK' => ?_) (fun u hu K hK' => ?_)
    · go_simp
      exact hK' _ _ (hFl _ W hW)
    obtain ⟨mb, rfl⟩ : ∃ mb, u = .pointer (some ⟨mb, 0, none⟩) := by
      obtain ⟨s', W', hW'⟩ := hu
      exact hptr _ u W' hW'
    clear hu
    go_simp
    refine hK' _ ?_
    clear hK' K
    refine floo_turn rfl (by go_simp) (by rfl) (fun p' hl W hW b K Q hK' => ?_) (fun u hu K hK' => ?_)
    · obtain rfl := hl.some
      obtain ⟨⟨z0, z1, z2, z3, z4, hz⟩, qC⟩ := hst _ undef mb W hW
      have q0 : W.cell? ⟨mb, 0, none⟩ = some z0 := blk_cell hz 0
      have q1 : W.cell? ⟨mb, 1, none⟩ = some z1 := blk_cell hz 1
      have q2 : W.cell? ⟨mb, 2, none⟩ = some z2 := blk_cell hz 2
      have q3 : W.cell? ⟨mb, 3, none⟩ = some z3 := blk_cell hz 3
      have q4 : W.cell? ⟨mb, 4, none⟩ = some z4 := blk_cell hz 4
      have f0 := blk_frozen hz 0
      have f1 := blk_frozen hz 1
      have f2 := blk_frozen hz 2
      have f3 := blk_frozen hz 3
      have f4 := blk_frozen hz 4
      clear hz
      go_simp
      exact hK' _ _ qC
    clear hu
    go_simp
    refine hK' _ ?_
    clear hK' K
    refine floo_read rfl (by go_simp) (by rfl) (by rfl) ?_
    apply Exists.intro
    refine ⟨fun s' p' W hl hW b K Q hK' => ?_, fun K hK' => ?_⟩
    · go_simp
      exact hK' W hW
    go_simp
    refine hK' _ ?_
    clear hK' K
    refine floo_nil ?_
    intro w5 hw5
    obtain ⟨t5, hB5, hb5, hmb⟩ := HEND.out _ _ mb w5 hw5
    clear hKK hw5 hst hFl HEND hptr HCA
    obtain ⟨o5, ho5⟩ : ∃ o5, o5 = ext w4 o4 0 := ⟨_, rfl⟩
    have e5 : Ev (fun j => j = 0 ∨ j = 11) w4 o4 w5 o5 := by
      rw [ho5]
      refine ⟨t5.mono (fun i _ e => by have e' : i = gm := e; rw [e']; exact .inr HGM.out.2.1), fun i hi _ => if_pos hi, fun i hi e => ?_, fun i hi _ => .inl (if_neg (by omega))⟩
      have e9 : ext w4 o4 0 i = o4 i := if_pos hi
      rw [e9]; exact e
    have hgm5 : o5 gm = 11 := by rw [ho5]; show ext w4 o4 0 gm = 11; unfold ext; rw [if_pos Hgb.out.2.2]; exact HGM.out.2.1
    have HP5 : Hid (PQ w5 o5 b cur4 C T cv tv lo n lc L TB) := HP4.out.memK e5 HGM.out.1 (by obtain ⟨cu, c1, c2⟩ := hB5.blk; exact .inr ⟨gm, mc, cu, rfl, hgm5, c1, c2, by omega, by omega⟩)
    have HE5 : Hid (Ev (fun j => j ≠ 15) w o w5 o5) := HE4.out.trans (e5.mono (fun j e => by omega))
    have HD5 : Hid (OpIn w5 o5 d) := HD4.out.ev e5 (by omega)
    have HHs5 : Hid (HF w5 (Oth w5 o5 (1 + p)) hb hh) := HH4.out.ev e5 (by omega)
    have HDo5 : Hid (DF w5 (Oth w5 o5 (3 + p)) rb dd) := HDo4.out.ev e5 (by omega)
    have hX5 := (t5.block N (blk_lt HX4.out) (fun e => Hgb.out.2.1 e.symm)).trans HX4.out
    have HX5 : Hid _ := hX5
    have HoN5 : Hid (o5 N = 0 ∧ o5 gm = 11 ∧ o5 mb = 0) := ⟨by rw [ho5]; show ext w4 o4 0 N = 0; unfold ext; rw [if_pos (blk_lt HX4.out)]; exact HoN4.out, hgm5, by rw [ho5]; exact if_neg (by omega)⟩
    have HB5 : Hid (LB w5 gm mc d.t.cols (m + 8)) := hB5
    have HO5 : Hid _ := hb5
    have y2 : w5.cell? ⟨N, 2, none⟩ = some (.int .i64 d.x) := blk_cell hX5 2
    have m0 : w5.cell? ⟨mb, 0, none⟩ = some (.int .i64 d.t.id) := blk_cell hb5 0
    have m1 : w5.cell? ⟨mb, 1, none⟩ = some (.int .i64 d.t.ver) := blk_cell hb5 1
    have m2 : w5.cell? ⟨mb, 2, none⟩ = some (.string d.t.nm) := blk_cell hb5 2
    have m3 : w5.cell? ⟨mb, 3, none⟩ = some (.slice (some ⟨gm, 0, none⟩) m mc) := blk_cell hb5 3
    have m4 : w5.cell? ⟨mb, 4, none⟩ = some (.int .i64 d.t.key) := blk_cell hb5 4
    have qa := put_f HHs5.out d.x d.t (some ⟨gm, 0, none⟩) mc hB5.sl (fun e => by cases e) (by have := Hm.out; omega) (by have := Hm.out; omega) (by have := HLk.out.2; have := HBnd.out; omega) oth_lt
    rw [← Hm.out] at qa
    clear t5 hB5 hb5 hmb ho5 e5 hgm5 hX5
    go_wp2_with fail
    refine qa.mono ?_
    rintro r w6 ⟨rfl, hO6, t6⟩
    obtain ⟨h6, hH6, ha1, ha2⟩ := hO6
    have e6 := Ev.call t6
    obtain ⟨o6, ho6⟩ : ∃ o6, o6 = ext w5 o5 (1 + p) := ⟨_, rfl⟩
    have HHs6 : Hid (HF w6 (Oth w6 o6 (1 + p)) hb h6) := by rw [ho6]; exact hH6.call
    rw [← ho6] at e6
    have hX6 := (e6.tch.block N (blk_lt HX5.out) (fun e => by have := HoN5.out; omega)).trans HX5.out
    have HX6 : Hid _ := hX6
    have HO6 : Hid _ := (e6.tch.block mb (blk_lt HO5.out) (fun e => by have := HoN5.out; omega)).trans HO5.out
    have HB6 : Hid (LB w6 gm mc d.t.cols (m + 8)) := HB5.out.tch e6.tch (fun e => by have := HoN5.out; omega)
    have HD6 : Hid (OpIn w6 o6 d) := HD5.out.ev e6 (by omega)
    have HDo6 : Hid (DF w6 (Oth w6 o6 (3 + p)) rb dd) := HDo5.out.ev e6 (by omega)
    have HE56 : Hid (Ev (fun j => j = 1 + p) w5 o5 w6 o6) := e6
    have HA6 : Hid ((putE hh d.x d.t ≠ 0 → h6 = hh) ∧ (putE hh d.x d.t = 0 → ∃ n : Nt, n.l = d.x ∧ n.th = true ∧ n.t = d.t ∧ h6 = hh.add d.t.id n)) := ⟨ha1, ha2⟩
    have HoN6 : Hid (o6 N = 0 ∧ o6 gm = 11 ∧ o6 mb = 0) := by
      have h1 := HoN5.out
      obtain ⟨cu, c1, _⟩ := HB5.out.blk
      exact ⟨by rw [e6.old N (blk_lt HX5.out) (by omega)]; exact h1.1, by rw [e6.old gm (blk_lt c1) (by omega)]; exact h1.2.1, by rw [e6.old mb (blk_lt HO5.out) (by omega)]; exact h1.2.2⟩
    have z2 : w6.cell? ⟨N, 2, none⟩ = some (.int .i64 d.x) := blk_cell hX6 2
    have z4 : w6.cell? ⟨N, 4, none⟩ = some (.int .i64 d.t.id) := blk_cell hX6 4
    have z5 : w6.cell? ⟨N, 5, none⟩ = some (.int .i64 d.t.ver) := blk_cell hX6 5
    have z6 : w6.cell? ⟨N, 6, none⟩ = some (.string d.t.nm) := blk_cell hX6 6
    have z7 : w6.cell? ⟨N, 7, none⟩ = some (.slice d.ao m d.c) := by rw [Hm.out]; exact blk_cell hX6 7
    have z8 : w6.cell? ⟨N, 8, none⟩ = some (.int .i64 d.t.key) := blk_cell hX6 8
    have qb := dput_f HDo6.out d.x d.t d.ao d.c HD6.out.sl HD6.out.no (by have := HLk.out.1.sz; have := HHs5.out.szT; have := HLk.out.2; have := HBnd.out; omega) oth_lt (fun e9 g q eg e8 => by have h1 := HD6.out.ar e9 g q eg; rw [e8, HDo6.out.own] at h1; omega)
    rw [← Hm.out] at qb
    have he : putE hh d.x d.t = dputE dd d.x d.t := HLk.out.1.putE _ _
    rw [he]
    obtain ⟨E, hE⟩ : ∃ E, E = dputE dd d.x d.t := ⟨_, rfl⟩
    rw [← hE] at qb ⊢
    clear qa t6 e6 ho6 hH6 ha1 ha2 hX6 y2 m0 m1 m2 m3 m4 he hE
    go_wp2_with fail
    refine qb.mono ?_
    rintro r w7 ⟨rfl, hO7, t7⟩
    obtain ⟨d7, hD7, hb1, hb2⟩ := hO7
    have e7 := Ev.call t7
    obtain ⟨o7, ho7⟩ : ∃ o7, o7 = ext w6 o6 (3 + p) := ⟨_, rfl⟩
    have HDo7 : Hid (DF w7 (Oth w7 o7 (3 + p)) rb d7) := by rw [ho7]; exact hD7.call
    rw [← ho7] at e7
    have HHs7 : Hid (HF w7 (Oth w7 o7 (1 + p)) hb h6) := HHs6.out.ev e7 (by omega)
    have hX7 := (e7.tch.block N (blk_lt HX6.out) (fun e => by have := HoN6.out; omega)).trans HX6.out
    have hO7 := (e7.tch.block mb (blk_lt HO6.out) (fun e => by have := HoN6.out; omega)).trans HO6.out
    have hB7 := HB6.out.tch e7.tch (fun e => by have := HoN6.out; omega)
    have hD7o := HD6.out.ev e7 (by omega)
    have hgm7 : o7 gm = 11 := by obtain ⟨cu, c1, _⟩ := HB6.out.blk; rw [e7.old gm (blk_lt c1) (by have := HoN6.out; omega)]; exact HoN6.out.2.1
    have HE57 : Hid (Ev (fun j => j = 1 + p ∨ j = 3 + p) w5 o5 w7 o7) := (HE56.out.mono (fun j e => .inl e)).trans (e7.mono (fun j e => .inr e))
    have HL7 : Hid (Lk h6 d7 ∧ h6.T ≤ hh.T + 1) := HLk.out.1.put HA6.out.1 HA6.out.2 hb1 hb2
    have HP7 : Hid (PQ w7 o7 b cur4 C T cv tv lo n lc L (TB + 1)) := HP5.out.side hp2 HE57.out (fun j _ _ e => e) HC4.out.1 HC4.out.2 (.inr ⟨hb, rb, _, _, rfl, rfl, HHs7.out, HDo7.out, HL7.out.1, by have := HL7.out.2; have := HLk.out.2; omega⟩)
    have HB7 : Hid (LB w7 gm mc d.t.cols (m + 8)) := hB7
    have z4 : w7.cell? ⟨N, 4, none⟩ = some (.int .i64 d.t.id) := blk_cell hX7 4
    have z5 : w7.cell? ⟨N, 5, none⟩ = some (.int .i64 d.t.ver) := blk_cell hX7 5
    have z6 : w7.cell? ⟨N, 6, none⟩ = some (.string d.t.nm) := blk_cell hX7 6
    have z7 : w7.cell? ⟨N, 7, none⟩ = some (.slice d.ao m d.c) := by rw [Hm.out]; exact blk_cell hX7 7
    have z8 : w7.cell? ⟨N, 8, none⟩ = some (.int .i64 d.t.key) := blk_cell hX7 8
    have m0 : w7.cell? ⟨mb, 0, none⟩ = some (.int .i64 d.t.id) := blk_cell hO7 0
    have m1 : w7.cell? ⟨mb, 1, none⟩ = some (.int .i64 d.t.ver) := blk_cell hO7 1
    have m2 : w7.cell? ⟨mb, 2, none⟩ = some (.string d.t.nm) := blk_cell hO7 2
    have m3 : w7.cell? ⟨mb, 3, none⟩ = some (.slice (some ⟨gm, 0, none⟩) m mc) := blk_cell hO7 3
    have m4 : w7.cell? ⟨mb, 4, none⟩ = some (.int .i64 d.t.key) := blk_cell hO7 4
    have Hg7 : Hid (o7 gm = 11) := hgm7
    have qc := back_any gm mc (m + 8) d.t d.ao d.c w7 hB7 (by have := Hm.out; omega) hmc8 (by omega) hD7o.sl (fun e9 g q eg e8 => by have h1 := hD7o.ar e9 g q eg; rw [e8, hgm7] at h1; omega)
    rw [← Hm.out] at qc
    clear qb t7 e7 ho7 hD7 hb1 hb2 hX7 hO7 hB7 hD7o hgm7 z2
    go_wp2_with fail
    refine qc.mono ?_
    rintro r w8 ⟨rfl, hk8, t8⟩
    obtain ⟨o8, ho8⟩ : ∃ o8, o8 = ext w7 o7 0 := ⟨_, rfl⟩
    have hlt7 : gm < w7.heap.size := by obtain ⟨cu, c1, _⟩ := HB7.out.blk; exact blk_lt c1
    have e8 : Ev (fun j => j = 0 ∨ j = 11) w7 o7 w8 o8 := by
      rw [ho8]
      refine ⟨t8.mono (fun i _ e => by have e' : i = gm := e; rw [e']; exact .inr Hg7.out), fun i hi _ => if_pos hi, fun i hi e => ?_, fun i hi _ => .inl (if_neg (by omega))⟩
      have e9 : ext w7 o7 0 i = o7 i := if_pos hi
      rw [e9]; exact e
    have hg8 : o8 gm = 11 := by rw [ho8]; show ext w7 o7 0 gm = 11; unfold ext; rw [if_pos hlt7]; exact Hg7.out
    have HP8 : Hid (PQ w8 o8 b cur4 C T cv tv lo n lc L (TB + 1)) := by
      obtain ⟨cu, c1, c2⟩ := hk8
      exact HP7.out.memK e8 HGM.out.1 (.inr ⟨gm, mc, cu, rfl, hg8, c1, c2, by omega, by omega⟩)
    have HE8 : Hid (Ev (fun j => j ≠ 15) w o w8 o8) := (HE5.out.trans (HE57.out.mono (fun j e => by omega))).trans (e8.mono (fun j e => by omega))
    clear qc hk8 t8 ho8 hlt7 e8 hg8 z4 z5 z6 z7 z8 m0 m1 m2 m3 m4
    go_wp2_with fail
    go_ret
    exact ⟨by simp, o8, cur4, C, T, cv, tv, lo, n, lc, L, HP8.out, by omega, by omega, HE8.out⟩
  · go_upto_region 7 with (fail)
    go_quiet (fail)
    obtain ⟨w4, hw4⟩ : ∃ w4, w4 = w2.drewN nq := ⟨_, rfl⟩
    have t4 : Tch (fun _ => False) w2 w4 := by rw [hw4]; exact (Tch.refl _ _).drewN nq
    obtain ⟨o4, ho4⟩ : ∃ o4, o4 = ext w2 o2 0 := ⟨_, rfl⟩
    have e4 : Ev (fun j => j = 0) w2 o2 w4 o4 := by rw [ho4]; exact Ev.quiet 0 t4
    obtain ⟨gm, mc, cu, hme, hmg, hmb, hms, hm0, hml⟩ : ∃ g m' cu, (Value.slice mo ml ml) = .slice (some ⟨g, 0, none⟩) m' m' ∧ o2 g = 11 ∧ w2.heap[g]? = some (.cells cu 80 (0, 0)) ∧ cu.size = m' * 3 ∧ 0 < m' ∧ m' ≤ 200000000 := by
      rcases HMO.out with e | e
      · injection e with _ e; omega
      · exact e
    injection hme with hm1 hm2 hm3
    subst hm1
    subst hm2
    obtain ⟨cur4, hcur4⟩ : ∃ cur4, cur4 = cur := ⟨_, rfl⟩
    have HP4 : Hid (PQ w4 o4 b cur4 C T cv tv lo n lc L TB) := by rw [hcur4]; exact H2.out.ev e4 (by omega)
    have HE4 : Hid (Ev (fun j => j ≠ 15) w o w4 o4) := HE2.out.trans (e4.mono (fun j e => by omega))
    have HD4 : Hid (OpIn w4 o4 d) := HD2.out.ev e4 (by omega)
    have HH4 : Hid (HF w4 (Oth w4 o4 (1 + p)) hb hh) := HH2.out.ev e4 (by omega)
    have HDo4 : Hid (DF w4 (Oth w4 o4 (3 + p)) rb dd) := HDo2.out.ev e4 (by omega)
    have HX4 : Hid _ := (t4.block N (blk_lt HX2.out) (fun e => e)).trans HX2.out
    have HoN4 : Hid (o4 N = 0) := by show _ = _; rw [ho4]; show ext w2 o2 0 N = 0; unfold ext; rw [if_pos (blk_lt HX2.out)]; exact HoN2.out
    have HC4 : Hid (cur4[p]? = some (.pointer (some ⟨hb, 0, none⟩)) ∧ cur4[2 + p]? = some (.pointer (some ⟨rb, 0, none⟩))) := by rw [hcur4]; exact HC1.out
    have HGM : Hid (cur4[7]? = some (.slice (some ⟨gm, 0, none⟩) ml ml) ∧ o4 gm = 11 ∧ ∃ cu, w4.heap[gm]? = some (.cells cu 80 (0, 0)) ∧ cu.size = ml * 3) := ⟨by rw [hcur4]; exact HMC.out, by rw [e4.old gm (blk_lt hmb) (by omega)]; exact hmg, cu, (t4.block gm (blk_lt hmb) (fun e => e)).trans hmb, hms⟩
    have hmc8 : m + 8 ≤ ml := by omega
    rw [← hw4]
    clear hw4 t4 ho4 e4 hmg hmb hms hcur4 z7 x7' x0 H2 HD2 HH2 HDo2 HE2 HMO HMC
    have HS4 : Hid (SL w4 d.ao (ccl d.t.cols)) := HD4.out.sl
    have HNo : Hid (d.ao = none → d.t.cols = [] ∧ d.c = 0) := HD4.out.no
    have Hgb : Hid (gm ≠ b ∧ gm ≠ N ∧ gm < w4.heap.size) := ⟨fun e => by have h1 := HGM.out.2.1; rw [e, HP4.out.lw.own] at h1; omega, fun e => by have h1 := HGM.out.2.1; rw [e, HoN4.out] at h1; omega, by obtain ⟨cu, h1, _⟩ := HGM.out.2.2; exact blk_lt h1⟩
    obtain ⟨cu, hcu, hcs⟩ := HGM.out.2.2
    have HCA : Hid (∀ p W, C9 w4 d.t gm m ml [] p W → Calls Try.prog 28 #[.slice (some ⟨gm, 0, none⟩) (m + 8) ml, tA d.t.id d.t.ver d.t.nm (.slice d.ao m d.c) d.t.key] W fun r w' => r = .returned (lnT d.t gm m ml) ∧ C9 w4 d.t gm m ml [lnT d.t gm m ml] p w') := fun p W hW => hW.call hcu hcs Hm.out hmc8 hm9 HS4.out HNo.out
    have hKK : ∀ s p W, C9 w4 d.t gm m ml s p W → W.cell? ⟨b, 7, none⟩ = some (.slice (some ⟨gm, 0, none⟩) ml ml) ∧ W.cell? ⟨N, 4, none⟩ = some (.int .i64 d.t.id) ∧ W.cell? ⟨N, 5, none⟩ = some (.int .i64 d.t.ver) ∧ W.cell? ⟨N, 6, none⟩ = some (.string d.t.nm) ∧ W.cell? ⟨N, 7, none⟩ = some (.slice d.ao m d.c) ∧ W.cell? ⟨N, 8, none⟩ = some (.int .i64 d.t.key) := fun s p W hW => by
      have h1 := (hW.1.block N (blk_lt HX4.out) (fun e => Hgb.out.2.1 e.symm)).trans HX4.out
      have h2 := (hW.1.block b (blk_lt HP4.out.lw.blk) (fun e => Hgb.out.1 e.symm)).trans HP4.out.lw.blk
      exact ⟨by rw [blk_cell h2]; exact HGM.out.1, blk_cell h1 4, blk_cell h1 5, blk_cell h1 6, by rw [Hm.out]; exact blk_cell h1 7, blk_cell h1 8⟩
    obtain ⟨CC, hCC⟩ : ∃ CC : List Value → Option Value → World → Prop, CC = C9 w4 d.t gm m ml := ⟨_, rfl⟩
    have h0' : CC [] none w4.drew := by rw [hCC]; exact C9.zero _ _ _ _ _
    have hFl : ∀ s W, CC s none W → CC s (some (.pointer (some ⟨W.heap.size, 0, none⟩))) (W.alloc (.cells #[.int .i64 0, .int .i64 0, .string ⟨#[]⟩, .slice none 0 0, .int .i64 0] 36)) := fun s W hW => by rw [hCC] at hW ⊢; exact hW.fl
    rw [← hCC] at hKK HCA
    have hsh : Hid (∀ y p W, CC [y] p W → y = .tuple #[tA d.t.id d.t.ver d.t.nm (.slice (some ⟨gm, 0, none⟩) m ml) d.t.key, .slice (some ⟨gm, 0, none⟩) (m + 8) ml]) := fun y p W hW => by rw [hCC] at hW; exact hW.one
    have hptr : ∀ s v W, CC s (some v) W → ∃ mb, v = .pointer (some ⟨mb, 0, none⟩) := fun s v W hW => by rw [hCC] at hW; exact hW.ptr
    have hst : ∀ y z mb (W : World), CC [y] (some (.pointer (some ⟨mb, 0, none⟩))) W → (∃ z0 z1 z2 z3 z4, W.heap[mb]? = some (.cells #[z0, z1, z2, z3, z4] 36 (0, 0))) ∧ CC [y, z] (some (.pointer (some ⟨mb, 0, none⟩))) (((((W.setCell ⟨mb, 0, none⟩ (.int .i64 d.t.id)).setCell ⟨mb, 1, none⟩ (.int .i64 d.t.ver)).setCell ⟨mb, 2, none⟩ (.string d.t.nm)).setCell ⟨mb, 3, none⟩ (.slice (some ⟨gm, 0, none⟩) m ml)).setCell ⟨mb, 4, none⟩ (.int .i64 d.t.key)) := fun y z mb W hW => by rw [hCC] at hW ⊢; exact hW.st Hgb.out.2.2
    have HEND : Hid (∀ y z mb W, CC [y, z] (some (.pointer (some ⟨mb, 0, none⟩))) W → Tch (fun i => i = gm) w4 W ∧ LB W gm ml d.t.cols (m + 8) ∧ W.heap[mb]? = some (.cells #[.int .i64 d.t.id, .int .i64 d.t.ver, .string d.t.nm, .slice (some ⟨gm, 0, none⟩) m ml, .int .i64 d.t.key] 36 (0, 0)) ∧ w4.heap.size ≤ mb) := fun y z mb W hW => by rw [hCC] at hW; exact hW.fin
    clear hCC hcu hcs
    have h08 : 0 ≤ (m : Int) + 8 := by omega
    have h8m : (m : Int) + 8 ≤ (ml : Int) := by omega
    have htn : ((m : Int) + 8).toNat = m + 8 := by omega
    go_upto_region 9 with (fail)
    refine wp_region_floo [12, 17] 16 _ CC [0, 1, 2, 3, 4, 5, 6, 7, 8, 9, 10, 11, 12, 13, 14, 15, 16, 17, 18] (by kernel_rfl) (by kernel_rfl) rfl rfl (by rfl) (by kernel_rfl) (fun s a W hW b K Q hK' => ?_) h0' ?_
    · go_simp
      exact hK' _ _ (hFl s W hW)
    clear h0'
    refine floo_read rfl (by go_simp) (by rfl) (by rfl) ?_
    apply Exists.intro
    refine ⟨fun s' p' W hl hW b K Q hK' => ?_, fun K hK' => ?_⟩
    · obtain ⟨q7, x4, x5, x6, x7, x8⟩ := hKK _ _ W hW
      go_simp
      exact hK' W hW
    go_simp
    refine hK' _ ?_
    clear hK' K
    refine floo_read rfl (by go_simp) (by rfl) (by rfl) ?_
    apply Exists.intro
    refine ⟨fun s' p' W hl hW b K Q hK' => ?_, fun K hK' => ?_⟩
    · obtain ⟨q7, x4, x5, x6, x7, x8⟩ := hKK _ _ W hW
      go_simp
      exact hK' W hW
    go_simp
    refine hK' _ ?_
    clear hK' K
    refine floo_read rfl (by go_simp) (by rfl) (by rfl) ?_
    apply Exists.intro
    refine ⟨fun s' p' W hl hW b K Q hK' => ?_, fun K hK' => ?_⟩
    · obtain ⟨q7, x4, x5, x6, x7, x8⟩ := hKK _ _ W hW
      go_simp
      exact hK' W hW
    go_simp
    refine hK' _ ?_
    clear hK' K
    refine floo_read rfl (by go_simp) (by rfl) (by rfl) ?_
    apply Exists.intro
    refine ⟨fun s' p' W hl hW b K Q hK' => ?_, fun K hK' => ?_⟩
    · obtain ⟨q7, x4, x5, x6, x7, x8⟩ := hKK _ _ W hW
      go_simp
      exact hK' W hW
    go_simp
    refine hK' _ ?_
    clear hK' K
    refine floo_read rfl (by go_simp) (by rfl) (by rfl) ?_
    apply Exists.intro
    refine ⟨fun s' p' W hl hW b K Q hK' => ?_, fun K hK' => ?_⟩
    · obtain ⟨q7, x4, x5, x6, x7, x8⟩ := hKK _ _ W hW
      go_simp
      exact hK' W hW
    go_simp
    refine hK' _ ?_
    clear hK' K
    refine floo_read rfl (by go_simp) (by rfl) (by rfl) ?_
    apply Exists.intro
    refine ⟨fun s' p' W hl hW b K Q hK' => ?_, fun K hK' => ?_⟩
    · obtain ⟨q7, x4, x5, x6, x7, x8⟩ := hKK _ _ W hW
      go_simp
      exact hK' W hW
    go_simp
    refine hK' _ ?_
    clear hK' K
    refine floo_read rfl (by go_simp) (by rfl) (by rfl) ?_
    apply Exists.intro
    refine ⟨fun s' p' W hl hW b K Q hK' => ?_, fun K hK' => ?_⟩
    · obtain ⟨q7, x4, x5, x6, x7, x8⟩ := hKK _ _ W hW
      go_simp
      exact hK' W hW
    go_simp
    refine hK' _ ?_
    clear hK' K
    refine floo_read rfl (by go_simp) (by rfl) (by rfl) ?_
    apply Exists.intro
    refine ⟨fun s' p' W hl hW b K Q hK' => ?_, fun K hK' => ?_⟩
    · obtain ⟨q7, x4, x5, x6, x7, x8⟩ := hKK _ _ W hW
      go_simp
      exact hK' W hW
    go_simp
    refine hK' _ ?_
    clear hK' K
    refine floo_read rfl (by go_simp) (by rfl) (by rfl) ?_
    apply Exists.intro
    refine ⟨fun s' p' W hl hW b K Q hK' => ?_, fun K hK' => ?_⟩
    · obtain ⟨q7, x4, x5, x6, x7, x8⟩ := hKK _ _ W hW
      go_simp
      exact hK' W hW
    go_simp
    refine hK' _ ?_
    clear hK' K
    refine floo_read rfl (by go_simp) (by rfl) (by rfl) ?_
    apply Exists.intro
    refine ⟨fun s' p' W hl hW b K Q hK' => ?_, fun K hK' => ?_⟩
    · obtain ⟨q7, x4, x5, x6, x7, x8⟩ := hKK _ _ W hW
      go_simp
      exact hK' W hW
    go_simp
    refine hK' _ ?_
    clear hK' K
    refine floo_read rfl (by go_simp) (by rfl) (by rfl) ?_
    apply Exists.intro
    refine ⟨fun s' p' W hl hW b K Q hK' => ?_, fun K hK' => ?_⟩
    · obtain ⟨q7, x4, x5, x6, x7, x8⟩ := hKK _ _ W hW
      go_simp
      exact hK' W hW
    go_simp
    refine hK' _ ?_
    clear hK' K
    refine floo_read rfl (by go_simp) (by rfl) (by rfl) ?_
    apply Exists.intro
    refine ⟨fun s' p' W hl hW b K Q hK' => ?_, fun K hK' => ?_⟩
    · obtain ⟨q7, x4, x5, x6, x7, x8⟩ := hKK _ _ W hW
      go_simp
      exact hK' W hW
    go_simp
    refine hK' _ ?_
    clear hK' K
    refine floo_turn rfl (by go_simp) (by rfl) (fun p' hl W hW b K Q hK' => ?_) (fun u hu K hK' => ?_)
    · go_simp
      go_at_call 28
      refine (HCA.out p' W hW).mono ?_
      rintro r w' ⟨rfl, h1⟩
      exact hK' _ w' h1
    obtain rfl : u = .tuple #[tA d.t.id d.t.ver d.t.nm (.slice (some ⟨gm, 0, none⟩) m ml) d.t.key, .slice (some ⟨gm, 0, none⟩) (m + 8) ml] := by
      obtain ⟨p', W', _, hW'⟩ := hu
      exact hsh.out u p' W' hW'
    clear hu hsh
    go_simp
    refine hK' _ ?_
    clear hK' K
    refine floo_read rfl (by go_simp) (by rfl) (by rfl) ?_
    apply Exists.intro
    refine ⟨fun s' p' W hl hW b K Q hK' => ?_, fun K hK' => ?_⟩
    · go_simp
      exact hK' W hW
    go_simp
    refine hK' _ ?_
    clear hK' K
    refine floo_read rfl (by go_simp) (by rfl) (by rfl) ?_
    apply Exists.intro
    refine ⟨fun s' p' W hl hW b K Q hK' => ?_, fun K hK' => ?_⟩
    · go_simp
      exact hK' W hW
    go_simp
    refine hK' _ ?_
    clear hK' K
    refine floo_read rfl (by go_simp) (by rfl) (by rfl) ?_
    apply Exists.intro
    refine ⟨fun s' p' W hl hW b K Q hK' => ?_, fun K hK' => ?_⟩
    · go_simp
      exact hK' W hW
    go_simp
    refine hK' _ ?_
    clear hK' K
    refine floo_float rfl (by go_simp) (by rfl) (by rfl) (fun W hW b K Q hK' => ?_) (fun u hu K hK' => ?_)
    · go_simp
      exact hK' _ _ (hFl _ W hW)
    obtain ⟨mb, rfl⟩ : ∃ mb, u = .pointer (some ⟨mb, 0, none⟩) := by
      obtain ⟨s', W', hW'⟩ := hu
      exact hptr _ u W' hW'
    clear hu
    go_simp
    refine hK' _ ?_
    clear hK' K
    refine floo_turn rfl (by go_simp) (by rfl) (fun p' hl W hW b K Q hK' => ?_) (fun u hu K hK' => ?_)
    · obtain rfl := hl.some
      obtain ⟨⟨z0, z1, z2, z3, z4, hz⟩, qC⟩ := hst _ undef mb W hW
      have q0 : W.cell? ⟨mb, 0, none⟩ = some z0 := blk_cell hz 0
      have q1 : W.cell? ⟨mb, 1, none⟩ = some z1 := blk_cell hz 1
      have q2 : W.cell? ⟨mb, 2, none⟩ = some z2 := blk_cell hz 2
      have q3 : W.cell? ⟨mb, 3, none⟩ = some z3 := blk_cell hz 3
      have q4 : W.cell? ⟨mb, 4, none⟩ = some z4 := blk_cell hz 4
      have f0 := blk_frozen hz 0
      have f1 := blk_frozen hz 1
      have f2 := blk_frozen hz 2
      have f3 := blk_frozen hz 3
      have f4 := blk_frozen hz 4
      clear hz
      go_simp
      exact hK' _ _ qC
    clear hu
    go_simp
    refine hK' _ ?_
    clear hK' K
    refine floo_read rfl (by go_simp) (by rfl) (by rfl) ?_
    apply Exists.intro
    refine ⟨fun s' p' W hl hW b K Q hK' => ?_, fun K hK' => ?_⟩
    · go_simp
      exact hK' W hW
    go_simp
    refine hK' _ ?_
    clear hK' K
    refine floo_nil ?_
    intro w5 hw5
    obtain ⟨t5, hB5, hb5, hmb⟩ := HEND.out _ _ mb w5 hw5
    clear hKK hw5 hst hFl HEND hptr HCA
    obtain ⟨o5, ho5⟩ : ∃ o5, o5 = ext w4 o4 0 := ⟨_, rfl⟩
    have e5 : Ev (fun j => j = 0 ∨ j = 11) w4 o4 w5 o5 := by
      rw [ho5]
      refine ⟨t5.mono (fun i _ e => by have e' : i = gm := e; rw [e']; exact .inr HGM.out.2.1), fun i hi _ => if_pos hi, fun i hi e => ?_, fun i hi _ => .inl (if_neg (by omega))⟩
      have e9 : ext w4 o4 0 i = o4 i := if_pos hi
      rw [e9]; exact e
    have hgm5 : o5 gm = 11 := by rw [ho5]; show ext w4 o4 0 gm = 11; unfold ext; rw [if_pos Hgb.out.2.2]; exact HGM.out.2.1
    have HP5 : Hid (PQ w5 o5 b cur4 C T cv tv lo n lc L TB) := HP4.out.memK e5 HGM.out.1 (by obtain ⟨cu, c1, c2⟩ := hB5.blk; exact .inr ⟨gm, ml, cu, rfl, hgm5, c1, c2, by omega, by omega⟩)
    have HE5 : Hid (Ev (fun j => j ≠ 15) w o w5 o5) := HE4.out.trans (e5.mono (fun j e => by omega))
    have HD5 : Hid (OpIn w5 o5 d) := HD4.out.ev e5 (by omega)
    have HHs5 : Hid (HF w5 (Oth w5 o5 (1 + p)) hb hh) := HH4.out.ev e5 (by omega)
    have HDo5 : Hid (DF w5 (Oth w5 o5 (3 + p)) rb dd) := HDo4.out.ev e5 (by omega)
    have hX5 := (t5.block N (blk_lt HX4.out) (fun e => Hgb.out.2.1 e.symm)).trans HX4.out
    have HX5 : Hid _ := hX5
    have HoN5 : Hid (o5 N = 0 ∧ o5 gm = 11 ∧ o5 mb = 0) := ⟨by rw [ho5]; show ext w4 o4 0 N = 0; unfold ext; rw [if_pos (blk_lt HX4.out)]; exact HoN4.out, hgm5, by rw [ho5]; exact if_neg (by omega)⟩
    have HB5 : Hid (LB w5 gm ml d.t.cols (m + 8)) := hB5
    have HO5 : Hid _ := hb5
    have y2 : w5.cell? ⟨N, 2, none⟩ = some (.int .i64 d.x) := blk_cell hX5 2
    have m0 : w5.cell? ⟨mb, 0, none⟩ = some (.int .i64 d.t.id) := blk_cell hb5 0
    have m1 : w5.cell? ⟨mb, 1, none⟩ = some (.int .i64 d.t.ver) := blk_cell hb5 1
    have m2 : w5.cell? ⟨mb, 2, none⟩ = some (.string d.t.nm) := blk_cell hb5 2
    have m3 : w5.cell? ⟨mb, 3, none⟩ = some (.slice (some ⟨gm, 0, none⟩) m ml) := blk_cell hb5 3
    have m4 : w5.cell? ⟨mb, 4, none⟩ = some (.int .i64 d.t.key) := blk_cell hb5 4
    have qa := put_f HHs5.out d.x d.t (some ⟨gm, 0, none⟩) ml hB5.sl (fun e => by cases e) (by have := Hm.out; omega) (by have := Hm.out; omega) (by have := HLk.out.2; have := HBnd.out; omega) oth_lt
    rw [← Hm.out] at qa
    clear t5 hB5 hb5 hmb ho5 e5 hgm5 hX5
    go_wp2_with fail
    refine qa.mono ?_
    rintro r w6 ⟨rfl, hO6, t6⟩
    obtain ⟨h6, hH6, ha1, ha2⟩ := hO6
    have e6 := Ev.call t6
    obtain ⟨o6, ho6⟩ : ∃ o6, o6 = ext w5 o5 (1 + p) := ⟨_, rfl⟩
    have HHs6 : Hid (HF w6 (Oth w6 o6 (1 + p)) hb h6) := by rw [ho6]; exact hH6.call
    rw [← ho6] at e6
    have hX6 := (e6.tch.block N (blk_lt HX5.out) (fun e => by have := HoN5.out; omega)).trans HX5.out
    have HX6 : Hid _ := hX6
    have HO6 : Hid _ := (e6.tch.block mb (blk_lt HO5.out) (fun e => by have := HoN5.out; omega)).trans HO5.out
    have HB6 : Hid (LB w6 gm ml d.t.cols (m + 8)) := HB5.out.tch e6.tch (fun e => by have := HoN5.out; omega)
    have HD6 : Hid (OpIn w6 o6 d) := HD5.out.ev e6 (by omega)
    have HDo6 : Hid (DF w6 (Oth w6 o6 (3 + p)) rb dd) := HDo5.out.ev e6 (by omega)
    have HE56 : Hid (Ev (fun j => j = 1 + p) w5 o5 w6 o6) := e6
    have HA6 : Hid ((putE hh d.x d.t ≠ 0 → h6 = hh) ∧ (putE hh d.x d.t = 0 → ∃ n : Nt, n.l = d.x ∧ n.th = true ∧ n.t = d.t ∧ h6 = hh.add d.t.id n)) := ⟨ha1, ha2⟩
    have HoN6 : Hid (o6 N = 0 ∧ o6 gm = 11 ∧ o6 mb = 0) := by
      have h1 := HoN5.out
      obtain ⟨cu, c1, _⟩ := HB5.out.blk
      exact ⟨by rw [e6.old N (blk_lt HX5.out) (by omega)]; exact h1.1, by rw [e6.old gm (blk_lt c1) (by omega)]; exact h1.2.1, by rw [e6.old mb (blk_lt HO5.out) (by omega)]; exact h1.2.2⟩
    have z2 : w6.cell? ⟨N, 2, none⟩ = some (.int .i64 d.x) := blk_cell hX6 2
    have z4 : w6.cell? ⟨N, 4, none⟩ = some (.int .i64 d.t.id) := blk_cell hX6 4
    have z5 : w6.cell? ⟨N, 5, none⟩ = some (.int .i64 d.t.ver) := blk_cell hX6 5
    have z6 : w6.cell? ⟨N, 6, none⟩ = some (.string d.t.nm) := blk_cell hX6 6
    have z7 : w6.cell? ⟨N, 7, none⟩ = some (.slice d.ao m d.c) := by rw [Hm.out]; exact blk_cell hX6 7
    have z8 : w6.cell? ⟨N, 8, none⟩ = some (.int .i64 d.t.key) := blk_cell hX6 8
    have qb := dput_f HDo6.out d.x d.t d.ao d.c HD6.out.sl HD6.out.no (by have := HLk.out.1.sz; have := HHs5.out.szT; have := HLk.out.2; have := HBnd.out; omega) oth_lt (fun e9 g q eg e8 => by have h1 := HD6.out.ar e9 g q eg; rw [e8, HDo6.out.own] at h1; omega)
    rw [← Hm.out] at qb
    have he : putE hh d.x d.t = dputE dd d.x d.t := HLk.out.1.putE _ _
    rw [he]
    obtain ⟨E, hE⟩ : ∃ E, E = dputE dd d.x d.t := ⟨_, rfl⟩
    rw [← hE] at qb ⊢
    clear qa t6 e6 ho6 hH6 ha1 ha2 hX6 y2 m0 m1 m2 m3 m4 he hE
    go_wp2_with fail
    refine qb.mono ?_
    rintro r w7 ⟨rfl, hO7, t7⟩
    obtain ⟨d7, hD7, hb1, hb2⟩ := hO7
    have e7 := Ev.call t7
    obtain ⟨o7, ho7⟩ : ∃ o7, o7 = ext w6 o6 (3 + p) := ⟨_, rfl⟩
    have HDo7 : Hid (DF w7 (Oth w7 o7 (3 + p)) rb d7) := by rw [ho7]; exact hD7.call
    rw [← ho7] at e7
    have HHs7 : Hid (HF w7 (Oth w7 o7 (1 + p)) hb h6) := HHs6.out.ev e7 (by omega)
    have hX7 := (e7.tch.block N (blk_lt HX6.out) (fun e => by have := HoN6.out; omega)).trans HX6.out
    have hO7 := (e7.tch.block mb (blk_lt HO6.out) (fun e => by have := HoN6.out; omega)).trans HO6.out
    have hB7 := HB6.out.tch e7.tch (fun e => by have := HoN6.out; omega)
    have hD7o := HD6.out.ev e7 (by omega)
    have hgm7 : o7 gm = 11 := by obtain ⟨cu, c1, _⟩ := HB6.out.blk; rw [e7.old gm (blk_lt c1) (by have := HoN6.out; omega)]; exact HoN6.out.2.1
    have HE57 : Hid (Ev (fun j => j = 1 + p ∨ j = 3 + p) w5 o5 w7 o7) := (HE56.out.mono (fun j e => .inl e)).trans (e7.mono (fun j e => .inr e))
    have HL7 : Hid (Lk h6 d7 ∧ h6.T ≤ hh.T + 1) := HLk.out.1.put HA6.out.1 HA6.out.2 hb1 hb2
    have HP7 : Hid (PQ w7 o7 b cur4 C T cv tv lo n lc L (TB + 1)) := HP5.out.side hp2 HE57.out (fun j _ _ e => e) HC4.out.1 HC4.out.2 (.inr ⟨hb, rb, _, _, rfl, rfl, HHs7.out, HDo7.out, HL7.out.1, by have := HL7.out.2; have := HLk.out.2; omega⟩)
    have HB7 : Hid (LB w7 gm ml d.t.cols (m + 8)) := hB7
    have z4 : w7.cell? ⟨N, 4, none⟩ = some (.int .i64 d.t.id) := blk_cell hX7 4
    have z5 : w7.cell? ⟨N, 5, none⟩ = some (.int .i64 d.t.ver) := blk_cell hX7 5
    have z6 : w7.cell? ⟨N, 6, none⟩ = some (.string d.t.nm) := blk_cell hX7 6
    have z7 : w7.cell? ⟨N, 7, none⟩ = some (.slice d.ao m d.c) := by rw [Hm.out]; exact blk_cell hX7 7
    have z8 : w7.cell? ⟨N, 8, none⟩ = some (.int .i64 d.t.key) := blk_cell hX7 8
    have m0 : w7.cell? ⟨mb, 0, none⟩ = some (.int .i64 d.t.id) := blk_cell hO7 0
    have m1 : w7.cell? ⟨mb, 1, none⟩ = some (.int .i64 d.t.ver) := blk_cell hO7 1
    have m2 : w7.cell? ⟨mb, 2, none⟩ = some (.string d.t.nm) := blk_cell hO7 2
    have m3 : w7.cell? ⟨mb, 3, none⟩ = some (.slice (some ⟨gm, 0, none⟩) m ml) := blk_cell hO7 3
    have m4 : w7.cell? ⟨mb, 4, none⟩ = some (.int .i64 d.t.key) := blk_cell hO7 4
    have Hg7 : Hid (o7 gm = 11) := hgm7
    have qc := back_any gm ml (m + 8) d.t d.ao d.c w7 hB7 (by have := Hm.out; omega) hmc8 (by omega) hD7o.sl (fun e9 g q eg e8 => by have h1 := hD7o.ar e9 g q eg; rw [e8, hgm7] at h1; omega)
    rw [← Hm.out] at qc
    clear qb t7 e7 ho7 hD7 hb1 hb2 hX7 hO7 hB7 hD7o hgm7 z2
    go_wp2_with fail
    refine qc.mono ?_
    rintro r w8 ⟨rfl, hk8, t8⟩
    obtain ⟨o8, ho8⟩ : ∃ o8, o8 = ext w7 o7 0 := ⟨_, rfl⟩
    have hlt7 : gm < w7.heap.size := by obtain ⟨cu, c1, _⟩ := HB7.out.blk; exact blk_lt c1
    have e8 : Ev (fun j => j = 0 ∨ j = 11) w7 o7 w8 o8 := by
      rw [ho8]
      refine ⟨t8.mono (fun i _ e => by have e' : i = gm := e; rw [e']; exact .inr Hg7.out), fun i hi _ => if_pos hi, fun i hi e => ?_, fun i hi _ => .inl (if_neg (by omega))⟩
      have e9 : ext w7 o7 0 i = o7 i := if_pos hi
      rw [e9]; exact e
    have hg8 : o8 gm = 11 := by rw [ho8]; show ext w7 o7 0 gm = 11; unfold ext; rw [if_pos hlt7]; exact Hg7.out
    have HP8 : Hid (PQ w8 o8 b cur4 C T cv tv lo n lc L (TB + 1)) := by
      obtain ⟨cu, c1, c2⟩ := hk8
      exact HP7.out.memK e8 HGM.out.1 (.inr ⟨gm, ml, cu, rfl, hg8, c1, c2, by omega, by omega⟩)
    have HE8 : Hid (Ev (fun j => j ≠ 15) w o w8 o8) := (HE5.out.trans (HE57.out.mono (fun j e => by omega))).trans (e8.mono (fun j e => by omega))
    clear qc hk8 t8 ho8 hlt7 e8 hg8 z4 z5 z6 z7 z8 m0 m1 m2 m3 m4
    go_wp2_with fail
    go_ret
    exact ⟨by simp, o8, cur4, C, T, cv, tv, lo, n, lc, L, HP8.out, by omega, by omega, HE8.out⟩

end Go.Proofs.Ytkcmpipipelgoaa
