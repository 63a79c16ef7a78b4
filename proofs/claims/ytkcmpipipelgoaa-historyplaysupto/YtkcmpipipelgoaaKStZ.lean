import Derived.Test.YtkcmpipipelgoaaKSt0
import Derived.BigQuiet
/- A step of the law: no other kind. -/
namespace Go.Proofs.Ytkcmpipipelgoaa
open Go.RowKit Go

set_option maxRecDepth 100000 in
set_option maxHeartbeats 4000000 in
theorem step_noted {w : World} {o : Nat → Nat} {b : Nat} {cur : Array Value} {C T : List Value} {cv tv : Value} {lo : Option Addr} {n lc : Nat} {L : List Fr} {TB : Nat} (h : PQ w o b cur C T cv tv lo n lc L TB) (d : Opd) (hd : OpIn w o d) (hlv : ∀ rv, cur[2 + pkN d.on 2]? = some rv → rv ≠ .pointer none) (hk : d.k ≠ 1 ∧ d.k ≠ 2 ∧ d.k ≠ 3 ∧ d.k ≠ 4 ∧ d.k ≠ 5) (hTB : TB ≤ 10000000) (hB : C.length + 20 * n ≤ 500000000000) (hTl : T.length ≤ 500000000000) :
    Calls Try.prog 19 #[.pointer (some ⟨b, 0, none⟩), opV d] w fun r w' => r = .returned (.bool true) ∧ StOut w o b C T n TB w' := by
  have HBnd : Hid (TB ≤ 10000000 ∧ C.length + 20 * n ≤ 500000000000 ∧ T.length ≤ 500000000000) := ⟨hTB, hB, hTl⟩
  obtain ⟨p, hp⟩ : ∃ p, p = pkN d.on 2 := ⟨_, rfl⟩
  have hp2 : p < 2 := by rw [hp]; exact pkN_lt _ (by omega)
  obtain ⟨N, hN⟩ : ∃ N, N = w.heap.size := ⟨_, rfl⟩
  obtain ⟨m, hm⟩ : ∃ m, m = d.t.cols.length := ⟨_, rfl⟩
  obtain ⟨w0, hw0⟩ : ∃ w0, w0 = w.alloc (.cells #[.int .i64 d.k, .int .i64 d.on, .int .i64 d.x, .int .i64 d.i, .int .i64 d.t.id, .int .i64 d.t.ver, .string d.t.nm, .slice d.ao d.t.cols.length d.c, .int .i64 d.t.key] 67) := ⟨_, rfl⟩
  have t0 : Tch (fun _ => False) w w0 := by rw [hw0]; exact Tch.alloc _ _ _
  have bX : w0.heap[N]? = some (.cells #[.int .i64 d.k, .int .i64 d.on, .int .i64 d.x, .int .i64 d.i, .int .i64 d.t.id, .int .i64 d.t.ver, .string d.t.nm, .slice d.ao d.t.cols.length d.c, .int .i64 d.t.key] 67 (0, 0)) := by rw [hw0, hN]; exact alloc_new _ _
  obtain ⟨o0, ho0⟩ : ∃ o0, o0 = ext w o 0 := ⟨_, rfl⟩
  have e0 : Ev (fun j => j = 0) w o w0 o0 := by rw [ho0]; exact Ev.quiet 0 t0
  have hoN : o0 N = 0 := by rw [ho0, hN]; exact if_neg (by omega)
  have H0 : Hid (PQ w0 o0 b cur C T cv tv lo n lc L TB) := h.ev e0 (by omega)
  have HD0 : Hid (OpIn w0 o0 d) := hd.ev e0 (by omega)
  have HE0 : Hid (Ev (fun j => j ≠ 15) w o w0 o0) := e0.mono (fun j e => by omega)
  have qP : ∀ W, Calls Try.prog 8 #[.int .i64 d.on, .int .i64 2] W fun x w' => x = .returned (.int .i64 p) ∧ w' = W := fun W => by rw [hp]; exact pick_any d.on 2 W hd.on.1 hd.on.2 (by omega) (by omega)
  have HQP : Hid _ := qP
  obtain ⟨hv, rv, c1, c2, hsd⟩ := H0.out.sd p hp2
  obtain ⟨hb, rb, hh, dd, rfl, rfl, hH, hD, hLk, hT⟩ : ∃ hb rb h d, hv = .pointer (some ⟨hb, 0, none⟩) ∧ rv = .pointer (some ⟨rb, 0, none⟩) ∧ HF w0 (Oth w0 o0 (1 + p)) hb h ∧ DF w0 (Oth w0 o0 (3 + p)) rb d ∧ Lk h d ∧ h.T ≤ TB := by
    rcases hsd with ⟨_, e⟩ | hsd
    · exact absurd e (hlv rv (by rw [← hp]; exact c2))
    · exact hsd
  have HC1 : Hid (cur[p]? = some (.pointer (some ⟨hb, 0, none⟩)) ∧ cur[2 + p]? = some (.pointer (some ⟨rb, 0, none⟩))) := ⟨c1, c2⟩
  have z0 : w0.cell? ⟨b, p, none⟩ = some (.pointer (some ⟨hb, 0, none⟩)) := by rw [blk_cell H0.out.lw.blk]; exact c1
  have z2 : w0.cell? ⟨b, 2 + p, none⟩ = some (.pointer (some ⟨rb, 0, none⟩)) := by rw [blk_cell H0.out.lw.blk]; exact c2
  have x1 : w0.cell? ⟨N, 1, none⟩ = some (.int .i64 d.on) := blk_cell bX 1
  have HW0 : Hid (w0 = _) := hw0
  have HN : Hid (N = w.heap.size) := hN
  have HX0 : Hid _ := bX
  have HoN : Hid (o0 N = 0) := hoN
  have Hm : Hid (m = d.t.cols.length) := hm
  have hp2' : (p : Int) < 2 := by omega
  have HH0 : Hid (HF w0 (Oth w0 o0 (1 + p)) hb hh) := hH
  have HDo0 : Hid (DF w0 (Oth w0 o0 (3 + p)) rb dd) := hD
  have HLk : Hid (Lk hh dd ∧ hh.T ≤ TB) := ⟨hLk, hT⟩
  clear hH hD hLk hT hw0 hN t0 bX ho0 e0 hoN h hd qP hp c1 c2 hm hTB hB hTl
  go_enter Try.func19, Try.ntmps19
  go_upto_region 1 with (fail)
  rw [← HW0.out, ← HN.out]
  go_wp2_with fail
  go_quiet ((go_at_call 8; exact Calls.quiet_of_same (HQP.out _)))
  obtain ⟨w1, hw1⟩ : ∃ w1, w1 = w0.drewN nq := ⟨_, rfl⟩
  have t1 : Tch (fun _ => False) w0 w1 := by rw [hw1]; exact (Tch.refl _ _).drewN nq
  have y2 : w1.cell? ⟨b, 2 + p, none⟩ = some (.pointer (some ⟨rb, 0, none⟩)) := (t1.cell (p := ⟨b, 2 + p, none⟩) (cell_lt z2) (fun e => e)).trans z2
  have y1 : w1.cell? ⟨N, 1, none⟩ = some (.int .i64 d.on) := (t1.cell (p := ⟨N, 1, none⟩) (cell_lt x1) (fun e => e)).trans x1
  rw [← hw1]
  have HT1 : Hid (Tch (fun _ => False) w0 w1) := t1
  clear hw1 t1 z0 z2 x1
  go_wp2_with fail
  go_quiet ((go_at_call 8; exact Calls.quiet_of_same (HQP.out _)))
  obtain ⟨w2, hw2⟩ : ∃ w2, w2 = w1.drewN nq := ⟨_, rfl⟩
  have t2 : Tch (fun _ => False) w0 w2 := by rw [hw2]; exact HT1.out.drewN nq
  rw [← hw2]
  obtain ⟨o2, ho2⟩ : ∃ o2, o2 = ext w0 o0 0 := ⟨_, rfl⟩
  have e2 : Ev (fun j => j = 0) w0 o0 w2 o2 := by rw [ho2]; exact Ev.quiet 0 t2
  have H2 : Hid (PQ w2 o2 b cur C T cv tv lo n lc L TB) := H0.out.ev e2 (by omega)
  have HD2 : Hid (OpIn w2 o2 d) := HD0.out.ev e2 (by omega)
  have HE2 : Hid (Ev (fun j => j ≠ 15) w o w2 o2) := HE0.out.trans (e2.mono (fun j e => by omega))
  have hX2 := (t2.block N (blk_lt HX0.out) (fun e => e)).trans HX0.out
  have HX2 : Hid _ := hX2
  have HoN2 : Hid (o2 N = 0) := by show _ = _; rw [ho2]; show ext w0 o0 0 N = 0; unfold ext; rw [if_pos (blk_lt HX0.out)]; exact HoN.out
  have HH2 : Hid (HF w2 (Oth w2 o2 (1 + p)) hb hh) := HH0.out.ev e2 (by omega)
  have HDo2 : Hid (DF w2 (Oth w2 o2 (3 + p)) rb dd) := HDo0.out.ev e2 (by omega)
  have x0 : w2.cell? ⟨N, 0, none⟩ = some (.int .i64 d.k) := blk_cell hX2 0
  have qa := noted_f HH2.out
  have qb := dnoted_f HDo2.out
  have k1 : (d.k == 1) = false := by simp [hk.1]
  have k2 : (d.k == 2) = false := by simp [hk.2.1]
  have k3 : (d.k == 3) = false := by simp [hk.2.2.1]
  have k4 : (d.k == 4) = false := by simp [hk.2.2.2.1]
  have k5 : (d.k == 5) = false := by simp [hk.2.2.2.2]
  have hsz : (hh.sz : Int) = (dd.L.length : Int) := by have := HLk.out.1.sz; omega
  rw [hsz] at qa
  clear hk hsz hlv
  clear hw2 t2 ho2 e2 hX2 y1 y2 HH0 HDo0 H0 HD0 HE0 HX0 HoN HT1
  go_wp2_with fail
  refine qa.mono ?_
  rintro r w3 ⟨rfl, hw3⟩
  subst hw3
  clear qa
  go_wp2_with fail
  refine qb.mono ?_
  rintro r w3 ⟨rfl, hw3⟩
  subst hw3
  clear qb
  go_wp2_with fail
  go_ret
  exact ⟨by simp, o2, cur, C, T, cv, tv, lo, n, lc, L, H2.out.up (by omega), by omega, by omega, HE2.out⟩
end Go.Proofs.Ytkcmpipipelgoaa
/- A step of the law: no history. -/
namespace Go.Proofs.Ytkcmpipipelgoaa
open Go.RowKit Go

set_option maxRecDepth 100000 in
set_option maxHeartbeats 4000000 in
theorem step_none {w : World} {o : Nat → Nat} {b : Nat} {cur : Array Value} {C T : List Value} {cv tv : Value} {lo : Option Addr} {n lc : Nat} {L : List Fr} {TB : Nat} (h : PQ w o b cur C T cv tv lo n lc L TB) (d : Opd) (hd : OpIn w o d) (hlv : cur[2 + pkN d.on 2]? = some (.pointer none)) (hTB : TB ≤ 10000000) (hB : C.length + 20 * n ≤ 500000000000) (hTl : T.length ≤ 500000000000) :
    Calls Try.prog 19 #[.pointer (some ⟨b, 0, none⟩), opV d] w fun r w' => r = .returned (.bool true) ∧ StOut w o b C T n TB w' := by
  have HBnd : Hid (TB ≤ 10000000 ∧ C.length + 20 * n ≤ 500000000000 ∧ T.length ≤ 500000000000) := ⟨hTB, hB, hTl⟩
  obtain ⟨p, hp⟩ : ∃ p, p = pkN d.on 2 := ⟨_, rfl⟩
  have hp2 : p < 2 := by rw [hp]; exact pkN_lt _ (by omega)
  obtain ⟨N, hN⟩ : ∃ N, N = w.heap.size := ⟨_, rfl⟩
  obtain ⟨m, hm⟩ : ∃ m, m = d.t.cols.length := ⟨_, rfl⟩
  obtain ⟨w0, hw0⟩ : ∃ w0, w0 = w.alloc (.cells #[.int .i64 d.k, .int .i64 d.on, .int .i64 d.x, .int .i64 d.i, .int .i64 d.t.id, .int .i64 d.t.ver, .string d.t.nm, .slice d.ao d.t.cols.length d.c, .int .i64 d.t.key] 67) := ⟨_, rfl⟩
  have t0 : Tch (fun _ => False) w w0 := by rw [hw0]; exact Tch.alloc _ _ _
  have bX : w0.heap[N]? = some (.cells #[.int .i64 d.k, .int .i64 d.on, .int .i64 d.x, .int .i64 d.i, .int .i64 d.t.id, .int .i64 d.t.ver, .string d.t.nm, .slice d.ao d.t.cols.length d.c, .int .i64 d.t.key] 67 (0, 0)) := by rw [hw0, hN]; exact alloc_new _ _
  obtain ⟨o0, ho0⟩ : ∃ o0, o0 = ext w o 0 := ⟨_, rfl⟩
  have e0 : Ev (fun j => j = 0) w o w0 o0 := by rw [ho0]; exact Ev.quiet 0 t0
  have hoN : o0 N = 0 := by rw [ho0, hN]; exact if_neg (by omega)
  have H0 : Hid (PQ w0 o0 b cur C T cv tv lo n lc L TB) := h.ev e0 (by omega)
  have HD0 : Hid (OpIn w0 o0 d) := hd.ev e0 (by omega)
  have HE0 : Hid (Ev (fun j => j ≠ 15) w o w0 o0) := e0.mono (fun j e => by omega)
  have qP : ∀ W, Calls Try.prog 8 #[.int .i64 d.on, .int .i64 2] W fun x w' => x = .returned (.int .i64 p) ∧ w' = W := fun W => by rw [hp]; exact pick_any d.on 2 W hd.on.1 hd.on.2 (by omega) (by omega)
  have HQP : Hid _ := qP
  obtain ⟨hv, rv, c1, c2, hsd⟩ := H0.out.sd p hp2
  have erv : rv = .pointer none := by rw [← hp, c2] at hlv; injection hlv
  subst erv
  have HC1 : Hid (cur[p]? = some hv ∧ cur[2 + p]? = some (.pointer none)) := ⟨c1, c2⟩
  have z0 : w0.cell? ⟨b, p, none⟩ = some hv := by rw [blk_cell H0.out.lw.blk]; exact c1
  have z2 : w0.cell? ⟨b, 2 + p, none⟩ = some (.pointer none) := by rw [blk_cell H0.out.lw.blk]; exact c2
  have x1 : w0.cell? ⟨N, 1, none⟩ = some (.int .i64 d.on) := blk_cell bX 1
  have HW0 : Hid (w0 = _) := hw0
  have HN : Hid (N = w.heap.size) := hN
  have HX0 : Hid _ := bX
  have HoN : Hid (o0 N = 0) := hoN
  have Hm : Hid (m = d.t.cols.length) := hm
  have hp2' : (p : Int) < 2 := by omega
  clear hw0 hN t0 bX ho0 e0 hoN h hd qP hp c1 c2 hm hTB hB hTl
  go_enter Try.func19, Try.ntmps19
  go_upto_region 1 with (fail)
  rw [← HW0.out, ← HN.out]
  go_wp2_with fail
  go_quiet ((go_at_call 8; exact Calls.quiet_of_same (HQP.out _)))
  obtain ⟨w1, hw1⟩ : ∃ w1, w1 = w0.drewN nq := ⟨_, rfl⟩
  have t1 : Tch (fun _ => False) w0 w1 := by rw [hw1]; exact (Tch.refl _ _).drewN nq
  have y2 : w1.cell? ⟨b, 2 + p, none⟩ = some (.pointer none) := (t1.cell (p := ⟨b, 2 + p, none⟩) (cell_lt z2) (fun e => e)).trans z2
  have y1 : w1.cell? ⟨N, 1, none⟩ = some (.int .i64 d.on) := (t1.cell (p := ⟨N, 1, none⟩) (cell_lt x1) (fun e => e)).trans x1
  rw [← hw1]
  have HT1 : Hid (Tch (fun _ => False) w0 w1) := t1
  clear hw1 t1 z0 z2 x1
  go_wp2_with fail
  go_quiet ((go_at_call 8; exact Calls.quiet_of_same (HQP.out _)))
  obtain ⟨w2, hw2⟩ : ∃ w2, w2 = w1.drewN nq := ⟨_, rfl⟩
  have t2 : Tch (fun _ => False) w0 w2 := by rw [hw2]; exact HT1.out.drewN nq
  rw [← hw2]
  obtain ⟨o2, ho2⟩ : ∃ o2, o2 = ext w0 o0 0 := ⟨_, rfl⟩
  have e2 : Ev (fun j => j = 0) w0 o0 w2 o2 := by rw [ho2]; exact Ev.quiet 0 t2
  have H2 : Hid (PQ w2 o2 b cur C T cv tv lo n lc L TB) := H0.out.ev e2 (by omega)
  have HD2 : Hid (OpIn w2 o2 d) := HD0.out.ev e2 (by omega)
  have HE2 : Hid (Ev (fun j => j ≠ 15) w o w2 o2) := HE0.out.trans (e2.mono (fun j e => by omega))
  have hX2 := (t2.block N (blk_lt HX0.out) (fun e => e)).trans HX0.out
  have HX2 : Hid _ := hX2
  have HoN2 : Hid (o2 N = 0) := by show _ = _; rw [ho2]; show ext w0 o0 0 N = 0; unfold ext; rw [if_pos (blk_lt HX0.out)]; exact HoN.out
  clear hlv hsd
  clear hw2 t2 ho2 e2 hX2 y1 y2 H0 HD0 HE0 HX0 HoN HT1
  go_wp2_with fail
  go_ret
  exact ⟨rfl, o2, cur, C, T, cv, tv, lo, n, lc, L, H2.out.up (by omega), by omega, by omega, HE2.out⟩
end Go.Proofs.Ytkcmpipipelgoaa
