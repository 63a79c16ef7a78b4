import Derived.Test.YtkcmpipipelgoaaKSt0
import Derived.BigQuiet
/- A step of the law: At. -/
namespace Go.Proofs.Ytkcmpipipelgoaa
open Go.RowKit Go

set_option maxRecDepth 100000 in
set_option maxHeartbeats 4000000 in
theorem step_at {w : World} {o : Nat → Nat} {b : Nat} {cur : Array Value} {C T : List Value} {cv tv : Value} {lo : Option Addr} {n lc : Nat} {L : List Fr} {TB : Nat} (h : PQ w o b cur C T cv tv lo n lc L TB) (d : Opd) (hd : OpIn w o d) (hlv : ∀ rv, cur[2 + pkN d.on 2]? = some rv → rv ≠ .pointer none) (hk : d.k = 3) (hTB : TB ≤ 10000000) (hB : C.length + 20 * n ≤ 500000000000) (hTl : T.length ≤ 500000000000) :
    Calls Try.prog 19 #[.pointer (some ⟨b, 0, none⟩), opV d] w fun r w' => r = .returned (.bool true) ∧ StOut w o b C T n TB w' := by
  have HK : Hid (d.k = 3) := hk
  clear hk
  have HBnd : Hid (TB ≤ 10000000 ∧ C.length + 20 * n ≤ 500000000000 ∧ T.length ≤ 500000000000) := ⟨hTB, hB, hTl⟩
  obtain ⟨p, hp⟩ : ∃ p, p = pkN d.on 2 := ⟨_, rfl⟩
  have hp2 : p < 2 := by rw [hp]; exact pkN_lt _ (by omega)
  obtain ⟨N, hN⟩ : ∃ N, N = w.heap.size := ⟨_, rfl⟩
  obtain ⟨m, hm⟩ : ∃ m, m = d.t.cols.length := ⟨_, rfl⟩
  obtain ⟨w0, hw0⟩ : ∃ w0, w0 = w.alloc (.cells #[.int .i64 d.k, .int .i64 d.on, .int .i64 d.x, .int .i64 d.i, .int .i64 d.t.id, .int .i64 d.t.ver, .string d.t.nm, .slice d.ao d.t.cols.length d.c, .int .i64 d.t.key] 67) := ⟨_, rfl⟩
  have t0 : Tch (fun _ => False) w w0 := by rw [hw0]; exact Tch.alloc _ _ _
  have bX : w0.heap[N]? = some (.cells #[.int .i64 d.k, .int .i64 d.on, .int .i64 d.x, .int .i64 d.i, .int .i64 d.t.id, .int .i64 d.t.ver, .string d.t.nm, .slice d.ao d.t.cols.length d.c, .int .i64 d.t.key] 67 (0, 0)) := by rw [hw0, hN]; exact alloc_new _ _
  obtain ⟨o0, ho0⟩ : ∃ o0, o0 = ext w o 0 := ⟨_, rfl⟩
  have e0 : Ev (fun j => j = 0) w o w0 o0 := by rw [ho0]; exact Ev.quiet 0 t0
  have hoN : o0 N = 0 := by rw [ho0, hN]; exact if_neg (by omega)
  have H0 : Hid (PQ w0 o0 b cur C T cv tv lo n lc L TB) := h.ev e0 (by omega)
  have HD0 : Hid (OpIn w0 o0 d) := hd.ev e0 (by omega)
  have HE0 : Hid (Ev (fun j => j ≠ 15) w o w0 o0) := e0.mono (fun j e => by omega)
  have qP : ∀ W, Calls Try.prog 8 #[.int .i64 d.on, .int .i64 2] W fun x w' => x = .returned (.int .i64 p) ∧ w' = W := fun W => by rw [hp]; exact pick_any d.on 2 W hd.on.1 hd.on.2 (by omega) (by omega)
  have HQP : Hid _ := qP
  obtain ⟨hv, rv, c1, c2, hsd⟩ := H0.out.sd p hp2
  obtain ⟨hb, rb, hh, dd, rfl, rfl, hH, hD, hLk, hT⟩ : ∃ hb rb h d, hv = .pointer (some ⟨hb, 0, none⟩) ∧ rv = .pointer (some ⟨rb, 0, none⟩) ∧ HF w0 (Oth w0 o0 (1 + p)) hb h ∧ DF w0 (Oth w0 o0 (3 + p)) rb d ∧ Lk h d ∧ h.T ≤ TB := by
    rcases hsd with ⟨_, e⟩ | hsd
    · exact absurd e (hlv rv (by rw [← hp]; exact c2))
    · exact hsd
  have HC1 : Hid (cur[p]? = some (.pointer (some ⟨hb, 0, none⟩)) ∧ cur[2 + p]? = some (.pointer (some ⟨rb, 0, none⟩))) := ⟨c1, c2⟩
  have z0 : w0.cell? ⟨b, p, none⟩ = some (.pointer (some ⟨hb, 0, none⟩)) := by rw [blk_cell H0.out.lw.blk]; exact c1
  have z2 : w0.cell? ⟨b, 2 + p, none⟩ = some (.pointer (some ⟨rb, 0, none⟩)) := by rw [blk_cell H0.out.lw.blk]; exact c2
  have x1 : w0.cell? ⟨N, 1, none⟩ = some (.int .i64 d.on) := blk_cell bX 1
  have HW0 : Hid (w0 = _) := hw0
  have HN : Hid (N = w.heap.size) := hN
  have HX0 : Hid _ := bX
  have HoN : Hid (o0 N = 0) := hoN
  have Hm : Hid (m = d.t.cols.length) := hm
  have hp2' : (p : Int) < 2 := by omega
  have HH0 : Hid (HF w0 (Oth w0 o0 (1 + p)) hb hh) := hH
  have HDo0 : Hid (DF w0 (Oth w0 o0 (3 + p)) rb dd) := hD
  have HLk : Hid (Lk hh dd ∧ hh.T ≤ TB) := ⟨hLk, hT⟩
  clear hH hD hLk hT hw0 hN t0 bX ho0 e0 hoN h hd qP hp c1 c2 hm hTB hB hTl
  go_enter Try.func19, Try.ntmps19
  go_upto_region 1 with (fail)
  rw [← HW0.out, ← HN.out]
  go_wp2_with fail
  go_quiet ((go_at_call 8; exact Calls.quiet_of_same (HQP.out _)))
  obtain ⟨w1, hw1⟩ : ∃ w1, w1 = w0.drewN nq := ⟨_, rfl⟩
  have t1 : Tch (fun _ => False) w0 w1 := by rw [hw1]; exact (Tch.refl _ _).drewN nq
  have y2 : w1.cell? ⟨b, 2 + p, none⟩ = some (.pointer (some ⟨rb, 0, none⟩)) := (t1.cell (p := ⟨b, 2 + p, none⟩) (cell_lt z2) (fun e => e)).trans z2
  have y1 : w1.cell? ⟨N, 1, none⟩ = some (.int .i64 d.on) := (t1.cell (p := ⟨N, 1, none⟩) (cell_lt x1) (fun e => e)).trans x1
  rw [← hw1]
  have HT1 : Hid (Tch (fun _ => False) w0 w1) := t1
  clear hw1 t1 z0 z2 x1
  go_wp2_with fail
  go_quiet ((go_at_call 8; exact Calls.quiet_of_same (HQP.out _)))
  obtain ⟨w2, hw2⟩ : ∃ w2, w2 = w1.drewN nq := ⟨_, rfl⟩
  have t2 : Tch (fun _ => False) w0 w2 := by rw [hw2]; exact HT1.out.drewN nq
  rw [← hw2]
  obtain ⟨o2, ho2⟩ : ∃ o2, o2 = ext w0 o0 0 := ⟨_, rfl⟩
  have e2 : Ev (fun j => j = 0) w0 o0 w2 o2 := by rw [ho2]; exact Ev.quiet 0 t2
  have H2 : Hid (PQ w2 o2 b cur C T cv tv lo n lc L TB) := H0.out.ev e2 (by omega)
  have HD2 : Hid (OpIn w2 o2 d) := HD0.out.ev e2 (by omega)
  have HE2 : Hid (Ev (fun j => j ≠ 15) w o w2 o2) := HE0.out.trans (e2.mono (fun j e => by omega))
  have hX2 := (t2.block N (blk_lt HX0.out) (fun e => e)).trans HX0.out
  have HX2 : Hid _ := hX2
  have HoN2 : Hid (o2 N = 0) := by show _ = _; rw [ho2]; show ext w0 o0 0 N = 0; unfold ext; rw [if_pos (blk_lt HX0.out)]; exact HoN.out
  have HH2 : Hid (HF w2 (Oth w2 o2 (1 + p)) hb hh) := HH0.out.ev e2 (by omega)
  have HDo2 : Hid (DF w2 (Oth w2 o2 (3 + p)) rb dd) := HDo0.out.ev e2 (by omega)
  have x0 : w2.cell? ⟨N, 0, none⟩ = some (.int .i64 d.k) := blk_cell hX2 0
  have x2 : w2.cell? ⟨N, 2, none⟩ = some (.int .i64 d.x) := blk_cell hX2 2
  have x3 : w2.cell? ⟨N, 3, none⟩ = some (.int .i64 d.i) := blk_cell hX2 3
  have k1 : (d.k == 1) = false := by simp [HK.out]
  have k2 : (d.k == 2) = false := by simp [HK.out]
  have k3 : (d.k == 3) = true := by simp [HK.out]
  clear hlv
  have qa := at_f HH2.out d.x d.i HD2.out.i (by have := HLk.out.2; have := HBnd.out; omega)
  obtain ⟨TT, hTT⟩ : ∃ TT, TT = atT hh d.x d.i := ⟨_, rfl⟩
  obtain ⟨E, hE⟩ : ∃ E, E = atE hh d.x d.i := ⟨_, rfl⟩
  have HT8 : Hid (TT.cols.length ≤ 8) := by show _ ≤ _; rw [hTT]; exact atT_le HH2.out _ _
  have Hdt : Hid (datT dd d.x d.i = TT ∧ datE dd d.x d.i = E) := ⟨by rw [hTT, HLk.out.1.atT], by rw [hE, HLk.out.1.atE]⟩
  rw [← hTT, ← hE] at qa
  clear hTT hE
  clear hw2 t2 ho2 e2 hX2 y1 y2 HH0 HDo0 H0 HD0 HE0 HX0 HoN HT1
  go_wp2_with fail
  refine qa.mono ?_
  rintro r w3 ⟨⟨v, rfl, hv3⟩, t3⟩
  obtain ⟨vo, vc, rfl⟩ := row_slice hv3
  obtain ⟨o3, ho3⟩ : ∃ o3, o3 = ext w2 o2 12 := ⟨_, rfl⟩
  have e3 : Ev (fun j => j = 12) w2 o2 w3 o3 := by rw [ho3]; exact Ev.quiet 12 t3
  have hR3 : RowC w3 o3 12 (.slice vo TT.cols.length vc) TT.cols := ⟨own_low hv3 (Nat.zero_le _), fun g hg => by rw [ho3]; exact if_neg (by have := (hv3.lt g hg).1; omega)⟩
  obtain ⟨M, hM⟩ : ∃ M, M = w3.heap.size := ⟨_, rfl⟩
  obtain ⟨w4, hw4⟩ : ∃ w4, w4 = w3.alloc (.cells #[.int .i64 TT.id, .int .i64 TT.ver, .string TT.nm, .slice vo TT.cols.length vc, .int .i64 TT.key] 36) := ⟨_, rfl⟩
  have t4 : Tch (fun _ => False) w3 w4 := by rw [hw4]; exact Tch.alloc _ _ _
  have b4 : w4.heap[M]? = some (.cells #[.int .i64 TT.id, .int .i64 TT.ver, .string TT.nm, .slice vo TT.cols.length vc, .int .i64 TT.key] 36 (0, 0)) := by rw [hw4, hM]; exact alloc_new _ _
  obtain ⟨o4, ho4⟩ : ∃ o4, o4 = ext w3 o3 0 := ⟨_, rfl⟩
  have e4 : Ev (fun j => j = 0) w3 o3 w4 o4 := by rw [ho4]; exact Ev.quiet 0 t4
  have hX4 := (t4.block N (Nat.lt_of_lt_of_le (blk_lt HX2.out) t3.size) (fun e => e)).trans ((t3.block N (blk_lt HX2.out) (fun e => e)).trans HX2.out)
  have E24 : Ev (fun j => j = 0 ∨ j = 12) w2 o2 w4 o4 := (e3.mono (fun j e => .inr e)).trans (e4.mono (fun j e => .inl e))
  have HP4 : Hid (PQ w4 o4 b cur C T cv tv lo n lc L TB) := H2.out.ev E24 (by omega)
  have HR4 : Hid (RowC w4 o4 12 (.slice vo TT.cols.length vc) TT.cols) := hR3.ev e4 (by omega)
  have HE4 : Hid (Ev (fun j => j ≠ 15) w o w4 o4) := HE2.out.trans (E24.mono (fun j e => by omega))
  have HB4 : Hid _ := b4
  have HX4 : Hid _ := hX4
  have qb := dat_f (HDo2.out.ev E24 (by omega)) d.x d.i (by have := HLk.out.1.sz; have := HH2.out.szT; have := HLk.out.2; have := HBnd.out; omega)
  rw [Hdt.out.1, Hdt.out.2] at qb
  have HW4 : Hid (w4 = _) := hw4
  have HM : Hid (M = w3.heap.size) := hM
  have y2 : w4.cell? ⟨N, 2, none⟩ = some (.int .i64 d.x) := blk_cell hX4 2
  have y3 : w4.cell? ⟨N, 3, none⟩ = some (.int .i64 d.i) := blk_cell hX4 3
  clear qa hv3 t3 ho3 e3 hR3 hM hw4 t4 b4 ho4 e4 hX4 E24 x0 x2 x3
  go_upto_region 19 with (fail)
  rw [← HW4.out, ← HM.out]
  go_wp2_with fail
  refine qb.mono ?_
  rintro r w5 ⟨⟨u, rfl, hu5⟩, t5⟩
  obtain ⟨uo, uc, rfl⟩ := row_slice hu5
  obtain ⟨M2, hM2⟩ : ∃ M2, M2 = w5.heap.size := ⟨_, rfl⟩
  obtain ⟨w6, hw6⟩ : ∃ w6, w6 = w5.alloc (.cells #[.int .i64 TT.id, .int .i64 TT.ver, .string TT.nm, .slice uo TT.cols.length uc, .int .i64 TT.key] 36) := ⟨_, rfl⟩
  have t6 : Tch (fun _ => False) w5 w6 := by rw [hw6]; exact Tch.alloc _ _ _
  have t46 : Tch (fun _ => False) w4 w6 := t5.trans' t6
  have b6 : w6.heap[M2]? = some (.cells #[.int .i64 TT.id, .int .i64 TT.ver, .string TT.nm, .slice uo TT.cols.length uc, .int .i64 TT.key] 36 (0, 0)) := by rw [hw6, hM2]; exact alloc_new _ _
  have a6 := (t46.block M (blk_lt HB4.out) (fun e => e)).trans HB4.out
  have hu6 := own_tch hu5 t6 (fun _ _ e => e)
  have s1 : SL w6 vo (ccl TT.cols) := (own_sl HR4.out.row).no t46
  have q3 := same_true TT vo uo vc uc w6 s1 (own_sl hu6) (by have := HT8.out; omega)
  have HW6 : Hid (w6 = _) := hw6
  have HM2 : Hid (M2 = w5.heap.size) := hM2
  have HT46 : Hid (Tch (fun _ => False) w4 w6) := t46
  have HA6 : Hid _ := a6
  have v0 : w6.cell? ⟨M, 0, none⟩ = some (.int .i64 TT.id) := blk_cell a6 0
  have v1 : w6.cell? ⟨M, 1, none⟩ = some (.int .i64 TT.ver) := blk_cell a6 1
  have v2 : w6.cell? ⟨M, 2, none⟩ = some (.string TT.nm) := blk_cell a6 2
  have v3 : w6.cell? ⟨M, 3, none⟩ = some (.slice vo TT.cols.length vc) := blk_cell a6 3
  have v4 : w6.cell? ⟨M, 4, none⟩ = some (.int .i64 TT.key) := blk_cell a6 4
  have u0 : w6.cell? ⟨M2, 0, none⟩ = some (.int .i64 TT.id) := blk_cell b6 0
  have u1 : w6.cell? ⟨M2, 1, none⟩ = some (.int .i64 TT.ver) := blk_cell b6 1
  have u2 : w6.cell? ⟨M2, 2, none⟩ = some (.string TT.nm) := blk_cell b6 2
  have u3 : w6.cell? ⟨M2, 3, none⟩ = some (.slice uo TT.cols.length uc) := blk_cell b6 3
  have u4 : w6.cell? ⟨M2, 4, none⟩ = some (.int .i64 TT.key) := blk_cell b6 4
  clear qb hM2 hw6 t5 t6 t46 b6 a6 hu5 hu6 s1 y2 y3
  go_upto_region 20 with (fail)
  rw [← HW6.out, ← HM2.out]
  go_wp2_with fail
  refine q3.mono ?_
  rintro r w7 ⟨rfl, t7⟩
  have t47 := HT46.out.trans' t7
  obtain ⟨o7, ho7⟩ : ∃ o7, o7 = ext w4 o4 0 := ⟨_, rfl⟩
  have e7 : Ev (fun j => j = 0) w4 o4 w7 o7 := by rw [ho7]; exact Ev.quiet 0 t47
  have HP7 : Hid (PQ w7 o7 b cur C T cv tv lo n lc L TB) := HP4.out.ev e7 (by omega)
  have HE7 : Hid (Ev (fun j => j ≠ 15) w o w7 o7) := HE4.out.trans (e7.mono (fun j e => by omega))
  have hR7 := HR4.out.ev e7 (by omega)
  have HR7 : Hid (RowC w7 o7 12 (.slice vo TT.cols.length vc) TT.cols) := hR7
  have a7 := (t7.block M (blk_lt HA6.out) (fun e => e)).trans HA6.out
  have q4 := owned_o HP7.out.lw TT (.slice vo TT.cols.length vc) 12 hR7 (by omega) HT8.out (by have := HBnd.out; omega)
  have w0' : w7.cell? ⟨M, 0, none⟩ = some (.int .i64 TT.id) := blk_cell a7 0
  have w1' : w7.cell? ⟨M, 1, none⟩ = some (.int .i64 TT.ver) := blk_cell a7 1
  have w2' : w7.cell? ⟨M, 2, none⟩ = some (.string TT.nm) := blk_cell a7 2
  have w3' : w7.cell? ⟨M, 3, none⟩ = some (.slice vo TT.cols.length vc) := blk_cell a7 3
  have w4' : w7.cell? ⟨M, 4, none⟩ = some (.int .i64 TT.key) := blk_cell a7 4
  clear q3 t7 t47 ho7 e7 hR7 a7 v0 v1 v2 v3 v4 u0 u1 u2 u3 u4
  go_wp2_with fail
  refine q4.mono ?_
  rintro r w8 ⟨rfl, o8, uu, lo8, lc8, hL8, hw8⟩
  have e8 := hw8.ev (k := 12) HR7.out.lab
  have HP8 : Hid (PQ w8 o8 b (cur.setIfInBounds 6 (.slice lo8 (n + 1) lc8)) C T cv tv lo8 (n + 1) lc8 (L ++ [⟨TT, .slice vo TT.cols.length vc, uu, 0⟩]) TB) := HP7.out.lists hL8 ((Sm3.refl _).set _ (.inr (.inr rfl))) e8 (by omega)
  have HE8 : Hid (Ev (fun j => j ≠ 15) w o w8 o8) := HE7.out.trans (e8.mono (fun j e => by omega))
  clear q4 hL8 hw8 e8 w0' w1' w2' w3' w4'
  go_wp2_with fail
  go_ret
  exact ⟨by simp, o8, _, C, T, cv, tv, lo8, n + 1, lc8, _, HP8.out.up (by omega), by omega, by omega, HE8.out⟩
end Go.Proofs.Ytkcmpipipelgoaa
