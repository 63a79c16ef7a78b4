import Derived.Test.YtolamjipigfocaaCSt0
/- A step of a pair: Drop. -/
namespace Go.Proofs.Ytolamjipigfocaa
open Go.RowKit Go

set_option maxHeartbeats 2000000 in
set_option maxRecDepth 100000 in
theorem chg_2 (w : World) (o : Nat → Nat) (Z : Nat → Prop) (b n k cb rb : Nat) (L : List Tbl) (gv : Int) (p : Opv) (be : BE w o b n) (pr : PR w o k cb rb L gv) (az : AZ Z w o) (ok : p.ok Z w) (hk : 20 ≤ k) (hn : n ≤ 80000000) (hkd : p.kd = 2) :
    Calls Try.prog 7 #[.agg #[.pointer (some ⟨cb, 0, none⟩), .pointer (some ⟨rb, 0, none⟩)], .pointer (some ⟨b, 0, none⟩), .agg #[.int .i64 p.kd, .int .i64 p.on, .int .i64 p.N, .string p.nm, .slice p.ca p.cols.length p.cc, .int .i64 p.T.id, .int .i64 p.T.ver, .string p.T.nm, .slice p.ta p.T.cols.length p.tc, .int .i64 p.T.key, .slice p.lo p.l.length p.lc, .slice p.ro p.vs.length p.rc]] w fun x w' => x = .returned (.bool true) ∧ StOut w o b n k cb rb w' := by
  obtain ⟨N, hN⟩ : ∃ N, N = w.heap.size := ⟨_, rfl⟩
  obtain ⟨w0, hw0⟩ : ∃ w0, w0 = (w.alloc (.cells #[.pointer (some ⟨cb, 0, none⟩), .pointer (some ⟨rb, 0, none⟩)] 28)).alloc (.cells #[.int .i64 p.kd, .int .i64 p.on, .int .i64 p.N, .string p.nm, .slice p.ca p.cols.length p.cc, .int .i64 p.T.id, .int .i64 p.T.ver, .string p.T.nm, .slice p.ta p.T.cols.length p.tc, .int .i64 p.T.key, .slice p.lo p.l.length p.lc, .slice p.ro p.vs.length p.rc] 45) := ⟨_, rfl⟩
  have HP0 : Hid (∃ o', PQ w o Z b n k cb rb N p w0 o' L gv L gv) := ⟨_, by rw [hN]; exact PQ.begin be pr az ok hk w0 hw0⟩
  have Hgi : Hid (GI L gv) := pr.gi
  have _un := hn
  clear _un
  obtain ⟨R, hR⟩ : ∃ R, R = delR L gv p.nm := ⟨_, rfl⟩
  have Hok : Hid R.ok := by rw [hR]; exact delR_ok pr.gi p.nm
  have hR8 := Hok.out.c8
  have Hq0 : Hid (∀ W, (∃ o', PQ w o Z b n k cb rb N p W o' L gv L gv) → Calls Try.prog 21 #[.pointer (some ⟨cb, 0, none⟩), .string p.nm] W fun x W' => ∃ v, x = .returned (.tuple #[tA R.t.id R.t.ver R.t.nm v R.t.key, .int .i64 R.E]) ∧ (∃ ao c, v = .slice ao R.t.cols.length c) ∧ (∃ o', PQ w o Z b n k cb rb N p (W'.alloc (.cells #[.int .i64 R.t.id, .int .i64 R.t.ver, .string R.t.nm, v, .int .i64 R.t.key] 36)) o' R.L R.g L gv ∧ Hd (W'.alloc (.cells #[.int .i64 R.t.id, .int .i64 R.t.ver, .string R.t.nm, v, .int .i64 R.t.key] 36)) o' 15 R.t v W'.heap.size)) := fun W hW => by
    obtain ⟨o', q⟩ := hW
    refine (drop_x (kv := 15) q.cf Hgi.out (by omega) p.nm).mono ?_
    rintro x W' ⟨o2, v, hx, hc, hrow, e⟩
    rw [← hR] at hx hc hrow
    obtain ⟨ao, c, hv⟩ := hrow.slice
    refine ⟨v, hx, ⟨ao, c, hv⟩, _, (q.code hc e hk (by omega)).quiet (Tch.alloc _ _ _) hk 5 (by omega), Hd.new hrow (by omega)⟩
  have Hq1 : Hid (∀ v0 B0 W, (∃ o', PQ w o Z b n k cb rb N p W o' R.L R.g L gv ∧ Hd W o' 15 R.t v0 B0) → Calls Try.prog 22 #[.pointer (some ⟨rb, 0, none⟩), .string p.nm] W fun x W' => ∃ v, x = .returned (.tuple #[tA R.t.id R.t.ver R.t.nm v R.t.key, .int .i64 R.E]) ∧ (∃ ao c, v = .slice ao R.t.cols.length c) ∧ (∃ o', PQ w o Z b n k cb rb N p (W'.alloc (.cells #[.int .i64 R.t.id, .int .i64 R.t.ver, .string R.t.nm, v, .int .i64 R.t.key] 36)) o' R.L R.g R.L R.g ∧ Hd (W'.alloc (.cells #[.int .i64 R.t.id, .int .i64 R.t.ver, .string R.t.nm, v, .int .i64 R.t.key] 36)) o' 15 R.t v0 B0 ∧ Hd (W'.alloc (.cells #[.int .i64 R.t.id, .int .i64 R.t.ver, .string R.t.nm, v, .int .i64 R.t.key] 36)) o' 16 R.t v W'.heap.size)) := fun v0 B0 W hW => by
    obtain ⟨o', q, g0⟩ := hW
    refine (rdrop_x (kv := 16) q.rf Hgi.out (by omega) p.nm).mono ?_
    rintro x W' ⟨o2, v, hx, hc, hrow, e⟩
    rw [← hR] at hx hc hrow
    obtain ⟨ao, c, hv⟩ := hrow.slice
    refine ⟨v, hx, ⟨ao, c, hv⟩, _, (q.doc hc e hk (by omega)).quiet (Tch.alloc _ _ _) hk 5 (by omega), (g0.ev e (by omega) (by omega)).quiet (Tch.alloc _ _ _) 5 (by omega), Hd.new hrow (by omega)⟩
  have Ht0 : Hid (∀ (v0 : Value) (B0 : Nat) (v1 : Value) (B1 : Nat) W, (∃ o', PQ w o Z b (n + 0) k cb rb N p W o' R.L R.g R.L R.g ∧ Hd W o' 15 R.t v0 B0 ∧ Hd W o' 16 R.t v1 B1) → Calls Try.prog 20 #[.pointer (some ⟨b, 0, none⟩), tA R.t.id R.t.ver R.t.nm v0 R.t.key, .int .i64 R.E, tA R.t.id R.t.ver R.t.nm v1 R.t.key, .int .i64 R.E] W fun x W' => x = .returned (.bool true) ∧ (∃ o', PQ w o Z b (n + 14) k cb rb N p W' o' R.L R.g R.L R.g)) := fun v0 _ v1 _ W hW => by
    obtain ⟨o', q, g0, g1⟩ := hW
    refine (told_any W o' b (n + 0) q.be (by omega) R.t v0 v1 R.E 15 16 g0.row g1.row hR8 (by omega)).mono ?_
    rintro x W' ⟨rfl, o2, hb, e⟩
    exact ⟨rfl, o2, q.book hb e (fun j hj => by omega) hk⟩
  have Hx0 : Hid (∀ (v0 : Value) (B0 : Nat) (v1 : Value) (B1 : Nat) W, (∃ o', PQ w o Z b (n + 0) k cb rb N p W o' R.L R.g R.L R.g ∧ Hd W o' 15 R.t v0 B0 ∧ Hd W o' 16 R.t v1 B1) → (W.cell? ⟨B0, 0, none⟩ = some (.int .i64 R.t.id) ∧ W.cell? ⟨B0, 1, none⟩ = some (.int .i64 R.t.ver) ∧ W.cell? ⟨B0, 2, none⟩ = some (.string R.t.nm) ∧ W.cell? ⟨B0, 3, none⟩ = some v0 ∧ W.cell? ⟨B0, 4, none⟩ = some (.int .i64 R.t.key)) ∧ (W.cell? ⟨B1, 0, none⟩ = some (.int .i64 R.t.id) ∧ W.cell? ⟨B1, 1, none⟩ = some (.int .i64 R.t.ver) ∧ W.cell? ⟨B1, 2, none⟩ = some (.string R.t.nm) ∧ W.cell? ⟨B1, 3, none⟩ = some v1 ∧ W.cell? ⟨B1, 4, none⟩ = some (.int .i64 R.t.key))) := fun _ _ _ _ W hW => by
    obtain ⟨o', q, g0, g1⟩ := hW
    exact ⟨g0.cells, g1.cells⟩
  have Hc0 : Hid (∀ W, (∃ o', PQ w o Z b n k cb rb N p W o' L gv L gv) → W.cell? ⟨N, 0, none⟩ = some (.pointer (some ⟨cb, 0, none⟩)) ∧ W.cell? ⟨N, 1, none⟩ = some (.pointer (some ⟨rb, 0, none⟩)) ∧ W.cell? ⟨N + 1, 0, none⟩ = some (.int .i64 p.kd) ∧ W.cell? ⟨N + 1, 3, none⟩ = some (.string p.nm)) := fun W hW => by
    obtain ⟨o', q⟩ := hW
    exact ⟨q.c0, q.c1, q.op 0 _ rfl, q.op 3 _ rfl⟩
  have Hc1 : Hid (∀ v0 B0 W, (∃ o', PQ w o Z b n k cb rb N p W o' R.L R.g L gv ∧ Hd W o' 15 R.t v0 B0) → W.cell? ⟨N, 0, none⟩ = some (.pointer (some ⟨cb, 0, none⟩)) ∧ W.cell? ⟨N, 1, none⟩ = some (.pointer (some ⟨rb, 0, none⟩)) ∧ W.cell? ⟨N + 1, 0, none⟩ = some (.int .i64 p.kd) ∧ W.cell? ⟨N + 1, 3, none⟩ = some (.string p.nm)) := fun v0 B0 W hW => by
    obtain ⟨o', q, g0⟩ := hW
    exact ⟨q.c0, q.c1, q.op 0 _ rfl, q.op 3 _ rfl⟩
  have HFin : Hid (∀ W, (∃ o', PQ w o Z b (n + 14) k cb rb N p W o' R.L R.g R.L R.g) → StOut w o b n k cb rb W) := fun W hW => by
    obtain ⟨o', q⟩ := hW
    exact q.out Hok.out.gi (by omega)
  have Hw0 : Hid _ := hw0
  have HN : Hid (N = w.heap.size) := hN
  obtain ⟨c0, c1, o0, o3⟩ := Hc0.out w0 HP0.out
  have q0 := Hq0.out w0 HP0.out
  have kk1 : (p.kd == 1) = false := by rw [hkd]; decide
  have kk2 : (p.kd == 2) = true := by rw [hkd]; decide
  rw [hw0, hN] at c0 c1 o0 o3
  clear be pr az ok hw0 hN hR hR8 hkd
  go_enter Try.func7, Try.ntmps7
  go_wp2_with fail
  have hw0 := Hw0.out
  rw [← hw0]
  rw [← HN.out]
  clear hw0 c0 c1 o0 o3
  refine q0.mono ?_
  rintro x w1 ⟨v0, rfl, ⟨a0, z0, hv0⟩, hq0⟩
  subst hv0
  obtain ⟨B0, hB0⟩ : ∃ B0, B0 = w1.heap.size := ⟨_, rfl⟩
  obtain ⟨u0, hu0⟩ : ∃ u0, u0 = w1.alloc (.cells #[.int .i64 R.t.id, .int .i64 R.t.ver, .string R.t.nm, .slice a0 R.t.cols.length z0, .int .i64 R.t.key] 36) := ⟨_, rfl⟩
  rw [← hB0, ← hu0] at hq0
  have HQ0 : Hid _ := hq0
  have HB0 : Hid (B0 = w1.heap.size) := hB0
  have Hu0 : Hid _ := hu0
  obtain ⟨c0, c1, o0, o3⟩ := Hc1.out (.slice a0 R.t.cols.length z0) B0 u0 HQ0.out
  have q1 := Hq1.out (.slice a0 R.t.cols.length z0) B0 u0 HQ0.out
  rw [hu0] at c0 c1 o0 o3
  clear q0 hq0 hB0 hu0
  go_wp2_with fail
  have hu0 := Hu0.out
  rw [← hu0]
  rw [← HB0.out]
  clear hu0 c0 c1 o0 o3
  refine q1.mono ?_
  rintro x w2 ⟨v1, rfl, ⟨a1, z1, hv1⟩, hq1⟩
  subst hv1
  obtain ⟨B1, hB1⟩ : ∃ B1, B1 = w2.heap.size := ⟨_, rfl⟩
  obtain ⟨u1, hu1⟩ : ∃ u1, u1 = w2.alloc (.cells #[.int .i64 R.t.id, .int .i64 R.t.ver, .string R.t.nm, .slice a1 R.t.cols.length z1, .int .i64 R.t.key] 36) := ⟨_, rfl⟩
  rw [← hB1, ← hu1] at hq1
  have HQ1 : Hid _ := hq1
  have HB1 : Hid (B1 = w2.heap.size) := hB1
  have Hu1 : Hid _ := hu1
  obtain ⟨⟨s0, s1, s2, s3, s4⟩, y0, y1, y2, y3, y4⟩ := Hx0.out (.slice a0 R.t.cols.length z0) B0 (.slice a1 R.t.cols.length z1) B1 u1 HQ1.out
  have t0 := Ht0.out (.slice a0 R.t.cols.length z0) B0 (.slice a1 R.t.cols.length z1) B1 u1 HQ1.out
  rw [hu1, hB1] at y0 y1 y2 y3 y4
  rw [hu1] at s0 s1 s2 s3 s4
  clear q1 hq1 hB1 hu1
  go_wp2_with fail
  have hu1 := Hu1.out
  rw [← hu1]
  try rw [← HB1.out]
  clear hu1 s0 s1 s2 s3 s4 y0 y1 y2 y3 y4
  refine t0.mono ?_
  rintro x r0 ⟨rfl, hr0⟩
  have HT0 : Hid _ := hr0
  clear t0 hr0
  have HF : Hid _ := HFin.out r0 HT0.out
  go_wp2_with fail
  go_ret
  exact ⟨rfl, HF.out⟩
end Go.Proofs.Ytolamjipigfocaa
