import Derived.Test.YtolamjipigfocaaCSt0
/- A step of a pair: List. -/
namespace Go.Proofs.Ytolamjipigfocaa
open Go.RowKit Go

set_option maxHeartbeats 2000000 in
set_option maxRecDepth 100000 in
theorem ask_6 (w : World) (o : Nat → Nat) (Z : Nat → Prop) (b n k cb rb : Nat) (L : List Tbl) (gv : Int) (p : Opv) (be : BE w o b n) (pr : PR w o k cb rb L gv) (az : AZ Z w o) (ok : p.ok Z w) (hk : 20 ≤ k) (hn : n ≤ 80000000) (hkd : p.kd = 6) :
    Calls Try.prog 13 #[.agg #[.pointer (some ⟨cb, 0, none⟩), .pointer (some ⟨rb, 0, none⟩)], .pointer (some ⟨b, 0, none⟩), .agg #[.int .i64 p.kd, .int .i64 p.on, .int .i64 p.N, .string p.nm, .slice p.ca p.cols.length p.cc, .int .i64 p.T.id, .int .i64 p.T.ver, .string p.T.nm, .slice p.ta p.T.cols.length p.tc, .int .i64 p.T.key, .slice p.lo p.l.length p.lc, .slice p.ro p.vs.length p.rc]] w fun x w' => x = .returned (.bool true) ∧ StOut w o b n k cb rb w' := by
  obtain ⟨N, hN⟩ : ∃ N, N = w.heap.size := ⟨_, rfl⟩
  obtain ⟨w0, hw0⟩ : ∃ w0, w0 = (w.alloc (.cells #[.pointer (some ⟨cb, 0, none⟩), .pointer (some ⟨rb, 0, none⟩)] 28)).alloc (.cells #[.int .i64 p.kd, .int .i64 p.on, .int .i64 p.N, .string p.nm, .slice p.ca p.cols.length p.cc, .int .i64 p.T.id, .int .i64 p.T.ver, .string p.T.nm, .slice p.ta p.T.cols.length p.tc, .int .i64 p.T.key, .slice p.lo p.l.length p.lc, .slice p.ro p.vs.length p.rc] 45) := ⟨_, rfl⟩
  have HP0 : Hid (∃ o', PQ w o Z b n k cb rb N p w0 o' L gv L gv) := ⟨_, by rw [hN]; exact PQ.begin be pr az ok hk w0 hw0⟩
  have Hgi : Hid (GI L gv) := pr.gi
  have _un := hn
  clear _un
  have Hml : Hid (∀ (P : List (Tbl × Value)), P.map Prod.fst = L → P.length ≤ 16 ∧ ∀ i (hi : i < P.length), P[i].1.cols.length ≤ 8) := fun P h => Hgi.out.p8 h
  have Hq0 : Hid (∀ W, (∃ o', PQ w o Z b (n + 0) k cb rb N p W o' L gv L gv) → Calls Try.prog 27 #[.pointer (some ⟨cb, 0, none⟩)] W fun x W' => ∃ v P, x = .returned v ∧ P.map Prod.fst = L ∧ (∃ o', PQ w o Z b (n + 0) k cb rb N p W' o' L gv L gv ∧ TabsO W' o' 15 v P)) := fun W hW => by
    obtain ⟨o', q⟩ := hW
    refine (list_x (kv := 15) q.cf Hgi.out).mono ?_
    rintro x W' ⟨v, P, hx, hP, hT, t⟩
    exact ⟨v, P, hx, hP, _, q.quiet t hk 15 (by omega), hT⟩
  have Hq1 : Hid (∀ v0 P0 W, (∃ o', PQ w o Z b (n + 0) k cb rb N p W o' L gv L gv ∧ TabsO W o' 15 v0 P0) → Calls Try.prog 27 #[.pointer (some ⟨cb, 0, none⟩)] W fun x W' => ∃ v P, x = .returned v ∧ P.map Prod.fst = L ∧ (∃ o', PQ w o Z b (n + 0) k cb rb N p W' o' L gv L gv ∧ TabsO W' o' 15 v0 P0 ∧ TabsO W' o' 17 v P)) := fun v0 P0 W hW => by
    obtain ⟨o', q, g0⟩ := hW
    refine (list_x (kv := 17) q.cf Hgi.out).mono ?_
    rintro x W' ⟨v, P, hx, hP, hT, t⟩
    exact ⟨v, P, hx, hP, _, q.quiet t hk 17 (by omega), g0.ev (Ev.quiet 17 t) (by omega), hT⟩
  have Hq2 : Hid (∀ v0 P0 v1 P1 W, (∃ o', PQ w o Z b (n + 0) k cb rb N p W o' L gv L gv ∧ TabsO W o' 15 v0 P0 ∧ TabsO W o' 17 v1 P1) → Calls Try.prog 10 #[.pointer (some ⟨rb, 0, none⟩)] W fun x W' => ∃ v P, x = .returned v ∧ P.map Prod.fst = L ∧ (∃ o', PQ w o Z b (n + 0) k cb rb N p W' o' L gv L gv ∧ TabsO W' o' 15 v0 P0 ∧ TabsO W' o' 17 v1 P1 ∧ TabsO W' o' 16 v P)) := fun v0 P0 v1 P1 W hW => by
    obtain ⟨o', q, g0, g1⟩ := hW
    refine (rlist_x (kv := 16) q.rf Hgi.out).mono ?_
    rintro x W' ⟨v, P, hx, hP, hT, t⟩
    exact ⟨v, P, hx, hP, _, q.quiet t hk 16 (by omega), g0.ev (Ev.quiet 16 t) (by omega), g1.ev (Ev.quiet 16 t) (by omega), hT⟩
  have Hl0 : Hid (∀ v0 P0 v1 P1 v2 P2 W, P0.map Prod.fst = L → P2.map Prod.fst = L → (∃ o', PQ w o Z b (n + 0) k cb rb N p W o' L gv L gv ∧ TabsO W o' 15 v0 P0 ∧ TabsO W o' 17 v1 P1 ∧ TabsO W o' 16 v2 P2) → Calls Try.prog 34 #[.pointer (some ⟨b, 0, none⟩), v0, v2] W fun x W' => x = .returned (.bool true) ∧ (∃ o', PQ w o Z b (n + 224) k cb rb N p W' o' L gv L gv ∧ TabsO W' o' 17 v1 P1)) := fun v0 P0 v1 P1 v2 P2 W h0 h2 hW => by
    obtain ⟨o', q, g0, g1, g2⟩ := hW
    obtain ⟨p1, p2⟩ := Hml.out P0 h0
    refine (listed_any W o' b n q.be (by omega) v0 v2 P0 P2 15 16 g0 g2 (by rw [h0, h2]) p1 p2 (by omega)).mono ?_
    rintro x W' ⟨rfl, o2, hb, e⟩
    exact ⟨rfl, o2, q.book hb e (fun j hj => by omega) hk, g1.ev e (by omega)⟩
  have Hq3 : Hid (∀ v1 P1 W, (∃ o', PQ w o Z b (n + 224) k cb rb N p W o' L gv L gv ∧ TabsO W o' 17 v1 P1) → Calls Try.prog 10 #[.pointer (some ⟨rb, 0, none⟩)] W fun x W' => ∃ v P, x = .returned v ∧ P.map Prod.fst = L ∧ (∃ o', PQ w o Z b (n + 224) k cb rb N p W' o' L gv L gv ∧ TabsO W' o' 17 v1 P1 ∧ TabsO W' o' 18 v P)) := fun v1 P1 W hW => by
    obtain ⟨o', q, g1⟩ := hW
    refine (rlist_x (kv := 18) q.rf Hgi.out).mono ?_
    rintro x W' ⟨v, P, hx, hP, hT, t⟩
    exact ⟨v, P, hx, hP, _, q.quiet t hk 18 (by omega), g1.ev (Ev.quiet 18 t) (by omega), hT⟩
  have Hl1 : Hid (∀ v1 P1 v3 P3 W, P1.map Prod.fst = L → P3.map Prod.fst = L → (∃ o', PQ w o Z b (n + 224) k cb rb N p W o' L gv L gv ∧ TabsO W o' 17 v1 P1 ∧ TabsO W o' 18 v3 P3) → Calls Try.prog 34 #[.pointer (some ⟨b, 0, none⟩), v1, v3] W fun x W' => x = .returned (.bool true) ∧ StOut w o b n k cb rb W') := fun v1 P1 v3 P3 W h1 h3 hW => by
    obtain ⟨o', q, g1, g3⟩ := hW
    obtain ⟨p1, p2⟩ := Hml.out P1 h1
    refine (listed_any W o' b (n + 224) q.be (by omega) v1 v3 P1 P3 17 18 g1 g3 (by rw [h1, h3]) p1 p2 (by omega)).mono ?_
    rintro x W' ⟨rfl, o2, hb, e⟩
    exact ⟨rfl, (q.book hb e (fun j hj => by omega) hk).out Hgi.out (by omega)⟩
  have HcA : Hid (∀ W m, (∃ o', PQ w o Z b m k cb rb N p W o' L gv L gv) → W.cell? ⟨N, 0, none⟩ = some (.pointer (some ⟨cb, 0, none⟩)) ∧ W.cell? ⟨N, 1, none⟩ = some (.pointer (some ⟨rb, 0, none⟩))) := fun W m hW => by
    obtain ⟨o', q⟩ := hW
    exact ⟨q.c0, q.c1⟩
  have q0 := Hq0.out w0 HP0.out
  have Hc : Hid (∀ W, (∃ o', PQ w o Z b n k cb rb N p W o' L gv L gv) → W.cell? ⟨N, 0, none⟩ = some (.pointer (some ⟨cb, 0, none⟩)) ∧ W.cell? ⟨N, 1, none⟩ = some (.pointer (some ⟨rb, 0, none⟩)) ∧ W.cell? ⟨N + 1, 0, none⟩ = some (.int .i64 p.kd)) := fun W hW => by
    obtain ⟨o', q⟩ := hW
    exact ⟨q.c0, q.c1, q.op 0 _ rfl⟩
  obtain ⟨c0, c1, o0⟩ := Hc.out w0 HP0.out
  have Hw0 : Hid _ := hw0
  have HN : Hid (N = w.heap.size) := hN
  have kk4 : (p.kd == 4) = false := by rw [hkd]; decide
  have kk5 : (p.kd == 5) = false := by rw [hkd]; decide
  have kk6 : (p.kd == 6) = true := by rw [hkd]; decide
  rw [hw0, hN] at c0 c1 o0
  clear be pr az ok hw0 hN hkd
  go_enter Try.func13, Try.ntmps13
  go_wp2_with fail
  have hw0 := Hw0.out
  rw [← hw0]
  rw [← HN.out]
  clear hw0 c0 c1 o0
  refine q0.mono ?_
  rintro x w1 ⟨v0, P0, rfl, hP0, hq0⟩
  have H0 : Hid _ := hq0
  have HP0' : Hid (P0.map Prod.fst = L) := hP0
  clear q0 hq0 hP0
  have q1 := Hq1.out v0 P0 w1 H0.out
  obtain ⟨c0, c1⟩ := HcA.out w1 _ (by obtain ⟨o', q, _⟩ := H0.out; exact ⟨o', q⟩)
  go_wp2_with fail
  refine q1.mono ?_
  rintro x w2 ⟨v1, P1, rfl, hP1, hq1⟩
  have H1 : Hid _ := hq1
  have HP1' : Hid (P1.map Prod.fst = L) := hP1
  clear q1 hq1 hP1 c0 c1
  have q2 := Hq2.out v0 P0 v1 P1 w2 H1.out
  obtain ⟨c0, c1⟩ := HcA.out w2 _ (by obtain ⟨o', q, _⟩ := H1.out; exact ⟨o', q⟩)
  go_wp2_with fail
  refine q2.mono ?_
  rintro x w3 ⟨v2, P2, rfl, hP2, hq2⟩
  have q3 := Hl0.out v0 P0 v1 P1 v2 P2 w3 HP0'.out hP2 hq2
  clear q2 hq2 hP2 c0 c1
  go_wp2_with fail
  refine q3.mono ?_
  rintro x w4 ⟨rfl, hq3⟩
  have H3 : Hid _ := hq3
  clear q3 hq3
  have q4 := Hq3.out v1 P1 w4 H3.out
  obtain ⟨c0, c1⟩ := HcA.out w4 _ (by obtain ⟨o', q, _⟩ := H3.out; exact ⟨o', q⟩)
  go_wp2_with fail
  refine q4.mono ?_
  rintro x w5 ⟨v3, P3, rfl, hP3, hq4⟩
  have q5 := Hl1.out v1 P1 v3 P3 w5 HP1'.out hP3 hq4
  clear q4 hq4 hP3 c0 c1
  go_wp2_with fail
  refine q5.mono ?_
  rintro x w6 ⟨rfl, hf⟩
  clear q5
  have HF : Hid _ := hf
  clear hf
  go_wp2_with fail
  go_ret
  exact ⟨rfl, HF.out⟩
end Go.Proofs.Ytolamjipigfocaa
