import Derived.Test.YtolamjipigfocaaCPuts
/- A step of a pair: Put. -/
namespace Go.Proofs.Ytolamjipigfocaa
open Go.RowKit Go

set_option maxHeartbeats 2000000 in
set_option maxRecDepth 100000 in
theorem chg_8 (w : World) (o : Nat → Nat) (Z : Nat → Prop) (b n k cb rb : Nat) (L : List Tbl) (gv : Int) (p : Opv) (be : BE w o b n) (pr : PR w o k cb rb L gv) (az : AZ Z w o) (ok : p.ok Z w) (hk : 20 ≤ k) (hn : n ≤ 80000000) (hkd : p.kd = 8) :
    Calls Try.prog 7 #[.agg #[.pointer (some ⟨cb, 0, none⟩), .pointer (some ⟨rb, 0, none⟩)], .pointer (some ⟨b, 0, none⟩), .agg #[.int .i64 p.kd, .int .i64 p.on, .int .i64 p.N, .string p.nm, .slice p.ca p.cols.length p.cc, .int .i64 p.T.id, .int .i64 p.T.ver, .string p.T.nm, .slice p.ta p.T.cols.length p.tc, .int .i64 p.T.key, .slice p.lo p.l.length p.lc, .slice p.ro p.vs.length p.rc]] w fun x w' => x = .returned (.bool true) ∧ StOut w o b n k cb rb w' := by
  obtain ⟨N, hN⟩ : ∃ N, N = w.heap.size := ⟨_, rfl⟩
  obtain ⟨w0, hw0⟩ : ∃ w0, w0 = (w.alloc (.cells #[.pointer (some ⟨cb, 0, none⟩), .pointer (some ⟨rb, 0, none⟩)] 28)).alloc (.cells #[.int .i64 p.kd, .int .i64 p.on, .int .i64 p.N, .string p.nm, .slice p.ca p.cols.length p.cc, .int .i64 p.T.id, .int .i64 p.T.ver, .string p.T.nm, .slice p.ta p.T.cols.length p.tc, .int .i64 p.T.key, .slice p.lo p.l.length p.lc, .slice p.ro p.vs.length p.rc] 45) := ⟨_, rfl⟩
  have HP0 : Hid (∃ o', PQ w o Z b n k cb rb N p w0 o' L gv L gv) := ⟨_, by rw [hN]; exact PQ.begin be pr az ok hk w0 hw0⟩
  have Hgi : Hid (GI L gv) := pr.gi
  have _un := hn
  clear _un
  have Hc : Hid (w0.cell? ⟨N, 0, none⟩ = some (.pointer (some ⟨cb, 0, none⟩)) ∧ w0.cell? ⟨N, 1, none⟩ = some (.pointer (some ⟨rb, 0, none⟩)) ∧ w0.cell? ⟨N + 1, 0, none⟩ = some (.int .i64 p.kd) ∧ w0.cell? ⟨N + 1, 5, none⟩ = some (.int .i64 p.T.id) ∧ w0.cell? ⟨N + 1, 6, none⟩ = some (.int .i64 p.T.ver) ∧ w0.cell? ⟨N + 1, 7, none⟩ = some (.string p.T.nm) ∧ w0.cell? ⟨N + 1, 8, none⟩ = some (.slice p.ta p.T.cols.length p.tc) ∧ w0.cell? ⟨N + 1, 9, none⟩ = some (.int .i64 p.T.key)) := by
    obtain ⟨o', q⟩ := HP0.out
    exact ⟨q.c0, q.c1, q.op 0 _ rfl, q.op 5 _ rfl, q.op 6 _ rfl, q.op 7 _ rfl, q.op 8 _ rfl, q.op 9 _ rfl⟩
  have q1 : Calls Try.prog 26 #[.agg #[.pointer (some ⟨cb, 0, none⟩), .pointer (some ⟨rb, 0, none⟩)], tA p.T.id p.T.ver p.T.nm (.slice p.ta p.T.cols.length p.tc) p.T.key] w0 fun x w' => x = .returned (.bool true) ∧ StOut w o b n k cb rb w' := by
    obtain ⟨o', q⟩ := HP0.out
    refine (puts_any w0 o' k cb rb L gv p.T p.ta p.tc q.cf q.rf Hgi.out hk ⟨q.ok.hT.sl, fun hc g o2 e => Or.inl (q.az.o0 g (q.ok.hT.lt hc g o2 e))⟩ q.ok.nT q.ok.lT).mono ?_
    rintro x w' ⟨rfl, o2, hc, hr, e⟩
    have q2 := q.step e (fun j hj => by unfold KS; omega) (by omega) (by omega) (q.be.ev e (fun j _ _ => by omega)) hc hr
    exact ⟨rfl, q2.out (putR_ok Hgi.out p.T).gi (by omega)⟩
  obtain ⟨c0, c1, o0, o5, o6, o7, o8, o9⟩ := Hc.out
  have Hw0 : Hid _ := hw0
  have HN : Hid (N = w.heap.size) := hN
  have kk1 : (p.kd == 1) = false := by rw [hkd]; decide
  have kk2 : (p.kd == 2) = false := by rw [hkd]; decide
  have kk3 : (p.kd == 3) = false := by rw [hkd]; decide
  have kk9 : (p.kd == 9) = false := by rw [hkd]; decide
  rw [hw0, hN] at c0 c1 o0 o5 o6 o7 o8 o9
  clear be pr az ok hw0 hN hkd
  go_enter Try.func7, Try.ntmps7
  go_wp2_with fail
  have hw0 := Hw0.out
  rw [← hw0]
  rw [← HN.out]
  clear hw0 c0 c1 o0 o5 o6 o7 o8 o9
  refine q1.mono ?_
  rintro x w1 ⟨rfl, hf⟩
  have HF : Hid _ := hf
  clear q1 hf
  go_wp2_with fail
  go_ret
  exact ⟨rfl, HF.out⟩
end Go.Proofs.Ytolamjipigfocaa
