import Derived.Test.YtolamjipigfocaaCPuts
/- A step of a pair: Turn. -/
namespace Go.Proofs.Ytolamjipigfocaa
open Go.RowKit Go

set_option maxHeartbeats 2000000 in
set_option maxRecDepth 100000 in
theorem chg_9 (w : World) (o : Nat → Nat) (Z : Nat → Prop) (b n k cb rb : Nat) (L : List Tbl) (gv : Int) (p : Opv) (be : BE w o b n) (pr : PR w o k cb rb L gv) (az : AZ Z w o) (ok : p.ok Z w) (hk : 20 ≤ k) (hn : n ≤ 80000000) (hkd : p.kd = 9) :
    Calls Try.prog 7 #[.agg #[.pointer (some ⟨cb, 0, none⟩), .pointer (some ⟨rb, 0, none⟩)], .pointer (some ⟨b, 0, none⟩), .agg #[.int .i64 p.kd, .int .i64 p.on, .int .i64 p.N, .string p.nm, .slice p.ca p.cols.length p.cc, .int .i64 p.T.id, .int .i64 p.T.ver, .string p.T.nm, .slice p.ta p.T.cols.length p.tc, .int .i64 p.T.key, .slice p.lo p.l.length p.lc, .slice p.ro p.vs.length p.rc]] w fun x w' => x = .returned (.bool true) ∧ StOut w o b n k cb rb w' := by
  obtain ⟨N, hN⟩ : ∃ N, N = w.heap.size := ⟨_, rfl⟩
  obtain ⟨w0, hw0⟩ : ∃ w0, w0 = (w.alloc (.cells #[.pointer (some ⟨cb, 0, none⟩), .pointer (some ⟨rb, 0, none⟩)] 28)).alloc (.cells #[.int .i64 p.kd, .int .i64 p.on, .int .i64 p.N, .string p.nm, .slice p.ca p.cols.length p.cc, .int .i64 p.T.id, .int .i64 p.T.ver, .string p.T.nm, .slice p.ta p.T.cols.length p.tc, .int .i64 p.T.key, .slice p.lo p.l.length p.lc, .slice p.ro p.vs.length p.rc] 45) := ⟨_, rfl⟩
  have HP0 : Hid (∃ o', PQ w o Z b n k cb rb N p w0 o' L gv L gv) := ⟨_, by rw [hN]; exact PQ.begin be pr az ok hk w0 hw0⟩
  have Hgi : Hid (GI L gv) := pr.gi
  have _un := hn
  clear _un
  obtain ⟨R, hR⟩ : ∃ R, R = getR L gv (byNm p.nm) := ⟨_, rfl⟩
  have HRs : Hid (R.L = L ∧ R.g = gv) := by rw [hR]; exact (getR_ok pr.gi _).2
  have Hok : Hid R.ok := by rw [hR]; exact (getR_ok pr.gi _).1
  have HEs : Hid (R.E = 0 ∨ R.E = 52) := by
    show _ ∨ _
    rw [hR]; unfold getR
    split
    · exact Or.inr rfl
    · exact Or.inl rfl
  have Hq0 : Hid (∀ W, (∃ o', PQ w o Z b n k cb rb N p W o' L gv L gv) → Calls Try.prog 25 #[.pointer (some ⟨rb, 0, none⟩), .string p.nm] W fun x W' => ∃ v, x = .returned (.tuple #[tA R.t.id R.t.ver R.t.nm v R.t.key, .int .i64 R.E]) ∧ (∃ ao c, v = .slice ao R.t.cols.length c) ∧ ∃ o', PQ w o Z b n k cb rb N p W' o' L gv L gv ∧ RowC W' o' 15 v R.t.cols) := fun W hW => by
    obtain ⟨o', q⟩ := hW
    refine (rget_x (kv := 15) q.rf Hgi.out (by omega) p.nm).mono ?_
    rintro x W' ⟨o2, v, hx, hc, hrow, e⟩
    rw [← hR] at hx hc hrow
    obtain ⟨ao, c, hv⟩ := hrow.slice
    have hc' : RF W' o2 (k + 1) rb L gv := by have h1 := hc; rw [HRs.out.1, HRs.out.2] at h1; exact h1
    exact ⟨v, hx, ⟨ao, c, hv⟩, _, q.doc hc' e hk (by omega), hrow⟩
  have HA : Hid (∀ W' v ob, (∃ o', PQ w o Z b n k cb rb N p W' o' L gv L gv ∧ RowC W' o' 15 v R.t.cols) → ∃ o', PQ w o Z b n k cb rb N p (W'.alloc ob) o' L gv L gv ∧ RowC (W'.alloc ob) o' 15 v R.t.cols) := fun W' v ob hW => by
    obtain ⟨o', q, hr⟩ := hW
    exact ⟨_, q.quiet (Tch.alloc _ _ _) hk 5 (by omega), hr.ev (Ev.quiet 5 (Tch.alloc _ _ _)) (by omega)⟩
  -- the table as it is put
  have Hp : Hid (∀ (t : Tbl) (ao : Option Addr) (c : Nat) W, t.cols = R.t.cols → (∃ o', PQ w o Z b n k cb rb N p W o' L gv L gv ∧ RowC W o' 15 (.slice ao R.t.cols.length c) R.t.cols) → Calls Try.prog 26 #[.agg #[.pointer (some ⟨cb, 0, none⟩), .pointer (some ⟨rb, 0, none⟩)], tA t.id t.ver t.nm (.slice ao R.t.cols.length c) t.key] W fun x w' => x = .returned (.bool true) ∧ StOut w o b n k cb rb w') := fun t ao c W ht hW => by
    obtain ⟨o', q, hrow⟩ := hW
    have h8 := Hok.out.c8
    have hq := puts_any W o' k cb rb L gv t ao c q.cf q.rf Hgi.out hk (by rw [ht]; exact ⟨hrow.sl, fun _ g o2 e => Or.inr (hrow.lab g (by rw [e]; rfl))⟩) (fun e => by
      have h1 := hrow.row
      rw [e] at h1
      obtain ⟨h2, h3, _⟩ := own_none h1
      exact ⟨by rw [ht]; exact List.eq_nil_of_length_eq_zero h2, h3⟩) (by rw [ht]; omega)
    rw [ht] at hq
    refine hq.mono ?_
    rintro x w' ⟨rfl, o2, hc, hr, e⟩
    have q2 := q.step e (fun j hj => by unfold KS; omega) (by omega) (by omega) (q.be.ev e (fun j _ _ => by omega)) hc hr
    exact ⟨rfl, q2.out (putR_ok Hgi.out t).gi (by omega)⟩
  have Hc : Hid (∀ W, (∃ o', PQ w o Z b n k cb rb N p W o' L gv L gv) → W.cell? ⟨N, 0, none⟩ = some (.pointer (some ⟨cb, 0, none⟩)) ∧ W.cell? ⟨N, 1, none⟩ = some (.pointer (some ⟨rb, 0, none⟩)) ∧ W.cell? ⟨N + 1, 0, none⟩ = some (.int .i64 p.kd) ∧ W.cell? ⟨N + 1, 2, none⟩ = some (.int .i64 p.N) ∧ W.cell? ⟨N + 1, 3, none⟩ = some (.string p.nm) ∧ W.cell? ⟨N + 1, 7, none⟩ = some (.string p.T.nm)) := fun W hW => by
    obtain ⟨o', q⟩ := hW
    exact ⟨q.c0, q.c1, q.op 0 _ rfl, q.op 2 _ rfl, q.op 3 _ rfl, q.op 7 _ rfl⟩
  have q0 := Hq0.out w0 HP0.out
  obtain ⟨c0, c1, o0, o2, o3, o7⟩ := Hc.out w0 HP0.out
  have Hw0 : Hid _ := hw0
  have HN : Hid (N = w.heap.size) := hN
  have kk1 : (p.kd == 1) = false := by rw [hkd]; decide
  have kk2 : (p.kd == 2) = false := by rw [hkd]; decide
  have kk3 : (p.kd == 3) = false := by rw [hkd]; decide
  have kk9 : (p.kd == 9) = true := by rw [hkd]; decide
  rw [hw0, hN] at c0 c1 o0 o2 o3 o7
  clear be pr az ok hw0 hN hkd hR
  go_enter Try.func7, Try.ntmps7
  go_wp2_with fail
  have hw0 := Hw0.out
  rw [← hw0]
  rw [← HN.out]
  clear hw0 c0 c1 o0 o2 o3 o7
  refine q0.mono ?_
  rintro x w1 ⟨v0, rfl, ⟨a0, z0, hv0⟩, hq0⟩
  subst hv0
  have HQ0 : Hid _ := hq0
  clear q0 hq0
  have HW : Hid (∀ ob, (w1.alloc ob).cell? ⟨N, 0, none⟩ = some (.pointer (some ⟨cb, 0, none⟩)) ∧ (w1.alloc ob).cell? ⟨N, 1, none⟩ = some (.pointer (some ⟨rb, 0, none⟩)) ∧ (w1.alloc ob).cell? ⟨N + 1, 0, none⟩ = some (.int .i64 p.kd) ∧ (w1.alloc ob).cell? ⟨N + 1, 2, none⟩ = some (.int .i64 p.N) ∧ (w1.alloc ob).cell? ⟨N + 1, 3, none⟩ = some (.string p.nm) ∧ (w1.alloc ob).cell? ⟨N + 1, 7, none⟩ = some (.string p.T.nm)) := fun ob => Hc.out _ (by obtain ⟨o', q, _⟩ := HA.out w1 _ ob HQ0.out; exact ⟨o', q⟩)
  rcases HEs.out with hE | hE
  · have hE' : (R.E == 0) = true := by rw [hE]; rfl
    obtain ⟨vv, hvv⟩ : ∃ vv, IntKind.i64.wrap (R.t.ver + p.N) = vv := ⟨_, rfl⟩
    obtain ⟨u1, hu1⟩ : ∃ u1, u1 = (w1.alloc (.cells #[.int .i64 R.t.id, .int .i64 vv, .string p.T.nm, .slice a0 R.t.cols.length z0, .int .i64 R.t.key] 36)) := ⟨_, rfl⟩
    have q1 := Hp.out ⟨R.t.id, vv, p.T.nm, R.t.cols, R.t.key⟩ a0 z0 u1 rfl (by rw [hu1]; exact HA.out w1 _ _ HQ0.out)
    obtain ⟨-, -, -, -, -, r1⟩ := HW.out (.cells #[.int .i64 R.t.id, .int .i64 R.t.ver, .string R.t.nm, .slice a0 R.t.cols.length z0, .int .i64 R.t.key] 36)
    obtain ⟨-, -, -, r2, -⟩ := HW.out (.cells #[.int .i64 R.t.id, .int .i64 R.t.ver, .string p.T.nm, .slice a0 R.t.cols.length z0, .int .i64 R.t.key] 36)
    obtain ⟨r3, r4, -⟩ := HW.out (.cells #[.int .i64 R.t.id, .int .i64 vv, .string p.T.nm, .slice a0 R.t.cols.length z0, .int .i64 R.t.key] 36)
    have Hu1 : Hid _ := hu1
    clear hu1
    go_wp2_with fail
    have hu1 := Hu1.out
    rw [← hu1]
    clear hu1 r1 r2 r3 r4
    refine q1.mono ?_
    rintro x w5 ⟨rfl, hf⟩
    have HF : Hid _ := hf
    clear q1 hf
    go_wp2_with fail
    go_ret
    exact ⟨rfl, HF.out⟩
  · have hE' : (R.E == 0) = false := by rw [hE]; rfl
    obtain ⟨u1, hu1⟩ : ∃ u1, u1 = (w1.alloc (.cells #[.int .i64 R.t.id, .int .i64 R.t.ver, .string R.t.nm, .slice a0 R.t.cols.length z0, .int .i64 R.t.key] 36)) := ⟨_, rfl⟩
    have q1 := Hp.out R.t a0 z0 u1 rfl (by rw [hu1]; exact HA.out w1 _ _ HQ0.out)
    obtain ⟨r3, r4, -⟩ := HW.out (.cells #[.int .i64 R.t.id, .int .i64 R.t.ver, .string R.t.nm, .slice a0 R.t.cols.length z0, .int .i64 R.t.key] 36)
    have Hu1 : Hid _ := hu1
    clear hu1
    go_wp2_with fail
    have hu1 := Hu1.out
    rw [← hu1]
    clear hu1 r3 r4
    refine q1.mono ?_
    rintro x w5 ⟨rfl, hf⟩
    have HF : Hid _ := hf
    clear q1 hf
    go_wp2_with fail
    go_ret
    exact ⟨rfl, HF.out⟩
end Go.Proofs.Ytolamjipigfocaa
