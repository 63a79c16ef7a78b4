import Derived.Test.YtolobljlkdacjaaXRe4
/- The document's manager: Part. -/
namespace Go.Proofs.Ytolobljlkdacjaa
open Go.RowKit Go Go.Sort

def cel (a : Nm) : List Value := [.int .i64 a.n, .int .i64 a.par, .int .i64 a.st, .int .i64 a.had, .bool a.rl, .bool a.bk]
theorem ncl_set : ∀ (l : List Nm) (k : Nat) (a a' : Nm) (f : Nat) (u : Value), l[k]? = some a → f < 6 → cel a' = (cel a).set f u → ncl (l.set k a') = (ncl l).set (k * 6 + f) u
  | [], k, a, a', f, u, h, _, _ => by simp at h
  | x :: l, 0, a, a', f, u, h, hf, hc => by
    simp only [List.getElem?_cons_zero, Option.some.injEq] at h
    subst h
    show cel a' ++ ncl l = (cel x ++ ncl l).set (0 * 6 + f) u
    rw [List.set_append_left _ _ (by simp [cel]; omega), hc]
    simp
  | x :: l, k + 1, a, a', f, u, h, hf, hc => by
    have ih := ncl_set l k a a' f u (by simpa using h) hf hc
    show cel x ++ ncl (l.set k a') = (cel x ++ ncl l).set ((k + 1) * 6 + f) u
    rw [ih, List.set_append_right _ _ (by simp [cel]; omega)]
    congr 2
    simp [cel]; omega
/-- A field is written. -/
theorem RO.set {w : World} {b : Nat} {L : List Nm} {nx : Nat} {v : Value} (h : RO w b L nx v) {g k : Nat} {a : Nm} (hg : v.ownBlock = some g) (ha : L[k]? = some a) (a' : Nm) (f : Nat) (u : Value) (hf : f < 6) (hc : cel a' = (cel a).set f u) : RO (w.setCell ⟨g, k * 6 + f, none⟩ u) b (L.set k a') nx v := by
  have hne := h.ne g hg
  refine ⟨?_, ?_, h.ne⟩
  · rw [(Tch.setCell (fun j => j = g) w ⟨g, k * 6 + f, none⟩ u rfl).block b (blk_lt h.blk) (fun e => hne e.symm)]; exact h.blk
  · rw [List.length_set, ncl_set L k a a' f u ha hf hc]
    exact own_set h.row hg u
theorem RO.frz {w : World} {b : Nat} {L : List Nm} {nx : Nat} {v : Value} (h : RO w b L nx v) {g : Nat} (hg : v.ownBlock = some g) (j : Nat) : w.frozen? ⟨g, j, none⟩ = false := by
  obtain ⟨cur, hc⟩ := own_blk h.row hg
  exact blk_frozen hc j
theorem rpn_none (b : Nat) (ao : Option Addr) (c : Nat) (m : Mg) (L : List Nm) (w : World) (h : NR w b ao c L) (hm : Rel m L) (par : Int) (hp : fnd m.tx par = none) :
    Calls Try.prog 17 #[.pointer (some ⟨b, 0, none⟩), .int .i64 par] w fun x w' => x = .returned (.tuple #[.int .i64 0, .int .i64 70]) ∧ w' = w := by
  have q := rat_any b ao c L par w h hm.len
  unfold posZ at q
  rw [hm.no _ hp] at q
  simp only [] at q
  clear h hm hp
  go_enter Try.func17, Try.ntmps17
  go_wp2_with fail
  refine q.mono ?_
  rintro y wy ⟨rfl, hwy⟩
  subst hwy
  clear q
  go_wp2_with fail
  go_ret2
  exact ⟨rfl, rfl⟩
theorem ROut.from {w w1 w' : World} {b : Nat} {v : Value} {xs : List Value} {n nx : Nat} (h : ROut w1 b v xs n nx w') (t : Tch (fun j => v.ownBlock = some j) w w1) (_hne : True) : ROut w b v xs n nx w' := by
  obtain ⟨v', h1, h2, h3, h4⟩ := h
  refine ⟨v', h1, h2, fun g hg => ⟨(h3 g hg).1, (h3 g hg).2.imp id (fun h => Nat.le_trans t.size h)⟩, (t.mono (fun _ _ e => Or.inr e)).trans' h4⟩
set_option maxHeartbeats 2000000 in
set_option maxRecDepth 100000 in
theorem rpn_A (b j jt n : Nat) (L : List Nm) (nx : Nat) (ao : Option Addr) (c : Nat) (par : Int) (a at' : Nm) (lv : Bool) (w : World) (h : RO w b L nx (.slice ao n c)) (hnn : n = L.length) (hL : n ≤ 2147483648) (ha : L[j]? = some a) (hat : L[jt]? = some at') (hnx : nx ≤ 2147483648) (hhad : at'.had ≤ 64)
    (q : Calls Try.prog 33 #[.pointer (some ⟨b, 0, none⟩), .int .i64 par] w fun x w' => x = .returned (.int .i64 j) ∧ w' = w)
    (q2 : Calls Try.prog 35 #[.pointer (some ⟨b, 0, none⟩), .int .i64 j] w fun x w' => x = .returned (.int .i64 jt) ∧ w' = w)
    (q3 : Calls Try.prog 42 #[.pointer (some ⟨b, 0, none⟩), .int .i64 j] w fun x w' => x = .returned (.bool lv) ∧ w' = w)
    (c1 : at'.st ≠ 1) : Calls Try.prog 17 #[.pointer (some ⟨b, 0, none⟩), .int .i64 par] w fun x w' => x = .returned (.tuple #[.int .i64 0, .int .i64 71]) ∧ w' = w := by
  have _u : n ≤ 2147483648 ∧ nx ≤ 2147483648 ∧ at'.had ≤ 64 := ⟨hL, hnx, hhad⟩
  clear _u
  have HRO : Hid _ := h
  have b1 := h.c1
  have HRow : Hid (w.ownsRow 0 67 6 (.slice ao n c) n (ncl L)) := by have := h.row; rw [← hnn] at this; exact this
  obtain ⟨ao', c', e, hNR⟩ := h.nr
  obtain ⟨rfl, rfl⟩ : ao = ao' ∧ c = c' := by injection e with e1 e2 e3; exact ⟨e1, e3⟩
  clear e
  have b0 := hNR.c0
  rw [← hnn] at b0
  obtain ⟨g, rfl, -, cj1, -⟩ := hNR.el j a ha
  obtain ⟨g', e, -, -, ct2, ct3, -⟩ := hNR.el jt at' hat
  obtain rfl : g = g' := by injection e with e; injection e
  clear e
  have hj : (j : Int) < n := by have := (List.getElem?_eq_some_iff.1 ha).1; omega
  have hjt : (jt : Int) < n := by have := (List.getElem?_eq_some_iff.1 hat).1; omega
  have hj' : j < n := by omega
  have hjt' : jt < n := by omega
  have Hat : Hid _ := hat
  obtain ⟨ap, hap⟩ : ∃ ap, ap = a.par := ⟨_, rfl⟩
  obtain ⟨st, hst⟩ : ∃ st, st = at'.st := ⟨_, rfl⟩
  obtain ⟨hd, hhd⟩ : ∃ hd, hd = at'.had := ⟨_, rfl⟩
  rw [← hap] at cj1
  rw [← hst] at ct2
  rw [← hhd] at ct3 hhad
  have Hhd : Hid (hd = at'.had) := hhd
  rw [← hst] at c1
  have k1 : ((st : Int) == 1) = false := beq_eq_false_iff_ne.2 (by omega)
  have k1' : ((st : Int) != 1) = true := by rw [bne, k1]; rfl
  clear c1 hst hap hhd hnn
  clear h hNR ha hat
  go_enter Try.func17, Try.ntmps17
  go_wp2_with fail
  refine q.mono ?_
  rintro y wy ⟨rfl, hwy⟩
  subst hwy
  clear q
  go_wp2_with fail
  refine q2.mono ?_
  rintro y wy ⟨rfl, hwy⟩
  subst hwy
  clear q2
  go_wp2_with fail
  refine q3.mono ?_
  rintro y wy ⟨rfl, hwy⟩
  subst hwy
  clear q3
  go_wp2_with fail
  go_ret2
  exact ⟨rfl, rfl⟩
set_option maxHeartbeats 2000000 in
set_option maxRecDepth 100000 in
theorem rpn_D (b j jt n : Nat) (L : List Nm) (nx : Nat) (ao : Option Addr) (c : Nat) (par : Int) (a at' : Nm) (lv : Bool) (w : World) (h : RO w b L nx (.slice ao n c)) (hnn : n = L.length) (hL : n ≤ 2147483648) (ha : L[j]? = some a) (hat : L[jt]? = some at') (hnx : nx ≤ 2147483648) (hhad : at'.had ≤ 64)
    (q : Calls Try.prog 33 #[.pointer (some ⟨b, 0, none⟩), .int .i64 par] w fun x w' => x = .returned (.int .i64 j) ∧ w' = w)
    (q2 : Calls Try.prog 35 #[.pointer (some ⟨b, 0, none⟩), .int .i64 j] w fun x w' => x = .returned (.int .i64 jt) ∧ w' = w)
    (q3 : Calls Try.prog 42 #[.pointer (some ⟨b, 0, none⟩), .int .i64 j] w fun x w' => x = .returned (.bool lv) ∧ w' = w)
    (c1 : at'.st = 1) (c2 : a.par ≠ 0) (c3 : lv = false) : Calls Try.prog 17 #[.pointer (some ⟨b, 0, none⟩), .int .i64 par] w fun x w' => x = .returned (.tuple #[.int .i64 0, .int .i64 71]) ∧ w' = w := by
  have _u : n ≤ 2147483648 ∧ nx ≤ 2147483648 ∧ at'.had ≤ 64 := ⟨hL, hnx, hhad⟩
  clear _u
  have HRO : Hid _ := h
  have b1 := h.c1
  have HRow : Hid (w.ownsRow 0 67 6 (.slice ao n c) n (ncl L)) := by have := h.row; rw [← hnn] at this; exact this
  obtain ⟨ao', c', e, hNR⟩ := h.nr
  obtain ⟨rfl, rfl⟩ : ao = ao' ∧ c = c' := by injection e with e1 e2 e3; exact ⟨e1, e3⟩
  clear e
  have b0 := hNR.c0
  rw [← hnn] at b0
  obtain ⟨g, rfl, -, cj1, -⟩ := hNR.el j a ha
  obtain ⟨g', e, -, -, ct2, ct3, -⟩ := hNR.el jt at' hat
  obtain rfl : g = g' := by injection e with e; injection e
  clear e
  have hj : (j : Int) < n := by have := (List.getElem?_eq_some_iff.1 ha).1; omega
  have hjt : (jt : Int) < n := by have := (List.getElem?_eq_some_iff.1 hat).1; omega
  have hj' : j < n := by omega
  have hjt' : jt < n := by omega
  have Hat : Hid _ := hat
  obtain ⟨ap, hap⟩ : ∃ ap, ap = a.par := ⟨_, rfl⟩
  obtain ⟨st, hst⟩ : ∃ st, st = at'.st := ⟨_, rfl⟩
  obtain ⟨hd, hhd⟩ : ∃ hd, hd = at'.had := ⟨_, rfl⟩
  rw [← hap] at cj1
  rw [← hst] at ct2
  rw [← hhd] at ct3 hhad
  have Hhd : Hid (hd = at'.had) := hhd
  have k0 : st = 1 := by rw [hst]; exact c1
  rw [← hap] at c2
  have k2 : ((ap : Int) == 0) = false := beq_eq_false_iff_ne.2 (by omega)
  have k2' : ((ap : Int) != 0) = true := by rw [bne, k2]; rfl
  subst c3
  clear c1 hst hap c2 hhd hnn
  subst k0
  clear h hNR ha hat
  go_enter Try.func17, Try.ntmps17
  go_wp2_with fail
  refine q.mono ?_
  rintro y wy ⟨rfl, hwy⟩
  subst hwy
  clear q
  go_wp2_with fail
  refine q2.mono ?_
  rintro y wy ⟨rfl, hwy⟩
  subst hwy
  clear q2
  go_wp2_with fail
  refine q3.mono ?_
  rintro y wy ⟨rfl, hwy⟩
  subst hwy
  clear q3
  go_wp2_with fail
  go_ret2
  exact ⟨rfl, rfl⟩
end Go.Proofs.Ytolobljlkdacjaa
