import Derived.Test.YtolobljlkdacjaaXRe5
/- The document's manager: Part, arm C. -/
namespace Go.Proofs.Ytolobljlkdacjaa
open Go.RowKit Go Go.Sort

set_option maxHeartbeats 1000000 in
set_option maxRecDepth 100000 in
theorem rpn_C72 (b j jt n : Nat) (L : List Nm) (nx : Nat) (ao : Option Addr) (c : Nat) (par : Int) (a at' : Nm) (lv : Bool) (w : World) (h : RO w b L nx (.slice ao n c)) (hnn : n = L.length) (hL : n ≤ 2147483648) (ha : L[j]? = some a) (hat : L[jt]? = some at') (hnx : nx ≤ 2147483648) (hhad : at'.had ≤ 64)
    (q : Calls Try.prog 33 #[.pointer (some ⟨b, 0, none⟩), .int .i64 par] w fun x w' => x = .returned (.int .i64 j) ∧ w' = w)
    (q2 : Calls Try.prog 35 #[.pointer (some ⟨b, 0, none⟩), .int .i64 j] w fun x w' => x = .returned (.int .i64 jt) ∧ w' = w)
    (q3 : Calls Try.prog 42 #[.pointer (some ⟨b, 0, none⟩), .int .i64 j] w fun x w' => x = .returned (.bool lv) ∧ w' = w)
    (c1 : at'.st = 1) (c2 : a.par ≠ 0) (c3 : lv = true) (m1 : 64 ≤ at'.had) : Calls Try.prog 17 #[.pointer (some ⟨b, 0, none⟩), .int .i64 par] w fun x w' => x = .returned (.tuple #[.int .i64 0, .int .i64 72]) ∧ w' = w := by
  have _u : n ≤ 2147483648 ∧ nx ≤ 2147483648 ∧ at'.had ≤ 64 := ⟨hL, hnx, hhad⟩
  clear _u
  have HRO : Hid _ := h
  have b1 := h.c1
  have HRow : Hid (w.ownsRow 0 67 6 (.slice ao n c) n (ncl L)) := by have := h.row; rw [← hnn] at this; exact this
  obtain ⟨ao', c', e, hNR⟩ := h.nr
  obtain ⟨rfl, rfl⟩ : ao = ao' ∧ c = c' := by injection e with e1 e2 e3; exact ⟨e1, e3⟩
  clear e
  have b0 := hNR.c0
  rw [← hnn] at b0
  obtain ⟨g, rfl, -, cj1, -⟩ := hNR.el j a ha
  obtain ⟨g', e, -, -, ct2, ct3, -⟩ := hNR.el jt at' hat
  obtain rfl : g = g' := by injection e with e; injection e
  clear e
  have hj : (j : Int) < n := by have := (List.getElem?_eq_some_iff.1 ha).1; omega
  have hjt : (jt : Int) < n := by have := (List.getElem?_eq_some_iff.1 hat).1; omega
  have hj' : j < n := by omega
  have hjt' : jt < n := by omega
  have Hat : Hid _ := hat
  obtain ⟨ap, hap⟩ : ∃ ap, ap = a.par := ⟨_, rfl⟩
  obtain ⟨st, hst⟩ : ∃ st, st = at'.st := ⟨_, rfl⟩
  obtain ⟨hd, hhd⟩ : ∃ hd, hd = at'.had := ⟨_, rfl⟩
  rw [← hap] at cj1
  rw [← hst] at ct2
  rw [← hhd] at ct3 hhad
  have Hhd : Hid (hd = at'.had) := hhd
  have k0 : st = 1 := by rw [hst]; exact c1
  rw [← hap] at c2
  have k2 : ((ap : Int) == 0) = false := beq_eq_false_iff_ne.2 (by omega)
  have k2' : ((ap : Int) != 0) = true := by rw [bne, k2]; rfl
  subst c3
  rw [← hhd] at m1
  have Hnn : Hid (n = L.length) := hnn
  have HNe : Hid True := trivial
  have m2 : (hd : Int) ≥ 64 := by omega
  clear c1 hst hap c2 hhd hnn m1
  subst k0
  clear h hNR ha hat
  go_enter Try.func17, Try.ntmps17
  go_wp2_with fail
  refine q.mono ?_
  rintro y wy ⟨rfl, hwy⟩
  subst hwy
  clear q
  go_wp2_with fail
  refine q2.mono ?_
  rintro y wy ⟨rfl, hwy⟩
  subst hwy
  clear q2
  go_wp2_with fail
  refine q3.mono ?_
  rintro y wy ⟨rfl, hwy⟩
  subst hwy
  clear q3
  go_wp2_with fail
  go_ret2
  exact ⟨rfl, rfl⟩
set_option maxHeartbeats 1000000 in
set_option maxRecDepth 100000 in
theorem rpn_C73 (b j jt n : Nat) (L : List Nm) (nx : Nat) (ao : Option Addr) (c : Nat) (par : Int) (a at' : Nm) (lv : Bool) (w : World) (h : RO w b L nx (.slice ao n c)) (hnn : n = L.length) (hL : n ≤ 2147483648) (ha : L[j]? = some a) (hat : L[jt]? = some at') (hnx : nx ≤ 2147483648) (hhad : at'.had ≤ 64)
    (q : Calls Try.prog 33 #[.pointer (some ⟨b, 0, none⟩), .int .i64 par] w fun x w' => x = .returned (.int .i64 j) ∧ w' = w)
    (q2 : Calls Try.prog 35 #[.pointer (some ⟨b, 0, none⟩), .int .i64 j] w fun x w' => x = .returned (.int .i64 jt) ∧ w' = w)
    (q3 : Calls Try.prog 42 #[.pointer (some ⟨b, 0, none⟩), .int .i64 j] w fun x w' => x = .returned (.bool lv) ∧ w' = w)
    (c1 : at'.st = 1) (c2 : a.par ≠ 0) (c3 : lv = true) (m1 : at'.had < 64) (m3 : 2147483647 < nx) : Calls Try.prog 17 #[.pointer (some ⟨b, 0, none⟩), .int .i64 par] w fun x w' => x = .returned (.tuple #[.int .i64 0, .int .i64 73]) ∧ w' = w := by
  have _u : n ≤ 2147483648 ∧ nx ≤ 2147483648 ∧ at'.had ≤ 64 := ⟨hL, hnx, hhad⟩
  clear _u
  have HRO : Hid _ := h
  have b1 := h.c1
  have HRow : Hid (w.ownsRow 0 67 6 (.slice ao n c) n (ncl L)) := by have := h.row; rw [← hnn] at this; exact this
  obtain ⟨ao', c', e, hNR⟩ := h.nr
  obtain ⟨rfl, rfl⟩ : ao = ao' ∧ c = c' := by injection e with e1 e2 e3; exact ⟨e1, e3⟩
  clear e
  have b0 := hNR.c0
  rw [← hnn] at b0
  obtain ⟨g, rfl, -, cj1, -⟩ := hNR.el j a ha
  obtain ⟨g', e, -, -, ct2, ct3, -⟩ := hNR.el jt at' hat
  obtain rfl : g = g' := by injection e with e; injection e
  clear e
  have hj : (j : Int) < n := by have := (List.getElem?_eq_some_iff.1 ha).1; omega
  have hjt : (jt : Int) < n := by have := (List.getElem?_eq_some_iff.1 hat).1; omega
  have hj' : j < n := by omega
  have hjt' : jt < n := by omega
  have Hat : Hid _ := hat
  obtain ⟨ap, hap⟩ : ∃ ap, ap = a.par := ⟨_, rfl⟩
  obtain ⟨st, hst⟩ : ∃ st, st = at'.st := ⟨_, rfl⟩
  obtain ⟨hd, hhd⟩ : ∃ hd, hd = at'.had := ⟨_, rfl⟩
  rw [← hap] at cj1
  rw [← hst] at ct2
  rw [← hhd] at ct3 hhad
  have Hhd : Hid (hd = at'.had) := hhd
  have k0 : st = 1 := by rw [hst]; exact c1
  rw [← hap] at c2
  have k2 : ((ap : Int) == 0) = false := beq_eq_false_iff_ne.2 (by omega)
  have k2' : ((ap : Int) != 0) = true := by rw [bne, k2]; rfl
  subst c3
  rw [← hhd] at m1
  have Hnn : Hid (n = L.length) := hnn
  have HNe : Hid True := trivial
  have m2 : ¬ (hd : Int) ≥ 64 := by omega
  have m2' : ¬ 64 ≤ (hd : Int) := by omega
  have m4 : (2147483647 : Int) < nx := by omega
  clear c1 hst hap c2 hhd hnn m1
  subst k0
  clear h hNR ha hat
  go_enter Try.func17, Try.ntmps17
  go_wp2_with fail
  refine q.mono ?_
  rintro y wy ⟨rfl, hwy⟩
  subst hwy
  clear q
  go_wp2_with fail
  refine q2.mono ?_
  rintro y wy ⟨rfl, hwy⟩
  subst hwy
  clear q2
  go_wp2_with fail
  refine q3.mono ?_
  rintro y wy ⟨rfl, hwy⟩
  subst hwy
  clear q3
  go_wp2_with fail
  go_ret2
  exact ⟨rfl, rfl⟩
set_option maxHeartbeats 1000000 in
set_option maxRecDepth 100000 in
theorem rpn_C (b j jt n : Nat) (L : List Nm) (nx : Nat) (ao : Option Addr) (c : Nat) (par : Int) (a at' : Nm) (lv : Bool) (w : World) (h : RO w b L nx (.slice ao n c)) (hnn : n = L.length) (hL : n ≤ 2147483648) (ha : L[j]? = some a) (hat : L[jt]? = some at') (hnx : nx ≤ 2147483648) (hhad : at'.had ≤ 64)
    (q : Calls Try.prog 33 #[.pointer (some ⟨b, 0, none⟩), .int .i64 par] w fun x w' => x = .returned (.int .i64 j) ∧ w' = w)
    (q2 : Calls Try.prog 35 #[.pointer (some ⟨b, 0, none⟩), .int .i64 j] w fun x w' => x = .returned (.int .i64 jt) ∧ w' = w)
    (q3 : Calls Try.prog 42 #[.pointer (some ⟨b, 0, none⟩), .int .i64 j] w fun x w' => x = .returned (.bool lv) ∧ w' = w)
    (c1 : at'.st = 1) (c2 : a.par ≠ 0) (c3 : lv = true) (m1 : at'.had < 64) (m3 : nx ≤ 2147483647) (L1 : List Nm) (hL1 : L1 = L.set jt { at' with had := at'.had + 1 }) : Calls Try.prog 17 #[.pointer (some ⟨b, 0, none⟩), .int .i64 par] w fun x w' => x = .returned (.tuple #[.int .i64 nx, .int .i64 0]) ∧ ROut w b (.slice ao n c) (ncl L1 ++ [.int .i64 nx, .int .i64 par, .int .i64 0, .int .i64 0, .bool false, .bool false]) (n + 1) (nx + 1) w' := by
  have _u : n ≤ 2147483648 ∧ nx ≤ 2147483648 ∧ at'.had ≤ 64 := ⟨hL, hnx, hhad⟩
  clear _u
  have HRO : Hid _ := h
  have b1 := h.c1
  have HRow : Hid (w.ownsRow 0 67 6 (.slice ao n c) n (ncl L)) := by have := h.row; rw [← hnn] at this; exact this
  obtain ⟨ao', c', e, hNR⟩ := h.nr
  obtain ⟨rfl, rfl⟩ : ao = ao' ∧ c = c' := by injection e with e1 e2 e3; exact ⟨e1, e3⟩
  clear e
  have b0 := hNR.c0
  rw [← hnn] at b0
  obtain ⟨g, rfl, -, cj1, -⟩ := hNR.el j a ha
  obtain ⟨g', e, -, -, ct2, ct3, -⟩ := hNR.el jt at' hat
  obtain rfl : g = g' := by injection e with e; injection e
  clear e
  have hj : (j : Int) < n := by have := (List.getElem?_eq_some_iff.1 ha).1; omega
  have hjt : (jt : Int) < n := by have := (List.getElem?_eq_some_iff.1 hat).1; omega
  have hj' : j < n := by omega
  have hjt' : jt < n := by omega
  have Hat : Hid _ := hat
  obtain ⟨ap, hap⟩ : ∃ ap, ap = a.par := ⟨_, rfl⟩
  obtain ⟨st, hst⟩ : ∃ st, st = at'.st := ⟨_, rfl⟩
  obtain ⟨hd, hhd⟩ : ∃ hd, hd = at'.had := ⟨_, rfl⟩
  rw [← hap] at cj1
  rw [← hst] at ct2
  rw [← hhd] at ct3 hhad
  have Hhd : Hid (hd = at'.had) := hhd
  have k0 : st = 1 := by rw [hst]; exact c1
  rw [← hap] at c2
  have k2 : ((ap : Int) == 0) = false := beq_eq_false_iff_ne.2 (by omega)
  have k2' : ((ap : Int) != 0) = true := by rw [bne, k2]; rfl
  subst c3
  rw [← hhd] at m1
  have Hnn : Hid (n = L.length) := hnn
  have HNe : Hid True := trivial
  have m2 : ¬ (hd : Int) ≥ 64 := by omega
  have m2' : ¬ 64 ≤ (hd : Int) := by omega
  have m4 : ¬ (2147483647 : Int) < nx := by omega
  have HL1 : Hid _ := hL1
  clear hL1
  clear c1 hst hap c2 hhd hnn m1
  subst k0
  clear h hNR ha hat
  go_enter Try.func17, Try.ntmps17
  go_wp2_with fail
  refine q.mono ?_
  rintro y wy ⟨rfl, hwy⟩
  subst hwy
  clear q
  go_wp2_with fail
  refine q2.mono ?_
  rintro y wy ⟨rfl, hwy⟩
  subst hwy
  clear q2
  go_wp2_with fail
  refine q3.mono ?_
  rintro y wy ⟨rfl, hwy⟩
  subst hwy
  clear q3
  have HS : Hid (RO (wy.setCell ⟨g, jt * 6 + 3, none⟩ (.int .i64 ((hd : Int) + 1))) b L1 nx (.slice (some ⟨g, 0, none⟩) n c)) := by rw [HL1.out]; exact HRO.out.set rfl Hat.out _ 3 _ (by omega) (by simp [cel, Hhd.out])
  have HS2 : Hid (Tch (fun j => (Value.slice (some ⟨g, 0, none⟩) n c).ownBlock = some j) wy (wy.setCell ⟨g, jt * 6 + 3, none⟩ (.int .i64 ((hd : Int) + 1)))) := Tch.setCell _ _ _ _ rfl
  have ff := HRO.out.frz (g := g) rfl (jt * 6 + 3)
  obtain ⟨w1, hw1⟩ : ∃ w1, w1 = wy.setCell ⟨g, jt * 6 + 3, none⟩ (.int .i64 ((hd : Int) + 1)) := ⟨_, rfl⟩
  rw [← hw1] at HS HS2
  clear HRO
  have HRO : Hid _ := HS.out
  have HRow : Hid (w1.ownsRow 0 67 6 (.slice (some ⟨g, 0, none⟩) n c) n (ncl L1)) := by have := HS.out.row; rw [show L1.length = n by rw [HL1.out, List.length_set, Hnn.out]] at this; exact this
  go_wp2_with fail
  rw [← hw1]
  clear hw1 ff
  obtain ⟨C, hC⟩ : ∃ C : List Value → World → Prop, C = RC w1 (Value.slice (some ⟨g, 0, none⟩) n c) n (ncl L1) [.int .i64 nx, .int .i64 par, .int .i64 0, .int .i64 0, .bool false, .bool false] := ⟨_, rfl⟩
  have hK : ∀ s W, C s W → W.cell? ⟨b, 0, none⟩ = some (Value.slice (some ⟨g, 0, none⟩) n c) ∧ W.cell? ⟨b, 1, none⟩ = some (.int .i64 nx) := fun s W h => by
    rw [hC] at h
    exact HRO.out.keep h.tch
  have h6 : ∀ W, C [] W → C [.slice (some ⟨W.heap.size, 0, none⟩) 1 1] (W.alloc (.cells #[.int .i64 nx, .int .i64 par, .int .i64 0, .int .i64 0, .bool false, .bool false] 67)) := fun W h => by
    rw [hC] at h ⊢
    exact RC.one h
  have h7 : ∀ g9 W, C [.slice (some ⟨g9, 0, none⟩) 1 1] W → ∃ o5 c5 w', (Builtin.append_ #[48, 48] 48 #[Value.slice (some ⟨g, 0, none⟩) n c, .slice (some ⟨g9, 0, none⟩) 1 1]).run Try.prog W = .ok (.slice o5 (n + 1) c5) w' ∧ C [.slice (some ⟨g9, 0, none⟩) 1 1, .slice o5 (n + 1) c5] w' := fun g9 W h => by
    rw [hC] at h ⊢
    exact RC.two HRow.out (by omega) rfl (by simp [Value.oneCell']) h
  have h0' : C [] (w1).drew := by rw [hC]; exact (Tch.refl _ _).drew
  have hsh1 : ∀ y W, C [y] W → ∃ g, y = .slice (some ⟨g, 0, none⟩) 1 1 := fun y W h => by
    rw [hC] at h
    obtain ⟨_, g, e, _⟩ := h
    exact ⟨g, e⟩
  have hsh2 : ∀ y z W, C [y, z] W → ∃ o5 c5, z = .slice o5 (n + 1) c5 := fun y z W h => by
    rw [hC] at h
    obtain ⟨_, o5, c5, e, _⟩ := h
    exact ⟨o5, c5, e⟩
  have Hfin : Hid (∀ y z W, C [y, z] W → Tch (fun j => (Value.slice (some ⟨g, 0, none⟩) n c).ownBlock = some j) w1 W ∧ W.ownsRow 0 67 6 z (n + 1) (ncl L1 ++ [.int .i64 nx, .int .i64 par, .int .i64 0, .int .i64 0, .bool false, .bool false]) ∧ (z.ownBlock = (Value.slice (some ⟨g, 0, none⟩) n c).ownBlock ∨ ∃ g, z.ownBlock = some g ∧ (w1).heap.size ≤ g)) := fun y z W h => by
    rw [hC] at h
    obtain ⟨h1, _, _, _, h2, h3⟩ := h
    exact ⟨h1, h2, h3⟩
  clear hC
  refine wp_region_ordv [11, 12] C 13 [0, 1, 2, 3, 4, 5, 6, 7, 8, 9, 10, 11, 12] (by kernel_rfl) (by kernel_rfl) h0' ?_
  clear h0'
  refine ordv_read rfl (by go_simp) (by rfl) ?_
  apply Exists.intro
  refine ⟨fun s' W hW b K Q hK' => ?_, fun K hK' => ?_⟩
  · obtain ⟨q0, q1⟩ := hK _ W hW
    go_simp
    exact hK' W hW
  go_simp
  refine hK' _ ?_
  clear hK' K
  refine ordv_read rfl (by go_simp) (by rfl) ?_
  apply Exists.intro
  refine ⟨fun s' W hW b K Q hK' => ?_, fun K hK' => ?_⟩
  · obtain ⟨q0, q1⟩ := hK _ W hW
    go_simp
    exact hK' W hW
  go_simp
  refine hK' _ ?_
  clear hK' K
  refine ordv_read rfl (by go_simp) (by rfl) ?_
  apply Exists.intro
  refine ⟨fun s' W hW b K Q hK' => ?_, fun K hK' => ?_⟩
  · obtain ⟨q0, q1⟩ := hK _ W hW
    go_simp
    exact hK' W hW
  go_simp
  refine hK' _ ?_
  clear hK' K
  refine ordv_read rfl (by go_simp) (by rfl) ?_
  apply Exists.intro
  refine ⟨fun s' W hW b K Q hK' => ?_, fun K hK' => ?_⟩
  · obtain ⟨q0, q1⟩ := hK _ W hW
    go_simp
    exact hK' W hW
  go_simp
  refine hK' _ ?_
  clear hK' K
  refine ordv_read rfl (by go_simp) (by rfl) ?_
  apply Exists.intro
  refine ⟨fun s' W hW b K Q hK' => ?_, fun K hK' => ?_⟩
  · obtain ⟨q0, q1⟩ := hK _ W hW
    go_simp
    exact hK' W hW
  go_simp
  refine hK' _ ?_
  clear hK' K
  refine ordv_read rfl (by go_simp) (by rfl) ?_
  apply Exists.intro
  refine ⟨fun s' W hW b K Q hK' => ?_, fun K hK' => ?_⟩
  · obtain ⟨q0, q1⟩ := hK _ W hW
    go_simp
    exact hK' W hW
  go_simp
  refine hK' _ ?_
  clear hK' K
  refine ordv_read rfl (by go_simp) (by rfl) ?_
  apply Exists.intro
  refine ⟨fun s' W hW b K Q hK' => ?_, fun K hK' => ?_⟩
  · obtain ⟨q0, q1⟩ := hK _ W hW
    go_simp
    exact hK' W hW
  go_simp
  refine hK' _ ?_
  clear hK' K
  refine ordv_read rfl (by go_simp) (by rfl) ?_
  apply Exists.intro
  refine ⟨fun s' W hW b K Q hK' => ?_, fun K hK' => ?_⟩
  · obtain ⟨q0, q1⟩ := hK _ W hW
    go_simp
    exact hK' W hW
  go_simp
  refine hK' _ ?_
  clear hK' K
  refine ordv_read rfl (by go_simp) (by rfl) ?_
  apply Exists.intro
  refine ⟨fun s' W hW b K Q hK' => ?_, fun K hK' => ?_⟩
  · obtain ⟨q0, q1⟩ := hK _ W hW
    go_simp
    exact hK' W hW
  go_simp
  refine hK' _ ?_
  clear hK' K
  refine ordv_read rfl (by go_simp) (by rfl) ?_
  apply Exists.intro
  refine ⟨fun s' W hW b K Q hK' => ?_, fun K hK' => ?_⟩
  · obtain ⟨q0, q1⟩ := hK _ W hW
    go_simp
    exact hK' W hW
  go_simp
  refine hK' _ ?_
  clear hK' K
  refine ordv_read rfl (by go_simp) (by rfl) ?_
  apply Exists.intro
  refine ⟨fun s' W hW b K Q hK' => ?_, fun K hK' => ?_⟩
  · obtain ⟨q0, q1⟩ := hK _ W hW
    go_simp
    exact hK' W hW
  go_simp
  refine hK' _ ?_
  clear hK' K
  refine ordv_turn rfl (by go_simp) (by rfl) (fun W hW b K Q hK' => ?_) (fun u hu K hK' => ?_)
  · go_simp
    exact hK' _ _ (h6 W hW)
  obtain ⟨g5, rfl⟩ : ∃ g, u = .slice (some ⟨g, 0, none⟩) 1 1 := by
    obtain ⟨W', hW'⟩ := hu
    exact hsh1 u W' hW'
  clear hu h6
  go_simp
  refine hK' _ ?_
  clear hK' K
  refine ordv_turn rfl (by go_simp) (by rfl) (fun W hW => ?_) (fun u hu K hK' => ?_)
  · obtain ⟨to', tc', w', hr, h1⟩ := h7 g5 W hW
    exact yv_append (.tmp 73) (.tmp 80) 48 rfl (Value.slice (some ⟨g, 0, none⟩) n c) (.slice (some ⟨g5, 0, none⟩) 1 1) rfl rfl hr h1
  obtain ⟨o5, c5, rfl⟩ : ∃ o5 c5, u = .slice o5 (n + 1) c5 := by
    obtain ⟨W', hW'⟩ := hu
    exact hsh2 _ u W' hW'
  clear hu h7 hsh1 hsh2
  go_simp
  refine hK' _ ?_
  clear hK' K
  refine ordv_nil ?_
  intro w5 hw5
  obtain ⟨T5, hO5, hat5⟩ := Hfin.out _ _ w5 hw5
  have hX5 := HRO.out.blkW T5
  have c2 : w5.cell? ⟨b, 0, none⟩ = some (Value.slice (some ⟨g, 0, none⟩) n c) := by rw [blk_cell hX5]; rfl
  have f2 := blk_frozen hX5 0
  obtain ⟨w6, hw6⟩ : ∃ w6, w6 = w5.setCell ⟨b, 0, none⟩ (.slice o5 (n + 1) c5) := ⟨_, rfl⟩
  have hX6 : w6.heap[b]? = some (.cells #[.slice o5 (n + 1) c5, .int .i64 nx] 50 (0, 0)) := by rw [hw6]; exact blk_set hX5 _
  have d1 : w6.cell? ⟨b, 1, none⟩ = some (.int .i64 nx) := by rw [blk_cell hX6]; rfl
  have f1 := blk_frozen hX6 1
  obtain ⟨w7, hw7⟩ : ∃ w7, w7 = w6.setCell ⟨b, 1, none⟩ (.int .i64 ((nx : Int) + 1)) := ⟨_, rfl⟩
  have hX7 : w7.heap[b]? = some (.cells #[.slice o5 (n + 1) c5, .int .i64 ((nx : Int) + 1)] 50 (0, 0)) := by rw [hw7]; exact blk_set hX6 _
  have e1 : w7.cell? ⟨b, 1, none⟩ = some (.int .i64 ((nx : Int) + 1)) := by rw [blk_cell hX7]; rfl
  have HEnd : Hid (ROut w1 b (Value.slice (some ⟨g, 0, none⟩) n c) (ncl L1 ++ [.int .i64 nx, .int .i64 par, .int .i64 0, .int .i64 0, .bool false, .bool false]) (n + 1) (nx + 1) w7) := by
    have tE : Tch (fun j => j = b) w5 w7 := by rw [hw7, hw6]; exact (Tch.setCell (fun j => j = b) w5 ⟨b, 0, none⟩ _ rfl).setCellR ⟨b, 1, none⟩ _ rfl
    exact ROut.of HRO.out.ne (blk_lt HRO.out.blk) T5 tE hX7 hO5 hat5
  have c3 : w5.cell? ⟨b, 1, none⟩ = some (.int .i64 nx) := by rw [blk_cell hX5]; rfl
  have f3 := blk_frozen hX5 1
  rw [hw7, hw6] at HEnd
  clear hK hw5 Hfin hX5 T5 hO5 hat5 hw7 hw6 hX6 hX7 d1 f1 e1
  go_wp2_with fail
  go_ret2
  exact ⟨by (try rw [Int.add_sub_cancel]) <;> rfl, HEnd.out.from HS2.out HNe.out⟩
end Go.Proofs.Ytolobljlkdacjaa
