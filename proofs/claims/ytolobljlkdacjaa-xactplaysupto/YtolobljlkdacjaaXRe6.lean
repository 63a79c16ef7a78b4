import Derived.Test.YtolobljlkdacjaaXRe5
import Derived.Test.YtolobljlkdacjaaXRel3
/- The document's manager: Prepare, Commit, Abort, Back. -/
namespace Go.Proofs.Ytolobljlkdacjaa
open Go.RowKit Go Go.Sort

/-- The document's manager at block b, that owns none of the blocks F. -/
def RF (w : World) (b : Nat) (m : Mg) (F : Nat → Prop) : Prop := ∃ L v, Rel m L ∧ RO w b L m.nx v ∧ ¬ F b ∧ (∀ g, v.ownBlock = some g → ¬ F g) ∧ ∀ i, F i → i < w.heap.size
theorem RF.tch {w w' : World} {b : Nat} {m : Mg} {F S : Nat → Prop} (h : RF w b m F) (t : Tch S w w') (hS : ∀ i, i < w.heap.size → S i → F i) : RF w' b m F := by
  obtain ⟨L, v, h1, h2, h3, h4, h5⟩ := h
  refine ⟨L, v, h1, h2.tch t (fun hs => h3 (hS b (blk_lt h2.blk) hs)) (fun g hg hs => h4 g hg (hS g (h2.row.lt g hg).2 hs)), h3, h4, fun i hi => Nat.lt_of_lt_of_le (h5 i hi) t.size⟩
theorem RF.no {w w' : World} {b : Nat} {m : Mg} {F : Nat → Prop} (h : RF w b m F) (t : Tch (fun _ => False) w w') : RF w' b m F := h.tch t (fun _ _ h => h.elim)
theorem RF.mono {w : World} {b : Nat} {m : Mg} {F G : Nat → Prop} (h : RF w b m F) (hG : ∀ i, G i → F i) : RF w b m G := by
  obtain ⟨L, v, h1, h2, h3, h4, h5⟩ := h
  exact ⟨L, v, h1, h2, fun e => h3 (hG _ e), fun g hg e => h4 g hg (hG _ e), fun i hi => h5 i (hG i hi)⟩
/-- What was appended. -/
theorem RF.out {w w' : World} {b : Nat} {m' : Mg} {L' : List Nm} {v : Value} {F : Nat → Prop} {n : Nat} (h : ROut w b v (ncl L') n m'.nx w') (hn : n = L'.length) (hr : Rel m' L') (h3 : ¬ F b) (h4 : ∀ g, v.ownBlock = some g → ¬ F g) (h5 : ∀ i, F i → i < w.heap.size) : RF w' b m' F ∧ Kept F w w' := by
  obtain ⟨v', k1, k2, k3, k4⟩ := h
  refine ⟨⟨L', v', hr, ⟨k1, by rw [← hn]; exact k2, fun g hg => (k3 g hg).1⟩, h3, fun g hg hf => ?_, fun i hi => Nat.lt_of_lt_of_le (h5 i hi) k4.size⟩, k4.mono (fun i _ hs hf => ?_)⟩
  · rcases (k3 g hg).2 with e | e
    · exact h4 g e hf
    · have := h5 g hf; omega
  · rcases hs with rfl | e
    · exact h3 hf
    · exact h4 i e hf
/-- A field was written. -/
theorem RF.set {w : World} {b : Nat} {m m' : Mg} {L : List Nm} {v : Value} {F : Nat → Prop} (h : RO w b L m.nx v) (hn : m'.nx = m.nx) {g k : Nat} {a : Nm} (hg : v.ownBlock = some g) (ha : L[k]? = some a) (a' : Nm) (f : Nat) (u : Value) (hf : f < 6) (hc : cel a' = (cel a).set f u) (hr : Rel m' (L.set k a')) (h3 : ¬ F b) (h4 : ∀ g, v.ownBlock = some g → ¬ F g) (h5 : ∀ i, F i → i < w.heap.size) : RF (w.setCell ⟨g, k * 6 + f, none⟩ u) b m' F ∧ Kept F w (w.setCell ⟨g, k * 6 + f, none⟩ u) := by
  have h1 := h.set hg ha a' f u hf hc
  rw [← hn] at h1
  have t : Tch (fun i => ¬ F i) w (w.setCell ⟨g, k * 6 + f, none⟩ u) := Tch.setCell _ _ _ _ (h4 g hg)
  exact ⟨⟨_, v, hr, h1, h3, h4, fun i hi => Nat.lt_of_lt_of_le (h5 i hi) t.size⟩, t⟩

/-- What Prepare, Commit, Abort tell, and what comes of them. -/
def turnA (m : Mg) (k : Int) (to : Nat) : Nat := match fnd m.tx k with
  | some (t, i) => if i = -1 then (if to ≤ t.st ∨ 3 ≤ t.st then 71 else 0) else 70
  | none => 70
def turnM (m : Mg) (k : Int) (to : Nat) (M : Tx → Mg) : Mg := match fnd m.tx k with
  | some (t, i) => if i = -1 then (if to ≤ t.st ∨ 3 ≤ t.st then m else M t) else m
  | none => m
theorem turn_no {m : Mg} {k : Int} (h : ∀ t, fnd m.tx k ≠ some (t, -1)) (to : Nat) (M : Tx → Mg) : turnA m k to = 70 ∧ turnM m k to M = m := by
  unfold turnA turnM
  cases hf : fnd m.tx k with
  | none => exact ⟨rfl, rfl⟩
  | some z =>
    obtain ⟨t, i⟩ := z
    have : i ≠ -1 := fun e => h t (by rw [hf, e])
    simp [this]
theorem turn_is {m : Mg} {k : Int} {t : Tx} (h : fnd m.tx k = some (t, -1)) (to : Nat) (M : Tx → Mg) : turnA m k to = (if to ≤ t.st ∨ 3 ≤ t.st then 71 else 0) ∧ turnM m k to M = (if to ≤ t.st ∨ 3 ≤ t.st then m else M t) := by
  unfold turnA turnM
  rw [h]
  simp
/-- The code's, so said. -/
theorem turn_f {m : Mg} {b : Nat} {k : Int} {to : Nat} {M : Tx → Mg} {w w' : World} {F : Nat → Prop} {x : Ending} (hF : MF w b m F) (h : TurnOut m b k to M w F x w') : x = .returned (.int .i64 (turnA m k to)) ∧ MF w' b (turnM m k to M) F ∧ Kept F w w' := by
  by_cases hk : ∃ t, fnd m.tx k = some (t, -1)
  · obtain ⟨t, ht⟩ := hk
    obtain ⟨e1, e2⟩ := turn_is ht to M
    obtain ⟨h1, h2⟩ := h.2 t ht
    by_cases hc : to ≤ t.st ∨ 3 ≤ t.st
    · rw [if_pos hc] at e1 e2
      obtain ⟨g1, g2⟩ := h1 hc
      rw [e1, e2]
      exact ⟨g1, hF.tch g2 (fun _ _ h => h.elim), kept_of g2⟩
    · rw [if_neg hc] at e1 e2
      obtain ⟨g1, g2, g3⟩ := h2 hc
      rw [e1, e2]
      exact ⟨g1, g2, g3⟩
  · have hk' : ∀ t, fnd m.tx k ≠ some (t, -1) := fun t e => hk ⟨t, e⟩
    obtain ⟨e1, e2⟩ := turn_no hk' to M
    obtain ⟨g1, g2⟩ := h.1 hk'
    rw [e1, e2]
    exact ⟨g1, hF.tch g2 (fun _ _ h => h.elim), kept_of g2⟩

set_option maxHeartbeats 1000000 in
theorem rprepare_f (b : Nat) (m : Mg) (w : World) (F : Nat → Prop) (h : RF w b m F) (k : Int) :
    Calls Try.prog 23 #[.pointer (some ⟨b, 0, none⟩), .int .i64 k] w fun x w' => x = .returned (.int .i64 (turnA m k 2)) ∧ RF w' b (turnM m k 2 (fun t => m.prep t.x)) F ∧ Kept F w w' := by
  obtain ⟨L, v, hR, hO, h3, h4, h5⟩ := h
  have hsame : RF w b m F ∧ Kept F w w := ⟨⟨L, v, hR, hO, h3, h4, h5⟩, Tch.refl _ _⟩
  obtain ⟨ao, c, rfl, hN⟩ := hO.nr
  by_cases hk : ∃ t, fnd m.tx k = some (t, -1)
  · obtain ⟨t, ht⟩ := hk
    obtain ⟨e1, e2⟩ := turn_is ht 2 (fun t => m.prep t.x)
    rw [e1, e2]
    obtain ⟨j, a, f1, f2, f3, -⟩ := hR.yes _ _ _ ht
    obtain ⟨hkx, -, -, est, -⟩ := hR.root ht f1 f2
    have q := rxact_is b ao c m L w hN hR k t ht j f1
    have htm := (fnd_mem ht).1
    have hst := hR.wf.st t htm
    have b0 := hN.c0
    obtain ⟨g, rfl, -, -, c2, -⟩ := hN.el j a f2
    have hj := (List.getElem?_eq_some_iff.1 f2).1
    have hl := hR.len
    have ff := hO.frz (g := g) rfl (j * 6 + 2)
    by_cases hs : t.st = 1
    · rw [if_neg (by omega), if_neg (by omega)]
      have hfin : Hid (RF (w.setCell ⟨g, j * 6 + 2, none⟩ (.int .i64 2)) b (m.prep t.x) F ∧ Kept F w (w.setCell ⟨g, j * 6 + 2, none⟩ (.int .i64 2))) :=
        RF.set (m := m) (m' := m.prep t.x) hO rfl (g := g) rfl f2 { a with st := 2 } 2 (.int .i64 2) (by omega) (by simp [cel]) (hR.setS (hR.wf.prep htm (by omega)) rfl (by rw [← hkx]; exact f1) f2 ⟨t, by rw [← hkx]; exact ht⟩) h3 h4 h5
      rw [est, hs] at c2
      obtain ⟨n, hn⟩ : ∃ n, n = L.length := ⟨_, rfl⟩
      rw [← hn] at b0 hj hl
      have hj' : (j : Int) < n := by omega
      clear hR hO h3 h4 h5 hsame hN ht e1 e2 f1 f2 f3 hkx est htm hst hs hn
      go_enter Try.func23, Try.ntmps23
      go_wp2_with fail
      refine q.mono ?_
      rintro y wy ⟨rfl, hwy⟩
      subst hwy
      clear q
      go_wp2_with fail
      go_ret
      exact ⟨rfl, hfin.out⟩
    · rw [if_pos (by omega), if_pos (by omega)]
      have hfin : Hid (RF w b m F ∧ Kept F w w) := hsame
      rw [est] at c2
      obtain ⟨s, hss⟩ : ∃ s, s = t.st := ⟨_, rfl⟩
      rw [← hss] at c2 hs
      have k1 : ((s : Int) == 1) = false := beq_eq_false_iff_ne.2 (by omega)
      obtain ⟨n, hn⟩ : ∃ n, n = L.length := ⟨_, rfl⟩
      rw [← hn] at b0 hj hl
      have hj' : (j : Int) < n := by omega
      clear hR hO h3 h4 h5 hsame hN ht e1 e2 f1 f2 f3 hkx est htm hst hs hn hss ff
      go_enter Try.func23, Try.ntmps23
      go_wp2_with fail
      refine q.mono ?_
      rintro y wy ⟨rfl, hwy⟩
      subst hwy
      clear q
      go_wp2_with fail
      go_ret
      exact ⟨rfl, hfin.out⟩
  · have hk' : ∀ t, fnd m.tx k ≠ some (t, -1) := fun t e => hk ⟨t, e⟩
    obtain ⟨e1, e2⟩ := turn_no hk' 2 (fun t => m.prep t.x)
    rw [e1, e2]
    have q := rxact_no b ao c m L w hN hR k hk'
    have hfin : Hid (RF w b m F ∧ Kept F w w) := hsame
    clear hR hO h3 h4 h5 hsame hN hk hk' e1 e2
    go_enter Try.func23, Try.ntmps23
    go_wp2_with fail
    refine q.mono ?_
    rintro y wy ⟨rfl, hwy⟩
    subst hwy
    clear q
    go_wp2_with fail
    go_ret
    exact ⟨rfl, hfin.out⟩
set_option maxHeartbeats 1000000 in
theorem rover_f (b : Nat) (m : Mg) (w : World) (F : Nat → Prop) (h : RF w b m F) (k : Int) (to : Nat) (hto : to = 3 ∨ to = 4) :
    Calls Try.prog 49 #[.pointer (some ⟨b, 0, none⟩), .int .i64 k, .int .i64 to] w fun x w' => x = .returned (.int .i64 (turnA m k to)) ∧ RF w' b (turnM m k to (fun t => m.fin t.x to)) F ∧ Kept F w w' := by
  obtain ⟨L, v, hR, hO, h3, h4, h5⟩ := h
  have hsame : RF w b m F ∧ Kept F w w := ⟨⟨L, v, hR, hO, h3, h4, h5⟩, Tch.refl _ _⟩
  obtain ⟨ao, c, rfl, hN⟩ := hO.nr
  by_cases hk : ∃ t, fnd m.tx k = some (t, -1)
  · obtain ⟨t, ht⟩ := hk
    obtain ⟨e1, e2⟩ := turn_is ht to (fun t => m.fin t.x to)
    rw [e1, e2]
    obtain ⟨j, a, f1, f2, f3, -⟩ := hR.yes _ _ _ ht
    obtain ⟨hkx, -, -, est, -⟩ := hR.root ht f1 f2
    have q := rxact_is b ao c m L w hN hR k t ht j f1
    have htm := (fnd_mem ht).1
    have hst := hR.wf.st t htm
    have b0 := hN.c0
    obtain ⟨g, rfl, -, -, c2, -⟩ := hN.el j a f2
    have hj := (List.getElem?_eq_some_iff.1 f2).1
    have hl := hR.len
    have ff := hO.frz (g := g) rfl (j * 6 + 2)
    by_cases hs : t.st < 3
    · rw [if_neg (by omega), if_neg (by omega)]
      have hfin : Hid (RF (w.setCell ⟨g, j * 6 + 2, none⟩ (.int .i64 to)) b (m.fin t.x to) F ∧ Kept F w (w.setCell ⟨g, j * 6 + 2, none⟩ (.int .i64 to))) :=
        RF.set (m := m) (m' := m.fin t.x to) hO rfl (g := g) rfl f2 { a with st := to } 2 (.int .i64 to) (by omega) (by simp [cel]) (hR.setS (hR.wf.fin (by omega)) rfl (by rw [← hkx]; exact f1) f2 ⟨t, by rw [← hkx]; exact ht⟩) h3 h4 h5
      rw [est] at c2
      obtain ⟨s, hss⟩ : ∃ s, s = t.st := ⟨_, rfl⟩
      rw [← hss] at c2 hs hst
      obtain ⟨n, hn⟩ : ∃ n, n = L.length := ⟨_, rfl⟩
      rw [← hn] at b0 hj hl
      have hj' : (j : Int) < n := by omega
      clear hR hO h3 h4 h5 hsame hN ht e1 e2 f1 f2 f3 hkx est htm hn hss hto
      have hs' : s = 1 ∨ s = 2 := by omega
      clear hs hst
      rcases hs' with rfl | rfl
      · go_enter Try.func49, Try.ntmps49
        go_wp2_with fail
        refine q.mono ?_
        rintro y wy ⟨rfl, hwy⟩
        subst hwy
        clear q
        go_wp2_with fail
        go_ret
        exact ⟨rfl, hfin.out⟩
      · go_enter Try.func49, Try.ntmps49
        go_wp2_with fail
        refine q.mono ?_
        rintro y wy ⟨rfl, hwy⟩
        subst hwy
        clear q
        go_wp2_with fail
        go_ret
        exact ⟨rfl, hfin.out⟩
    · rw [if_pos (by omega), if_pos (by omega)]
      have hfin : Hid (RF w b m F ∧ Kept F w w) := hsame
      rw [est] at c2
      obtain ⟨s, hss⟩ : ∃ s, s = t.st := ⟨_, rfl⟩
      rw [← hss] at c2 hs
      have k1 : ((s : Int) == 1) = false := beq_eq_false_iff_ne.2 (by omega)
      have k2 : ((s : Int) == 2) = false := beq_eq_false_iff_ne.2 (by omega)
      have k1' : ((s : Int) != 1) = true := by rw [bne, k1]; rfl
      have k2' : ((s : Int) != 2) = true := by rw [bne, k2]; rfl
      obtain ⟨n, hn⟩ : ∃ n, n = L.length := ⟨_, rfl⟩
      rw [← hn] at b0 hj hl
      have hj' : (j : Int) < n := by omega
      clear hR hO h3 h4 h5 hsame hN ht e1 e2 f1 f2 f3 hkx est htm hst hs hn hss ff hto
      go_enter Try.func49, Try.ntmps49
      go_wp2_with fail
      refine q.mono ?_
      rintro y wy ⟨rfl, hwy⟩
      subst hwy
      clear q
      go_wp2_with fail
      go_ret
      exact ⟨rfl, hfin.out⟩
  · have hk' : ∀ t, fnd m.tx k ≠ some (t, -1) := fun t e => hk ⟨t, e⟩
    obtain ⟨e1, e2⟩ := turn_no hk' to (fun t => m.fin t.x to)
    rw [e1, e2]
    have q := rxact_no b ao c m L w hN hR k hk'
    have hfin : Hid (RF w b m F ∧ Kept F w w) := hsame
    clear hR hO h3 h4 h5 hsame hN hk hk' e1 e2 hto
    go_enter Try.func49, Try.ntmps49
    go_wp2_with fail
    refine q.mono ?_
    rintro y wy ⟨rfl, hwy⟩
    subst hwy
    clear q
    go_wp2_with fail
    go_ret
    exact ⟨rfl, hfin.out⟩
theorem rcommit_f (b : Nat) (m : Mg) (w : World) (F : Nat → Prop) (h : RF w b m F) (k : Int) :
    Calls Try.prog 25 #[.pointer (some ⟨b, 0, none⟩), .int .i64 k] w fun x w' => x = .returned (.int .i64 (turnA m k 3)) ∧ RF w' b (turnM m k 3 (fun t => m.fin t.x 3)) F ∧ Kept F w w' := by
  have q : Calls Try.prog 49 #[.pointer (some ⟨b, 0, none⟩), .int .i64 k, .int .i64 3] w fun x w' => x = .returned (.int .i64 (turnA m k 3)) ∧ RF w' b (turnM m k 3 (fun t => m.fin t.x 3)) F ∧ Kept F w w' := rover_f b m w F h k 3 (Or.inl rfl)
  clear h
  go_enter Try.func25, Try.ntmps25
  go_wp2_with fail
  refine q.mono ?_
  rintro y wy ⟨rfl, hy⟩
  have HY : Hid _ := hy
  clear q hy
  go_wp2_with fail
  go_ret
  exact ⟨rfl, HY.out⟩
theorem rabort_f (b : Nat) (m : Mg) (w : World) (F : Nat → Prop) (h : RF w b m F) (k : Int) :
    Calls Try.prog 27 #[.pointer (some ⟨b, 0, none⟩), .int .i64 k] w fun x w' => x = .returned (.int .i64 (turnA m k 4)) ∧ RF w' b (turnM m k 4 (fun t => m.fin t.x 4)) F ∧ Kept F w w' := by
  have q : Calls Try.prog 49 #[.pointer (some ⟨b, 0, none⟩), .int .i64 k, .int .i64 4] w fun x w' => x = .returned (.int .i64 (turnA m k 4)) ∧ RF w' b (turnM m k 4 (fun t => m.fin t.x 4)) F ∧ Kept F w w' := rover_f b m w F h k 4 (Or.inr rfl)
  clear h
  go_enter Try.func27, Try.ntmps27
  go_wp2_with fail
  refine q.mono ?_
  rintro y wy ⟨rfl, hy⟩
  have HY : Hid _ := hy
  clear q hy
  go_wp2_with fail
  go_ret
  exact ⟨rfl, HY.out⟩
end Go.Proofs.Ytolobljlkdacjaa
