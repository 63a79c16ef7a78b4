import Derived.Test.YtececlalnkiafaaStaged
/- As Staged, but: a turn BARS all others (nothing else may come up when it does), and what only reads need hold from its own stage on alone. -/
namespace Go.Proofs.Ytececlalnkiafaa
open Go

/-- One operation at place i, behind k turns. -/
def bOp (P : Program) (ops : Array Oper) (S : List Nat) (C : Nat → World → Prop) (i : Nat) (K : Nat → Act → Prop) (k : Nat) (a : Act) : Prop :=
  match ops[i]? with
  | none => K k a
  | some o =>
    if Region.wanted o (yielded ops a.tmps) then
      (if S.contains i then ∃ v, (∀ W, C k W → YS P o a (C (k + 1)) W v) ∧ K (k + 1) (a.put o.dst v) else ∃ v, (∀ j W, k ≤ j → C j W → YS P o a (C j) W v) ∧ K k (a.put o.dst v))
    else K k (a.put o.dst undef)

theorem bOp_mono {P : Program} {ops : Array Oper} {S : List Nat} {C : Nat → World → Prop} {i : Nat} {K K' : Nat → Act → Prop} {k : Nat} {a : Act} (h : ∀ k a, K k a → K' k a) (hh : bOp P ops S C i K k a) : bOp P ops S C i K' k a := by
  unfold bOp at *
  split
  · rename_i ho; simp only [ho] at hh; exact h _ _ hh
  · rename_i o ho
    simp only [ho] at hh
    split
    · rename_i hw
      simp only [hw, if_true] at hh
      split
      · rename_i hs; rw [if_pos hs] at hh; obtain ⟨v, h1, h2⟩ := hh; exact ⟨v, h1, h _ _ h2⟩
      · rename_i hs; rw [if_neg hs] at hh; obtain ⟨v, h1, h2⟩ := hh; exact ⟨v, h1, h _ _ h2⟩
    · rename_i hw; rw [if_neg hw] at hh; exact h _ _ hh

/-- Whatever order is picked from here on. -/
def anyB (P : Program) (md : Region.Mode) (ops : Array Oper) (S : List Nat) (C : Nat → World → Prop) (Q : Nat → Act → Prop) : Nat → Array Bool → Nat → Act → Prop
  | 0, listed, k, a => Region.ready md ops listed = [] ∧ Q k a
  | f + 1, listed, k, a => (Region.ready md ops listed = [] → Q k a) ∧ ∀ i ∈ Region.ready md ops listed, bOp P ops S C i (anyB P md ops S C Q f (listed.setIfInBounds i true)) k a

theorem wpOp_of_bOp {P : Program} {ops : Array Oper} {S : List Nat} {C : Nat → World → Prop} {i k : Nat} {K : Nat → Act → Prop} {K' : Act → World → Prop} {Q' : Exit → Act → World → Prop} {a : Act} {w : World} (hC : C k w) (h : ∀ k a w', C k w' → K k a → K' a w') (hh : bOp P ops S C i K k a) : wpOp P ops Q' i K' a w := by
  unfold bOp at hh
  unfold wpOp
  split
  · rename_i ho; simp only [ho] at hh; exact h _ _ _ hC hh
  · rename_i o ho
    simp only [ho] at hh
    split
    · rename_i hw
      simp only [hw, if_true] at hh
      left
      split at hh
      · obtain ⟨v, h1, h2⟩ := hh
        exact h1 w hC a K' Q' (fun W' hW' => h _ _ _ hW' h2)
      · obtain ⟨v, h1, h2⟩ := hh
        exact h1 k w (Nat.le_refl _) hC a K' Q' (fun W' hW' => h _ _ _ hW' h2)
    · rename_i hw; rw [if_neg hw] at hh; exact h _ _ _ hC hh

theorem wpAny_of_anyB {P : Program} {md : Region.Mode} {ops : Array Oper} {S : List Nat} {C : Nat → World → Prop} {Q : Nat → Act → Prop} {Q' : Exit → Act → World → Prop} (hQ : ∀ k a w, C k w → Q k a → Q' .normal a w) (f : Nat) :
    ∀ (listed : Array Bool) (k : Nat) (a : Act) (w : World), C k w → anyB P md ops S C Q f listed k a → wpAny P md ops Q' f listed a w := by
  induction f with
  | zero => intro listed k a w hw h; exact ⟨h.1, hQ _ _ _ hw h.2⟩
  | succ f ih => intro listed k a w hw h; exact ⟨fun h0 => hQ _ _ _ hw (h.1 h0), fun i hi => wpOp_of_bOp hw (fun k' a' w' hw' h' => ih _ k' a' w' hw' h') (h.2 i hi)⟩

/-- What operation i does in frame a behind k turns: v, and then k' turns. -/
def YB (P : Program) (ops : Array Oper) (S : List Nat) (C : Nat → World → Prop) (i : Nat) (o : Oper) (v : Value) (k d : Nat) (a : Act) : Prop :=
  (Region.wanted o (yielded ops a.tmps) = true ∧ S.contains i = true ∧ d = 1 ∧ ∀ W, C k W → YS P o a (C (k + 1)) W v) ∨
  (Region.wanted o (yielded ops a.tmps) = true ∧ S.contains i = false ∧ d = 0 ∧ ∀ j W, k ≤ j → C j W → YS P o a (C j) W v) ∨
  (Region.wanted o (yielded ops a.tmps) = false ∧ d = 0 ∧ v = undef)

theorem YB.bOp {P : Program} {ops : Array Oper} {S : List Nat} {C : Nat → World → Prop} {i : Nat} {o : Oper} {v : Value} {k d : Nat} {a : Act} (hi : ops[i]? = some o) (hy : YB P ops S C i o v k d a) {K : Nat → Act → Prop} (h : K (k + d) (a.put o.dst v)) : bOp P ops S C i K k a := by
  unfold Go.Proofs.Ytececlalnkiafaa.bOp
  simp only [hi]
  rcases hy with ⟨hw, hs, rfl, hv⟩ | ⟨hw, hs, rfl, hv⟩ | ⟨hw, rfl, rfl⟩
  · simp only [hw, hs, if_true]; exact ⟨v, hv, h⟩
  · simp only [hw, hs, if_true, Bool.false_eq_true, if_false]; exact ⟨v, hv, h⟩
  · simp only [hw, Bool.false_eq_true, if_false]; exact h

theorem yb_of_bOp {P : Program} {ops : Array Oper} {S : List Nat} {C : Nat → World → Prop} {i : Nat} {o : Oper} {k : Nat} {a : Act} {K : Nat → Act → Prop} (hi : ops[i]? = some o) (h : bOp P ops S C i K k a) : ∃ v d, YB P ops S C i o v k d a ∧ K (k + d) (a.put o.dst v) := by
  unfold bOp at h
  simp only [hi] at h
  by_cases hw : Region.wanted o (yielded ops a.tmps) = true
  · simp only [hw, if_true] at h
    by_cases hs : S.contains i = true
    · rw [if_pos hs] at h
      obtain ⟨v, h1, h2⟩ := h
      exact ⟨v, 1, .inl ⟨hw, hs, rfl, h1⟩, h2⟩
    · rw [if_neg hs] at h
      obtain ⟨v, h1, h2⟩ := h
      exact ⟨v, 0, .inr (.inl ⟨hw, by simpa using hs, rfl, h1⟩), h2⟩
  · rw [if_neg hw] at h
    exact ⟨undef, 0, .inr (.inr ⟨by simpa using hw, rfl, rfl⟩), h⟩

theorem YB.keep {P : Program} {ops : Array Oper} {S : List Nat} {C : Nat → World → Prop} {i : Nat} {o : Oper} {v : Value} {k k2 d : Nat} {a a' : Act} (hy : YB P ops S C i o v k d a) (he : execOp a'.eval o = execOp a.eval o)
    (hw : Region.wanted o (yielded ops a'.tmps) = Region.wanted o (yielded ops a.tmps)) (hk : S.contains i = true → k2 = k) (hk' : k ≤ k2) : YB P ops S C i o v k2 d a' := by
  rcases hy with ⟨h1, h2, h3, h4⟩ | ⟨h1, h2, h3, h4⟩ | ⟨h1, h2, h3⟩
  · obtain rfl := hk h2
    exact .inl ⟨hw.trans h1, h2, h3, fun W hW => (h4 W hW).same he⟩
  · exact .inr (.inl ⟨hw.trans h1, h2, h3, fun j W hj hW => (h4 j W (Nat.le_trans hk' hj) hW).same he⟩)
  · exact .inr (.inr ⟨hw.trans h1, h2, h3⟩)

/-- An operation that may come up now may be taken first. -/
theorem anyB_first {P : Program} {md : Region.Mode} {ops : Array Oper} {S : List Nat} {C : Nat → World → Prop} {Q : Nat → Act → Prop} {i : Nat} {oi : Oper} {v : Value} (hi : ops[i]? = some oi) (hsel : ∀ (j : Nat) (o : Oper) cs b, ops[j]? = some o → o.op ≠ .select cs b) (f : Nat) :
    ∀ (listed : Array Bool) (k : Nat) (a : Act), HeadInv md ops ops.size listed →
      (∀ j oj, ops[j]? = some oj → j ≠ i → listed.getD j true = false → (∀ e ∈ oj.after, Region.binds md e = true → e.on ≠ i) → oi.apart ops oj = true) →
      i ∈ Region.ready md ops listed → S.contains i = false → YB P ops S C i oi v k 0 a →
      anyB P md ops S C Q f (listed.setIfInBounds i true) k (a.put oi.dst v) → anyB P md ops S C Q (f + 1) listed k a := by
  have ne : ∀ (listed : Array Bool), i ∈ Region.ready md ops listed → Region.ready md ops listed ≠ [] := fun listed hr h => by rw [h] at hr; cases hr
  induction f with
  | zero =>
    intro listed k a _ _ hr hsi hy H
    refine ⟨fun h0 => absurd h0 (ne _ hr), fun j hj => ?_⟩
    by_cases hji : j = i
    · subst hji; exact hy.bOp hi H
    · have := ready_mono hj hji
      rw [H.1] at this
      cases this
  | succ f ih =>
    intro listed k a inv hfree hr hsi hy H
    refine ⟨fun h0 => absurd h0 (ne _ hr), fun j hj => ?_⟩
    by_cases hji : j = i
    · subst hji; exact hy.bOp hi H
    · obtain ⟨hjun, oj, hoj, hall⟩ := mem_ready.1 hj
      have hjlt : j < ops.size := (Array.getElem?_eq_some_iff.1 hoj).1
      have hnot : ∀ e ∈ oj.after, Region.binds md e = true → e.on ≠ i := fun e he hb heq => by
        have h1 := hall e he hb
        rw [heq, getD_both (mem_ready.1 hr).1] at h1
        cases h1
      obtain ⟨h1, h2, h3⟩ := Oper.apart_spec (hfree j oj hoj hji hjun hnot)
      obtain ⟨u, d2, hu, hn⟩ := yb_of_bOp hoj (H.2 j (ready_mono hj hji))
      have hu' : YB P ops S C j oj u k d2 a := hu.keep (execOp_put oj (fun cs b => hsel j oj cs b hoj) a oi.dst v h1).symm (wanted_put oj a oi.dst v h1).symm (fun _ => rfl) (Nat.le_refl _)
      refine hu'.bOp hoj (ih (listed.setIfInBounds j true) (k + d2) (a.put oj.dst u) (inv.set hj hjlt) (fun m om hm hmi hun hno => hfree m om hm hmi ?_ hno) (ready_mono hr (Ne.symm hji)) hsi ?_ ?_)
      · by_cases hjm : j = m
        · subst hjm; exact hjun
        · rwa [getD_set_ne true hjm] at hun
      · exact hy.keep (execOp_put oi (fun cs b => hsel i oi cs b hi) a oj.dst u h3) (wanted_put oi a oj.dst u h3) (fun hi' => by rw [hsi] at hi'; cases hi') (Nat.le_add_right _ _)
      · rw [Array.setIfInBounds_comm _ _ hji, ← Act.put_comm a v u h2]
        exact hn

/-- A turn that bars all others. -/
theorem anyB_turn {P : Program} {md : Region.Mode} {ops : Array Oper} {S : List Nat} {C : Nat → World → Prop} {Q : Nat → Act → Prop} {i f k : Nat} {listed : Array Bool} {a : Act} (hr : Region.ready md ops listed = [i])
    (h : bOp P ops S C i (anyB P md ops S C Q f (listed.setIfInBounds i true)) k a) : anyB P md ops S C Q (f + 1) listed k a := by
  refine ⟨fun h0 => (by rw [hr] at h0; cases h0), fun j hj => ?_⟩
  rw [hr] at hj
  obtain rfl : j = i := by simpa using hj
  exact h
def barFrom (md : Region.Mode) (ops : Array Oper) (S : List Nat) : Nat → Nat → Array Bool → Bool
  | 0, _, _ => true
  | f + 1, p, listed => (!S.contains p || Region.ready md ops listed == [p]) && barFrom md ops S f (p + 1) (listed.setIfInBounds p true)

/-- The walk, in the order of the text. -/
def wpBar (P : Program) (ops : Array Oper) (S : List Nat) (C : Nat → World → Prop) (Q : Nat → Act → Prop) : List Oper → Nat → Nat → Act → Prop
  | [], _, k, a => Q k a
  | o :: rest, p, k, a =>
    if Region.wanted o (yielded ops a.tmps) then
      (if S.contains p then ∃ v, (∀ W, C k W → YS P o a (C (k + 1)) W v) ∧ wpBar P ops S C Q rest (p + 1) (k + 1) (a.put o.dst v) else ∃ v, (∀ j W, k ≤ j → C j W → YS P o a (C j) W v) ∧ wpBar P ops S C Q rest (p + 1) k (a.put o.dst v))
    else wpBar P ops S C Q rest (p + 1) k (a.put o.dst undef)

theorem bar_nil {P : Program} {ops : Array Oper} {S : List Nat} {C : Nat → World → Prop} {Q : Nat → Act → Prop} {p k : Nat} {a : Act} (h : Q k a) : wpBar P ops S C Q [] p k a := h
/-- What only reads. -/
theorem bar_read {P : Program} {ops : Array Oper} {S : List Nat} {C : Nat → World → Prop} {Q : Nat → Act → Prop} {o : Oper} {rest : List Oper} {p k : Nat} {a : Act} (hw : Region.wanted o (yielded ops a.tmps) = true) (hs : S.contains p = false)
    (h : ∃ v, (∀ j W, k ≤ j → C j W → YS P o a (C j) W v) ∧ ∀ K : Act → Prop, (∀ a, wpBar P ops S C Q rest (p + 1) k a → K a) → K (a.put o.dst v)) : wpBar P ops S C Q (o :: rest) p k a := by
  obtain ⟨v, h1, h2⟩ := h
  unfold wpBar
  rw [if_pos hw, if_neg (by rw [hs]; exact Bool.false_ne_true)]
  exact ⟨v, h1, h2 _ (fun _ h => h)⟩
/-- What turns the world. -/
theorem bar_turn {P : Program} {ops : Array Oper} {S : List Nat} {C : Nat → World → Prop} {Q : Nat → Act → Prop} {o : Oper} {rest : List Oper} {p k : Nat} {a : Act} (hw : Region.wanted o (yielded ops a.tmps) = true) (hs : S.contains p = true)
    (h : ∃ v, (∀ W, C k W → YS P o a (C (k + 1)) W v) ∧ ∀ K : Act → Prop, (∀ a, wpBar P ops S C Q rest (p + 1) (k + 1) a → K a) → K (a.put o.dst v)) : wpBar P ops S C Q (o :: rest) p k a := by
  obtain ⟨v, h1, h2⟩ := h
  unfold wpBar
  rw [if_pos hw, if_pos hs]
  exact ⟨v, h1, h2 _ (fun _ h => h)⟩
/-- What is not wanted. -/
theorem bar_skip {P : Program} {ops : Array Oper} {S : List Nat} {C : Nat → World → Prop} {Q : Nat → Act → Prop} {o : Oper} {rest : List Oper} {p k : Nat} {a : Act} (hw : Region.wanted o (yielded ops a.tmps) = false)
    (h : ∀ K : Act → Prop, (∀ a, wpBar P ops S C Q rest (p + 1) k a → K a) → K (a.put o.dst undef)) : wpBar P ops S C Q (o :: rest) p k a := by
  unfold wpBar
  rw [if_neg (by rw [hw]; exact Bool.false_ne_true)]
  exact h _ (fun _ h => h)

theorem anyB_lex {P : Program} {md : Region.Mode} {ops : Array Oper} {S : List Nat} {C : Nat → World → Prop} {Q : Nat → Act → Prop} (hsel : Region.noSelect ops = true) (l : List Oper) :
    ∀ (p : Nat) (listed : Array Bool) (k : Nat) (a : Act), (∀ j, l[j]? = ops[p + j]?) → HeadInv md ops ops.size listed → Region.lexFrom md ops l.length p listed = true → barFrom md ops S l.length p listed = true → wpBar P ops S C Q l p k a → anyB P md ops S C Q l.length listed k a := by
  induction l with
  | nil => intro p listed k a _ _ hB _ h; exact ⟨by simpa [Region.lexFrom] using hB, h⟩
  | cons o l ih =>
    intro p listed k a hl inv hB hF h
    have h0 : ops[p]? = some o := by simpa using (hl 0).symm
    simp only [List.length_cons, Region.lexFrom, Bool.and_eq_true] at hB
    have hr : p ∈ Region.ready md ops listed := by simpa using hB.1.1
    have hst : bOp P ops S C p (fun k a => wpBar P ops S C Q l (p + 1) k a) k a := by unfold bOp; simp only [h0]; exact h
    simp only [List.length_cons, barFrom, Bool.and_eq_true, Bool.or_eq_true, Bool.not_eq_true'] at hF
    have hl' : ∀ j, l[j]? = ops[p + 1 + j]? := fun j => by
      have := hl (j + 1)
      simpa [Nat.add_assoc, Nat.add_comm 1 j] using this
    have inv' := inv.set hr (Array.getElem?_eq_some_iff.1 h0).1
    by_cases hs : S.contains p = true
    · have hrd : Region.ready md ops listed = [p] := by
        rcases hF.1 with h1 | h1
        · rw [hs] at h1; cases h1
        · simpa using h1
      exact anyB_turn hrd (bOp_mono (fun k' a' h' => ih (p + 1) _ k' a' hl' inv' hB.2 hF.2 h') hst)
    · obtain ⟨v, d, hy, hK⟩ := yb_of_bOp h0 hst
      have hsf : S.contains p = false := by simpa using hs
      obtain rfl : d = 0 := by
        rcases hy with ⟨_, h1, _⟩ | ⟨_, _, h1, _⟩ | ⟨_, h1, _⟩
        · rw [hsf] at h1; cases h1
        · exact h1
        · exact h1
      exact anyB_first h0 (Region.noSelect_spec hsel) l.length listed k a inv (Region.free_spec h0 hB.1.2) hr hsf hy (ih (p + 1) _ _ _ hl' inv' hB.2 hF.2 hK)

theorem wp_region_barred {P : Program} {id : Nat} {Q : Exit → Act → World → Prop} {a : Act} {w : World} {l : List Oper} (S : List Nat) (C : Nat → World → Prop) (hm : P.follows .mixedOrders = true) (hB : Region.lexB .any l.toArray = true) (hS : barFrom .any l.toArray S l.length 0 (Array.replicate l.toArray.size false) = true) (hC : C 0 w.drew)
    (h : wpBar P l.toArray S C (fun k a' => ∀ w', C k w' → Q .normal a' w') l 0 0 a) : (Code.region id l.toArray true).wp P Q a w := by
  simp only [Region.lexB, Bool.and_eq_true] at hB
  have inv0 : HeadInv .any l.toArray l.toArray.size (Array.replicate l.toArray.size false) :=
    ⟨by simp, fun j oj _ hl => (by rw [getD_replicate_false] at hl; cases hl), fun t h1 h2 => by omega⟩
  have H := anyB_lex (md := .any) hB.1 l 0 _ 0 a (by simp) inv0 (by simpa using hB.2) hS h
  refine wp_region_any hm (wpAny_of_anyB (S := S) (Q := fun k a' => ∀ w', C k w' → Q .normal a' w') (fun k a w' hw' h => h w' hw') _ _ 0 _ _ hC ?_)
  simpa using H
end Go.Proofs.Ytececlalnkiafaa
