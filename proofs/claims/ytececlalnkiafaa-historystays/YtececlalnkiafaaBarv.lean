import Derived.Test.YtececlalnkiafaaBarred
/- As Barred, but what a turn yields is a VARIABLE (the tape picks blocks and capacities): the stage is the list of what the turns have yielded so far, and the rest is walked for each value that can come out. -/
namespace Go.Proofs.Ytececlalnkiafaa
open Go

/-- Operation o, carried out as frame a has it, yields some v and leaves a world of C v, whatever frame the value is put into. -/
def YV (P : Program) (o : Oper) (a : Act) (C : Value → World → Prop) (W : World) : Prop :=
  ∀ (b : Act) (K : Act → World → Prop) (Q : Exit → Act → World → Prop), (∀ v W', C v W' → K (b.put o.dst v) W') → o.upon P b K Q ((execOp a.eval o).run P W)

theorem YV.same {P : Program} {o : Oper} {a a' : Act} {C : Value → World → Prop} {W : World} (h : YV P o a C W) (he : execOp a'.eval o = execOp a.eval o) : YV P o a' C W := by
  unfold YV at *
  rw [he]; exact h

/-- One operation at place i, behind the turns s. -/
def vOp (P : Program) (ops : Array Oper) (S : List Nat) (C : List Value → World → Prop) (i : Nat) (K : List Value → Act → Prop) (s : List Value) (a : Act) : Prop :=
  match ops[i]? with
  | none => K s a
  | some o =>
    if Region.wanted o (yielded ops a.tmps) then
      (if S.contains i then (∀ W, C s W → YV P o a (fun v => C (s ++ [v])) W) ∧ (∀ v, (∃ W', C (s ++ [v]) W') → K (s ++ [v]) (a.put o.dst v)) else ∃ v, (∀ s' W, C (s ++ s') W → YS P o a (C (s ++ s')) W v) ∧ K s (a.put o.dst v))
    else K s (a.put o.dst undef)

theorem vOp_mono {P : Program} {ops : Array Oper} {S : List Nat} {C : List Value → World → Prop} {i : Nat} {K K' : List Value → Act → Prop} {s : List Value} {a : Act} (h : ∀ s a, K s a → K' s a) (hh : vOp P ops S C i K s a) : vOp P ops S C i K' s a := by
  unfold vOp at *
  split
  · rename_i ho; simp only [ho] at hh; exact h _ _ hh
  · rename_i o ho
    simp only [ho] at hh
    split
    · rename_i hw
      simp only [hw, if_true] at hh
      split
      · rename_i hs; rw [if_pos hs] at hh; obtain ⟨h1, h2⟩ := hh; exact ⟨h1, fun v hv => h _ _ (h2 v hv)⟩
      · rename_i hs; rw [if_neg hs] at hh; obtain ⟨v, h1, h2⟩ := hh; exact ⟨v, h1, h _ _ h2⟩
    · rename_i hw; rw [if_neg hw] at hh; exact h _ _ hh

/-- Whatever order is picked from here on. -/
def anyV (P : Program) (md : Region.Mode) (ops : Array Oper) (S : List Nat) (C : List Value → World → Prop) (Q : List Value → Act → Prop) : Nat → Array Bool → List Value → Act → Prop
  | 0, listed, s, a => Region.ready md ops listed = [] ∧ Q s a
  | f + 1, listed, s, a => (Region.ready md ops listed = [] → Q s a) ∧ ∀ i ∈ Region.ready md ops listed, vOp P ops S C i (anyV P md ops S C Q f (listed.setIfInBounds i true)) s a

theorem wpOp_of_vOp {P : Program} {ops : Array Oper} {S : List Nat} {C : List Value → World → Prop} {i : Nat} {s : List Value} {K : List Value → Act → Prop} {K' : Act → World → Prop} {Q' : Exit → Act → World → Prop} {a : Act} {w : World} (hC : C s w) (h : ∀ s a w', C s w' → K s a → K' a w') (hh : vOp P ops S C i K s a) : wpOp P ops Q' i K' a w := by
  unfold vOp at hh
  unfold wpOp
  split
  · rename_i ho; simp only [ho] at hh; exact h _ _ _ hC hh
  · rename_i o ho
    simp only [ho] at hh
    split
    · rename_i hw
      simp only [hw, if_true] at hh
      left
      split at hh
      · obtain ⟨h1, h2⟩ := hh
        exact h1 w hC a K' Q' (fun v W' hW' => h _ _ _ hW' (h2 v ⟨W', hW'⟩))
      · obtain ⟨v, h1, h2⟩ := hh
        have h1' := h1 [] w (by simpa using hC) a K' Q'
        refine h1' (fun W' hW' => h _ _ _ (by simpa using hW') h2)
    · rename_i hw; rw [if_neg hw] at hh; exact h _ _ _ hC hh

theorem wpAny_of_anyV {P : Program} {md : Region.Mode} {ops : Array Oper} {S : List Nat} {C : List Value → World → Prop} {Q : List Value → Act → Prop} {Q' : Exit → Act → World → Prop} (hQ : ∀ s a w, C s w → Q s a → Q' .normal a w) (f : Nat) :
    ∀ (listed : Array Bool) (s : List Value) (a : Act) (w : World), C s w → anyV P md ops S C Q f listed s a → wpAny P md ops Q' f listed a w := by
  induction f with
  | zero => intro listed s a w hw h; exact ⟨h.1, hQ _ _ _ hw h.2⟩
  | succ f ih => intro listed s a w hw h; exact ⟨fun h0 => hQ _ _ _ hw (h.1 h0), fun i hi => wpOp_of_vOp hw (fun s' a' w' hw' h' => ih _ s' a' w' hw' h') (h.2 i hi)⟩

/-- What a reading operation does in frame a from stage s on. -/
def YR (P : Program) (ops : Array Oper) (C : List Value → World → Prop) (o : Oper) (v : Value) (s : List Value) (a : Act) : Prop :=
  (Region.wanted o (yielded ops a.tmps) = true ∧ ∀ s' W, C (s ++ s') W → YS P o a (C (s ++ s')) W v) ∨
  (Region.wanted o (yielded ops a.tmps) = false ∧ v = undef)

theorem YR.vOp {P : Program} {ops : Array Oper} {S : List Nat} {C : List Value → World → Prop} {i : Nat} {o : Oper} {v : Value} {s : List Value} {a : Act} (hi : ops[i]? = some o) (hs : S.contains i = false) (hy : YR P ops C o v s a) {K : List Value → Act → Prop} (h : K s (a.put o.dst v)) : vOp P ops S C i K s a := by
  unfold Go.Proofs.Ytececlalnkiafaa.vOp
  simp only [hi]
  rcases hy with ⟨hw, hv⟩ | ⟨hw, rfl⟩
  · simp only [hw, hs, if_true, Bool.false_eq_true, if_false]; exact ⟨v, hv, h⟩
  · simp only [hw, Bool.false_eq_true, if_false]; exact h

theorem yr_of_vOp {P : Program} {ops : Array Oper} {S : List Nat} {C : List Value → World → Prop} {i : Nat} {o : Oper} {s : List Value} {a : Act} {K : List Value → Act → Prop} (hi : ops[i]? = some o) (hs : S.contains i = false) (h : vOp P ops S C i K s a) : ∃ v, YR P ops C o v s a ∧ K s (a.put o.dst v) := by
  unfold vOp at h
  simp only [hi] at h
  by_cases hw : Region.wanted o (yielded ops a.tmps) = true
  · simp only [hw, if_true] at h
    rw [if_neg (by rw [hs]; exact Bool.false_ne_true)] at h
    obtain ⟨v, h1, h2⟩ := h
    exact ⟨v, .inl ⟨hw, h1⟩, h2⟩
  · rw [if_neg hw] at h
    exact ⟨undef, .inr ⟨by simpa using hw, rfl⟩, h⟩

theorem YR.keep {P : Program} {ops : Array Oper} {C : List Value → World → Prop} {o : Oper} {v : Value} {s : List Value} {a a' : Act} (hy : YR P ops C o v s a) (he : execOp a'.eval o = execOp a.eval o)
    (hw : Region.wanted o (yielded ops a'.tmps) = Region.wanted o (yielded ops a.tmps)) (t : List Value) : YR P ops C o v (s ++ t) a' := by
  rcases hy with ⟨h1, h4⟩ | ⟨h1, h3⟩
  · refine .inl ⟨hw.trans h1, fun s' W hW => ?_⟩
    rw [List.append_assoc] at hW ⊢
    exact (h4 (t ++ s') W hW).same he
  · exact .inr ⟨hw.trans h1, h3⟩

/-- Another operation, in the frame without what was put. -/
theorem vOp_put {P : Program} {ops : Array Oper} {S : List Nat} {C : List Value → World → Prop} {j : Nat} {oj : Oper} {s : List Value} {a b : Act} {K K' : List Value → Act → Prop} (hj : ops[j]? = some oj) (he : execOp a.eval oj = execOp b.eval oj) (hw : Region.wanted oj (yielded ops a.tmps) = Region.wanted oj (yielded ops b.tmps))
    (hh : vOp P ops S C j K s b) (hK : ∀ t u, K (s ++ t) (b.put oj.dst u) → K' (s ++ t) (a.put oj.dst u)) : vOp P ops S C j K' s a := by
  unfold vOp at *
  simp only [hj] at *
  rw [hw]
  split
  · rename_i h1
    rw [if_pos h1] at hh
    split
    · rename_i h2
      rw [if_pos h2] at hh
      exact ⟨fun W hW => (hh.1 W hW).same he, fun v hv => hK [v] v (hh.2 v hv)⟩
    · rename_i h2
      rw [if_neg h2] at hh
      obtain ⟨v, h3, h4⟩ := hh
      have := hK [] v (by simpa using h4)
      exact ⟨v, fun s' W hW => (h3 s' W hW).same he, by simpa using this⟩
  · rename_i h1
    rw [if_neg h1] at hh
    have := hK [] undef (by simpa using hh)
    simpa using this

/-- A reading operation that may come up now may be taken first. -/
theorem anyV_first {P : Program} {md : Region.Mode} {ops : Array Oper} {S : List Nat} {C : List Value → World → Prop} {Q : List Value → Act → Prop} {i : Nat} {oi : Oper} {v : Value} (hi : ops[i]? = some oi) (hsi : S.contains i = false) (hsel : ∀ (j : Nat) (o : Oper) cs b, ops[j]? = some o → o.op ≠ .select cs b) (f : Nat) :
    ∀ (listed : Array Bool) (s : List Value) (a : Act), HeadInv md ops ops.size listed →
      (∀ j oj, ops[j]? = some oj → j ≠ i → listed.getD j true = false → (∀ e ∈ oj.after, Region.binds md e = true → e.on ≠ i) → oi.apart ops oj = true) →
      i ∈ Region.ready md ops listed → YR P ops C oi v s a →
      anyV P md ops S C Q f (listed.setIfInBounds i true) s (a.put oi.dst v) → anyV P md ops S C Q (f + 1) listed s a := by
  have ne : ∀ (listed : Array Bool), i ∈ Region.ready md ops listed → Region.ready md ops listed ≠ [] := fun listed hr h => by rw [h] at hr; cases hr
  induction f with
  | zero =>
    intro listed s a _ _ hr hy H
    refine ⟨fun h0 => absurd h0 (ne _ hr), fun j hj => ?_⟩
    by_cases hji : j = i
    · subst hji; exact hy.vOp hi hsi H
    · have := ready_mono hj hji
      rw [H.1] at this
      cases this
  | succ f ih =>
    intro listed s a inv hfree hr hy H
    refine ⟨fun h0 => absurd h0 (ne _ hr), fun j hj => ?_⟩
    by_cases hji : j = i
    · subst hji; exact hy.vOp hi hsi H
    · obtain ⟨hjun, oj, hoj, hall⟩ := mem_ready.1 hj
      have hjlt : j < ops.size := (Array.getElem?_eq_some_iff.1 hoj).1
      have hnot : ∀ e ∈ oj.after, Region.binds md e = true → e.on ≠ i := fun e he hb heq => by
        have h1 := hall e he hb
        rw [heq, getD_both (mem_ready.1 hr).1] at h1
        cases h1
      obtain ⟨h1, h2, h3⟩ := Oper.apart_spec (hfree j oj hoj hji hjun hnot)
      refine vOp_put hoj (execOp_put oj (fun cs b => hsel j oj cs b hoj) a oi.dst v h1).symm (wanted_put oj a oi.dst v h1).symm (H.2 j (ready_mono hj hji)) (fun t u hn => ?_)
      refine ih (listed.setIfInBounds j true) (s ++ t) (a.put oj.dst u) (inv.set hj hjlt) (fun m om hm hmi hun hno => hfree m om hm hmi ?_ hno) (ready_mono hr (Ne.symm hji)) ?_ ?_
      · by_cases hjm : j = m
        · subst hjm; exact hjun
        · rwa [getD_set_ne true hjm] at hun
      · exact hy.keep (execOp_put oi (fun cs b => hsel i oi cs b hi) a oj.dst u h3) (wanted_put oi a oj.dst u h3) t
      · rw [Array.setIfInBounds_comm _ _ hji, ← Act.put_comm a v u h2]
        exact hn

/-- A turn that bars all others. -/
theorem anyV_turn {P : Program} {md : Region.Mode} {ops : Array Oper} {S : List Nat} {C : List Value → World → Prop} {Q : List Value → Act → Prop} {i f : Nat} {s : List Value} {listed : Array Bool} {a : Act} (hr : Region.ready md ops listed = [i])
    (h : vOp P ops S C i (anyV P md ops S C Q f (listed.setIfInBounds i true)) s a) : anyV P md ops S C Q (f + 1) listed s a := by
  refine ⟨fun h0 => (by rw [hr] at h0; cases h0), fun j hj => ?_⟩
  rw [hr] at hj
  obtain rfl : j = i := by simpa using hj
  exact h

/-- The walk, in the order of the text. -/
def wpBarv (P : Program) (ops : Array Oper) (S : List Nat) (C : List Value → World → Prop) (Q : List Value → Act → Prop) : List Oper → Nat → List Value → Act → Prop
  | [], _, s, a => Q s a
  | o :: rest, p, s, a =>
    if Region.wanted o (yielded ops a.tmps) then
      (if S.contains p then (∀ W, C s W → YV P o a (fun v => C (s ++ [v])) W) ∧ (∀ v, (∃ W', C (s ++ [v]) W') → wpBarv P ops S C Q rest (p + 1) (s ++ [v]) (a.put o.dst v)) else ∃ v, (∀ s' W, C (s ++ s') W → YS P o a (C (s ++ s')) W v) ∧ wpBarv P ops S C Q rest (p + 1) s (a.put o.dst v))
    else wpBarv P ops S C Q rest (p + 1) s (a.put o.dst undef)

theorem barv_nil {P : Program} {ops : Array Oper} {S : List Nat} {C : List Value → World → Prop} {Q : List Value → Act → Prop} {p : Nat} {s : List Value} {a : Act} (h : Q s a) : wpBarv P ops S C Q [] p s a := h
/-- What only reads. -/
theorem barv_read {P : Program} {ops : Array Oper} {S : List Nat} {C : List Value → World → Prop} {Q : List Value → Act → Prop} {o : Oper} {rest : List Oper} {p : Nat} {s : List Value} {a : Act} (hw : Region.wanted o (yielded ops a.tmps) = true) (hs : S.contains p = false)
    (h : ∃ v, (∀ s' W, C (s ++ s') W → YS P o a (C (s ++ s')) W v) ∧ ∀ K : Act → Prop, (∀ a, wpBarv P ops S C Q rest (p + 1) s a → K a) → K (a.put o.dst v)) : wpBarv P ops S C Q (o :: rest) p s a := by
  obtain ⟨v, h1, h2⟩ := h
  unfold wpBarv
  rw [if_pos hw, if_neg (by rw [hs]; exact Bool.false_ne_true)]
  exact ⟨v, h1, h2 _ (fun _ h => h)⟩
/-- What turns the world. -/
theorem barv_turn {P : Program} {ops : Array Oper} {S : List Nat} {C : List Value → World → Prop} {Q : List Value → Act → Prop} {o : Oper} {rest : List Oper} {p : Nat} {s : List Value} {a : Act} (hw : Region.wanted o (yielded ops a.tmps) = true) (hs : S.contains p = true)
    (h1 : ∀ W, C s W → YV P o a (fun v => C (s ++ [v])) W) (h2 : ∀ v, (∃ W', C (s ++ [v]) W') → ∀ K : Act → Prop, (∀ a, wpBarv P ops S C Q rest (p + 1) (s ++ [v]) a → K a) → K (a.put o.dst v)) : wpBarv P ops S C Q (o :: rest) p s a := by
  unfold wpBarv
  rw [if_pos hw, if_pos hs]
  exact ⟨h1, fun v hv => h2 v hv _ (fun _ h => h)⟩
/-- What is not wanted. -/
theorem barv_skip {P : Program} {ops : Array Oper} {S : List Nat} {C : List Value → World → Prop} {Q : List Value → Act → Prop} {o : Oper} {rest : List Oper} {p : Nat} {s : List Value} {a : Act} (hw : Region.wanted o (yielded ops a.tmps) = false)
    (h : ∀ K : Act → Prop, (∀ a, wpBarv P ops S C Q rest (p + 1) s a → K a) → K (a.put o.dst undef)) : wpBarv P ops S C Q (o :: rest) p s a := by
  unfold wpBarv
  rw [if_neg (by rw [hw]; exact Bool.false_ne_true)]
  exact h _ (fun _ h => h)

theorem anyV_lex {P : Program} {md : Region.Mode} {ops : Array Oper} {S : List Nat} {C : List Value → World → Prop} {Q : List Value → Act → Prop} (hsel : Region.noSelect ops = true) (l : List Oper) :
    ∀ (p : Nat) (listed : Array Bool) (s : List Value) (a : Act), (∀ j, l[j]? = ops[p + j]?) → HeadInv md ops ops.size listed → Region.lexFrom md ops l.length p listed = true → barFrom md ops S l.length p listed = true → wpBarv P ops S C Q l p s a → anyV P md ops S C Q l.length listed s a := by
  induction l with
  | nil => intro p listed s a _ _ hB _ h; exact ⟨by simpa [Region.lexFrom] using hB, h⟩
  | cons o l ih =>
    intro p listed s a hl inv hB hF h
    have h0 : ops[p]? = some o := by simpa using (hl 0).symm
    simp only [List.length_cons, Region.lexFrom, Bool.and_eq_true] at hB
    have hr : p ∈ Region.ready md ops listed := by simpa using hB.1.1
    have hst : vOp P ops S C p (fun s a => wpBarv P ops S C Q l (p + 1) s a) s a := by unfold vOp; simp only [h0]; exact h
    simp only [List.length_cons, barFrom, Bool.and_eq_true, Bool.or_eq_true, Bool.not_eq_true'] at hF
    have hl' : ∀ j, l[j]? = ops[p + 1 + j]? := fun j => by
      have := hl (j + 1)
      simpa [Nat.add_assoc, Nat.add_comm 1 j] using this
    have inv' := inv.set hr (Array.getElem?_eq_some_iff.1 h0).1
    by_cases hs : S.contains p = true
    · have hrd : Region.ready md ops listed = [p] := by
        rcases hF.1 with h1 | h1
        · rw [hs] at h1; cases h1
        · simpa using h1
      exact anyV_turn hrd (vOp_mono (fun s' a' h' => ih (p + 1) _ s' a' hl' inv' hB.2 hF.2 h') hst)
    · have hsf : S.contains p = false := by simpa using hs
      obtain ⟨v, hy, hK⟩ := yr_of_vOp h0 hsf hst
      exact anyV_first h0 hsf (Region.noSelect_spec hsel) l.length listed s a inv (Region.free_spec h0 hB.1.2) hr hy (ih (p + 1) _ _ _ hl' inv' hB.2 hF.2 hK)

theorem wp_region_barv {P : Program} {id : Nat} {Q : Exit → Act → World → Prop} {a : Act} {w : World} {l : List Oper} (S : List Nat) (C : List Value → World → Prop) (hm : P.follows .mixedOrders = true) (hB : Region.lexB .any l.toArray = true) (hS : barFrom .any l.toArray S l.length 0 (Array.replicate l.toArray.size false) = true) (hC : C [] w.drew)
    (h : wpBarv P l.toArray S C (fun s a' => ∀ w', C s w' → Q .normal a' w') l 0 [] a) : (Code.region id l.toArray true).wp P Q a w := by
  simp only [Region.lexB, Bool.and_eq_true] at hB
  have inv0 : HeadInv .any l.toArray l.toArray.size (Array.replicate l.toArray.size false) :=
    ⟨by simp, fun j oj _ hl => (by rw [getD_replicate_false] at hl; cases hl), fun t h1 h2 => by omega⟩
  have H := anyV_lex (md := .any) hB.1 l 0 _ [] a (by simp) inv0 (by simpa using hB.2) hS h
  refine wp_region_any hm (wpAny_of_anyV (S := S) (Q := fun s a' => ∀ w', C s w' → Q .normal a' w') (fun s a w' hw' h => h w' hw') _ _ [] _ _ hC ?_)
  simpa using H
end Go.Proofs.Ytececlalnkiafaa
