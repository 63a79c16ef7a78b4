import Derived.Test.YtkcmpipipelgoaaOrdv
/- As Barv, but one operation (an alloc) FLOATS: it may come up at any time, whatever turns have come; what it yields is a variable too. -/
namespace Go.Proofs.Ytkcmpipipelgoaa
open Go

def Later (p p' : Option Value) : Prop := p = none ∨ p' = p
theorem Later.refl (p : Option Value) : Later p p := Or.inr rfl
theorem Later.some {p : Option Value} {v : Value} (h : Later (some v) p) : p = some v := h.elim (fun h => by cases h) id

/-- One operation at place i. -/
def fOp (P : Program) (ops : Array Oper) (S : List Nat) (f0 : Nat) (C : List Value → Option Value → World → Prop) (i : Nat) (K : List Value → Option Value → Act → Prop) (s : List Value) (p : Option Value) (a : Act) : Prop :=
  match ops[i]? with
  | none => K s p a
  | some o =>
    if Region.wanted o (yielded ops a.tmps) then
      (if S.contains i then (∀ p', Later p p' → ∀ W, C s p' W → YV P o a (fun v => C (s ++ [v]) p') W) ∧ (∀ v, (∃ p' W', Later p p' ∧ C (s ++ [v]) p' W') → K (s ++ [v]) p (a.put o.dst v))
       else if i = f0 then (∀ W, C s p W → YV P o a (fun v => C s (some v)) W) ∧ (∀ v, (∃ s' W', C (s ++ s') (some v) W') → K s (some v) (a.put o.dst v))
       else ∃ v, (∀ s' p' W, Later p p' → C (s ++ s') p' W → YS P o a (C (s ++ s') p') W v) ∧ K s p (a.put o.dst v))
    else K s p (a.put o.dst undef)

/-- Whatever order is picked from here on. -/
def anyF (P : Program) (md : Region.Mode) (ops : Array Oper) (S : List Nat) (f0 : Nat) (C : List Value → Option Value → World → Prop) (Q : List Value → Option Value → Act → Prop) : Nat → Array Bool → List Value → Option Value → Act → Prop
  | 0, listed, s, p, a => Region.ready md ops listed = [] ∧ Q s p a
  | f + 1, listed, s, p, a => (Region.ready md ops listed = [] → Q s p a) ∧ ∀ i ∈ Region.ready md ops listed, fOp P ops S f0 C i (anyF P md ops S f0 C Q f (listed.setIfInBounds i true)) s p a

theorem wpOp_of_fOp {P : Program} {ops : Array Oper} {S : List Nat} {f0 : Nat} {C : List Value → Option Value → World → Prop} {i : Nat} {s : List Value} {p : Option Value} {K : List Value → Option Value → Act → Prop} {K' : Act → World → Prop} {Q' : Exit → Act → World → Prop} {a : Act} {w : World} (hC : C s p w) (h : ∀ s p a w', C s p w' → K s p a → K' a w') (hh : fOp P ops S f0 C i K s p a) : wpOp P ops Q' i K' a w := by
  unfold fOp at hh
  unfold wpOp
  split
  · rename_i ho; simp only [ho] at hh; exact h _ _ _ _ hC hh
  · rename_i o ho
    simp only [ho] at hh
    split
    · rename_i hw
      simp only [hw, if_true] at hh
      left
      split at hh
      · obtain ⟨h1, h2⟩ := hh
        exact h1 p (Later.refl p) w hC a K' Q' (fun v W' hW' => h _ _ _ _ hW' (h2 v ⟨p, W', Later.refl p, hW'⟩))
      · split at hh
        · obtain ⟨h1, h2⟩ := hh
          exact h1 w hC a K' Q' (fun v W' hW' => h _ _ _ _ hW' (h2 v ⟨[], W', by simpa using hW'⟩))
        · obtain ⟨v, h1, h2⟩ := hh
          have h1' := h1 [] p w (Later.refl p) (by simpa using hC) a K' Q'
          exact h1' (fun W' hW' => h _ _ _ _ (by simpa using hW') h2)
    · rename_i hw; rw [if_neg hw] at hh; exact h _ _ _ _ hC hh

theorem wpAny_of_anyF {P : Program} {md : Region.Mode} {ops : Array Oper} {S : List Nat} {f0 : Nat} {C : List Value → Option Value → World → Prop} {Q : List Value → Option Value → Act → Prop} {Q' : Exit → Act → World → Prop} (hQ : ∀ s p a w, C s p w → Q s p a → Q' .normal a w) (f : Nat) :
    ∀ (listed : Array Bool) (s : List Value) (p : Option Value) (a : Act) (w : World), C s p w → anyF P md ops S f0 C Q f listed s p a → wpAny P md ops Q' f listed a w := by
  induction f with
  | zero => intro listed s p a w hw h; exact ⟨h.1, hQ _ _ _ _ hw h.2⟩
  | succ f ih => intro listed s p a w hw h; exact ⟨fun h0 => hQ _ _ _ _ hw (h.1 h0), fun i hi => wpOp_of_fOp hw (fun s' p' a' w' hw' h' => ih _ s' p' a' w' hw' h') (h.2 i hi)⟩

/-- What a reading operation does in frame a from stage s, p on. -/
def YQ (P : Program) (ops : Array Oper) (C : List Value → Option Value → World → Prop) (o : Oper) (v : Value) (s : List Value) (p : Option Value) (a : Act) : Prop :=
  (Region.wanted o (yielded ops a.tmps) = true ∧ ∀ s' p' W, Later p p' → C (s ++ s') p' W → YS P o a (C (s ++ s') p') W v) ∨
  (Region.wanted o (yielded ops a.tmps) = false ∧ v = undef)
theorem YQ.fOp {P : Program} {ops : Array Oper} {S : List Nat} {f0 : Nat} {C : List Value → Option Value → World → Prop} {i : Nat} {o : Oper} {v : Value} {s : List Value} {p : Option Value} {a : Act} (hi : ops[i]? = some o) (hs : S.contains i = false) (hf : i ≠ f0) (hy : YQ P ops C o v s p a) {K : List Value → Option Value → Act → Prop} (h : K s p (a.put o.dst v)) : fOp P ops S f0 C i K s p a := by
  unfold Go.Proofs.Ytkcmpipipelgoaa.fOp
  simp only [hi]
  rcases hy with ⟨hw, hv⟩ | ⟨hw, rfl⟩
  · simp only [hw, hs, hf, if_true, Bool.false_eq_true, if_false]; exact ⟨v, hv, h⟩
  · simp only [hw, Bool.false_eq_true, if_false]; exact h
theorem yq_of_fOp {P : Program} {ops : Array Oper} {S : List Nat} {f0 : Nat} {C : List Value → Option Value → World → Prop} {i : Nat} {o : Oper} {s : List Value} {p : Option Value} {a : Act} {K : List Value → Option Value → Act → Prop} (hi : ops[i]? = some o) (hs : S.contains i = false) (hf : i ≠ f0) (h : fOp P ops S f0 C i K s p a) : ∃ v, YQ P ops C o v s p a ∧ K s p (a.put o.dst v) := by
  unfold fOp at h
  simp only [hi] at h
  by_cases hw : Region.wanted o (yielded ops a.tmps) = true
  · simp only [hw, if_true] at h
    rw [if_neg (by rw [hs]; exact Bool.false_ne_true), if_neg hf] at h
    obtain ⟨v, h1, h2⟩ := h
    exact ⟨v, .inl ⟨hw, h1⟩, h2⟩
  · rw [if_neg hw] at h
    exact ⟨undef, .inr ⟨by simpa using hw, rfl⟩, h⟩
theorem YQ.keep {P : Program} {ops : Array Oper} {C : List Value → Option Value → World → Prop} {o : Oper} {v : Value} {s : List Value} {p : Option Value} {a a' : Act} (hy : YQ P ops C o v s p a) (he : execOp a'.eval o = execOp a.eval o)
    (hw : Region.wanted o (yielded ops a'.tmps) = Region.wanted o (yielded ops a.tmps)) (t : List Value) {p' : Option Value} (hp : Later p p') : YQ P ops C o v (s ++ t) p' a' := by
  rcases hy with ⟨h1, h4⟩ | ⟨h1, h3⟩
  · refine .inl ⟨hw.trans h1, fun s' p'' W hl hW => ?_⟩
    rw [List.append_assoc] at hW ⊢
    refine (h4 (t ++ s') p'' W ?_ hW).same he
    rcases hp with hp | hp
    · exact Or.inl hp
    · rw [hp] at hl; exact hl
  · exact .inr ⟨hw.trans h1, h3⟩

/-- Another operation, in the frame without what was put. -/
theorem fOp_put {P : Program} {ops : Array Oper} {S : List Nat} {f0 : Nat} {C : List Value → Option Value → World → Prop} {j : Nat} {oj : Oper} {s : List Value} {p : Option Value} {a b : Act} {K K' : List Value → Option Value → Act → Prop} (hj : ops[j]? = some oj) (he : execOp a.eval oj = execOp b.eval oj) (hw : Region.wanted oj (yielded ops a.tmps) = Region.wanted oj (yielded ops b.tmps)) (hp0 : j = f0 → p = none)
    (hh : fOp P ops S f0 C j K s p b) (hK : ∀ t p' u, Later p p' → (j ≠ f0 → p' = p) → K (s ++ t) p' (b.put oj.dst u) → K' (s ++ t) p' (a.put oj.dst u)) : fOp P ops S f0 C j K' s p a := by
  unfold fOp at *
  simp only [hj] at *
  rw [hw]
  split
  · rename_i h1
    rw [if_pos h1] at hh
    split
    · rename_i h2
      rw [if_pos h2] at hh
      exact ⟨fun p' hl W hW => (hh.1 p' hl W hW).same he, fun v hv => hK [v] p v (Later.refl p) (fun _ => rfl) (hh.2 v hv)⟩
    · rename_i h2
      rw [if_neg h2] at hh
      split
      · rename_i h3
        rw [if_pos h3] at hh
        refine ⟨fun W hW => (hh.1 W hW).same he, fun v hv => ?_⟩
        have := hK [] (some v) v (Or.inl (hp0 h3)) (fun h => absurd h3 h) (by simpa using hh.2 v hv)
        simpa using this
      · rename_i h3
        rw [if_neg h3] at hh
        obtain ⟨v, h3, h4⟩ := hh
        have := hK [] p v (Later.refl p) (fun _ => rfl) (by simpa using h4)
        exact ⟨v, fun s' p' W hl hW => (h3 s' p' W hl hW).same he, by simpa using this⟩
  · rename_i h1
    rw [if_neg h1] at hh
    have := hK [] p undef (Later.refl p) (fun _ => rfl) (by simpa using hh)
    simpa using this

/-- A reading operation that may come up now may be taken first. -/
theorem anyF_first {P : Program} {md : Region.Mode} {ops : Array Oper} {S : List Nat} {f0 : Nat} {C : List Value → Option Value → World → Prop} {Q : List Value → Option Value → Act → Prop} {i : Nat} {oi : Oper} {v : Value} (hi : ops[i]? = some oi) (hsi : S.contains i = false) (hfi : i ≠ f0) (hsel : ∀ (j : Nat) (o : Oper) cs b, ops[j]? = some o → o.op ≠ .select cs b) (f : Nat) :
    ∀ (listed : Array Bool) (s : List Value) (p : Option Value) (a : Act), HeadInv md ops ops.size listed →
      (∀ j oj, ops[j]? = some oj → j ≠ i → listed.getD j true = false → (∀ e ∈ oj.after, Region.binds md e = true → e.on ≠ i) → oi.apart ops oj = true) →
      i ∈ Region.ready md ops listed → (listed.getD f0 true = false → p = none) → YQ P ops C oi v s p a →
      anyF P md ops S f0 C Q f (listed.setIfInBounds i true) s p (a.put oi.dst v) → anyF P md ops S f0 C Q (f + 1) listed s p a := by
  have ne : ∀ (listed : Array Bool), i ∈ Region.ready md ops listed → Region.ready md ops listed ≠ [] := fun listed hr h => by rw [h] at hr; cases hr
  induction f with
  | zero =>
    intro listed s p a _ _ hr _ hy H
    refine ⟨fun h0 => absurd h0 (ne _ hr), fun j hj => ?_⟩
    by_cases hji : j = i
    · subst hji; exact hy.fOp hi hsi hfi H
    · have := ready_mono hj hji
      rw [H.1] at this
      cases this
  | succ f ih =>
    intro listed s p a inv hfree hr hpl hy H
    refine ⟨fun h0 => absurd h0 (ne _ hr), fun j hj => ?_⟩
    by_cases hji : j = i
    · subst hji; exact hy.fOp hi hsi hfi H
    · obtain ⟨hjun, oj, hoj, hall⟩ := mem_ready.1 hj
      have hjlt : j < ops.size := (Array.getElem?_eq_some_iff.1 hoj).1
      have hnot : ∀ e ∈ oj.after, Region.binds md e = true → e.on ≠ i := fun e he hb heq => by
        have h1 := hall e he hb
        rw [heq, getD_both (mem_ready.1 hr).1] at h1
        cases h1
      obtain ⟨h1, h2, h3⟩ := Oper.apart_spec (hfree j oj hoj hji hjun hnot)
      refine fOp_put hoj (execOp_put oj (fun cs b => hsel j oj cs b hoj) a oi.dst v h1).symm (wanted_put oj a oi.dst v h1).symm (fun e => hpl (e ▸ hjun)) (H.2 j (ready_mono hj hji)) (fun t p' u hl hp' hn => ?_)
      refine ih (listed.setIfInBounds j true) (s ++ t) p' (a.put oj.dst u) (inv.set hj hjlt) (fun m om hm hmi hun hno => hfree m om hm hmi ?_ hno) (ready_mono hr (Ne.symm hji)) (fun hun => ?_) ?_ ?_
      · by_cases hjm : j = m
        · subst hjm; exact hjun
        · rwa [getD_set_ne true hjm] at hun
      · by_cases hjf : j = f0
        · subst hjf
          have hin : j < listed.size := by
            have hz := hjun
            unfold Array.getD at hz
            split at hz
            · assumption
            · cases hz
          simp [Array.getD, hin] at hun
        · rw [getD_set_ne true hjf] at hun
          rw [hp' hjf]; exact hpl hun
      · exact hy.keep (execOp_put oi (fun cs b => hsel i oi cs b hi) a oj.dst u h3) (wanted_put oi a oj.dst u h3) t hl
      · rw [Array.setIfInBounds_comm _ _ hji, ← Act.put_comm a v u h2]
        exact hn

/-- Nothing else may come up. -/
theorem anyF_only {P : Program} {md : Region.Mode} {ops : Array Oper} {S : List Nat} {f0 : Nat} {C : List Value → Option Value → World → Prop} {Q : List Value → Option Value → Act → Prop} {i f : Nat} {s : List Value} {p : Option Value} {listed : Array Bool} {a : Act} (hr : Region.ready md ops listed = [i])
    (h : fOp P ops S f0 C i (anyF P md ops S f0 C Q f (listed.setIfInBounds i true)) s p a) : anyF P md ops S f0 C Q (f + 1) listed s p a := by
  refine ⟨fun h0 => (by rw [hr] at h0; cases h0), fun j hj => ?_⟩
  rw [hr] at hj
  obtain rfl : j = i := by simpa using hj
  exact h

theorem anyF_only' {P : Program} {md : Region.Mode} {ops : Array Oper} {S : List Nat} {f0 : Nat} {C : List Value → Option Value → World → Prop} {Q : List Value → Option Value → Act → Prop} {i f : Nat} {s : List Value} {p : Option Value} {listed : Array Bool} {a : Act} (hir : i ∈ Region.ready md ops listed) (hr : ∀ j ∈ Region.ready md ops listed, j = i)
    (h : fOp P ops S f0 C i (anyF P md ops S f0 C Q f (listed.setIfInBounds i true)) s p a) : anyF P md ops S f0 C Q (f + 1) listed s p a := by
  refine ⟨fun h0 => (by rw [h0] at hir; cases hir), fun j hj => ?_⟩
  obtain rfl := hr j hj
  exact h
/-- A turn that bars all others but the one that floats. -/
theorem anyF_turn {P : Program} {md : Region.Mode} {ops : Array Oper} {S : List Nat} {f0 : Nat} {C : List Value → Option Value → World → Prop} {Q : List Value → Option Value → Act → Prop} {i f : Nat} {oi of : Oper} {s : List Value} {p : Option Value} {listed : Array Bool} {a : Act} (hi : ops[i]? = some oi) (hof : ops[f0]? = some of) (hgd : of.guard = none) (hS : S.contains i = true) (hSf : S.contains f0 = false) (hif : i ≠ f0) (hsel : ∀ (j : Nat) (o : Oper) cs b, ops[j]? = some o → o.op ≠ .select cs b)
    (HF : ∀ s a W, C s none W → YV P of a (fun v => C s (some v)) W) (hap : oi.apart ops of = true) (hir : i ∈ Region.ready md ops listed)
    (hr : ∀ j ∈ Region.ready md ops listed, j = i ∨ j = f0) (hr2 : f0 ∈ Region.ready md ops listed → Region.ready md ops (listed.setIfInBounds f0 true) = [i]) (hpl : listed.getD f0 true = false → p = none)
    (h : fOp P ops S f0 C i (anyF P md ops S f0 C Q (f + 1) (listed.setIfInBounds i true)) s p a) : anyF P md ops S f0 C Q (f + 1 + 1) listed s p a := by
  refine ⟨fun h0 => (by rw [h0] at hir; cases hir), fun j hj => ?_⟩
  rcases hr j hj with rfl | rfl
  · exact h
  · have hp : p = none := hpl (mem_ready.1 hj).1
    subst hp
    obtain ⟨h1, h2, h3⟩ := Oper.apart_spec hap
    have hwf : ∀ a' : Act, Region.wanted of (yielded ops a'.tmps) = true := fun a' => by simp [Region.wanted, hgd]
    have hjr : j ∈ Region.ready md ops (listed.setIfInBounds i true) := ready_mono hj (Ne.symm hif)
    unfold fOp
    simp only [hof, hwf, if_true, hSf, Bool.false_eq_true, if_false]
    refine ⟨fun W hW => HF s a W hW, fun v hv => ?_⟩
    refine anyF_only (hr2 hj) ?_
    have key : ∀ s' u (a0 : Act), (∃ t W', C (s' ++ t) (some v) W') → anyF P md ops S j C Q (f + 1) (listed.setIfInBounds i true) s' none (a0.put oi.dst u) → anyF P md ops S j C Q f ((listed.setIfInBounds j true).setIfInBounds i true) s' (some v) ((a0.put of.dst v).put oi.dst u) := fun s' u a0 hg hA => by
      have hB := hA.2 j hjr
      unfold fOp at hB
      simp only [hof, hwf, if_true, hSf, Bool.false_eq_true, if_false] at hB
      have hD := hB.2 v hg
      rw [Array.setIfInBounds_comm _ _ (Ne.symm hif), ← Act.put_comm a0 u v h2]
      exact hD
    unfold fOp at h ⊢
    simp only [hi] at h ⊢
    have hwi : Region.wanted oi (yielded ops (a.put of.dst v).tmps) = Region.wanted oi (yielded ops a.tmps) := wanted_put oi a of.dst v h3
    have hei : execOp (a.put of.dst v).eval oi = execOp a.eval oi := execOp_put oi (fun cs b => hsel i oi cs b hi) a of.dst v h3
    rw [hwi]
    by_cases hw : Region.wanted oi (yielded ops a.tmps) = true
    · rw [if_pos hw, if_pos hS] at h
      rw [if_pos hw, if_pos hS]
      refine ⟨fun p' _ W hW => (h.1 p' (Or.inl rfl) W hW).same hei, fun u ⟨p', W', hl, hW'⟩ => ?_⟩
      have hp' := hl.some
      subst hp'
      exact key (s ++ [u]) u a ⟨[], W', by simpa using hW'⟩ (h.2 u ⟨_, W', Or.inl rfl, hW'⟩)
    · rw [if_neg hw] at h
      rw [if_neg hw]
      exact key s undef a hv h

def floFrom (md : Region.Mode) (ops : Array Oper) (S : List Nat) (f0 : Nat) : Nat → Nat → Array Bool → Bool
  | 0, _, _ => true
  | f + 1, p, listed => (if S.contains p then ((Region.ready md ops listed).all (fun j => j == p || j == f0) && (Region.ready md ops (listed.setIfInBounds f0 true) == [p]) && (1 ≤ f || Region.ready md ops listed == [p])) else if p = f0 then Region.ready md ops listed == [p] else true) && floFrom md ops S f0 f (p + 1) (listed.setIfInBounds p true)

/-- The walk, in the order of the text. -/
def wpFlo (P : Program) (ops : Array Oper) (S : List Nat) (f0 : Nat) (C : List Value → Option Value → World → Prop) (Q : List Value → Option Value → Act → Prop) : List Oper → Nat → List Value → Option Value → Act → Prop
  | [], _, s, p, a => Q s p a
  | o :: rest, i, s, p, a =>
    if Region.wanted o (yielded ops a.tmps) then
      (if S.contains i then (∀ p', Later p p' → ∀ W, C s p' W → YV P o a (fun v => C (s ++ [v]) p') W) ∧ (∀ v, (∃ p' W', Later p p' ∧ C (s ++ [v]) p' W') → wpFlo P ops S f0 C Q rest (i + 1) (s ++ [v]) p (a.put o.dst v))
       else if i = f0 then (∀ W, C s p W → YV P o a (fun v => C s (some v)) W) ∧ (∀ v, (∃ s' W', C (s ++ s') (some v) W') → wpFlo P ops S f0 C Q rest (i + 1) s (some v) (a.put o.dst v))
       else ∃ v, (∀ s' p' W, Later p p' → C (s ++ s') p' W → YS P o a (C (s ++ s') p') W v) ∧ wpFlo P ops S f0 C Q rest (i + 1) s p (a.put o.dst v))
    else wpFlo P ops S f0 C Q rest (i + 1) s p (a.put o.dst undef)
theorem fOp_mono {P : Program} {ops : Array Oper} {S : List Nat} {f0 : Nat} {C : List Value → Option Value → World → Prop} {i : Nat} {K K' : List Value → Option Value → Act → Prop} {s : List Value} {p : Option Value} {a : Act} (h : ∀ s' p' a, (i ≠ f0 → p' = p) → K s' p' a → K' s' p' a) (hh : fOp P ops S f0 C i K s p a) : fOp P ops S f0 C i K' s p a := by
  unfold fOp at *
  split
  · rename_i ho; simp only [ho] at hh; exact h _ _ _ (fun _ => rfl) hh
  · rename_i o ho
    simp only [ho] at hh
    by_cases hw : Region.wanted o (yielded ops a.tmps) = true
    · rw [if_pos hw] at hh ⊢
      by_cases hs : S.contains i = true
      · rw [if_pos hs] at hh ⊢
        exact ⟨hh.1, fun v hv => h _ _ _ (fun _ => rfl) (hh.2 v hv)⟩
      · rw [if_neg hs] at hh ⊢
        by_cases hf : i = f0
        · rw [if_pos hf] at hh ⊢
          exact ⟨hh.1, fun v hv => h _ _ _ (fun e => absurd hf e) (hh.2 v hv)⟩
        · rw [if_neg hf] at hh ⊢
          obtain ⟨v, h1, h2⟩ := hh
          exact ⟨v, h1, h _ _ _ (fun _ => rfl) h2⟩
    · rw [if_neg hw] at hh ⊢
      exact h _ _ _ (fun _ => rfl) hh

theorem anyF_lex {P : Program} {md : Region.Mode} {ops : Array Oper} {S : List Nat} {f0 : Nat} {of : Oper} {C : List Value → Option Value → World → Prop} {Q : List Value → Option Value → Act → Prop} (hsel : Region.noSelect ops = true) (hof : ops[f0]? = some of) (hgd : of.guard = none) (hSf : S.contains f0 = false) (HF : ∀ s a W, C s none W → YV P of a (fun v => C s (some v)) W) (hdep : ∀ i ∈ S, Region.waitsFor md ops f0 i = false) (l : List Oper) :
    ∀ (i : Nat) (listed : Array Bool) (s : List Value) (p : Option Value) (a : Act), (∀ j, l[j]? = ops[i + j]?) → HeadInv md ops ops.size listed → Region.lexFrom md ops l.length i listed = true → floFrom md ops S f0 l.length i listed = true → (listed.getD f0 true = false → p = none) → wpFlo P ops S f0 C Q l i s p a → anyF P md ops S f0 C Q l.length listed s p a := by
  induction l with
  | nil => intro i listed s p a _ _ hB _ _ h; exact ⟨by simpa [Region.lexFrom] using hB, h⟩
  | cons o l ih =>
    intro i listed s p a hl inv hB hF hpl h
    have h0 : ops[i]? = some o := by simpa using (hl 0).symm
    simp only [List.length_cons, Region.lexFrom, Bool.and_eq_true] at hB
    have hr : i ∈ Region.ready md ops listed := by simpa using hB.1.1
    have hst : fOp P ops S f0 C i (fun s p a => wpFlo P ops S f0 C Q l (i + 1) s p a) s p a := by unfold fOp; simp only [h0]; exact h
    simp only [List.length_cons, floFrom, Bool.and_eq_true] at hF
    have hl' : ∀ j, l[j]? = ops[i + 1 + j]? := fun j => by
      have := hl (j + 1)
      simpa [Nat.add_assoc, Nat.add_comm 1 j] using this
    have inv' := inv.set hr (Array.getElem?_eq_some_iff.1 h0).1
    have hun : listed.getD i true = false := (mem_ready.1 hr).1
    have hin : i < listed.size := by
      have hz := hun
      unfold Array.getD at hz
      split at hz
      · assumption
      · cases hz
    have hpl' : ∀ p', (i ≠ f0 → p' = p) → ((listed.setIfInBounds i true).getD f0 true = false → p' = none) := fun p' e hu => by
      by_cases hif : i = f0
      · subst hif
        simp [Array.getD, hin] at hu
      · rw [getD_set_ne true hif] at hu
        rw [e hif]; exact hpl hu
    by_cases hs : S.contains i = true
    · rw [if_pos hs] at hF
      simp only [Bool.and_eq_true, List.all_eq_true, Bool.or_eq_true, beq_iff_eq, decide_eq_true_eq] at hF
      obtain ⟨⟨⟨hF1, hF2⟩, hF3⟩, hF4⟩ := hF
      have hif : i ≠ f0 := fun e => by rw [e, hSf] at hs; cases hs
      have hK := fOp_mono (K' := anyF P md ops S f0 C Q l.length (listed.setIfInBounds i true)) (fun s' p' a' e h' => ih (i + 1) _ s' p' a' hl' inv' hB.2 hF4 (hpl' p' e) h') hst
      rcases hF3 with hF3 | hF3
      · obtain ⟨f, hf⟩ : ∃ f, l.length = f + 1 := ⟨l.length - 1, by omega⟩
        show anyF P md ops S f0 C Q (l.length + 1) listed s p a
        rw [hf] at hK ⊢
        by_cases hfr : f0 ∈ Region.ready md ops listed
        · have hap : o.apart ops of = true := Region.free_spec h0 hB.1.2 f0 of hof (Ne.symm hif) (mem_ready.1 hfr).1 (fun e he hb heq => by
            have hw := hdep i (by simpa using hs)
            have : Region.waitsFor md ops f0 i = true := by
              unfold Region.waitsFor
              simp only [hof]
              exact Array.any_eq_true'.2 ⟨e, by simpa using he, by simp [hb, heq]⟩
            rw [this] at hw; cases hw)
          exact anyF_turn h0 hof hgd hs hSf hif (Region.noSelect_spec hsel) HF hap hr (fun j hj => hF1 j hj) (fun _ => hF2) hpl hK
        · refine anyF_only' hr (fun j hj => ?_) hK
          rcases hF1 j hj with e | e
          · exact e
          · exact absurd (e ▸ hj) hfr
      · exact anyF_only hF3 hK
    · have hsf : S.contains i = false := by simpa using hs
      rw [if_neg hs] at hF
      by_cases hif : i = f0
      · rw [if_pos hif] at hF
        exact anyF_only (by simpa using hF.1) (fOp_mono (fun s' p' a' e h' => ih (i + 1) _ s' p' a' hl' inv' hB.2 hF.2 (hpl' p' e) h') hst)
      · rw [if_neg hif] at hF
        obtain ⟨v, hy, hK⟩ := yq_of_fOp h0 hsf hif hst
        exact anyF_first h0 hsf hif (Region.noSelect_spec hsel) l.length listed s p a inv (Region.free_spec h0 hB.1.2) hr hpl hy (ih (i + 1) _ _ _ _ hl' inv' hB.2 hF.2 (hpl' p (fun _ => rfl)) hK)

theorem wp_region_flo {P : Program} {id : Nat} {Q : Exit → Act → World → Prop} {a : Act} {w : World} {l : List Oper} (S : List Nat) (f0 : Nat) (of : Oper) (C : List Value → Option Value → World → Prop) (hm : P.follows .mixedOrders = true) (hB : Region.lexB .any l.toArray = true) (hS : floFrom .any l.toArray S f0 l.length 0 (Array.replicate l.toArray.size false) = true) (hof : l.toArray[f0]? = some of) (hgd : of.guard = none) (hSf : S.contains f0 = false) (hdep : S.all (fun i => !Region.waitsFor .any l.toArray f0 i) = true)
    (HF : ∀ s a W, C s none W → YV P of a (fun v => C s (some v)) W) (hC : C [] none w.drew)
    (h : wpFlo P l.toArray S f0 C (fun s p a' => ∀ w', C s p w' → Q .normal a' w') l 0 [] none a) : (Code.region id l.toArray true).wp P Q a w := by
  simp only [Region.lexB, Bool.and_eq_true] at hB
  have inv0 : HeadInv .any l.toArray l.toArray.size (Array.replicate l.toArray.size false) :=
    ⟨by simp, fun j oj _ hl => (by rw [getD_replicate_false] at hl; cases hl), fun t h1 h2 => by omega⟩
  have H := anyF_lex (md := .any) hB.1 hof hgd hSf HF (fun i hi => by have := List.all_eq_true.1 hdep i hi; simpa using this) l 0 _ [] none a (by simp) inv0 (by simpa using hB.2) hS (fun _ => rfl) h
  refine wp_region_any hm (wpAny_of_anyF (S := S) (f0 := f0) (Q := fun s p a' => ∀ w', C s p w' → Q .normal a' w') (fun s p a w' hw' h => h w' hw') _ _ [] none _ _ hC ?_)
  simpa using H

theorem flo_nil {P : Program} {ops : Array Oper} {S : List Nat} {f0 : Nat} {C : List Value → Option Value → World → Prop} {Q : List Value → Option Value → Act → Prop} {i : Nat} {s : List Value} {p : Option Value} {a : Act} (h : Q s p a) : wpFlo P ops S f0 C Q [] i s p a := h
/-- What only reads. -/
theorem flo_read {P : Program} {ops : Array Oper} {S : List Nat} {f0 : Nat} {C : List Value → Option Value → World → Prop} {Q : List Value → Option Value → Act → Prop} {o : Oper} {rest : List Oper} {i : Nat} {s : List Value} {p : Option Value} {a : Act} (hw : Region.wanted o (yielded ops a.tmps) = true) (hs : S.contains i = false) (hf : (i == f0) = false)
    (h : ∃ v, (∀ s' p' W, Later p p' → C (s ++ s') p' W → YS P o a (C (s ++ s') p') W v) ∧ ∀ K : Act → Prop, (∀ a, wpFlo P ops S f0 C Q rest (i + 1) s p a → K a) → K (a.put o.dst v)) : wpFlo P ops S f0 C Q (o :: rest) i s p a := by
  obtain ⟨v, h1, h2⟩ := h
  unfold wpFlo
  rw [if_pos hw, if_neg (by rw [hs]; exact Bool.false_ne_true), if_neg (by simpa using hf)]
  exact ⟨v, h1, h2 _ (fun _ h => h)⟩
/-- What turns the world. -/
theorem flo_turn {P : Program} {ops : Array Oper} {S : List Nat} {f0 : Nat} {C : List Value → Option Value → World → Prop} {Q : List Value → Option Value → Act → Prop} {o : Oper} {rest : List Oper} {i : Nat} {s : List Value} {p : Option Value} {a : Act} (hw : Region.wanted o (yielded ops a.tmps) = true) (hs : S.contains i = true)
    (h1 : ∀ p', Later p p' → ∀ W, C s p' W → YV P o a (fun v => C (s ++ [v]) p') W) (h2 : ∀ v, (∃ p' W', Later p p' ∧ C (s ++ [v]) p' W') → ∀ K : Act → Prop, (∀ a, wpFlo P ops S f0 C Q rest (i + 1) (s ++ [v]) p a → K a) → K (a.put o.dst v)) : wpFlo P ops S f0 C Q (o :: rest) i s p a := by
  unfold wpFlo
  rw [if_pos hw, if_pos hs]
  exact ⟨h1, fun v hv => h2 v hv _ (fun _ h => h)⟩
/-- What floats, at its place in the text. -/
theorem flo_float {P : Program} {ops : Array Oper} {S : List Nat} {f0 : Nat} {C : List Value → Option Value → World → Prop} {Q : List Value → Option Value → Act → Prop} {o : Oper} {rest : List Oper} {i : Nat} {s : List Value} {p : Option Value} {a : Act} (hw : Region.wanted o (yielded ops a.tmps) = true) (hs : S.contains i = false) (hf : (i == f0) = true)
    (h1 : ∀ W, C s p W → YV P o a (fun v => C s (some v)) W) (h2 : ∀ v, (∃ s' W', C (s ++ s') (some v) W') → ∀ K : Act → Prop, (∀ a, wpFlo P ops S f0 C Q rest (i + 1) s (some v) a → K a) → K (a.put o.dst v)) : wpFlo P ops S f0 C Q (o :: rest) i s p a := by
  unfold wpFlo
  rw [if_pos hw, if_neg (by rw [hs]; exact Bool.false_ne_true), if_pos (by simpa using hf)]
  exact ⟨h1, fun v hv => h2 v hv _ (fun _ h => h)⟩
end Go.Proofs.Ytkcmpipipelgoaa
/- As Flo, in any order that one likes (not the text's alone). -/
namespace Go.Proofs.Ytkcmpipipelgoaa
set_option maxRecDepth 100000
open Go

/-- The walk, in this order. -/
def wpFloO (P : Program) (ops : Array Oper) (S : List Nat) (f0 : Nat) (C : List Value → Option Value → World → Prop) (Q : List Value → Option Value → Act → Prop) : List Nat → List Value → Option Value → Act → Prop
  | [], s, p, a => Q s p a
  | i :: r, s, p, a => fOp P ops S f0 C i (wpFloO P ops S f0 C Q r) s p a
/-- Is it an order in which each may come: what reads, free of the others; a turn alone, but for what floats? -/
def floOB (md : Region.Mode) (ops : Array Oper) (S : List Nat) (f0 : Nat) : List Nat → Array Bool → Bool
  | [], listed => Region.ready md ops listed == []
  | i :: r, listed => decide (i < ops.size) && (Region.ready md ops listed).contains i && (if S.contains i then ((Region.ready md ops listed).all (fun j => j == i || j == f0) && (Region.ready md ops (listed.setIfInBounds f0 true) == [i]) && (!r.isEmpty || Region.ready md ops listed == [i]) && Region.free md ops listed i) else if i = f0 then Region.ready md ops listed == [i] else Region.free md ops listed i) && floOB md ops S f0 r (listed.setIfInBounds i true)
theorem anyF_ord {P : Program} {md : Region.Mode} {ops : Array Oper} {S : List Nat} {f0 : Nat} {of : Oper} {C : List Value → Option Value → World → Prop} {Q : List Value → Option Value → Act → Prop} (hsel : Region.noSelect ops = true) (hof : ops[f0]? = some of) (hgd : of.guard = none) (hSf : S.contains f0 = false) (HF : ∀ s a W, C s none W → YV P of a (fun v => C s (some v)) W) (hdep : ∀ i ∈ S, Region.waitsFor md ops f0 i = false) (ord : List Nat) :
    ∀ (listed : Array Bool) (s : List Value) (p : Option Value) (a : Act), HeadInv md ops ops.size listed → floOB md ops S f0 ord listed = true → (listed.getD f0 true = false → p = none) → wpFloO P ops S f0 C Q ord s p a → anyF P md ops S f0 C Q ord.length listed s p a := by
  induction ord with
  | nil => intro listed s p a _ hB _ h; exact ⟨by simpa [floOB] using hB, h⟩
  | cons i l ih =>
    intro listed s p a inv hB hpl hst
    simp only [floOB, Bool.and_eq_true, decide_eq_true_eq] at hB
    obtain ⟨⟨⟨hin0, hrd⟩, hF⟩, hB2⟩ := hB
    have hr : i ∈ Region.ready md ops listed := by simpa using hrd
    obtain ⟨hun, o, h0, _⟩ := mem_ready.1 hr
    have inv' := inv.set hr hin0
    have hin : i < listed.size := by
      have hz := hun
      unfold Array.getD at hz
      split at hz
      · assumption
      · cases hz
    have hpl' : ∀ p', (i ≠ f0 → p' = p) → ((listed.setIfInBounds i true).getD f0 true = false → p' = none) := fun p' e hu => by
      by_cases hif : i = f0
      · subst hif
        simp [Array.getD, hin] at hu
      · rw [getD_set_ne true hif] at hu
        rw [e hif]; exact hpl hu
    have hst' : fOp P ops S f0 C i (wpFloO P ops S f0 C Q l) s p a := hst
    by_cases hs : S.contains i = true
    · rw [if_pos hs] at hF
      simp only [Bool.and_eq_true, List.all_eq_true, Bool.or_eq_true, beq_iff_eq] at hF
      obtain ⟨⟨⟨hF1, hF2⟩, hF3⟩, hF5⟩ := hF
      have hif : i ≠ f0 := fun e => by rw [e, hSf] at hs; cases hs
      have hK := fOp_mono (K' := anyF P md ops S f0 C Q l.length (listed.setIfInBounds i true)) (fun s' p' a' e h' => ih _ s' p' a' inv' hB2 (hpl' p' e) h') hst'
      rcases hF3 with hF3 | hF3
      · obtain ⟨f, hf⟩ : ∃ f, l.length = f + 1 := ⟨l.length - 1, by
          cases l with
          | nil => simp at hF3
          | cons x l => simp⟩
        show anyF P md ops S f0 C Q (l.length + 1) listed s p a
        rw [hf] at hK ⊢
        by_cases hfr : f0 ∈ Region.ready md ops listed
        · have hap : o.apart ops of = true := Region.free_spec h0 hF5 f0 of hof (Ne.symm hif) (mem_ready.1 hfr).1 (fun e he hb heq => by
            have hw := hdep i (by simpa using hs)
            have : Region.waitsFor md ops f0 i = true := by
              unfold Region.waitsFor
              simp only [hof]
              exact Array.any_eq_true'.2 ⟨e, by simpa using he, by simp [hb, heq]⟩
            rw [this] at hw; cases hw)
          exact anyF_turn h0 hof hgd hs hSf hif (Region.noSelect_spec hsel) HF hap hr (fun j hj => hF1 j hj) (fun _ => hF2) hpl hK
        · refine anyF_only' hr (fun j hj => ?_) hK
          rcases hF1 j hj with e | e
          · exact e
          · exact absurd (e ▸ hj) hfr
      · exact anyF_only hF3 hK
    · have hsf : S.contains i = false := by simpa using hs
      rw [if_neg hs] at hF
      by_cases hif : i = f0
      · rw [if_pos hif] at hF
        exact anyF_only (by simpa using hF) (fOp_mono (fun s' p' a' e h' => ih _ s' p' a' inv' hB2 (hpl' p' e) h') hst')
      · rw [if_neg hif] at hF
        obtain ⟨v, hy, hK⟩ := yq_of_fOp h0 hsf hif hst'
        exact anyF_first h0 hsf hif (Region.noSelect_spec hsel) l.length listed s p a inv (Region.free_spec h0 hF) hr hpl hy (ih _ _ _ _ inv' hB2 (hpl' p (fun _ => rfl)) hK)

theorem wp_region_floo {P : Program} {id : Nat} {Q : Exit → Act → World → Prop} {a : Act} {w : World} {l : List Oper} (S : List Nat) (f0 : Nat) (of : Oper) (C : List Value → Option Value → World → Prop) (ord : List Nat) (hm : P.follows .mixedOrders = true) (hB : (Region.noSelect l.toArray && decide (ord.length = l.length) && floOB .any l.toArray S f0 ord (Array.replicate l.toArray.size false)) = true) (hof : l.toArray[f0]? = some of) (hgd : of.guard = none) (hSf : S.contains f0 = false) (hdep : S.all (fun i => !Region.waitsFor .any l.toArray f0 i) = true)
    (HF : ∀ s a W, C s none W → YV P of a (fun v => C s (some v)) W) (hC : C [] none w.drew)
    (h : wpFloO P l.toArray S f0 C (fun s p a' => ∀ w', C s p w' → Q .normal a' w') ord [] none a) : (Code.region id l.toArray true).wp P Q a w := by
  simp only [Bool.and_eq_true, decide_eq_true_eq] at hB
  have inv0 : HeadInv .any l.toArray l.toArray.size (Array.replicate l.toArray.size false) :=
    ⟨by simp, fun j oj _ hl => (by rw [getD_replicate_false] at hl; cases hl), fun t h1 h2 => by omega⟩
  have H := anyF_ord (md := .any) hB.1.1 hof hgd hSf HF (fun i hi => by have := List.all_eq_true.1 hdep i hi; simpa using this) ord _ [] none a inv0 hB.2 (fun _ => rfl) h
  refine wp_region_any hm (wpAny_of_anyF (S := S) (f0 := f0) (Q := fun s p a' => ∀ w', C s p w' → Q .normal a' w') (fun s p a w' hw' h => h w' hw') _ _ [] none _ _ hC ?_)
  rw [hB.1.2] at H
  simpa using H
theorem floo_nil {P : Program} {ops : Array Oper} {S : List Nat} {f0 : Nat} {C : List Value → Option Value → World → Prop} {Q : List Value → Option Value → Act → Prop} {s : List Value} {p : Option Value} {a : Act} (h : Q s p a) : wpFloO P ops S f0 C Q [] s p a := h
/-- What only reads. -/
theorem floo_read {P : Program} {ops : Array Oper} {S : List Nat} {f0 : Nat} {C : List Value → Option Value → World → Prop} {Q : List Value → Option Value → Act → Prop} {o : Oper} {r : List Nat} {i : Nat} {s : List Value} {p : Option Value} {a : Act} (hi : ops[i]? = some o) (hw : Region.wanted o (yielded ops a.tmps) = true) (hs : S.contains i = false) (hf : (i == f0) = false)
    (h : ∃ v, (∀ s' p' W, Later p p' → C (s ++ s') p' W → YS P o a (C (s ++ s') p') W v) ∧ ∀ K : Act → Prop, (∀ a, wpFloO P ops S f0 C Q r s p a → K a) → K (a.put o.dst v)) : wpFloO P ops S f0 C Q (i :: r) s p a := by
  obtain ⟨v, h1, h2⟩ := h
  unfold wpFloO fOp
  simp only [hi]
  rw [if_pos hw, if_neg (by rw [hs]; exact Bool.false_ne_true), if_neg (by simpa using hf)]
  exact ⟨v, h1, h2 _ (fun _ h => h)⟩
/-- What turns the world. -/
theorem floo_turn {P : Program} {ops : Array Oper} {S : List Nat} {f0 : Nat} {C : List Value → Option Value → World → Prop} {Q : List Value → Option Value → Act → Prop} {o : Oper} {r : List Nat} {i : Nat} {s : List Value} {p : Option Value} {a : Act} (hi : ops[i]? = some o) (hw : Region.wanted o (yielded ops a.tmps) = true) (hs : S.contains i = true)
    (h1 : ∀ p', Later p p' → ∀ W, C s p' W → YV P o a (fun v => C (s ++ [v]) p') W) (h2 : ∀ v, (∃ p' W', Later p p' ∧ C (s ++ [v]) p' W') → ∀ K : Act → Prop, (∀ a, wpFloO P ops S f0 C Q r (s ++ [v]) p a → K a) → K (a.put o.dst v)) : wpFloO P ops S f0 C Q (i :: r) s p a := by
  unfold wpFloO fOp
  simp only [hi]
  rw [if_pos hw, if_pos hs]
  exact ⟨h1, fun v hv => h2 v hv _ (fun _ h => h)⟩
/-- What floats, at its place in the order. -/
theorem floo_float {P : Program} {ops : Array Oper} {S : List Nat} {f0 : Nat} {C : List Value → Option Value → World → Prop} {Q : List Value → Option Value → Act → Prop} {o : Oper} {r : List Nat} {i : Nat} {s : List Value} {p : Option Value} {a : Act} (hi : ops[i]? = some o) (hw : Region.wanted o (yielded ops a.tmps) = true) (hs : S.contains i = false) (hf : (i == f0) = true)
    (h1 : ∀ W, C s p W → YV P o a (fun v => C s (some v)) W) (h2 : ∀ v, (∃ s' W', C (s ++ s') (some v) W') → ∀ K : Act → Prop, (∀ a, wpFloO P ops S f0 C Q r s (some v) a → K a) → K (a.put o.dst v)) : wpFloO P ops S f0 C Q (i :: r) s p a := by
  unfold wpFloO fOp
  simp only [hi]
  rw [if_pos hw, if_neg (by rw [hs]; exact Bool.false_ne_true), if_pos (by simpa using hf)]
  exact ⟨h1, fun v hv => h2 v hv _ (fun _ h => h)⟩
end Go.Proofs.Ytkcmpipipelgoaa
