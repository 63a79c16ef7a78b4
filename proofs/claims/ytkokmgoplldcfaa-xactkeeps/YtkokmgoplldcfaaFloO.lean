/- As Flo, in any order that one likes (not the text's alone). -/
import Derived.Test.YtkokmgoplldcfaaFlo
namespace Go.Proofs.Ytkokmgoplldcfaa
set_option maxRecDepth 100000
open Go

/-- The walk, in this order. -/
def wpFloO (P : Program) (ops : Array Oper) (S : List Nat) (f0 : Nat) (C : List Value → Option Value → World → Prop) (Q : List Value → Option Value → Act → Prop) : List Nat → List Value → Option Value → Act → Prop
  | [], s, p, a => Q s p a
  | i :: r, s, p, a => fOp P ops S f0 C i (wpFloO P ops S f0 C Q r) s p a
/-- Is it an order in which each may come: what reads, free of the others; a turn alone, but for what floats? -/
def floOB (md : Region.Mode) (ops : Array Oper) (S : List Nat) (f0 : Nat) : List Nat → Array Bool → Bool
  | [], listed => Region.ready md ops listed == []
  | i :: r, listed => decide (i < ops.size) && (Region.ready md ops listed).contains i && (if S.contains i then ((Region.ready md ops listed).all (fun j => j == i || j == f0) && (Region.ready md ops (listed.setIfInBounds f0 true) == [i]) && (!r.isEmpty || Region.ready md ops listed == [i]) && Region.free md ops listed i) else if i = f0 then Region.ready md ops listed == [i] else Region.free md ops listed i) && floOB md ops S f0 r (listed.setIfInBounds i true)
theorem anyF_ord {P : Program} {md : Region.Mode} {ops : Array Oper} {S : List Nat} {f0 : Nat} {of : Oper} {C : List Value → Option Value → World → Prop} {Q : List Value → Option Value → Act → Prop} (hsel : Region.noSelect ops = true) (hof : ops[f0]? = some of) (hgd : of.guard = none) (hSf : S.contains f0 = false) (HF : ∀ s a W, C s none W → YV P of a (fun v => C s (some v)) W) (hdep : ∀ i ∈ S, Region.waitsFor md ops f0 i = false) (ord : List Nat) :
    ∀ (listed : Array Bool) (s : List Value) (p : Option Value) (a : Act), HeadInv md ops ops.size listed → floOB md ops S f0 ord listed = true → (listed.getD f0 true = false → p = none) → wpFloO P ops S f0 C Q ord s p a → anyF P md ops S f0 C Q ord.length listed s p a := by
  induction ord with
  | nil => intro listed s p a _ hB _ h; exact ⟨by simpa [floOB] using hB, h⟩
  | cons i l ih =>
    intro listed s p a inv hB hpl hst
    simp only [floOB, Bool.and_eq_true, decide_eq_true_eq] at hB
    obtain ⟨⟨⟨hin0, hrd⟩, hF⟩, hB2⟩ := hB
    have hr : i ∈ Region.ready md ops listed := by simpa using hrd
    obtain ⟨hun, o, h0, _⟩ := mem_ready.1 hr
    have inv' := inv.set hr hin0
    have hin : i < listed.size := by
      have hz := hun
      unfold Array.getD at hz
      split at hz
      · assumption
      · cases hz
    have hpl' : ∀ p', (i ≠ f0 → p' = p) → ((listed.setIfInBounds i true).getD f0 true = false → p' = none) := fun p' e hu => by
      by_cases hif : i = f0
      · subst hif
        simp [Array.getD, hin] at hu
      · rw [getD_set_ne true hif] at hu
        rw [e hif]; exact hpl hu
    have hst' : fOp P ops S f0 C i (wpFloO P ops S f0 C Q l) s p a := hst
    by_cases hs : S.contains i = true
    · rw [if_pos hs] at hF
      simp only [Bool.and_eq_true, List.all_eq_true, Bool.or_eq_true, beq_iff_eq] at hF
      obtain ⟨⟨⟨hF1, hF2⟩, hF3⟩, hF5⟩ := hF
      have hif : i ≠ f0 := fun e => by rw [e, hSf] at hs; cases hs
      have hK := fOp_mono (K' := anyF P md ops S f0 C Q l.length (listed.setIfInBounds i true)) (fun s' p' a' e h' => ih _ s' p' a' inv' hB2 (hpl' p' e) h') hst'
      rcases hF3 with hF3 | hF3
      · obtain ⟨f, hf⟩ : ∃ f, l.length = f + 1 := ⟨l.length - 1, by
          cases l with
          | nil => simp at hF3
          | cons x l => simp⟩
        show anyF P md ops S f0 C Q (l.length + 1) listed s p a
        rw [hf] at hK ⊢
        by_cases hfr : f0 ∈ Region.ready md ops listed
        · have hap : o.apart ops of = true := Region.free_spec h0 hF5 f0 of hof (Ne.symm hif) (mem_ready.1 hfr).1 (fun e he hb heq => by
            have hw := hdep i (by simpa using hs)
            have : Region.waitsFor md ops f0 i = true := by
              unfold Region.waitsFor
              simp only [hof]
              exact Array.any_eq_true'.2 ⟨e, by simpa using he, by simp [hb, heq]⟩
            rw [this] at hw; cases hw)
          exact anyF_turn h0 hof hgd hs hSf hif (Region.noSelect_spec hsel) HF hap hr (fun j hj => hF1 j hj) (fun _ => hF2) hpl hK
        · refine anyF_only' hr (fun j hj => ?_) hK
          rcases hF1 j hj with e | e
          · exact e
          · exact absurd (e ▸ hj) hfr
      · exact anyF_only hF3 hK
    · have hsf : S.contains i = false := by simpa using hs
      rw [if_neg hs] at hF
      by_cases hif : i = f0
      · rw [if_pos hif] at hF
        exact anyF_only (by simpa using hF) (fOp_mono (fun s' p' a' e h' => ih _ s' p' a' inv' hB2 (hpl' p' e) h') hst')
      · rw [if_neg hif] at hF
        obtain ⟨v, hy, hK⟩ := yq_of_fOp h0 hsf hif hst'
        exact anyF_first h0 hsf hif (Region.noSelect_spec hsel) l.length listed s p a inv (Region.free_spec h0 hF) hr hpl hy (ih _ _ _ _ inv' hB2 (hpl' p (fun _ => rfl)) hK)

theorem wp_region_floo {P : Program} {id : Nat} {Q : Exit → Act → World → Prop} {a : Act} {w : World} {l : List Oper} (S : List Nat) (f0 : Nat) (of : Oper) (C : List Value → Option Value → World → Prop) (ord : List Nat) (hm : P.follows .mixedOrders = true) (hB : (Region.noSelect l.toArray && decide (ord.length = l.length) && floOB .any l.toArray S f0 ord (Array.replicate l.toArray.size false)) = true) (hof : l.toArray[f0]? = some of) (hgd : of.guard = none) (hSf : S.contains f0 = false) (hdep : S.all (fun i => !Region.waitsFor .any l.toArray f0 i) = true)
    (HF : ∀ s a W, C s none W → YV P of a (fun v => C s (some v)) W) (hC : C [] none w.drew)
    (h : wpFloO P l.toArray S f0 C (fun s p a' => ∀ w', C s p w' → Q .normal a' w') ord [] none a) : (Code.region id l.toArray true).wp P Q a w := by
  simp only [Bool.and_eq_true, decide_eq_true_eq] at hB
  have inv0 : HeadInv .any l.toArray l.toArray.size (Array.replicate l.toArray.size false) :=
    ⟨by simp, fun j oj _ hl => (by rw [getD_replicate_false] at hl; cases hl), fun t h1 h2 => by omega⟩
  have H := anyF_ord (md := .any) hB.1.1 hof hgd hSf HF (fun i hi => by have := List.all_eq_true.1 hdep i hi; simpa using this) ord _ [] none a inv0 hB.2 (fun _ => rfl) h
  refine wp_region_any hm (wpAny_of_anyF (S := S) (f0 := f0) (Q := fun s p a' => ∀ w', C s p w' → Q .normal a' w') (fun s p a w' hw' h => h w' hw') _ _ [] none _ _ hC ?_)
  rw [hB.1.2] at H
  simpa using H
theorem floo_nil {P : Program} {ops : Array Oper} {S : List Nat} {f0 : Nat} {C : List Value → Option Value → World → Prop} {Q : List Value → Option Value → Act → Prop} {s : List Value} {p : Option Value} {a : Act} (h : Q s p a) : wpFloO P ops S f0 C Q [] s p a := h
/-- What only reads. -/
theorem floo_read {P : Program} {ops : Array Oper} {S : List Nat} {f0 : Nat} {C : List Value → Option Value → World → Prop} {Q : List Value → Option Value → Act → Prop} {o : Oper} {r : List Nat} {i : Nat} {s : List Value} {p : Option Value} {a : Act} (hi : ops[i]? = some o) (hw : Region.wanted o (yielded ops a.tmps) = true) (hs : S.contains i = false) (hf : (i == f0) = false)
    (h : ∃ v, (∀ s' p' W, Later p p' → C (s ++ s') p' W → YS P o a (C (s ++ s') p') W v) ∧ ∀ K : Act → Prop, (∀ a, wpFloO P ops S f0 C Q r s p a → K a) → K (a.put o.dst v)) : wpFloO P ops S f0 C Q (i :: r) s p a := by
  obtain ⟨v, h1, h2⟩ := h
  unfold wpFloO fOp
  simp only [hi]
  rw [if_pos hw, if_neg (by rw [hs]; exact Bool.false_ne_true), if_neg (by simpa using hf)]
  exact ⟨v, h1, h2 _ (fun _ h => h)⟩
/-- What turns the world. -/
theorem floo_turn {P : Program} {ops : Array Oper} {S : List Nat} {f0 : Nat} {C : List Value → Option Value → World → Prop} {Q : List Value → Option Value → Act → Prop} {o : Oper} {r : List Nat} {i : Nat} {s : List Value} {p : Option Value} {a : Act} (hi : ops[i]? = some o) (hw : Region.wanted o (yielded ops a.tmps) = true) (hs : S.contains i = true)
    (h1 : ∀ p', Later p p' → ∀ W, C s p' W → YV P o a (fun v => C (s ++ [v]) p') W) (h2 : ∀ v, (∃ p' W', Later p p' ∧ C (s ++ [v]) p' W') → ∀ K : Act → Prop, (∀ a, wpFloO P ops S f0 C Q r (s ++ [v]) p a → K a) → K (a.put o.dst v)) : wpFloO P ops S f0 C Q (i :: r) s p a := by
  unfold wpFloO fOp
  simp only [hi]
  rw [if_pos hw, if_pos hs]
  exact ⟨h1, fun v hv => h2 v hv _ (fun _ h => h)⟩
/-- What floats, at its place in the order. -/
theorem floo_float {P : Program} {ops : Array Oper} {S : List Nat} {f0 : Nat} {C : List Value → Option Value → World → Prop} {Q : List Value → Option Value → Act → Prop} {o : Oper} {r : List Nat} {i : Nat} {s : List Value} {p : Option Value} {a : Act} (hi : ops[i]? = some o) (hw : Region.wanted o (yielded ops a.tmps) = true) (hs : S.contains i = false) (hf : (i == f0) = true)
    (h1 : ∀ W, C s p W → YV P o a (fun v => C s (some v)) W) (h2 : ∀ v, (∃ s' W', C (s ++ s') (some v) W') → ∀ K : Act → Prop, (∀ a, wpFloO P ops S f0 C Q r s (some v) a → K a) → K (a.put o.dst v)) : wpFloO P ops S f0 C Q (i :: r) s p a := by
  unfold wpFloO fOp
  simp only [hi]
  rw [if_pos hw, if_neg (by rw [hs]; exact Bool.false_ne_true), if_pos (by simpa using hf)]
  exact ⟨h1, fun v hv => h2 v hv _ (fun _ h => h)⟩
end Go.Proofs.Ytkokmgoplldcfaa
