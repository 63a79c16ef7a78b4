import Derived.Test.YtolamjipigfocaaCPArg
import Derived.Test.YtolamjipigfocaaCPlaw
import Derived.JoinedCond
/- CatalogPlays: the row of the second form. -/
namespace Go.Proofs.Ytolamjipigfocaa
open Go.ChangeShapes Go.WideShapes Go.ChangeAt Go.RowKit Go.Deep

set_option maxRecDepth 100000 in
theorem plays_lifted (os : Os) (started : os.Started) (H : Type) (enc : TypeId × Value → H) (F : Stop.Interp) :
    ReturnsInHanded {} Try.checked os 3 .any ((Rows.OpenSpec.upto Rows.catalogPlaysSpec).pre6 enc Try.prog Try.f3 Rows.catalogPlaysUptoRow.domain false) (((Rows.OpenSpec.upto Rows.catalogPlaysSpec).at F).post enc Try.prog Try.f3 false true false false) := by
  refine returnsInHanded_of_cond (C := Try.checked) (s := Rows.OpenSpec.upto Rows.catalogPlaysSpec) (k := Rows.uptoSmall) rfl tr_own started (by kernel_rfl) Try.func3
    (OpenSpec.witness (enc := enc) (C := Try.checked) (s := Rows.OpenSpec.upto Rows.catalogPlaysSpec) (k := Rows.uptoSmall) rfl false ⟨#[], #[.slice none 0 0], []⟩ 8 (by kernel_rfl) (by kernel_rfl) (by kernel_rfl)
      (x := ([.nil], [], [])) (by kernel_rfl) rfl (by kernel_rfl)) ?_
  intro W base args ds gs before hval0 hW _ hk _
  have hval : ∀ (j : Nat) t v, Try.f3.params[j]? = some t → args[j]? = some v → Value.okWide Try.prog W .any base t v := hval0
  have hW' := hW
  obtain ⟨p, q, hA0, hV, rfl, _, _⟩ := hW
  have hA : DataW.TrodAll enc Try.prog W 0 (fun _ => true) true Try.f3.params.toList args.toList ds p := hA0
  rw [Try.params3] at hA hval
  obtain ⟨v2, d2, rfl, rfl, h2⟩ := trodAll_one hA
  obtain ⟨rfl, rfl⟩ := trodVars_none hV
  obtain ⟨a0, len, cap, rfl⟩ := okWide_slice Try.underlying22 (hval 0 22 v2 rfl rfl)
  have h2k := h2
  obtain ⟨fuel, hf⟩ := h2
  clear hA0 hval0
  simp only [List.append_nil] at hW'
  have hlt : ∀ x ∈ p, x.block < W.heap.size := fun x hx => by simpa using hW'.lt x hx
  have e1 : (Rows.catalogPlaysSpec.fn H ([d2] ++ [])) = { results := [.lit (.bool true)], args := [d2] } := by simp [Rows.catalogPlaysSpec]
  have hb : Rows.uptoBulkAll ([d2] ++ [] : List (DataW H)) ≤ 1048576 := of_decide_eq_true hk
  simp only [List.append_nil, Rows.uptoBulkAll] at hb
  obtain ⟨os', hos, hlen⟩ := ops_of hf (show Rows.uptoBulk d2 ≤ 1048576 by omega)
  refine (plays_law a0 len cap W hlen os' hos).mono fun e W' ⟨he, ht⟩ => ?_
  subst he
  have hB : Below W.heap.size W W' := ht.below (Nat.le_refl _) (fun _ _ h => h)
  refine ⟨_, rfl, _, _, _, [], p, [], hW', ?_, ?_, ?_, hB.frame _, fun h => by cases h⟩
  · show DataW.TrodAll _ _ _ _ _ _ _ _ (Rows.catalogPlaysSpec.fn H ([d2] ++ [])).results _
    rw [e1]; exact trodAll_mk1 (shut_bool Try.underlying4 true)
  · show DataW.TrodAll _ _ _ _ _ _ _ _ (Rows.catalogPlaysSpec.fn H ([d2] ++ [])).args _
    rw [e1]; exact trodAll_mk1 (Below.trod tr_laidOut (by kernel_rfl) (of_decide_eq_true (by kernel_rfl)) h2k hB hlt)
  · show _ = _
    rfl

theorem plays_holds : Rows.CatalogPlaysUptoSaid :=
  OpenClaim.holds_of_cond 3 Try.f3 rfl rfl rfl rfl rfl rfl rfl ⟨rfl, rfl, rfl, rfl, rfl⟩ rfl rfl rfl rfl rfl (by kernel_rfl) Try.func3 (by kernel_rfl)
    (of_decide_eq_true (by kernel_rfl)) (by unfold Func.isWrapper; first | (rw [if_pos (by decide +kernel)]; kernel_rfl) | (rw [if_neg (by decide +kernel)]; exact ⟨rfl, rfl⟩))
    (fun os started H enc _ F => plays_lifted os started H enc F)
end Go.Proofs.Ytolamjipigfocaa
