import Derived.Test.YtmnhkgibplnnnaaUArg
import Derived.Deep.DeepHandedRow
/- MergeLists: the row, from the law. -/
namespace Go.Proofs.Ytmnhkgibplnnnaa
open Go.ChangeShapes Go.WideShapes Go.ChangeAt Go.RowKit Go.Deep Go
set_option maxRecDepth 100000

theorem ml_own : ownKnob Try.prog.godebug = none := by kernel_rfl
theorem ml_laidOut : laidOutB Try.prog = true := by kernel_rfl
/-- What the law has to be. -/
def MLaw : Prop := ∀ (W : World) (ao : Option Addr) (cap : Nat) (hd : List Value) (ls : List (List Rc)), LLs (DW W) W.heap.size W ao hd ls → (∀ u ∈ ls, ∀ c ∈ u, ChIn W c) → lsz ls ≤ 1048576 → ls.length ≤ cap → cap ≤ maxLen →
  Calls Try.prog 5 #[.slice ao ls.length cap] W fun e W' => e = .returned (.bool true) ∧ Tch (fun _ => False) W W'
theorem ml_lifted (law : MLaw) (os : Os) (started : os.Started) (H : Type) (enc : TypeId × Value → H) (F : Stop.Interp) :
    ReturnsInHanded {} Try.checked os 5 .any ((Rows.OpenSpec.upto Rows.mergeListsSpec).pre6 enc Try.prog Try.f5 Rows.mergeListsUptoRow.domain false) (((Rows.OpenSpec.upto Rows.mergeListsSpec).at F).post enc Try.prog Try.f5 false true false false) := by
  refine returnsInHanded_of_cond (C := Try.checked) (s := Rows.OpenSpec.upto Rows.mergeListsSpec) (k := Rows.uptoSmall) rfl ml_own started (by kernel_rfl) Try.func5
    (OpenSpec.witness (enc := enc) (C := Try.checked) (s := Rows.OpenSpec.upto Rows.mergeListsSpec) (k := Rows.uptoSmall) rfl false ⟨#[], #[.slice none 0 0], []⟩ 8 (by kernel_rfl) (by kernel_rfl) (by kernel_rfl)
      (x := ([.nil], [], [])) (by kernel_rfl) rfl (by kernel_rfl)) ?_
  intro W base args ds gs before hval0 hW _ hk _
  have hval : ∀ (j : Nat) t v, Try.f5.params[j]? = some t → args[j]? = some v → Value.okWide Try.prog W .any base t v := hval0
  have hW' := hW
  obtain ⟨p, q, hA0, hV, rfl, _, _⟩ := hW
  have hA : DataW.TrodAll enc Try.prog W 0 (fun _ => true) true Try.f5.params.toList args.toList ds p := hA0
  rw [Try.params5] at hA hval
  obtain ⟨v0, d0, rfl, rfl, h0⟩ := trodAll_one hA
  obtain ⟨rfl, rfl⟩ := trodVars_none hV
  obtain ⟨a0, len0, cap0, rfl⟩ := okWide_slice Try.underlying23 (hval 0 23 v0 rfl rfl)
  have h0k := h0
  obtain ⟨f0, hf0⟩ := h0
  clear hA0 hval0
  simp only [List.append_nil] at hW'
  have hlt0 : ∀ x ∈ p, x.block < W.heap.size := fun x hx => hW'.lt x (by simp [hx])
  have e1 : Rows.mergeListsSpec.fn H ([d0] ++ []) = { results := [.lit (.bool true)], args := [d0] } := by simp [Rows.mergeListsSpec]
  have hb : Rows.uptoBulkAll ([d0] ++ [] : List (DataW H)) ≤ 1048576 := of_decide_eq_true hk
  simp only [List.append_nil, Rows.uptoBulkAll] at hb
  obtain ⟨hd, ls, rfl, hll, hci, hz, hl, hc⟩ := lists_in hf0 (show Rows.uptoBulk d0 ≤ 1048576 by omega)
  refine (law W a0 cap0 hd ls hll hci hz hl hc).mono fun e W' ⟨he, ht⟩ => ?_
  subst he
  have hB : Below W.heap.size W W' := ht.below (Nat.le_refl _) (fun _ _ h => h)
  refine ⟨_, rfl, _, _, _, [], p, [], hW', ?_, ?_, ?_, hB.frame _, fun h => by cases h⟩
  · show DataW.TrodAll _ _ _ _ _ _ _ _ (Rows.mergeListsSpec.fn H ([d0] ++ [])).results _
    rw [e1]; exact trodAll_mk1 (shut_bool Try.underlying4 true)
  · show DataW.TrodAll _ _ _ _ _ _ _ _ (Rows.mergeListsSpec.fn H ([d0] ++ [])).args _
    rw [e1]
    exact trodAll_mk1 (Below.trod ml_laidOut (by kernel_rfl) (of_decide_eq_true (by kernel_rfl)) h0k hB hlt0)
  · show _ = _
    rfl
theorem ml_of (law : MLaw) : Rows.MergeListsUptoSaid :=
  OpenClaim.holds_of_cond 5 Try.f5 rfl rfl rfl rfl rfl rfl rfl ⟨rfl, rfl, rfl, rfl, rfl⟩ rfl rfl rfl rfl rfl (by kernel_rfl) Try.func5 (by kernel_rfl)
    (of_decide_eq_true (by kernel_rfl)) (by unfold Func.isWrapper; first | (rw [if_pos (by decide +kernel)]; kernel_rfl) | (rw [if_neg (by decide +kernel)]; exact ⟨rfl, rfl⟩))
    (fun os started H enc _ F => ml_lifted law os started H enc F)
end Go.Proofs.Ytmnhkgibplnnnaa
