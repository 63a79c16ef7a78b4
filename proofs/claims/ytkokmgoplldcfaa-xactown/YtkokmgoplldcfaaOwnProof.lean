/- XactOwn: the row. -/
import Derived.Test.YtkokmgoplldcfaaXArg
import Derived.Test.YtkokmgoplldcfaaXOwnA
import Derived.Test.YtkokmgoplldcfaaXOwnB
namespace Go.Proofs.Ytkokmgoplldcfaa
open Go.ChangeShapes Go.WideShapes Go.ChangeAt Go.RowKit Go.Deep

theorem own_law (ao : Option Addr) (c : Nat) (L : List (Int × Int)) (pr cm : Bool) (w : World) (hL : DL w ao L) :
    Calls Try.prog 3 #[.slice ao L.length c, .bool pr, .bool cm] w fun x w' => x = .returned (.bool true) ∧ Tch (fun _ => False) w w' := by
  by_cases h : L.length ≤ 60
  · exact own_lawA ao c L pr cm w hL h
  · exact own_lawB ao c L pr cm w hL (by omega)

set_option maxRecDepth 100000 in
theorem own_lifted (os : Os) (started : os.Started) (H : Type) (enc : TypeId × Value → H) :
    ReturnsInHanded {} Try.checked os 3 .any (Rows.xactOwnSpec.pre6 enc Try.prog Try.f3 Rows.xactOwnRow.domain false) (Rows.xactOwnSpec.post enc Try.prog Try.f3 false true false false) := by
  refine returnsInHanded_of_change_sized (C := Try.checked) tr_own started (by kernel_rfl) Try.func3
    (ChangeSpec.witness6 (enc := enc) (C := Try.checked) false ⟨#[], #[.slice none 0 0, .bool false, .bool false], []⟩ 8 (by kernel_rfl) (by kernel_rfl) (by kernel_rfl) (by kernel_rfl)) ?_
  intro W base args ds gs before hval0 hW _ _ _
  have hval : ∀ (j : Nat) t v, Try.f3.params[j]? = some t → args[j]? = some v → Value.okWide Try.prog W .any base t v := hval0
  have hW' := hW
  obtain ⟨p, q, hA0, hV, rfl, _, _⟩ := hW
  have hA : DataW.TrodAll enc Try.prog W 0 (fun _ => true) true Try.f3.params.toList args.toList ds p := hA0
  rw [Try.params3] at hA hval
  obtain ⟨v0, v1, v2, d0, d1, d2, p0, p1, p2, rfl, rfl, rfl, h0, h1, h2⟩ := trodAll_three hA
  obtain ⟨rfl, rfl⟩ := trodVars_none hV
  obtain ⟨ro, len, rc, rfl⟩ := okWide_slice Try.underlying22 (hval 0 22 v0 rfl rfl)
  obtain ⟨pr, rfl, rfl, rfl⟩ := open_bool Try.underlying4 (hval 1 4 v1 rfl rfl) h1
  obtain ⟨cm, rfl, rfl, rfl⟩ := open_bool Try.underlying4 (hval 2 4 v2 rfl rfl) h2
  have h0k := h0
  obtain ⟨fuel0, hf0⟩ := h0
  obtain ⟨l0, rfl, hs0, hm0⟩ := deeds_of hf0
  clear hA0 hval0
  simp only [List.append_nil] at hW'
  have hlt : ∀ x ∈ p0, x.block < W.heap.size := fun x hx => by simpa using hW'.lt x (by simpa using hx)
  have e1 : Rows.xactOwnSpec.fn H ([d0, .lit (.bool pr), .lit (.bool cm)] ++ []) = { results := [.lit (.bool true)], args := [d0, .lit (.bool pr), .lit (.bool cm)] } := by simp [Rows.xactOwnSpec]
  refine (own_law ro rc l0 pr cm W hs0).mono fun e W' ⟨he, ht⟩ => ?_
  subst he
  have hB : Below W.heap.size W W' := ht.below (Nat.le_refl _) (fun _ _ h => h)
  refine ⟨_, rfl, _, _, _, [], p0, [], hW', ?_, ?_, ?_, hB.frame _, fun h => by cases h⟩
  · rw [e1]; exact trodAll_mk1 (shut_bool Try.underlying4 true)
  · rw [e1]
    have h9 := trodAll_mk3 (Below.trod tr_laidOut (by kernel_rfl) (of_decide_eq_true (by kernel_rfl)) h0k hB hlt) (shut_bool Try.underlying4 pr) (shut_bool Try.underlying4 cm)
    simp only [List.append_nil] at h9
    exact h9
  · rw [e1]; rfl

theorem own_holds : Rows.XactOwnSaid :=
  OpenClaim.holds_of_wide 3 Try.f3 rfl rfl rfl rfl rfl rfl rfl ⟨rfl, rfl, rfl, rfl, rfl⟩ rfl rfl rfl rfl rfl (by kernel_rfl) Try.func3 (by kernel_rfl)
    (of_decide_eq_true (by kernel_rfl)) (by unfold Func.isWrapper; first | (rw [if_pos (by decide +kernel)]; kernel_rfl) | (rw [if_neg (by decide +kernel)]; exact ⟨rfl, rfl⟩))
    (fun os started H enc _ => own_lifted os started H enc)
end Go.Proofs.Ytkokmgoplldcfaa
