import Derived.Test.YtehcpmiogpanpaaRows
import Derived.ProofKit
import Derived.SizedLaws
import Derived.OpenShut
import Derived.Deep.Slices
import Derived.Deep.Matrix
import Derived.Deep.DeepHandedRow
import Derived.Test.YtehcpmiogpanpaaGKw
/- MergeKeeps: the row. -/
namespace Go.Proofs.Ytehcpmiogpanpaa
open Go.ChangeShapes Go.WideShapes Go.ChangeAt Go.RowKit Go.Deep Go
set_option maxRecDepth 100000

theorem mk_own : ownKnob Try.prog.godebug = none := by kernel_rfl
theorem mk_laidOut : laidOutB Try.prog = true := by kernel_rfl
theorem mk_c1 : Try.prog.cellsOf 29 = 1 := by kernel_rfl
theorem mk_c2 : Try.prog.cellsOf 3 = 1 := by kernel_rfl
theorem wf_i64 {n : Int} (h : (Lit.int .i64 n).wf = true) : -9223372036854775808 ≤ n ∧ n ≤ 9223372036854775807 := by
  have := bounds_i64 h
  omega
theorem si_of {H : Type} {enc : TypeId × Value → H} {W : World} {fuel : Nat} {ao : Option Addr} {len cap : Nat} {x : DataW H × List MemPlace}
    (h : DataW.trod enc Try.prog W 0 (fun _ => true) true fuel 22 [.slice ao len cap] = some x) : ∃ A Ln Cn Z, SI W ao len A Ln Cn Z := by
  rcases open_int_rows Try.underlying22 Try.underlying29 Try.underlying3 mk_c1 mk_c2 h with ⟨h1, _⟩ | ⟨a, len', cap', A, L, C, Z, h1, _, hl, _, _, hc⟩
  · simp only [List.cons.injEq, Value.slice.injEq, and_true] at h1
    obtain ⟨rfl, rfl, rfl⟩ := h1
    exact ⟨fun _ => none, fun _ => 0, fun _ => 0, fun _ _ => 0, fun r hr => absurd hr (Nat.not_lt_zero r), fun r hr => absurd hr (Nat.not_lt_zero r)⟩
  · simp only [List.cons.injEq, Value.slice.injEq, and_true] at h1
    obtain ⟨rfl, rfl, rfl⟩ := h1
    refine ⟨A, L, C, fun r c => (Z r).getD c 0, fun r hr => ?_, fun r hr c hcl => ?_⟩
    · obtain ⟨b, off, spot⟩ := a
      have h0 := (hc r (by omega)).1
      have hsp : spot = none := by simpa [Addr.add] using World.cell?_spot (hc 0 (by omega)).1
      subst hsp
      exact ⟨b, off, rfl, by rw [add_plain] at h0; exact h0⟩
    · obtain ⟨_, hLC, _, hZ, hwf, hno, hel⟩ := hc r (by omega)
      cases hA : A r with
      | none => have := hno hA; omega
      | some a' =>
        obtain ⟨_, he⟩ := hel a' hA
        obtain ⟨b, off, spot⟩ := a'
        have h0 := he c (by omega)
        have hsp : spot = none := by simpa [Addr.add] using World.cell?_spot (he 0 (by omega))
        subst hsp
        have hm : (Z r).getD c 0 ∈ Z r := by
          rw [List.getD_eq_getElem?_getD, List.getElem?_eq_getElem (by omega)]
          exact List.getElem_mem _
        exact ⟨b, off, rfl, by rw [add_plain] at h0; exact h0, wf_i64 (hwf _ hm)⟩
theorem keeps_lifted (os : Os) (started : os.Started) (H : Type) (enc : TypeId × Value → H) :
    ReturnsInHanded {} Try.checked os 3 .any (Rows.mergeKeepsSpec.pre6 enc Try.prog Try.f3 Rows.mergeKeepsRow.domain false) (Rows.mergeKeepsSpec.post enc Try.prog Try.f3 false true false false) := by
  refine returnsInHanded_of_change_sized (C := Try.checked) mk_own started (by kernel_rfl) Try.func3
    (ChangeSpec.witness6 (enc := enc) (C := Try.checked) false ⟨#[], #[.slice none 0 0], []⟩ 8 (by kernel_rfl) (by kernel_rfl) (by kernel_rfl) (by kernel_rfl)) ?_
  intro W base args ds gs before hval0 hW _ _ _
  have hval : ∀ (j : Nat) t v, Try.f3.params[j]? = some t → args[j]? = some v → Value.okWide Try.prog W .any base t v := hval0
  have hW' := hW
  obtain ⟨p, q, hA0, hV, rfl, _, _⟩ := hW
  have hA : DataW.TrodAll enc Try.prog W 0 (fun _ => true) true Try.f3.params.toList args.toList ds p := hA0
  rw [Try.params3] at hA hval
  obtain ⟨v0, d0, rfl, rfl, h0⟩ := trodAll_one hA
  obtain ⟨rfl, rfl⟩ := trodVars_none hV
  obtain ⟨a0, len0, cap0, rfl⟩ := okWide_slice Try.underlying22 (hval 0 22 v0 rfl rfl)
  have h0k := h0
  obtain ⟨f0, hf0⟩ := h0
  clear hA0 hval0
  simp only [List.append_nil] at hW'
  obtain ⟨A, Ln, Cn, Z, hS⟩ := si_of hf0
  have hlt0 : ∀ x ∈ p, x.block < W.heap.size := fun x hx => hW'.lt x (by simp [hx])
  have e1 : Rows.mergeKeepsSpec.fn H ([d0] ++ []) = { results := [.lit (.bool true)], args := [d0] } := by simp [Rows.mergeKeepsSpec]
  refine (keeps_law W a0 len0 cap0 A Ln Cn Z hS).mono fun e W' ⟨he, ht⟩ => ?_
  subst he
  have hB : Below W.heap.size W W' := ht.below (Nat.le_refl _) (fun _ _ h => h)
  refine ⟨_, rfl, _, _, _, [], p, [], hW', ?_, ?_, ?_, hB.frame _, fun h => by cases h⟩
  · rw [e1]; exact trodAll_mk1 (shut_bool Try.underlying4 true)
  · rw [e1]
    exact trodAll_mk1 (Below.trod mk_laidOut (by kernel_rfl) (of_decide_eq_true (by kernel_rfl)) h0k hB hlt0)
  · rw [e1]; rfl

theorem keeps_holds : Rows.MergeKeepsSaid :=
  OpenClaim.holds_of_wide 3 Try.f3 rfl rfl rfl rfl rfl rfl rfl ⟨rfl, rfl, rfl, rfl, rfl⟩ rfl rfl rfl rfl rfl (by kernel_rfl) Try.func3 (by kernel_rfl)
    (of_decide_eq_true (by kernel_rfl)) (by unfold Func.isWrapper; first | (rw [if_pos (by decide +kernel)]; kernel_rfl) | (rw [if_neg (by decide +kernel)]; exact ⟨rfl, rfl⟩))
    (fun os started H enc _ => keeps_lifted os started H enc)
end Go.Proofs.Ytehcpmiogpanpaa
