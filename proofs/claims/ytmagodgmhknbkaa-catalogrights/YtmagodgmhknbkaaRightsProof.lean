/- CatalogRights: the row. -/
import Derived.Test.YtmagodgmhknbkaaCArg
import Derived.Test.YtmagodgmhknbkaaCRights
namespace Go.Proofs.Ytmagodgmhknbkaa
open Go.ChangeShapes Go.WideShapes Go.ChangeAt Go.RowKit Go.Deep

set_option maxRecDepth 100000 in
theorem rights_lifted (os : Os) (started : os.Started) (H : Type) (enc : TypeId × Value → H) :
    ReturnsInHanded {} Try.checked os 4 .any (Rows.catalogRightsSpec.pre6 enc Try.prog Try.f4 Rows.catalogRightsRow.domain false) (Rows.catalogRightsSpec.post enc Try.prog Try.f4 false true false false) := by
  refine returnsInHanded_of_change_sized (C := Try.checked) tr_own started (by kernel_rfl) Try.func4
    (ChangeSpec.witness6 (enc := enc) (C := Try.checked) false ⟨#[], #[.agg #[.int .i64 0, .int .i64 0, .string ⟨#[]⟩, .slice none 0 0, .int .i64 0], .slice none 0 0], []⟩ 8 (by kernel_rfl) (by kernel_rfl) (by kernel_rfl) (by kernel_rfl)) ?_
  intro W base args ds gs before hval0 hW _ hsz _
  have hval : ∀ (j : Nat) t v, Try.f4.params[j]? = some t → args[j]? = some v → Value.okWide Try.prog W .any base t v := hval0
  have hW' := hW
  obtain ⟨p, q, hA0, hV, rfl, _, _⟩ := hW
  have hA : DataW.TrodAll enc Try.prog W 0 (fun _ => true) true Try.f4.params.toList args.toList ds p := hA0
  rw [Try.params4] at hA hval
  obtain ⟨v0, v1, d0, d1, p0, p1, rfl, rfl, rfl, h0, h1⟩ := trodAll_two hA
  obtain ⟨rfl, rfl⟩ := trodVars_none hV
  obtain ⟨cs0, rfl⟩ := okWide_agg Try.underlying29 (hval 0 29 v0 rfl rfl)
  obtain ⟨ro, len, rc, rfl⟩ := okWide_slice Try.underlying23 (hval 1 23 v1 rfl rfl)
  have h0k := h0
  have h1k := h1
  obtain ⟨fuel0, hf0⟩ := h0
  obtain ⟨fuel1, hf1⟩ := h1
  obtain ⟨t, ao, c, ecs, hsl, hno, hlc, hlm, hint, hd⟩ := tbl_of hf0
  have ecs' : cs0 = #[.int .i64 t.id, .int .i64 t.ver, .string t.nm, .slice ao t.cols.length c, .int .i64 t.key] := Array.ext' ecs
  subst ecs'
  obtain ⟨vs, rfl, hvsl, hvno, hvlc, hvlm, hvd⟩ := row_of hf1
  clear hA0 hval0
  simp only [List.append_nil] at hW'
  have hlt : ∀ x ∈ p0 ++ p1, x.block < W.heap.size := fun x hx => by simpa using hW'.lt x (by simpa using hx)
  have hcl : t.cols.length * 32 ≤ 140737488351232 := by
    by_cases hne : t.cols = []
    · rw [hne]; simp
    · obtain ⟨a, b, n, es, sp, k, e, hel⟩ := hd hne
      simp only at e
      subst e
      have h8 := sized_agg hsz (j := 0) (t := 29) (by rw [Try.params4]; rfl) rfl Try.underlying29
      have h9 : (es.length + sp.length) * Try.prog.bytesOf 34 ≤ reachBytes := sized_slice h8 (j := 3) (t := 27) rfl rfl Try.underlying27
      rw [b_col, hel] at h9
      unfold reachBytes at h9
      omega
  have hvl : vs.length * 32 ≤ 140737488351232 := by
    by_cases hne : vs = []
    · rw [hne]; simp
    · obtain ⟨es, sp, e, hel⟩ := hvd hne
      simp only at e
      subst e
      have h9 : (es.length + sp.length) * Try.prog.bytesOf 38 ≤ reachBytes := sized_slice hsz (j := 1) (t := 23) (by rw [Try.params4]; rfl) rfl Try.underlying23
      rw [b_val, hel] at h9
      unfold reachBytes at h9
      omega
  have e1 : Rows.catalogRightsSpec.fn H ([d0, d1] ++ []) = { results := [.lit (.bool true)], args := [d0, d1] } := by simp [Rows.catalogRightsSpec]
  refine (rights_law t ao c vs ro rc W hsl (fun e => (hno e).2) hlc hcl hvsl (fun e => (hvno e).2) hvl).mono fun e W' ⟨he, ht⟩ => ?_
  subst he
  have hB : Below W.heap.size W W' := ht.below (Nat.le_refl _) (fun _ _ h => h)
  refine ⟨_, rfl, _, _, _, [], p0 ++ p1, [], hW', ?_, ?_, ?_, hB.frame _, fun h => by cases h⟩
  · rw [e1]; exact trodAll_mk1 (shut_bool Try.underlying4 true)
  · rw [e1]; exact trodAll_mk2 (Below.trod tr_laidOut (by kernel_rfl) (of_decide_eq_true (by kernel_rfl)) h0k hB (fun x hx => hlt x (by simp [hx]))) (Below.trod tr_laidOut (by kernel_rfl) (of_decide_eq_true (by kernel_rfl)) h1k hB (fun x hx => hlt x (by simp [hx])))
  · rw [e1]; rfl

theorem rights_holds : Rows.CatalogRightsSaid :=
  OpenClaim.holds_of_wide 4 Try.f4 rfl rfl rfl rfl rfl rfl rfl ⟨rfl, rfl, rfl, rfl, rfl⟩ rfl rfl rfl rfl rfl (by kernel_rfl) Try.func4 (by kernel_rfl)
    (of_decide_eq_true (by kernel_rfl)) (by unfold Func.isWrapper; first | (rw [if_pos (by decide +kernel)]; kernel_rfl) | (rw [if_neg (by decide +kernel)]; exact ⟨rfl, rfl⟩))
    (fun os started H enc _ => rights_lifted os started H enc)
end Go.Proofs.Ytmagodgmhknbkaa
