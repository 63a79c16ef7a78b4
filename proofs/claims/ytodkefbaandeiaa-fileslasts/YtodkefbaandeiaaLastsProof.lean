/- FilesLasts: the row. -/
import Derived.Test.YtodkefbaandeiaaRoomProof
import Derived.Test.YtodkefbaandeiaaLasts
namespace Go.Proofs.Ytodkefbaandeiaa
open Go.ChangeShapes Go.WideShapes Go.ChangeAt Go.RowKit Go.Deep

theorem ints_of {H : Type} {enc : TypeId × Value → H} {W : World} {fuel : Nat} {ao : Option Addr} {len cap : Nat} {x : DataW H × List MemPlace}
    (h : DataW.trod enc Try.prog W 0 (fun _ => true) true fuel 22 [.slice ao len cap] = some x) : (∃ kz, Ints W ao len kz) ∧ len ≤ 9223372036854775807 := by
  rcases open_slice Try.underlying22 h with ⟨h1, _⟩ | ⟨a, len', cap', m, n, D, Pl, h1, _, hl, hmx, hm, _, hel⟩
  · simp at h1
    exact ⟨⟨fun _ => 0, fun i hi => by omega⟩, by omega⟩
  · simp only [List.cons.injEq, Value.slice.injEq, and_true] at h1
    obtain ⟨rfl, rfl, rfl⟩ := h1
    have hm' : m = cap := by simpa using hm
    rw [cells_int] at hel
    have key : ∀ i, i < len → ∃ c, W.cell? (a.add i) = some (.int .i64 c) ∧ -9223372036854775808 ≤ c ∧ c ≤ 9223372036854775807 := by
      intro i hi
      obtain ⟨cs', hc, ht⟩ := hel i (by omega)
      obtain ⟨_, hcl, hcc⟩ := World.cells?_some hc
      obtain ⟨c, rfl⟩ : ∃ c, cs' = [c] := by
        match cs', hcl with
        | [c], _ => exact ⟨c, rfl⟩
      obtain ⟨k0, e0', _, w0⟩ := DataW.trod_int Try.underlying3 ht
      simp at e0'
      subst e0'
      have g0 := hcc 0 (by omega)
      exact ⟨k0, by simpa [Addr.add] using g0, wf_i64 w0⟩
    obtain ⟨b, off, spot⟩ := a
    have key2 : ∀ i, ∃ c, i < len → (W.cell? ⟨b, off + i, none⟩ = some (.int .i64 c) ∧ -9223372036854775808 ≤ c ∧ c ≤ 9223372036854775807) ∧ spot = none := fun i => by
      by_cases hi : i < len
      · obtain ⟨c, h1, h2⟩ := key i hi
        have hspot : spot = none := by
          obtain ⟨_, h0', _⟩ := key 0 (by omega)
          simpa [Addr.add] using World.cell?_spot h0'
        subst hspot
        simp only [add_plain] at h1
        exact ⟨c, fun _ => ⟨⟨h1, h2⟩, rfl⟩⟩
      · exact ⟨0, fun h => absurd h hi⟩
    obtain ⟨kz, hkz⟩ := Classical.skolem.1 key2
    refine ⟨⟨kz, fun i hi => ?_⟩, by unfold maxLen at hmx; omega⟩
    obtain ⟨⟨h1, h2⟩, rfl⟩ := hkz i hi
    exact ⟨b, off, rfl, h1, h2⟩

set_option maxRecDepth 100000 in
theorem lasts_lifted (os : Os) (started : os.Started) (H : Type) (enc : TypeId × Value → H) :
    ReturnsInHanded {} Try.checked os 6 .any (Rows.filesLastsSpec.pre6 enc Try.prog Try.f6 Rows.filesLastsRow.domain false) (Rows.filesLastsSpec.post enc Try.prog Try.f6 false true false false) := by
  refine returnsInHanded_of_change_sized (C := Try.checked) tr_own started (by kernel_rfl) Try.func6
    (ChangeSpec.witness6 (enc := enc) (C := Try.checked) false ⟨#[], #[.slice none 0 0, .slice none 0 0], []⟩ 8 (by kernel_rfl) (by kernel_rfl) (by kernel_rfl) (by kernel_rfl)) ?_
  intro W base args ds gs before hval0 hW _ _ _
  have hval : ∀ (j : Nat) t v, Try.f6.params[j]? = some t → args[j]? = some v → Value.okWide Try.prog W .any base t v := hval0
  have hW' := hW
  obtain ⟨p, q, hA0, hV, rfl, _, _⟩ := hW
  have hA : DataW.TrodAll enc Try.prog W 0 (fun _ => true) true Try.f6.params.toList args.toList ds p := hA0
  rw [Try.params6] at hA hval
  obtain ⟨v0, v1, d0, d1, p0, p1, rfl, rfl, rfl, h0, h1⟩ := trodAll_two hA
  obtain ⟨rfl, rfl⟩ := trodVars_none hV
  obtain ⟨a0, len, cap, rfl⟩ := okWide_slice Try.underlying40 (hval 0 40 v0 rfl rfl)
  obtain ⟨a1, kl, kc, rfl⟩ := okWide_slice Try.underlying22 (hval 1 22 v1 rfl rfl)
  have h0k := h0
  have h1k := h1
  obtain ⟨fuel, hf⟩ := h0
  obtain ⟨fuel1, hf1⟩ := h1
  clear hA0 hval0
  simp only [List.append_nil] at hW'
  have hlt0 : ∀ x ∈ p0, x.block < W.heap.size := fun x hx => by simpa using hW'.lt x (by simp [hx])
  have hlt1 : ∀ x ∈ p1, x.block < W.heap.size := fun x hx => by simpa using hW'.lt x (by simp [hx])
  have e1 : Rows.filesLastsSpec.fn H ([d0, d1] ++ []) = { results := [.lit (.bool true)], args := [d0, d1] } := by simp [Rows.filesLastsSpec]
  obtain ⟨hd, hl⟩ := deeds_of hf
  obtain ⟨⟨kz, hi⟩, hkl⟩ := ints_of hf1
  refine (lasts_any a0 len cap a1 kl kc kz W hd hl hi hkl).mono fun e W' ⟨he, ht⟩ => ?_
  subst he
  have hB : Below W.heap.size W W' := ht.below (Nat.le_refl _) (fun _ _ h => h)
  refine ⟨_, rfl, _, _, _, [], p0 ++ p1, [], hW', ?_, ?_, ?_, hB.frame _, fun h => by cases h⟩
  · rw [e1]; exact trodAll_mk1 (shut_bool Try.underlying4 true)
  · rw [e1]; exact trodAll_mk2 (Below.trod tr_laidOut (by kernel_rfl) (of_decide_eq_true (by kernel_rfl)) h0k hB hlt0) (Below.trod tr_laidOut (by kernel_rfl) (of_decide_eq_true (by kernel_rfl)) h1k hB hlt1)
  · rw [e1]; rfl

theorem lasts_holds : Rows.FilesLastsSaid :=
  OpenClaim.holds_of_wide 6 Try.f6 rfl rfl rfl rfl rfl rfl rfl ⟨rfl, rfl, rfl, rfl, rfl⟩ rfl rfl rfl rfl rfl (by kernel_rfl) Try.func6 (by kernel_rfl)
    (of_decide_eq_true (by kernel_rfl)) (by unfold Func.isWrapper; first | (rw [if_pos (by decide +kernel)]; kernel_rfl) | (rw [if_neg (by decide +kernel)]; exact ⟨rfl, rfl⟩))
    (fun os started H enc _ => lasts_lifted os started H enc)
end Go.Proofs.Ytodkefbaandeiaa
