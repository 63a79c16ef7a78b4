/- CatalogWidens: the row. -/
import Derived.Test.YtmagodgmhknbkaaCArg
import Derived.Test.YtmagodgmhknbkaaCWlaw
namespace Go.Proofs.Ytmagodgmhknbkaa
open Go.ChangeShapes Go.WideShapes Go.ChangeAt Go.RowKit Go.Deep

section
variable {H : Type} {enc : TypeId × Value → H} {W : World} {fuel : Nat} {x : DataW H × List MemPlace}
/-- The cells of a list of numbers. -/
theorem ints_of {ao : Option Addr} {len cap : Nat} (h : DataW.trod enc Try.prog W 0 (fun _ => true) true fuel 24 [.slice ao len cap] = some x) :
    ∃ ns : List Int, len = ns.length ∧ SL W ao (IS ns) ∧ (ao = none → ns = [] ∧ cap = 0) ∧ len ≤ cap ∧ len ≤ maxLen ∧ ∀ n ∈ ns, -9223372036854775808 ≤ n ∧ n ≤ 9223372036854775807 := by
  rcases open_slice Try.underlying24 h with ⟨h1, _⟩ | ⟨a, len', cap', m, n, D, Pl, h1, _, hl, hmx, hm, hx, hee⟩
  · simp at h1
    obtain ⟨rfl, rfl, rfl⟩ := h1
    exact ⟨[], rfl, SL.nil _ _, fun _ => ⟨rfl, rfl⟩, Nat.le_refl _, Nat.zero_le _, fun n hn => by simp at hn⟩
  · simp only [List.cons.injEq, Value.slice.injEq, and_true] at h1
    obtain ⟨rfl, rfl, rfl⟩ := h1
    have hm' : m = cap := by simpa using hm
    rw [c_int] at hee
    have key : ∀ i, i < len → ∃ u : Int, W.cell? (a.add i) = some (.int .i64 u) ∧ -9223372036854775808 ≤ u ∧ u ≤ 9223372036854775807 := by
      intro i hi
      obtain ⟨cs', hc', ht⟩ := hee i (by omega)
      obtain ⟨_, hcl, hcc⟩ := World.cells?_some hc'
      have hcs : ∃ v, cs' = [v] := by
        rcases cs' with _ | ⟨v, _ | ⟨_, _⟩⟩
        · simp at hcl
        · exact ⟨v, rfl⟩
        · simp at hcl
      obtain ⟨v, rfl⟩ := hcs
      obtain ⟨u, e, _, hw⟩ := DataW.trod_int Try.underlying3 ht
      simp only [List.cons.injEq, and_true] at e
      subst e
      have g0 := hcc 0 (by simp)
      refine ⟨u, by simpa [Addr.add] using g0, ?_⟩
      exact wf_i64 hw
    have pick : ∃ ns : List Int, ns.length = len ∧ ∀ i (hi : i < ns.length), W.cell? (a.add i) = some (.int .i64 ns[i]) ∧ -9223372036854775808 ≤ ns[i] ∧ ns[i] ≤ 9223372036854775807 := by
      classical
      refine ⟨List.ofFn (fun i : Fin len => (key i.1 i.2).choose), by simp, fun i hi => ?_⟩
      have hi' : i < len := by simpa using hi
      rw [List.getElem_ofFn]
      exact (key i hi').choose_spec
    obtain ⟨ns, rfl, hns⟩ := pick
    refine ⟨ns, rfl, fun hv => ?_, fun h => (by cases h), by omega, by omega, fun n hn => ?_⟩
    · have h0 : 0 < ns.length := List.length_pos_iff.2 (by rintro rfl; exact hv rfl)
      obtain ⟨b, off, spot⟩ := a
      have hspot : spot = none := by
        obtain ⟨h0', _⟩ := hns 0 h0
        simpa [Addr.add] using World.cell?_spot h0'
      subst hspot
      refine ⟨b, off, rfl, fun j u hu' => ?_⟩
      have hj : j < ns.length := by
        have h2 : (IS ns).length = ns.length := by simp [IS]
        rw [← h2]; exact (List.getElem?_eq_some_iff.1 hu').1
      obtain ⟨h0', _⟩ := hns j hj
      have hu2 : u = .int .i64 ns[j] := by
        simp [IS, hj] at hu'
        exact hu'.symm
      rw [hu2, ← add_plain]
      exact h0'
    · obtain ⟨i, hi, rfl⟩ := List.getElem_of_mem hn
      exact (hns i hi).2
end
set_option maxRecDepth 100000 in
theorem widens_lifted (os : Os) (started : os.Started) (H : Type) (enc : TypeId × Value → H) :
    ReturnsInHanded {} Try.checked os 3 .any (Rows.catalogWidensSpec.pre6 enc Try.prog Try.f3 Rows.catalogWidensRow.domain false) (Rows.catalogWidensSpec.post enc Try.prog Try.f3 false true false false) := by
  refine returnsInHanded_of_change_sized (C := Try.checked) tr_own started (by kernel_rfl) Try.func3
    (ChangeSpec.witness6 (enc := enc) (C := Try.checked) false ⟨#[], #[.slice none 0 0, .slice none 0 0], []⟩ 8 (by kernel_rfl) (by kernel_rfl) (by kernel_rfl) (by kernel_rfl)) ?_
  intro W base args ds gs before hval0 hW _ hsz _
  have hval : ∀ (j : Nat) t v, Try.f3.params[j]? = some t → args[j]? = some v → Value.okWide Try.prog W .any base t v := hval0
  have hW' := hW
  obtain ⟨p, q, hA0, hV, rfl, _, _⟩ := hW
  have hA : DataW.TrodAll enc Try.prog W 0 (fun _ => true) true Try.f3.params.toList args.toList ds p := hA0
  rw [Try.params3] at hA hval
  obtain ⟨v0, v1, d0, d1, p0, p1, rfl, rfl, rfl, h0, h1⟩ := trodAll_two hA
  obtain ⟨rfl, rfl⟩ := trodVars_none hV
  obtain ⟨ro, len, rc, rfl⟩ := okWide_slice Try.underlying23 (hval 0 23 v0 rfl rfl)
  obtain ⟨no, nlen, nc, rfl⟩ := okWide_slice Try.underlying24 (hval 1 24 v1 rfl rfl)
  have h0k := h0
  have h1k := h1
  obtain ⟨fuel0, hf0⟩ := h0
  obtain ⟨fuel1, hf1⟩ := h1
  obtain ⟨vs, rfl, hvsl, hvno, hvlc, hvlm, hvd⟩ := row_of hf0
  obtain ⟨ns, rfl, hnsl, hnno, hnlc, hnlm, hni⟩ := ints_of hf1
  clear hA0 hval0
  simp only [List.append_nil] at hW'
  have hlt : ∀ x ∈ p0 ++ p1, x.block < W.heap.size := fun x hx => by simpa using hW'.lt x (by simpa using hx)
  have hvl : vs.length ≤ 9223372036854775807 := by unfold maxLen at hvlm; omega
  have hnl : ns.length ≤ 9223372036854775807 := by unfold maxLen at hnlm; omega
  have e1 : Rows.catalogWidensSpec.fn H ([d0, d1] ++ []) = { results := [.lit (.bool true)], args := [d0, d1] } := by simp [Rows.catalogWidensSpec]
  refine (widens_law vs ro rc ns no nc W hvsl (fun e => (hvno e).2) hnsl hvl hnl hni).mono fun e W' ⟨he, ht⟩ => ?_
  subst he
  have hB : Below W.heap.size W W' := ht.below (Nat.le_refl _) (fun _ _ h => h)
  refine ⟨_, rfl, _, _, _, [], p0 ++ p1, [], hW', ?_, ?_, ?_, hB.frame _, fun h => by cases h⟩
  · rw [e1]; exact trodAll_mk1 (shut_bool Try.underlying4 true)
  · rw [e1]; exact trodAll_mk2 (Below.trod tr_laidOut (by kernel_rfl) (of_decide_eq_true (by kernel_rfl)) h0k hB (fun x hx => hlt x (by simp [hx]))) (Below.trod tr_laidOut (by kernel_rfl) (of_decide_eq_true (by kernel_rfl)) h1k hB (fun x hx => hlt x (by simp [hx])))
  · rw [e1]; rfl

theorem widens_holds : Rows.CatalogWidensSaid :=
  OpenClaim.holds_of_wide 3 Try.f3 rfl rfl rfl rfl rfl rfl rfl ⟨rfl, rfl, rfl, rfl, rfl⟩ rfl rfl rfl rfl rfl (by kernel_rfl) Try.func3 (by kernel_rfl)
    (of_decide_eq_true (by kernel_rfl)) (by unfold Func.isWrapper; first | (rw [if_pos (by decide +kernel)]; kernel_rfl) | (rw [if_neg (by decide +kernel)]; exact ⟨rfl, rfl⟩))
    (fun os started H enc _ => widens_lifted os started H enc)
end Go.Proofs.Ytmagodgmhknbkaa
