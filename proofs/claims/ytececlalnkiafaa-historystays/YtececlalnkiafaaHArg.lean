import Derived.Test.YtececlalnkiafaaCArg
import Derived.Test.YtececlalnkiafaaHNum
/- Arguments: lists of numbers. -/
namespace Go.Proofs.Ytececlalnkiafaa
open Go.ChangeShapes Go.WideShapes Go.ChangeAt Go.RowKit Go.Deep

section
variable {H : Type} {enc : TypeId × Value → H} {W : World} {fuel : Nat} {x : DataW H × List MemPlace}
/-- The cells of a list of numbers. -/
theorem ints_of {ao : Option Addr} {len cap : Nat} (h : DataW.trod enc Try.prog W 0 (fun _ => true) true fuel 47 [.slice ao len cap] = some x) :
    ∃ ns : List Int, len = ns.length ∧ SL W ao (ns.map encZ) ∧ (ao = none → ns = [] ∧ cap = 0) ∧ len ≤ cap ∧ len ≤ maxLen ∧ ∀ n ∈ ns, -9223372036854775808 ≤ n ∧ n ≤ 9223372036854775807 := by
  rcases open_slice Try.underlying47 h with ⟨h1, _⟩ | ⟨a, len', cap', m, n, D, Pl, h1, _, hl, hmx, hm, hx, hee⟩
  · simp at h1
    obtain ⟨rfl, rfl, rfl⟩ := h1
    exact ⟨[], rfl, SL.nil _ _, fun _ => ⟨rfl, rfl⟩, Nat.le_refl _, Nat.zero_le _, fun n hn => by simp at hn⟩
  · simp only [List.cons.injEq, Value.slice.injEq, and_true] at h1
    obtain ⟨rfl, rfl, rfl⟩ := h1
    have hm' : m = cap := by simpa using hm
    rw [c_int] at hee
    have key : ∀ i, i < len → ∃ u : Int, W.cell? (a.add i) = some (.int .i64 u) ∧ -9223372036854775808 ≤ u ∧ u ≤ 9223372036854775807 := by
      intro i hi
      obtain ⟨cs', hc', ht⟩ := hee i (by omega)
      obtain ⟨_, hcl, hcc⟩ := World.cells?_some hc'
      have hcs : ∃ v, cs' = [v] := by
        rcases cs' with _ | ⟨v, _ | ⟨_, _⟩⟩
        · simp at hcl
        · exact ⟨v, rfl⟩
        · simp at hcl
      obtain ⟨v, rfl⟩ := hcs
      obtain ⟨u, e, _, hw⟩ := DataW.trod_int Try.underlying3 ht
      simp only [List.cons.injEq, and_true] at e
      subst e
      have g0 := hcc 0 (by simp)
      refine ⟨u, by simpa [Addr.add] using g0, ?_⟩
      exact wf_i64 hw
    have pick : ∃ ns : List Int, ns.length = len ∧ ∀ i (hi : i < ns.length), W.cell? (a.add i) = some (.int .i64 ns[i]) ∧ -9223372036854775808 ≤ ns[i] ∧ ns[i] ≤ 9223372036854775807 := by
      classical
      refine ⟨List.ofFn (fun i : Fin len => (key i.1 i.2).choose), by simp, fun i hi => ?_⟩
      have hi' : i < len := by simpa using hi
      rw [List.getElem_ofFn]
      exact (key i hi').choose_spec
    obtain ⟨ns, rfl, hns⟩ := pick
    refine ⟨ns, rfl, fun hv => ?_, fun h => (by cases h), by omega, by omega, fun n hn => ?_⟩
    · have h0 : 0 < ns.length := List.length_pos_iff.2 (by rintro rfl; exact hv rfl)
      obtain ⟨b, off, spot⟩ := a
      have hspot : spot = none := by
        obtain ⟨h0', _⟩ := hns 0 h0
        simpa [Addr.add] using World.cell?_spot h0'
      subst hspot
      refine ⟨b, off, rfl, fun j u hu' => ?_⟩
      have hj : j < ns.length := by
        have h2 : (ns.map encZ).length = ns.length := by simp
        rw [← h2]; exact (List.getElem?_eq_some_iff.1 hu').1
      obtain ⟨h0', _⟩ := hns j hj
      have hu2 : u = .int .i64 ns[j] := by
        simp [hj] at hu'
        exact hu'.symm
      rw [hu2, ← add_plain]
      exact h0'
    · obtain ⟨i, hi, rfl⟩ := List.getElem_of_mem hn
      exact (hns i hi).2
end
end Go.Proofs.Ytececlalnkiafaa
