import Derived.Test.YtjbehnoococelaaRows
import Derived.ProofKit
import Derived.SizedLaws
import Derived.OpenShut
import Derived.Deep.Slices
import Derived.Deep.DeepHandedRow
import Derived.Test.YtjbehnoococelaaMEmT
import Derived.Test.YtjbehnoococelaaMEmF
/- MvccEmpties: the row. -/
namespace Go.Proofs.Ytjbehnoococelaa
open Go.ChangeShapes Go.WideShapes Go.ChangeAt Go.RowKit Go.Deep Go
set_option maxRecDepth 100000

theorem tr_own : ownKnob Try.prog.godebug = none := by kernel_rfl
theorem tr_laidOut : laidOutB Try.prog = true := by kernel_rfl
theorem c_int : Try.prog.cellsOf 3 = 1 := by kernel_rfl
theorem wf_i64 {n : Int} (h : (Lit.int .i64 n).wf = true) : -9223372036854775808 ≤ n ∧ n ≤ 9223372036854775807 := by
  have := bounds_i64 h
  omega
section
variable {H : Type} {enc : TypeId × Value → H} {W : World} {fuel : Nat} {x : DataW H × List MemPlace}
theorem ints_of {ao : Option Addr} {len cap : Nat} (h : DataW.trod enc Try.prog W 0 (fun _ => true) true fuel 22 [.slice ao len cap] = some x) :
    ∃ ns : List Int, len = ns.length ∧ IR W ao ns ∧ ∀ n ∈ ns, -9223372036854775808 ≤ n ∧ n ≤ 9223372036854775807 := by
  rcases open_slice Try.underlying22 h with ⟨h1, _⟩ | ⟨a, len', cap', m, n, D, Pl, h1, _, hl, hmx, hm, hx, hee⟩
  · simp at h1
    obtain ⟨rfl, rfl, rfl⟩ := h1
    exact ⟨[], rfl, fun k n hk => by simp at hk, fun n hn => by simp at hn⟩
  · simp only [List.cons.injEq, Value.slice.injEq, and_true] at h1
    obtain ⟨rfl, rfl, rfl⟩ := h1
    have hm' : m = cap := by simpa using hm
    rw [c_int] at hee
    have key : ∀ i, i < len → ∃ u : Int, W.cell? (a.add i) = some (.int .i64 u) ∧ -9223372036854775808 ≤ u ∧ u ≤ 9223372036854775807 := by
      intro i hi
      obtain ⟨cs', hc', ht⟩ := hee i (by omega)
      obtain ⟨_, hcl, hcc⟩ := World.cells?_some hc'
      have hcs : ∃ v, cs' = [v] := by
        rcases cs' with _ | ⟨v, _ | ⟨_, _⟩⟩
        · simp at hcl
        · exact ⟨v, rfl⟩
        · simp at hcl
      obtain ⟨v, rfl⟩ := hcs
      obtain ⟨u, e, _, hw⟩ := DataW.trod_int Try.underlying3 ht
      simp only [List.cons.injEq, and_true] at e
      subst e
      have g0 := hcc 0 (by simp)
      refine ⟨u, by simpa [Addr.add] using g0, ?_⟩
      exact wf_i64 hw
    have pick : ∃ ns : List Int, ns.length = len ∧ ∀ i (hi : i < ns.length), W.cell? (a.add i) = some (.int .i64 ns[i]) ∧ -9223372036854775808 ≤ ns[i] ∧ ns[i] ≤ 9223372036854775807 := by
      classical
      refine ⟨List.ofFn (fun i : Fin len => (key i.1 i.2).choose), by simp, fun i hi => ?_⟩
      have hi' : i < len := by simpa using hi
      rw [List.getElem_ofFn]
      exact (key i hi').choose_spec
    obtain ⟨ns, rfl, hns⟩ := pick
    refine ⟨ns, rfl, fun k n hk => ?_, fun n hn => ?_⟩
    · obtain ⟨hk', e⟩ := List.getElem?_eq_some_iff.1 hk
      obtain ⟨b, off, spot⟩ := a
      have hspot : spot = none := by
        obtain ⟨h0', _⟩ := hns 0 (by omega)
        simpa [Addr.add] using World.cell?_spot h0'
      subst hspot
      refine ⟨b, off, rfl, ?_⟩
      obtain ⟨h0', _⟩ := hns k hk'
      rw [← e, ← add_plain]
      exact h0'
    · obtain ⟨i, hi, rfl⟩ := List.getElem_of_mem hn
      exact (hns i hi).2
end
theorem emp_law (ao : Option Addr) (n c : Nat) (ks : List Int) (part : Bool) (w : World) (hn : n = ks.length) (hir : IR w ao ks) (hrg : ∀ x ∈ ks, -9223372036854775808 ≤ x ∧ x ≤ 9223372036854775807) :
    Calls Try.prog 3 #[.slice ao n c, .bool part] w fun x w' => x = .returned (.bool true) ∧ Tch (fun _ => False) w w' := by
  cases part
  · exact emp_lawF ao n c ks w hn (fun _ t => hir.no t) hrg
  · exact emp_lawT ao n c ks w hn (fun _ t => hir.no t) hrg

theorem emp_lifted (os : Os) (started : os.Started) (H : Type) (enc : TypeId × Value → H) :
    ReturnsInHanded {} Try.checked os 3 .any (Rows.mvccEmptiesSpec.pre6 enc Try.prog Try.f3 Rows.mvccEmptiesRow.domain false) (Rows.mvccEmptiesSpec.post enc Try.prog Try.f3 false true false false) := by
  refine returnsInHanded_of_change_sized (C := Try.checked) tr_own started (by kernel_rfl) Try.func3
    (ChangeSpec.witness6 (enc := enc) (C := Try.checked) false ⟨#[], #[.slice none 0 0, .bool false], []⟩ 8 (by kernel_rfl) (by kernel_rfl) (by kernel_rfl) (by kernel_rfl)) ?_
  intro W base args ds gs before hval0 hW _ _ _
  have hval : ∀ (j : Nat) t v, Try.f3.params[j]? = some t → args[j]? = some v → Value.okWide Try.prog W .any base t v := hval0
  have hW' := hW
  obtain ⟨p, q, hA0, hV, rfl, _, _⟩ := hW
  have hA : DataW.TrodAll enc Try.prog W 0 (fun _ => true) true Try.f3.params.toList args.toList ds p := hA0
  rw [Try.params3] at hA hval
  obtain ⟨v0, v1, d0, d1, p0, p1, rfl, rfl, rfl, h0, h1⟩ := trodAll_two hA
  obtain ⟨rfl, rfl⟩ := trodVars_none hV
  obtain ⟨ro, len, rc, rfl⟩ := okWide_slice Try.underlying22 (hval 0 22 v0 rfl rfl)
  obtain ⟨pr, rfl, rfl, rfl⟩ := open_bool Try.underlying4 (hval 1 4 v1 rfl rfl) h1
  have h0k := h0
  obtain ⟨fuel0, hf0⟩ := h0
  obtain ⟨ns, hlen, hs0, hr0⟩ := ints_of hf0
  clear hA0 hval0
  simp only [List.append_nil] at hW'
  have hlt : ∀ x ∈ p0, x.block < W.heap.size := fun x hx => by simpa using hW'.lt x (by simpa using hx)
  have e1 : Rows.mvccEmptiesSpec.fn H ([d0, .lit (.bool pr)] ++ []) = { results := [.lit (.bool true)], args := [d0, .lit (.bool pr)] } := by simp [Rows.mvccEmptiesSpec]
  refine (emp_law ro len rc ns pr W hlen hs0 hr0).mono fun e W' ⟨he, ht⟩ => ?_
  subst he
  have hB : Below W.heap.size W W' := ht.below (Nat.le_refl _) (fun _ _ h => h)
  refine ⟨_, rfl, _, _, _, [], p0, [], hW', ?_, ?_, ?_, hB.frame _, fun h => by cases h⟩
  · rw [e1]; exact trodAll_mk1 (shut_bool Try.underlying4 true)
  · rw [e1]
    have h9 := trodAll_mk2 (Below.trod tr_laidOut (by kernel_rfl) (of_decide_eq_true (by kernel_rfl)) h0k hB hlt) (shut_bool Try.underlying4 pr)
    simp only [List.append_nil] at h9
    exact h9
  · rw [e1]; rfl

theorem empties_holds : Rows.MvccEmptiesSaid :=
  OpenClaim.holds_of_wide 3 Try.f3 rfl rfl rfl rfl rfl rfl rfl ⟨rfl, rfl, rfl, rfl, rfl⟩ rfl rfl rfl rfl rfl (by kernel_rfl) Try.func3 (by kernel_rfl)
    (of_decide_eq_true (by kernel_rfl)) (by unfold Func.isWrapper; first | (rw [if_pos (by decide +kernel)]; kernel_rfl) | (rw [if_neg (by decide +kernel)]; exact ⟨rfl, rfl⟩))
    (fun os started H enc _ => emp_lifted os started H enc)
end Go.Proofs.Ytjbehnoococelaa
