import Derived.Test.YtnjiiebjdpipjaaRows
import Derived.ProofKit
import Derived.SizedLaws
import Derived.OpenShut
import Derived.Deep.Slices
import Derived.Deep.Strs
import Derived.Deep.DeepHandedRow
import Derived.Test.YtnjiiebjdpipjaaSLw
/- TreeSorts: the row. -/
namespace Go.Proofs.Ytnjiiebjdpipjaa
open Go.ChangeShapes Go.WideShapes Go.ChangeAt Go.RowKit Go.Deep Go
set_option maxRecDepth 100000

theorem ts_own : ownKnob Try.prog.godebug = none := by kernel_rfl
theorem ts_laidOut : laidOutB Try.prog = true := by kernel_rfl
theorem ts_str : Try.prog.cellsOf 9 = 1 := by kernel_rfl
theorem weights_mem_all {H : Type} {P : Program} {e : TypeId} : ∀ {ds : List (DataW H)} {d : DataW H}, d ∈ ds → ∀ n ∈ d.weights P e, n ∈ DataW.weightsAll P e ds
  | d0 :: ds, d, hd, n, hn => by
    simp only [DataW.weightsAll, List.mem_append]
    rcases List.mem_cons.1 hd with rfl | hd
    · exact Or.inl hn
    · exact Or.inr (weights_mem_all hd n hn)
theorem strs_of {H : Type} {enc : TypeId × Value → H} {W : World} {fuel : Nat} {ao : Option Addr} {len cap : Nat} {x : DataW H × List MemPlace}
    (h : DataW.trod enc Try.prog W 0 (fun _ => true) true fuel 35 [.slice ao len cap] = some x) (hz : ∀ n ∈ x.1.weights Try.prog 35, n ≤ reachBytes) :
    ∃ vs : List ByteArray, len = vs.length ∧ S.SR W ao vs ∧ len ≤ maxLen ∧ ∀ y ∈ vs, y.size ≤ reachBytes := by
  rcases open_strs Try.underlying35 Try.underlying9 ts_str h with ⟨h1, _⟩ | ⟨a, len', cap', m, Sx, h1, _, hl, hmx, hm, hx, hc⟩
  · simp only [List.cons.injEq, Value.slice.injEq, and_true] at h1
    obtain ⟨rfl, rfl, rfl⟩ := h1
    exact ⟨[], rfl, fun k n hk => (by simp at hk), Nat.zero_le _, fun y hy => (by cases hy)⟩
  · simp only [List.cons.injEq, Value.slice.injEq, and_true] at h1
    obtain ⟨rfl, rfl, rfl⟩ := h1
    have hm' : m = cap := by simpa using hm
    refine ⟨(List.range len).map Sx, by simp, fun k n hk => ?_, by omega, fun y hy => ?_⟩
    · rw [List.getElem?_map] at hk
      have hk' : k < len := by
        rcases Nat.lt_or_ge k len with h | h
        · exact h
        · rw [List.getElem?_eq_none (by simpa using h)] at hk; cases hk
      rw [List.getElem?_range hk'] at hk
      injection hk with hk
      obtain ⟨b, off, spot⟩ := a
      have h0 := (hc k (by omega)).1
      have hsp : spot = none := by simpa [Addr.add] using World.cell?_spot (hc 0 (by omega)).1
      subst hsp
      rw [← hk]
      exact ⟨b, off, rfl, by rw [add_plain] at h0; exact h0⟩
    · obtain ⟨i, hi, rfl⟩ := List.mem_map.1 hy
      have h9 := hz (Sx i).data.toList.length (by
        rw [hx]
        simp only [DataW.weights, Try.underlying35, List.mem_cons, List.mem_append]
        exact .inr (.inl (weights_mem_all (d := .lit (.string (Sx i).data.toList)) (List.mem_map.2 ⟨i, hi, rfl⟩) _ (by simp [DataW.weights]))))
      simpa using h9

theorem sorts_lifted (os : Os) (started : os.Started) (H : Type) (enc : TypeId × Value → H) :
    ReturnsInHanded {} Try.checked os 4 .any (Rows.treeSortsSpec.pre6 enc Try.prog Try.f4 Rows.treeSortsRow.domain false) (Rows.treeSortsSpec.post enc Try.prog Try.f4 false true false false) := by
  refine returnsInHanded_of_change_sized (C := Try.checked) ts_own started (by kernel_rfl) Try.func4
    (ChangeSpec.witness6 (enc := enc) (C := Try.checked) false ⟨#[], #[.slice none 0 0, .slice none 0 0], []⟩ 8 (by kernel_rfl) (by kernel_rfl) (by kernel_rfl) (by kernel_rfl)) ?_
  intro W base args ds gs before hval0 hW _ hsz _
  have hval : ∀ (j : Nat) t v, Try.f4.params[j]? = some t → args[j]? = some v → Value.okWide Try.prog W .any base t v := hval0
  have hW' := hW
  obtain ⟨p, q, hA0, hV, rfl, _, _⟩ := hW
  have hA : DataW.TrodAll enc Try.prog W 0 (fun _ => true) true Try.f4.params.toList args.toList ds p := hA0
  have hsz' : (DataW.weightsEach Try.prog (Try.f4.params.toList ++ Rows.treeSortsSpec.plain.varTypes Try.prog) (ds ++ gs)).all (· ≤ reachBytes) = true := hsz
  rw [Try.params4] at hA hval hsz'
  obtain ⟨v0, v1, d0, d1, p0, p1, rfl, rfl, rfl, h0, h1⟩ := trodAll_two hA
  obtain ⟨rfl, rfl⟩ := trodVars_none hV
  obtain ⟨a0, len0, cap0, rfl⟩ := okWide_slice Try.underlying35 (hval 0 35 v0 rfl rfl)
  obtain ⟨a1, len1, cap1, rfl⟩ := okWide_slice Try.underlying35 (hval 1 35 v1 rfl rfl)
  have h0k := h0
  have h1k := h1
  obtain ⟨f0, hf0⟩ := h0
  obtain ⟨f1, hf1⟩ := h1
  clear hA0 hval0
  simp only [List.append_nil] at hW'
  have hz0 : ∀ n ∈ d0.weights Try.prog 35, n ≤ reachBytes := fun n hn => by
    have := List.all_eq_true.1 hsz' n (DataW.weights_mem_each (j := 0) rfl rfl n hn)
    simpa using this
  have hz1 : ∀ n ∈ d1.weights Try.prog 35, n ≤ reachBytes := fun n hn => by
    have := List.all_eq_true.1 hsz' n (DataW.weights_mem_each (j := 1) rfl rfl n hn)
    simpa using this
  obtain ⟨ks, rfl, hks, hkm, hkz⟩ := strs_of hf0 hz0
  obtain ⟨gs', rfl, hgs, hgm, hgz⟩ := strs_of hf1 hz1
  have hlt0 : ∀ x ∈ p0, x.block < W.heap.size := fun x hx => hW'.lt x (by simp [hx])
  have hlt1 : ∀ x ∈ p1, x.block < W.heap.size := fun x hx => hW'.lt x (by simp [hx])
  have e1 : Rows.treeSortsSpec.fn H ([d0, d1] ++ []) = { results := [.lit (.bool true)], args := [d0, d1] } := by simp [Rows.treeSortsSpec]
  have hrb := reachBytes_lt
  refine (S.sorts_law ks gs' a0 a1 cap0 cap1 W hks hgs (by unfold maxLen at hkm; omega) (by unfold maxLen at hgm; omega) (fun x hx => by have := hkz x hx; omega)).mono fun e W' ⟨he, ht⟩ => ?_
  subst he
  have hB : Below W.heap.size W W' := ht.below (Nat.le_refl _) (fun _ _ h => h)
  refine ⟨_, rfl, _, _, _, [], p0 ++ p1, [], hW', ?_, ?_, ?_, hB.frame _, fun h => by cases h⟩
  · rw [e1]; exact trodAll_mk1 (shut_bool Try.underlying4 true)
  · rw [e1]
    exact trodAll_mk2 (Below.trod ts_laidOut (by kernel_rfl) (of_decide_eq_true (by kernel_rfl)) h0k hB hlt0) (Below.trod ts_laidOut (by kernel_rfl) (of_decide_eq_true (by kernel_rfl)) h1k hB hlt1)
  · rw [e1]; rfl

theorem sorts_holds : Rows.TreeSortsSaid :=
  OpenClaim.holds_of_wide 4 Try.f4 rfl rfl rfl rfl rfl rfl rfl ⟨rfl, rfl, rfl, rfl, rfl⟩ rfl rfl rfl rfl rfl (by kernel_rfl) Try.func4 (by kernel_rfl)
    (of_decide_eq_true (by kernel_rfl)) (by unfold Func.isWrapper; first | (rw [if_pos (by decide +kernel)]; kernel_rfl) | (rw [if_neg (by decide +kernel)]; exact ⟨rfl, rfl⟩))
    (fun os started H enc _ => sorts_lifted os started H enc)
end Go.Proofs.Ytnjiiebjdpipjaa
