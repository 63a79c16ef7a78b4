/- FilesMakes: the row of the second form. -/
import Derived.Test.YtngdgglgmmlmkaaRows
import Derived.Test.YtngdgglgmmlmkaaMakes
import Derived.ProofKit
import Derived.SizedLaws
import Derived.OpenShut
import Derived.JoinedCond
import Derived.Deep.Slices
namespace Go.Proofs.Ytngdgglgmmlmkaa
open Go.ChangeShapes Go.WideShapes Go.ChangeAt Go.RowKit Go.Deep

theorem tr_own : ownKnob Try.prog.godebug = none := by kernel_rfl
theorem tr_laidOut : laidOutB Try.prog = true := by kernel_rfl
theorem cells_str : Try.prog.cellsOf 9 = 1 := by kernel_rfl
theorem cells_file : Try.prog.cellsOf 60 = 2 := by kernel_rfl
theorem list2 {α : Type} (l : List α) (h : l.length = 2) : ∃ c0 c1, l = [c0, c1] := by
  rcases l with _ | ⟨c0, _ | ⟨c1, _ | ⟨c2, l⟩⟩⟩ <;> simp at h
  exact ⟨c0, c1, rfl⟩
theorem bulk_append {H : Type} (l r : List (DataW H)) : Rows.uptoBulkAll (l ++ r) = Rows.uptoBulkAll l + Rows.uptoBulkAll r := by
  induction l with
  | nil => simp [Rows.uptoBulkAll]
  | cons x l ih => simp only [List.cons_append, Rows.uptoBulkAll, ih]; omega
theorem bulk_range {H : Type} (D : Nat → DataW H) (bs : Nat → ByteArray) (n : Nat) (h : ∀ i, i < n → (bs i).size + 1 ≤ Rows.uptoBulk (D i)) : ∀ k, k ≤ n → lens bs k + k ≤ Rows.uptoBulkAll ((List.range k).map D)
  | 0, _ => by simp [lens]
  | k + 1, hk => by
    have ih := bulk_range D bs n h k (by omega)
    have h1 := h k (by omega)
    rw [List.range_succ, List.map_append, bulk_append]
    simp only [List.map_cons, List.map_nil, Rows.uptoBulkAll, lens]
    omega

set_option maxRecDepth 100000 in
theorem files_of {H : Type} {enc : TypeId × Value → H} {W : World} {fuel : Nat} {ao : Option Addr} {len cap : Nat} {x : DataW H × List MemPlace}
    (h : DataW.trod enc Try.prog W 0 (fun _ => true) true fuel 50 [.slice ao len cap] = some x) : (∃ nm bs, FLs W ao len nm bs ∧ lens bs len + len ≤ Rows.uptoBulk x.1) ∧ (ao = none → len = 0 ∧ cap = 0) := by
  rcases open_slice Try.underlying50 h with ⟨h1, rfl⟩ | ⟨a, len', cap', m, n, D, Pl, h1, _, hl, hmx, hm, hx, hel⟩
  · simp at h1
    obtain ⟨rfl, rfl, rfl⟩ := h1
    exact ⟨⟨fun _ => ⟨#[]⟩, fun _ => ⟨#[]⟩, fun i hi => by omega, by simp [lens]⟩, fun _ => ⟨rfl, rfl⟩⟩
  · simp only [List.cons.injEq, Value.slice.injEq, and_true] at h1
    obtain ⟨rfl, rfl, rfl⟩ := h1
    subst hx
    have hm' : m = cap := by simpa using hm
    rw [cells_file] at hel
    have key : ∀ i, i < len → ∃ p : ByteArray × ByteArray, (W.cell? (a.add (i * 2)) = some (.string p.1) ∧ W.cell? ((a.add (i * 2)).add 1) = some (.string p.2)) ∧ p.2.size + 1 ≤ Rows.uptoBulk (D i) := by
      intro i hi
      obtain ⟨cs', hc, ht⟩ := hel i (by omega)
      obtain ⟨_, hcl, hcc⟩ := World.cells?_some hc
      obtain ⟨xs, n', _, hxe, _, hxl, hf⟩ := DataW.trod_struct Try.underlying60 ht
      have hxs : xs.length = 2 := hxl
      obtain ⟨c0, c1, rfl⟩ := list2 cs' hcl
      obtain ⟨y0, y1, rfl⟩ := list2 xs hxs
      have f0 : DataW.trod enc Try.prog W 0 (fun _ => true) true n' 9 [c0] = some y0 := by have := hf 0 _ rfl; simpa [cells_str] using this
      have f1 : DataW.trod enc Try.prog W 0 (fun _ => true) true n' 9 [c1] = some y1 := by have := hf 1 _ rfl; simpa [cells_str] using this
      obtain ⟨s0, e0, hs0, _⟩ := DataW.trod_string Try.underlying9 f0
      obtain ⟨s1, e1, hs1, _⟩ := DataW.trod_string Try.underlying9 f1
      simp at e0 e1
      subst e0 e1
      have g0 := hcc 0 (by omega)
      have g1 := hcc 1 (by omega)
      refine ⟨(s0, s1), ⟨by simpa [Addr.add] using g0, by simpa using g1⟩, ?_⟩
      have hD : D i = .agg [y0.1, y1.1] := by
        have := congrArg Prod.fst hxe
        simpa using this
      rw [hD, hs1]
      have e : s1.data.toList.length = s1.size := by rw [Array.length_toList]; rfl
      simp only [Rows.uptoBulk, Rows.uptoBulkAll]
      show s1.size + 1 ≤ _
      omega
    obtain ⟨b, off, spot⟩ := a
    have key2 : ∀ i, ∃ p : ByteArray × ByteArray, i < len → ((W.cell? ⟨b, off + i * 2, none⟩ = some (.string p.1) ∧ W.cell? ⟨b, off + i * 2 + 1, none⟩ = some (.string p.2)) ∧ p.2.size + 1 ≤ Rows.uptoBulk (D i)) ∧ spot = none := fun i => by
      by_cases hi : i < len
      · obtain ⟨p, ⟨h1, h2⟩, h3⟩ := key i hi
        have hspot : spot = none := by
          obtain ⟨_, ⟨h0', _⟩, _⟩ := key 0 (by omega)
          simpa [Addr.add] using World.cell?_spot h0'
        subst hspot
        simp only [add_plain] at h1 h2
        exact ⟨p, fun _ => ⟨⟨⟨h1, h2⟩, h3⟩, rfl⟩⟩
      · exact ⟨(⟨#[]⟩, ⟨#[]⟩), fun h => absurd h hi⟩
    obtain ⟨pz, hpz⟩ := Classical.skolem.1 key2
    refine ⟨⟨fun i => (pz i).1, fun i => (pz i).2, fun i hi => ?_, ?_⟩, fun h => by cases h⟩
    · obtain ⟨⟨⟨h1, h2⟩, _⟩, rfl⟩ := hpz i hi
      exact ⟨b, off, rfl, h1, h2⟩
    · have := bulk_range D (fun i => (pz i).2) len (fun i hi => (hpz i hi).1.2) len (Nat.le_refl _)
      simp only [Rows.uptoBulk]
      omega

set_option maxRecDepth 100000 in
theorem makes_lifted (os : Os) (started : os.Started) (H : Type) (enc : TypeId × Value → H) (F : Stop.Interp) :
    ReturnsInHanded {} Try.checked os 5 .any ((Rows.OpenSpec.upto Rows.filesMakesSpec).pre6 enc Try.prog Try.f5 Rows.filesMakesUptoRow.domain false) (((Rows.OpenSpec.upto Rows.filesMakesSpec).at F).post enc Try.prog Try.f5 false true false false) := by
  refine returnsInHanded_of_cond (C := Try.checked) (s := Rows.OpenSpec.upto Rows.filesMakesSpec) (k := Rows.uptoSmall) rfl tr_own started (by kernel_rfl) Try.func5
    (OpenSpec.witness (enc := enc) (C := Try.checked) (s := Rows.OpenSpec.upto Rows.filesMakesSpec) (k := Rows.uptoSmall) rfl false ⟨#[], #[.int .i64 0, .slice none 0 0], []⟩ 8 (by kernel_rfl) (by kernel_rfl) (by kernel_rfl)
      (x := ([.lit (.int .i64 0), .nil], [], [])) (by kernel_rfl) rfl (by kernel_rfl)) ?_
  intro W base args ds gs before hval0 hW _ hk _
  have hval : ∀ (j : Nat) t v, Try.f5.params[j]? = some t → args[j]? = some v → Value.okWide Try.prog W .any base t v := hval0
  have hW' := hW
  obtain ⟨p, q, hA0, hV, rfl, _, _⟩ := hW
  have hA : DataW.TrodAll enc Try.prog W 0 (fun _ => true) true Try.f5.params.toList args.toList ds p := hA0
  rw [Try.params5] at hA hval
  obtain ⟨v0, v1, d0, d1, p0, p1, rfl, rfl, rfl, h0, h1⟩ := trodAll_two hA
  obtain ⟨rfl, rfl⟩ := trodVars_none hV
  obtain ⟨n, rfl, rfl, rfl, wn⟩ := open_int Try.underlying3 (hval 0 3 v0 rfl rfl) h0
  obtain ⟨a0, len, cap, rfl⟩ := okWide_slice Try.underlying50 (hval 1 50 v1 rfl rfl)
  have h1k := h1
  obtain ⟨fuel, hf⟩ := h1
  clear hA0 hval0
  simp only [List.append_nil, List.nil_append] at hW'
  have hlt : ∀ x ∈ p1, x.block < W.heap.size := fun x hx => by simpa using hW'.lt x hx
  have e1 : (Rows.filesMakesSpec.fn H ([.lit (.int .i64 n), d1] ++ [])) = { results := [.lit (.bool true)], args := [.lit (.int .i64 n), d1] } := by simp [Rows.filesMakesSpec]
  obtain ⟨⟨nm, bs, hL, hbl⟩, hnil⟩ := files_of hf
  have hb : Rows.uptoBulkAll ([.lit (.int .i64 n), d1] ++ [] : List (DataW H)) ≤ 1048576 := of_decide_eq_true hk
  simp only [List.append_nil, Rows.uptoBulkAll] at hb
  have hbl' : lens bs len + len ≤ Rows.uptoBulk d1 := hbl
  refine (makes_any n a0 len cap nm bs W hL hnil (by omega) (by omega)).mono fun e W' ⟨he, ht⟩ => ?_
  subst he
  have hB : Below W.heap.size W W' := ht.below (Nat.le_refl _) (fun _ _ h => h)
  refine ⟨_, rfl, _, _, _, [], p1, [], hW', ?_, ?_, ?_, hB.frame _, fun h => by cases h⟩
  · show DataW.TrodAll _ _ _ _ _ _ _ _ (Rows.filesMakesSpec.fn H ([.lit (.int .i64 n), d1] ++ [])).results _
    rw [e1]; exact trodAll_mk1 (shut_bool Try.underlying4 true)
  · show DataW.TrodAll _ _ _ _ _ _ _ _ (Rows.filesMakesSpec.fn H ([.lit (.int .i64 n), d1] ++ [])).args _
    rw [e1]; exact trodAll_mk2 (shut_int Try.underlying3 wn) (Below.trod tr_laidOut (by kernel_rfl) (of_decide_eq_true (by kernel_rfl)) h1k hB hlt)
  · show _ = _
    rfl

theorem makes_holds : Rows.FilesMakesUptoSaid :=
  OpenClaim.holds_of_cond 5 Try.f5 rfl rfl rfl rfl rfl rfl rfl ⟨rfl, rfl, rfl, rfl, rfl⟩ rfl rfl rfl rfl rfl (by kernel_rfl) Try.func5 (by kernel_rfl)
    (of_decide_eq_true (by kernel_rfl)) (by unfold Func.isWrapper; first | (rw [if_pos (by decide +kernel)]; kernel_rfl) | (rw [if_neg (by decide +kernel)]; exact ⟨rfl, rfl⟩))
    (fun os started H enc _ F => makes_lifted os started H enc F)
end Go.Proofs.Ytngdgglgmmlmkaa
