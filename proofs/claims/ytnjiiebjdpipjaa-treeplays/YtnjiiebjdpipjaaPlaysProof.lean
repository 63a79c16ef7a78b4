import Derived.Test.YtnjiiebjdpipjaaRows
import Derived.ProofKit
import Derived.SizedLaws
import Derived.OpenShut
import Derived.Deep.Slices
import Derived.Deep.Strs
import Derived.Deep.DeepHandedRow
import Derived.Test.YtnjiiebjdpipjaaTPl1
/- TreePlays: the row. -/
namespace Go.Proofs.Ytnjiiebjdpipjaa
open Go.ChangeShapes Go.WideShapes Go.ChangeAt Go.RowKit Go.Deep Go
set_option maxRecDepth 100000

theorem tp_own : ownKnob Try.prog.godebug = none := by kernel_rfl
theorem tp_laidOut : laidOutB Try.prog = true := by kernel_rfl
theorem tp_str : Try.prog.cellsOf 9 = 1 := by kernel_rfl
theorem tp_int : Try.prog.cellsOf 3 = 1 := by kernel_rfl
theorem tp_bool : Try.prog.cellsOf 4 = 1 := by kernel_rfl
theorem tp_op : Try.prog.cellsOf 55 = 5 := by kernel_rfl
theorem tp_wf {n : Int} (h : (Lit.int .i64 n).wf = true) : -9223372036854775808 ≤ n ∧ n ≤ 9223372036854775807 := by
  have := bounds_i64 h
  omega
theorem tp_list5 {α : Type} (l : List α) (h : l.length = 5) : ∃ c0 c1 c2 c3 c4, l = [c0, c1, c2, c3, c4] := by
  rcases l with _ | ⟨c0, _ | ⟨c1, _ | ⟨c2, _ | ⟨c3, _ | ⟨c4, _ | ⟨c5, l⟩⟩⟩⟩⟩⟩ <;> simp at h
  exact ⟨c0, c1, c2, c3, c4, rfl⟩
theorem tp_weights {H : Type} {P : Program} {e : TypeId} : ∀ {ds : List (DataW H)} {d : DataW H}, d ∈ ds → ∀ n ∈ d.weights P e, n ∈ DataW.weightsAll P e ds
  | d0 :: ds, d, hd, n, hn => by
    simp only [DataW.weightsAll, List.mem_append]
    rcases List.mem_cons.1 hd with rfl | hd
    · exact Or.inl hn
    · exact Or.inr (tp_weights hd n hn)
theorem ops_of {H : Type} {enc : TypeId × Value → H} {W : World} {fuel : Nat} {ao : Option Addr} {len cap : Nat} {x : DataW H × List MemPlace}
    (h : DataW.trod enc Try.prog W 0 (fun _ => true) true fuel 47 [.slice ao len cap] = some x) (hz : ∀ n ∈ x.1.weights Try.prog 47, n ≤ reachBytes) :
    ∃ os : Nat → Opv, (∀ i, i < len → ∃ g o, ao = some ⟨g, o, none⟩ ∧ OpAt W g (o + i * 5) (os i) ∧ (os i).ok) ∧ len ≤ maxLen := by
  have hrb := reachBytes_lt
  rcases open_slice Try.underlying47 h with ⟨h1, rfl⟩ | ⟨a, len', cap', m, n, D, Pl, h1, _, hl, hmx, hm, hx, hel⟩
  · simp at h1
    obtain ⟨rfl, rfl, rfl⟩ := h1
    exact ⟨fun _ => ⟨false, 0, 0, ⟨#[]⟩, ⟨#[]⟩⟩, fun i hi => by omega, Nat.zero_le _⟩
  · simp only [List.cons.injEq, Value.slice.injEq, and_true] at h1
    obtain ⟨rfl, rfl, rfl⟩ := h1
    subst hx
    have hm' : m = cap := by simpa using hm
    rw [tp_op] at hel
    have key : ∀ i, i < len → ∃ o : Opv, (W.cell? (a.add (i * 5)) = some (.bool o.other) ∧ W.cell? ((a.add (i * 5)).add 1) = some (.int .i64 o.kind) ∧ W.cell? ((a.add (i * 5)).add 2) = some (.int .i64 o.n) ∧ W.cell? ((a.add (i * 5)).add 3) = some (.string o.s) ∧ W.cell? ((a.add (i * 5)).add 4) = some (.string o.t)) ∧ o.ok := by
      intro i hi
      obtain ⟨cs', hc, ht⟩ := hel i (by omega)
      obtain ⟨_, hcl, hcc⟩ := World.cells?_some hc
      obtain ⟨xs, n', _, hxe, _, hxl, hf⟩ := DataW.trod_struct Try.underlying55 ht
      have hxs : xs.length = 5 := hxl
      obtain ⟨c0, c1, c2, c3, c4, rfl⟩ := tp_list5 cs' hcl
      obtain ⟨y0, y1, y2, y3, y4, rfl⟩ := tp_list5 xs hxs
      have f0 : DataW.trod enc Try.prog W 0 (fun _ => true) true n' 4 [c0] = some y0 := by have := hf 0 _ rfl; simpa [tp_bool, tp_int, tp_str] using this
      have f1 : DataW.trod enc Try.prog W 0 (fun _ => true) true n' 3 [c1] = some y1 := by have := hf 1 _ rfl; simpa [tp_bool, tp_int, tp_str] using this
      have f2 : DataW.trod enc Try.prog W 0 (fun _ => true) true n' 3 [c2] = some y2 := by have := hf 2 _ rfl; simpa [tp_bool, tp_int, tp_str] using this
      have f3 : DataW.trod enc Try.prog W 0 (fun _ => true) true n' 9 [c3] = some y3 := by have := hf 3 _ rfl; simpa [tp_bool, tp_int, tp_str] using this
      have f4 : DataW.trod enc Try.prog W 0 (fun _ => true) true n' 9 [c4] = some y4 := by have := hf 4 _ rfl; simpa [tp_bool, tp_int, tp_str] using this
      obtain ⟨ot, e0, v0⟩ := DataW.trod_bool Try.underlying4 f0
      obtain ⟨kd, e1, v1, wkd⟩ := DataW.trod_int Try.underlying3 f1
      obtain ⟨N, e2, v2, wN⟩ := DataW.trod_int Try.underlying3 f2
      obtain ⟨s, e3, v3, _⟩ := DataW.trod_string Try.underlying9 f3
      obtain ⟨t, e4, v4, _⟩ := DataW.trod_string Try.underlying9 f4
      simp at e0 e1 e2 e3 e4
      subst e0 e1 e2 e3 e4
      have hD : D i = .agg [y0.1, y1.1, y2.1, y3.1, y4.1] := by
        have := congrArg Prod.fst hxe
        simpa using this
      have h9 := hz s.data.toList.length (by
        simp only [DataW.weights, Try.underlying47, List.mem_cons, List.mem_append]
        refine .inr (.inl (tp_weights (d := D i) (List.mem_map.2 ⟨i, List.mem_range.2 hi, rfl⟩) _ ?_))
        rw [hD, v0, v1, v2, v3, v4]
        simp [DataW.weights, Try.underlying55, DataW.weightsEach])
      have g0 := hcc 0 (by omega)
      have g1 := hcc 1 (by omega)
      have g2 := hcc 2 (by omega)
      have g3 := hcc 3 (by omega)
      have g4 := hcc 4 (by omega)
      have bN := tp_wf wN
      have hsz : s.size ≤ reachBytes := by simpa using h9
      exact ⟨⟨ot, kd, N, s, t⟩, ⟨by simpa [Addr.add] using g0, by simpa using g1, by simpa using g2, by simpa using g3, by simpa using g4⟩, ⟨bN.1, bN.2, by show s.size < _; omega⟩⟩
    obtain ⟨b, off, spot⟩ := a
    have key2 : ∀ i, ∃ o : Opv, i < len → (OpAt W b (off + i * 5) o ∧ o.ok) ∧ spot = none := fun i => by
      by_cases hi : i < len
      · obtain ⟨o, ⟨h0, h1, h2, h3, h4⟩, h7⟩ := key i hi
        have hspot : spot = none := by
          obtain ⟨_, ⟨h0', _⟩, _⟩ := key 0 (by omega)
          simpa [Addr.add] using World.cell?_spot h0'
        subst hspot
        simp only [add_plain] at h0 h1 h2 h3 h4
        exact ⟨o, fun _ => ⟨⟨⟨h0, h1, h2, h3, h4⟩, h7⟩, rfl⟩⟩
      · exact ⟨⟨false, 0, 0, ⟨#[]⟩, ⟨#[]⟩⟩, fun h => absurd h hi⟩
    obtain ⟨os, hos⟩ := Classical.skolem.1 key2
    refine ⟨os, fun i hi => ?_, by omega⟩
    obtain ⟨⟨h1, h2⟩, rfl⟩ := hos i hi
    exact ⟨b, off, rfl, h1, h2⟩

theorem plays_lifted (os : Os) (started : os.Started) (H : Type) (enc : TypeId × Value → H) :
    ReturnsInHanded {} Try.checked os 5 .any (Rows.treePlaysSpec.pre6 enc Try.prog Try.f5 Rows.treePlaysRow.domain false) (Rows.treePlaysSpec.post enc Try.prog Try.f5 false true false false) := by
  refine returnsInHanded_of_change_sized (C := Try.checked) tp_own started (by kernel_rfl) Try.func5
    (ChangeSpec.witness6 (enc := enc) (C := Try.checked) false ⟨#[], #[.slice none 0 0], []⟩ 8 (by kernel_rfl) (by kernel_rfl) (by kernel_rfl) (by kernel_rfl)) ?_
  intro W base args ds gs before hval0 hW _ hsz _
  have hval : ∀ (j : Nat) t v, Try.f5.params[j]? = some t → args[j]? = some v → Value.okWide Try.prog W .any base t v := hval0
  have hW' := hW
  obtain ⟨p, q, hA0, hV, rfl, _, _⟩ := hW
  have hA : DataW.TrodAll enc Try.prog W 0 (fun _ => true) true Try.f5.params.toList args.toList ds p := hA0
  have hsz' : (DataW.weightsEach Try.prog (Try.f5.params.toList ++ Rows.treePlaysSpec.plain.varTypes Try.prog) (ds ++ gs)).all (· ≤ reachBytes) = true := hsz
  rw [Try.params5] at hA hval hsz'
  obtain ⟨v0, d0, rfl, rfl, h0⟩ := trodAll_one hA
  obtain ⟨rfl, rfl⟩ := trodVars_none hV
  obtain ⟨a0, len0, cap0, rfl⟩ := okWide_slice Try.underlying47 (hval 0 47 v0 rfl rfl)
  have h0k := h0
  obtain ⟨f0, hf0⟩ := h0
  clear hA0 hval0
  simp only [List.append_nil] at hW'
  have hz0 : ∀ n ∈ d0.weights Try.prog 47, n ≤ reachBytes := fun n hn => by
    have := List.all_eq_true.1 hsz' n (DataW.weights_mem_each (j := 0) rfl rfl n hn)
    simpa using this
  obtain ⟨ops, hops, hm⟩ := ops_of hf0 hz0
  have hlt0 : ∀ x ∈ p, x.block < W.heap.size := fun x hx => hW'.lt x (by simp [hx])
  have e1 : Rows.treePlaysSpec.fn H ([d0] ++ []) = { results := [.lit (.bool true)], args := [d0] } := by simp [Rows.treePlaysSpec]
  refine (plays_law W a0 len0 cap0 ops hops (by unfold maxLen at hm; omega)).mono fun e W' ⟨he, ht⟩ => ?_
  subst he
  have hB : Below W.heap.size W W' := ht.below (Nat.le_refl _) (fun _ _ h => h)
  refine ⟨_, rfl, _, _, _, [], p, [], hW', ?_, ?_, ?_, hB.frame _, fun h => by cases h⟩
  · rw [e1]; exact trodAll_mk1 (shut_bool Try.underlying4 true)
  · rw [e1]
    exact trodAll_mk1 (Below.trod tp_laidOut (by kernel_rfl) (of_decide_eq_true (by kernel_rfl)) h0k hB hlt0)
  · rw [e1]; rfl

theorem plays_holds : Rows.TreePlaysSaid :=
  OpenClaim.holds_of_wide 5 Try.f5 rfl rfl rfl rfl rfl rfl rfl ⟨rfl, rfl, rfl, rfl, rfl⟩ rfl rfl rfl rfl rfl (by kernel_rfl) Try.func5 (by kernel_rfl)
    (of_decide_eq_true (by kernel_rfl)) (by unfold Func.isWrapper; first | (rw [if_pos (by decide +kernel)]; kernel_rfl) | (rw [if_neg (by decide +kernel)]; exact ⟨rfl, rfl⟩))
    (fun os started H enc _ => plays_lifted os started H enc)
end Go.Proofs.Ytnjiiebjdpipjaa
