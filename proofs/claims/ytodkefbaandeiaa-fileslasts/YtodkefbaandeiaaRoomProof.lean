/- FilesRoom: the row. -/
import Derived.Test.YtodkefbaandeiaaRows
import Derived.Test.YtodkefbaandeiaaRoom
import Derived.ProofKit
import Derived.SizedLaws
import Derived.OpenShut
import Derived.Deep.Slices
namespace Go.Proofs.Ytodkefbaandeiaa
open Go.ChangeShapes Go.WideShapes Go.ChangeAt Go.RowKit Go.Deep

theorem tr_own : ownKnob Try.prog.godebug = none := by kernel_rfl
theorem tr_laidOut : laidOutB Try.prog = true := by kernel_rfl
theorem cells_int : Try.prog.cellsOf 3 = 1 := by kernel_rfl
theorem cells_str : Try.prog.cellsOf 9 = 1 := by kernel_rfl
theorem cells_deed : Try.prog.cellsOf 45 = 4 := by kernel_rfl
theorem wf_i64 {n : Int} (h : (Lit.int .i64 n).wf = true) : -9223372036854775808 ≤ n ∧ n ≤ 9223372036854775807 := by
  have := bounds_i64 h
  omega
theorem list4 {α : Type} (l : List α) (h : l.length = 4) : ∃ c0 c1 c2 c3, l = [c0, c1, c2, c3] := by
  rcases l with _ | ⟨c0, _ | ⟨c1, _ | ⟨c2, _ | ⟨c3, _ | ⟨c4, l⟩⟩⟩⟩⟩ <;> simp at h
  exact ⟨c0, c1, c2, c3, rfl⟩

set_option maxRecDepth 100000 in
theorem deeds_of {H : Type} {enc : TypeId × Value → H} {W : World} {fuel : Nat} {ao : Option Addr} {len cap : Nat} {x : DataW H × List MemPlace}
    (h : DataW.trod enc Try.prog W 0 (fun _ => true) true fuel 40 [.slice ao len cap] = some x) : Deeds W ao len ∧ len ≤ 9223372036854775807 := by
  rcases open_slice Try.underlying40 h with ⟨h1, _⟩ | ⟨a, len', cap', m, n, D, Pl, h1, _, hl, hmx, hm, _, hel⟩
  · simp at h1
    exact ⟨fun i hi => by omega, by omega⟩
  · simp only [List.cons.injEq, Value.slice.injEq, and_true] at h1
    obtain ⟨rfl, rfl, rfl⟩ := h1
    have hm' : m = cap := by simpa using hm
    rw [cells_deed] at hel
    have key : ∀ i, i < len → ∃ kd fl n, ∃ s : ByteArray, (W.cell? (a.add (i * 4)) = some (.int .i64 kd) ∧ W.cell? ((a.add (i * 4)).add 1) = some (.int .i64 fl) ∧ W.cell? ((a.add (i * 4)).add 2) = some (.int .i64 n) ∧ W.cell? ((a.add (i * 4)).add 3) = some (.string s)) ∧
        ((-9223372036854775808 ≤ kd ∧ kd ≤ 9223372036854775807) ∧ (-9223372036854775808 ≤ fl ∧ fl ≤ 9223372036854775807) ∧ -9223372036854775808 ≤ n ∧ n ≤ 9223372036854775807) ∧ s.size ≤ 9223372036854775807 := by
      intro i hi
      obtain ⟨cs', hc, ht⟩ := hel i (by omega)
      obtain ⟨_, hcl, hcc⟩ := World.cells?_some hc
      obtain ⟨xs, n', _, _, _, hxl, hf⟩ := DataW.trod_struct Try.underlying45 ht
      have hxs : xs.length = 4 := hxl
      obtain ⟨c0, c1, c2, c3, rfl⟩ := list4 cs' hcl
      obtain ⟨y0, y1, y2, y3, rfl⟩ := list4 xs hxs
      have f0 : DataW.trod enc Try.prog W 0 (fun _ => true) true n' 3 [c0] = some y0 := by have := hf 0 _ rfl; simpa [cells_int] using this
      have f1 : DataW.trod enc Try.prog W 0 (fun _ => true) true n' 3 [c1] = some y1 := by have := hf 1 _ rfl; simpa [cells_int] using this
      have f2 : DataW.trod enc Try.prog W 0 (fun _ => true) true n' 3 [c2] = some y2 := by have := hf 2 _ rfl; simpa [cells_int] using this
      have f3 : DataW.trod enc Try.prog W 0 (fun _ => true) true n' 9 [c3] = some y3 := by have := hf 3 _ rfl; simpa [cells_str] using this
      obtain ⟨k0, e0', _, w0⟩ := DataW.trod_int Try.underlying3 f0
      obtain ⟨k1, e1, _, w1⟩ := DataW.trod_int Try.underlying3 f1
      obtain ⟨k2, e2, _, w2⟩ := DataW.trod_int Try.underlying3 f2
      obtain ⟨s, e3, hs1, hs2⟩ := DataW.trod_string Try.underlying9 f3
      simp at e0' e1 e2 e3
      subst e0' e1 e2 e3
      have g0 := hcc 0 (by omega)
      have g1 := hcc 1 (by omega)
      have g2 := hcc 2 (by omega)
      have g3 := hcc 3 (by omega)
      exact ⟨k0, k1, k2, s, ⟨by simpa [Addr.add] using g0, by simpa using g1, by simpa using g2, by simpa using g3⟩, ⟨wf_i64 w0, wf_i64 w1, wf_i64 w2⟩, by simpa [maxLen] using hs2⟩
    obtain ⟨b, off, spot⟩ := a
    refine ⟨fun i hi => ?_, by unfold maxLen at hmx; omega⟩
    have hspot : spot = none := by
      obtain ⟨_, _, _, _, ⟨h0', _⟩, _⟩ := key 0 (by omega)
      simpa [Addr.add] using World.cell?_spot h0'
    subst hspot
    obtain ⟨kd, fl, nn, s, ⟨h0', h1', h2', h3'⟩, hr⟩ := key i hi
    simp only [add_plain] at h0' h1' h2' h3'
    exact ⟨b, off, kd, fl, nn, s, rfl, ⟨h0', h1', h2', h3'⟩, hr⟩

set_option maxRecDepth 100000 in
theorem room_lifted (os : Os) (started : os.Started) (H : Type) (enc : TypeId × Value → H) :
    ReturnsInHanded {} Try.checked os 4 .any (Rows.filesRoomSpec.pre6 enc Try.prog Try.f4 Rows.filesRoomRow.domain false) (Rows.filesRoomSpec.post enc Try.prog Try.f4 false true false false) := by
  refine returnsInHanded_of_change_sized (C := Try.checked) tr_own started (by kernel_rfl) Try.func4
    (ChangeSpec.witness6 (enc := enc) (C := Try.checked) false ⟨#[], #[.int .i64 0, .slice none 0 0], []⟩ 8 (by kernel_rfl) (by kernel_rfl) (by kernel_rfl) (by kernel_rfl)) ?_
  intro W base args ds gs before hval0 hW _ _ _
  have hval : ∀ (j : Nat) t v, Try.f4.params[j]? = some t → args[j]? = some v → Value.okWide Try.prog W .any base t v := hval0
  have hW' := hW
  obtain ⟨p, q, hA0, hV, rfl, _, _⟩ := hW
  have hA : DataW.TrodAll enc Try.prog W 0 (fun _ => true) true Try.f4.params.toList args.toList ds p := hA0
  rw [Try.params4] at hA hval
  obtain ⟨v0, v1, d0, d1, p0, p1, rfl, rfl, rfl, h0, h1⟩ := trodAll_two hA
  obtain ⟨rfl, rfl⟩ := trodVars_none hV
  obtain ⟨n, rfl, rfl, rfl, wn⟩ := open_int Try.underlying3 (hval 0 3 v0 rfl rfl) h0
  obtain ⟨a0, len, cap, rfl⟩ := okWide_slice Try.underlying40 (hval 1 40 v1 rfl rfl)
  have h1k := h1
  obtain ⟨fuel, hf⟩ := h1
  clear hA0 hval0
  simp only [List.append_nil, List.nil_append] at hW'
  have hlt : ∀ x ∈ p1, x.block < W.heap.size := fun x hx => by simpa using hW'.lt x hx
  have b0 := wf_i64 wn
  have e1 : Rows.filesRoomSpec.fn H ([.lit (.int .i64 n), d1] ++ []) = { results := [.lit (.bool true)], args := [.lit (.int .i64 n), d1] } := by simp [Rows.filesRoomSpec]
  obtain ⟨hd, hl⟩ := deeds_of hf
  refine (room_any n a0 len cap W b0.1 b0.2 hd hl).mono fun e W' ⟨he, ht⟩ => ?_
  subst he
  have hB : Below W.heap.size W W' := ht.below (Nat.le_refl _) (fun _ _ h => h)
  refine ⟨_, rfl, _, _, _, [], p1, [], hW', ?_, ?_, ?_, hB.frame _, fun h => by cases h⟩
  · rw [e1]; exact trodAll_mk1 (shut_bool Try.underlying4 true)
  · rw [e1]; exact trodAll_mk2 (shut_int Try.underlying3 wn) (Below.trod tr_laidOut (by kernel_rfl) (of_decide_eq_true (by kernel_rfl)) h1k hB hlt)
  · rw [e1]; rfl

theorem room_holds : Rows.FilesRoomSaid :=
  OpenClaim.holds_of_wide 4 Try.f4 rfl rfl rfl rfl rfl rfl rfl ⟨rfl, rfl, rfl, rfl, rfl⟩ rfl rfl rfl rfl rfl (by kernel_rfl) Try.func4 (by kernel_rfl)
    (of_decide_eq_true (by kernel_rfl)) (by unfold Func.isWrapper; first | (rw [if_pos (by decide +kernel)]; kernel_rfl) | (rw [if_neg (by decide +kernel)]; exact ⟨rfl, rfl⟩))
    (fun os started H enc _ => room_lifted os started H enc)
end Go.Proofs.Ytodkefbaandeiaa
