import Derived.Test.YtmegkmhcfehnkaaGreatDoorRows
import Derived.Test.YtmegkmhcfehnkaaGreatDoorVLit
import Derived.ProofKit
import Derived.ChangeSame
import Derived.ChangeVars
import Derived.JoinedOf
import Derived.RowKit
import Derived.RowKitTokens
import Derived.LaidLaws
import Derived.LaidHandle
import Derived.LaidMore
import Derived.Stop.Joined
import Derived.OpenShut
import Derived.SizedLaws
import Derived.Deep.Slices
/- From the rows' reading to cells: the listed variables; a value, a row. -/
namespace Go.Proofs.YtmegkmhcfehnkaaGreatDoor
open Go.ChangeShapes Go.WideShapes Go.RowKit Go.Deep
set_option maxRecDepth 100000

theorem tr_own : ownKnob Tryz.prog.godebug = none := by kernel_rfl
theorem tr_et : Tryz.prog.globalNamed "errors.errorType" = some 1 := by kernel_rfl
theorem tr_ws : Tryz.prog.globalNamed "confluence/value.words" = some 0 := by kernel_rfl
theorem tr_wt : (Tryz.prog.globals[0]?).map (·.type) = some 59 := by kernel_rfl
theorem tr_rt : (Tryz.prog.cutTypes.find? (·.1 == "internal/reflectlite.rtype")).map (·.2) = some 122 := by kernel_rfl
theorem tr_oneRow : ((List.range 177).filter fun t => Tryz.prog.rowNamed t [101, 114, 114, 111, 114]) = [61] := by kernel_rfl
theorem tr_size : Tryz.prog.types.size = 177 := by kernel_rfl
theorem tr_laidOut : laidOutB Tryz.prog = true := by kernel_rfl

abbrev theLaid : List (String × DataW Unit) := [("math/bits.deBruijn32tab", Rows.laid_math_bits_deBruijn32tab), ("math/bits.deBruijn64tab", Rows.laid_math_bits_deBruijn64tab), ("internal/strconv.uint64pow10", Rows.laid_internal_strconv_uint64pow10), ("errors.errorType", Rows.laid_errors_errorType), ("confluence/value.words", Rows.laid_confluence_value_words)]

theorem c_int : Tryz.prog.cellsOf 3 = 1 := by kernel_rfl
theorem c_str : Tryz.prog.cellsOf 9 = 1 := by kernel_rfl
theorem c_bool : Tryz.prog.cellsOf 4 = 1 := by kernel_rfl
theorem c_val : Tryz.prog.cellsOf 23 = 3 := by kernel_rfl
theorem c_word : Tryz.prog.cellsOf 58 = 4 := by kernel_rfl
theorem wf_i64 {n : Int} (h : (Lit.int .i64 n).wf = true) : -9223372036854775808 ≤ n ∧ n ≤ 9223372036854775807 := by
  have := bounds_i64 h
  omega
theorem list3 {α : Type} (l : List α) (h : l.length = 3) : ∃ c0 c1 c2, l = [c0, c1, c2] := by
  rcases l with _ | ⟨c0, _ | ⟨c1, _ | ⟨c2, _ | ⟨c3, l⟩⟩⟩⟩ <;> simp at h
  exact ⟨c0, c1, c2, rfl⟩
theorem list4 {α : Type} (l : List α) (h : l.length = 4) : ∃ c0 c1 c2 c3, l = [c0, c1, c2, c3] := by
  rcases l with _ | ⟨c0, _ | ⟨c1, _ | ⟨c2, _ | ⟨c3, _ | ⟨c4, l⟩⟩⟩⟩⟩ <;> simp at h
  exact ⟨c0, c1, c2, c3, rfl⟩

section
variable {H : Type} {enc : TypeId × Value → H} {W : World} {sp : Nat → Bool} {hd : Bool} {fuel : Nat} {x : DataW H × List MemPlace} {cs : List Value}
/-- The cells of a value. -/
theorem val_of (h : DataW.trod enc Tryz.prog W 0 sp hd fuel 23 cs = some x) :
    ∃ (k n : Int) (s : ByteArray), cs = [.int .i64 k, .int .i64 n, .string s] ∧ x.1 = .agg [.lit (.int .i64 k), .lit (.int .i64 n), .lit (.string s.data.toList)] ∧ (Val.mk k n s).i64 ∧ s.size ≤ maxLen := by
  obtain ⟨xs, n', _, hx, hcl, hxl, hf⟩ := DataW.trod_struct Tryz.underlying23 h
  rw [c_val] at hcl
  have hxs : xs.length = 3 := hxl
  obtain ⟨c0, c1, c2, rfl⟩ := list3 cs hcl
  obtain ⟨y0, y1, y2, rfl⟩ := list3 xs hxs
  have f0 : DataW.trod enc Tryz.prog W 0 sp hd n' 3 [c0] = some y0 := by have := hf 0 _ rfl; simpa [c_int] using this
  have f1 : DataW.trod enc Tryz.prog W 0 sp hd n' 3 [c1] = some y1 := by have := hf 1 _ rfl; simpa [c_int] using this
  have f2 : DataW.trod enc Tryz.prog W 0 sp hd n' 9 [c2] = some y2 := by have := hf 2 _ rfl; simpa [c_str] using this
  obtain ⟨k, e0, g0, wk⟩ := DataW.trod_int Tryz.underlying3 f0
  obtain ⟨n, e1, g1, wn⟩ := DataW.trod_int Tryz.underlying3 f1
  obtain ⟨s, e2, g2, ws⟩ := DataW.trod_string Tryz.underlying9 f2
  simp at e0 e1 e2
  subst e0 e1 e2
  exact ⟨k, n, s, rfl, by rw [hx, g0, g1, g2]; rfl, ⟨wf_i64 wk, wf_i64 wn⟩, ws⟩
theorem word_of (h : DataW.trod enc Tryz.prog W 0 sp hd fuel 58 cs = some x) :
    ∃ (t : ByteArray) (k n : Int) (s : ByteArray), cs = [.string t, .int .i64 k, .int .i64 n, .string s] ∧ x.1 = .agg [.lit (.string t.data.toList), .agg [.lit (.int .i64 k), .lit (.int .i64 n), .lit (.string s.data.toList)]] := by
  obtain ⟨xs, n', _, hx, hcl, hxl, hf⟩ := DataW.trod_struct Tryz.underlying58 h
  rw [c_word] at hcl
  have hxs : xs.length = 2 := hxl
  obtain ⟨c0, c1, c2, c3, rfl⟩ := list4 cs hcl
  rcases xs with _ | ⟨y0, _ | ⟨y1, _ | ⟨y2, l⟩⟩⟩ <;> simp at hxs
  have f0 : DataW.trod enc Tryz.prog W 0 sp hd n' 9 [c0] = some y0 := by have := hf 0 _ rfl; simpa [c_str] using this
  have f1 : DataW.trod enc Tryz.prog W 0 sp hd n' 23 [c1, c2, c3] = some y1 := by have := hf 1 _ rfl; simpa [c_val] using this
  obtain ⟨t, e0, g0, _⟩ := DataW.trod_string Tryz.underlying9 f0
  obtain ⟨k, n, s, e1, g1, _⟩ := val_of f1
  simp at e0 e1
  obtain ⟨rfl, rfl, rfl⟩ := e1
  subst e0
  exact ⟨t, k, n, s, rfl, by rw [hx, g0]; simp [g1]⟩
end
theorem bytes_of {t : ByteArray} {l : List UInt8} (h : t.data.toList = l) : t = ⟨l.toArray⟩ := by
  obtain ⟨⟨t⟩⟩ := t
  simp at h
  simp [h]

theorem of_laid {W : World} (h : laidMetH Tryz.prog theLaid W) : HE W ∧ HWd W := by
  have h' : laidMet Tryz.prog [("math/bits.deBruijn32tab", Rows.laid_math_bits_deBruijn32tab), ("math/bits.deBruijn64tab", Rows.laid_math_bits_deBruijn64tab), ("internal/strconv.uint64pow10", Rows.laid_internal_strconv_uint64pow10), ("confluence/value.words", Rows.laid_confluence_value_words)] W ∧ handlesMet Tryz.prog [("errors.errorType", Rows.laid_errors_errorType)] W := h
  refine ⟨?_, ?_⟩
  · obtain ⟨name, u, ty, e1, e2, e3, e4, e5⟩ := h'.2 _ (List.mem_singleton.2 rfl)
    have en : name = [101, 114, 114, 111, 114] := (Option.some.inj e1).symm
    subst en
    obtain rfl := Option.some.inj (tr_rt.symm.trans e2)
    have hm : ty ∈ (List.range 177).filter fun t => Tryz.prog.rowNamed t [101, 114, 114, 111, 114] := List.mem_filter.2 ⟨List.mem_range.2 (by rw [← tr_size]; exact e3), e4⟩
    rw [tr_oneRow] at hm
    obtain rfl := List.mem_singleton.1 hm
    have hh : typeHandle Tryz.prog 61 = .pointer (some ⟨8, 61, none⟩) := by kernel_rfl
    rw [hh] at e5
    have := World.var?_cell tr_et e5 0
    unfold HE
    simpa using this
  · obtain ⟨ps, ⟨_, _, _, _, _, _, _, _, _, _, ⟨_, _, _, _, _, _, _, _, _, _, ⟨_, _, _, _, _, _, _, _, _, _, ⟨g, t, cs, f, p, q, hg, ht, hv, hd, _⟩, _⟩, _⟩, _⟩, _⟩ := h'.1
    obtain rfl := Option.some.inj (tr_ws.symm.trans hg)
    obtain rfl := Option.some.inj (tr_wt.symm.trans ht)
    obtain ⟨xs, m1, rfl, hx1, hlen, hn3, hel⟩ := DataW.trod_array Tryz.underlying59 hd
    obtain ⟨x0, x1, x2, rfl⟩ := list3 xs hn3
    simp only [Prod.mk.injEq] at hx1
    have k0 := hel 0 (by decide)
    have k1 := hel 1 (by decide)
    have k2 := hel 2 (by decide)
    simp only [c_word] at k0 k1 k2
    obtain ⟨t0, a0, b0, s0, e0, y0⟩ := word_of (show _ = some x0 from k0)
    obtain ⟨t1, a1, b1, s1, e1, y1⟩ := word_of (show _ = some x1 from k1)
    obtain ⟨t2, a2, b2, s2, e2, y2⟩ := word_of (show _ = some x2 from k2)
    have hx2 := hx1.1
    unfold Rows.laid_confluence_value_words at hx2
    simp only [List.map_cons, List.map_nil, y0, y1, y2, DataW.agg.injEq, List.cons.injEq, DataW.lit.injEq, Lit.string.injEq, Lit.int.injEq, true_and, and_true] at hx2
    obtain ⟨⟨q0, rfl, rfl, r0⟩, ⟨q1, rfl, rfl, r1⟩, q2, rfl, rfl, r2⟩ := hx2
    rw [bytes_of q0.symm, bytes_of r0.symm] at e0
    rw [bytes_of q1.symm, bytes_of r1.symm] at e1
    rw [bytes_of q2.symm, bytes_of r2.symm] at e2
    have hl : cs.toList.length = 12 := hlen
    have hcs : cs.toList = wordCells := by
      have h1 : cs.toList = cs.toList.take 4 ++ ((cs.toList.drop 4).take 4 ++ (cs.toList.drop 8).take 4) := by
        rw [List.take_of_length_le (l := cs.toList.drop 8) (by simp at hl ⊢; omega)]
        have h2 : cs.toList.drop 8 = (cs.toList.drop 4).drop 4 := by rw [List.drop_drop]
        rw [h2, List.take_append_drop, List.take_append_drop]
      rw [h1, show cs.toList.take 4 = _ from e0, show (cs.toList.drop 4).take 4 = _ from e1, show (cs.toList.drop 8).take 4 = _ from e2]
      rfl
    intro j u hu
    rw [World.var?_cell tr_ws hv j, ← Array.getElem?_toList, hcs]
    exact hu

/-- A world that meets the condition. -/
theorem door_met (os : Os) (args : Array Value) : laidMetH Tryz.prog theLaid ((World.doorLaid Tryz.prog 400 os).forCall (fun _ _ => 0) ⟨#[], args, []⟩).memory :=
  laidMetH_of_parts3 (fuel := 8) (laidMet_of_run' 8 (by kernel_rfl) (by kernel_rfl)) (by kernel_rfl) (by kernel_rfl)
theorem okWide_agg {P : Program} {w : World} {r : Reach} {base : Nat} {t : TypeId} {v : Value} {fs : Array Field} (ht : P.underlying t = some (.struct fs)) (h : Value.okWide P w r base t v) : ∃ cs, v = .agg cs := by
  unfold Value.okWide at h
  simp only [ht] at h
  obtain ⟨cs, rfl, _⟩ := h
  exact ⟨cs, rfl⟩
/-- A value that is handed in. -/
theorem arg_val {H : Type} {enc : TypeId × Value → H} {W : World} {base : Nat} {v : Value} {d : DataW H} {p : List MemPlace} (hv : Value.okWide Tryz.prog W .any base 23 v) (h : DataW.Trod enc Tryz.prog W 0 (fun _ => true) true 23 v d p) :
    ∃ (k n : Int) (s : ByteArray), v = vA k n s ∧ (Val.mk k n s).i64 ∧ s.size ≤ maxLen := by
  obtain ⟨cs, rfl⟩ := okWide_agg Tryz.underlying23 hv
  obtain ⟨fuel, hf⟩ := h
  obtain ⟨k, n, s, e, _, hi, hs⟩ := val_of hf
  have : cs = #[.int .i64 k, .int .i64 n, .string s] := Array.ext' e
  exact ⟨k, n, s, by rw [this], hi, hs⟩
end Go.Proofs.YtmegkmhcfehnkaaGreatDoor
