import Derived.Test.YtmegkmhcfehnkaaGreatDoorVLift
import Derived.Test.YtmegkmhcfehnkaaGreatDoorVLlaw
import Derived.Test.YtmegkmhcfehnkaaGreatDoorTie
import Derived.Test.YtmegkmhcfehnkaaGreatDoorCards
import Derived.SevenTiedAt
import Derived.Deep.DeepHandedRow
import Derived.Deep.DeepWitnessRowRef
import Derived.Stop.LaidErr
import Derived.Lib.LaidTab
/- ValueLiterals: what the listed variables give. -/
namespace Go.Proofs.YtmegkmhcfehnkaaGreatDoor
open Go.ChangeShapes Go.WideShapes Go.RowKit Go.Deep
set_option maxRecDepth 100000

theorem wd_of {W : World} (h : laidMet Tryz.prog [("confluence/value.words", Rows.laid_confluence_value_words)] W) : HWd W := by
  obtain ⟨ps, ⟨g, t, cs, f, p, q, hg, ht, hv, hd, _⟩, _⟩ := h
  obtain rfl := Option.some.inj (tr_ws.symm.trans hg)
  obtain rfl := Option.some.inj (tr_wt.symm.trans ht)
  obtain ⟨xs, m1, rfl, hx1, hlen, hn3, hel⟩ := DataW.trod_array Tryz.underlying59 hd
  obtain ⟨x0, x1, x2, rfl⟩ := list3 xs hn3
  simp only [Prod.mk.injEq] at hx1
  have k0 := hel 0 (by decide)
  have k1 := hel 1 (by decide)
  have k2 := hel 2 (by decide)
  simp only [c_word] at k0 k1 k2
  obtain ⟨t0, a0, b0, s0, e0, y0⟩ := word_of (show _ = some x0 from k0)
  obtain ⟨t1, a1, b1, s1, e1, y1⟩ := word_of (show _ = some x1 from k1)
  obtain ⟨t2, a2, b2, s2, e2, y2⟩ := word_of (show _ = some x2 from k2)
  have hx2 := hx1.1
  unfold Rows.laid_confluence_value_words at hx2
  simp only [List.map_cons, List.map_nil, y0, y1, y2, DataW.agg.injEq, List.cons.injEq, DataW.lit.injEq, Lit.string.injEq, Lit.int.injEq, true_and, and_true] at hx2
  obtain ⟨⟨q0, rfl, rfl, r0⟩, ⟨q1, rfl, rfl, r1⟩, q2, rfl, rfl, r2⟩ := hx2
  rw [bytes_of q0.symm, bytes_of r0.symm] at e0
  rw [bytes_of q1.symm, bytes_of r1.symm] at e1
  rw [bytes_of q2.symm, bytes_of r2.symm] at e2
  have hl : cs.toList.length = 12 := hlen
  have hcs : cs.toList = wordCells := by
    have h1 : cs.toList = cs.toList.take 4 ++ ((cs.toList.drop 4).take 4 ++ (cs.toList.drop 8).take 4) := by
      rw [List.take_of_length_le (l := cs.toList.drop 8) (by simp at hl ⊢; omega)]
      have h2 : cs.toList.drop 8 = (cs.toList.drop 4).drop 4 := by rw [List.drop_drop]
      rw [h2, List.take_append_drop, List.take_append_drop]
    rw [h1, show cs.toList.take 4 = _ from e0, show (cs.toList.drop 4).take 4 = _ from e1, show (cs.toList.drop 8).take 4 = _ from e2]
    rfl
  intro j u hu
  rw [World.var?_cell tr_ws hv j, ← Array.getElem?_toList, hcs]
  exact hu
theorem tr_star : "*" ++ "errors.errorString" = "*errors.errorString" := by decide
theorem tr_rowES (u : TypeId) (h : Tryz.prog.typeName? 3 u = some "*errors.errorString") : u = 137 :=
  typeName_ptr_named (nm := "errors.errorString") (by rw [tr_star]; kernel_rfl) (by kernel_rfl) (by decide) u (by rw [tr_star]; exact h)
theorem c_es : Tryz.prog.cellsOf 139 = 1 := by kernel_rfl
theorem tr_gS : Tryz.prog.globalNamed "strconv.ErrSyntax" = some 2 := by kernel_rfl
theorem tr_gSt : (Tryz.prog.globals[2]?).map (·.type) = some 61 := by kernel_rfl
theorem tr_gR : Tryz.prog.globalNamed "strconv.ErrRange" = some 3 := by kernel_rfl
theorem tr_gRt : (Tryz.prog.globals[3]?).map (·.type) = some 61 := by kernel_rfl
theorem tr_gP : Tryz.prog.globalNamed "internal/strconv.uint64pow10" = some 4 := by kernel_rfl
theorem of_laid7 {W : World} (h : laidMetH Tryz.prog Rows.valueLiteralsUptoRow.laid W) : HE W ∧ HWd W ∧ HV W := by
  have h' : laidMet Tryz.prog [("math/bits.deBruijn32tab", Rows.laid_math_bits_deBruijn32tab), ("math/bits.deBruijn64tab", Rows.laid_math_bits_deBruijn64tab), ("internal/strconv.uint64pow10", Rows.laid_internal_strconv_uint64pow10), ("strconv.ErrRange", Rows.laid_strconv_ErrRange), ("strconv.ErrSyntax", Rows.laid_strconv_ErrSyntax), ("confluence/value.words", Rows.laid_confluence_value_words)] W ∧ handlesMet Tryz.prog [("errors.errorType", Rows.laid_errors_errorType)] W := h
  refine ⟨?_, wd_of h'.1.tail.tail.tail.tail.tail, ?_, ?_, ?_⟩
  · obtain ⟨name, u, ty, e1, e2, e3, e4, e5⟩ := h'.2 _ (List.mem_singleton.2 rfl)
    have en : name = [101, 114, 114, 111, 114] := (Option.some.inj e1).symm
    subst en
    obtain rfl := Option.some.inj (tr_rt.symm.trans e2)
    have hm : ty ∈ (List.range 177).filter fun t => Tryz.prog.rowNamed t [101, 114, 114, 111, 114] := List.mem_filter.2 ⟨List.mem_range.2 (by rw [← tr_size]; exact e3), e4⟩
    rw [tr_oneRow] at hm
    obtain rfl := List.mem_singleton.1 hm
    have hh : typeHandle Tryz.prog 61 = .pointer (some ⟨8, 61, none⟩) := by kernel_rfl
    rw [hh] at e5
    have := World.var?_cell tr_et e5 0
    unfold HE
    simpa using this
  · have h3 : laidMet Tryz.prog (("internal/strconv.uint64pow10", Lib.tabData .u64 Lib.pow10Tab) :: [("strconv.ErrRange", Rows.laid_strconv_ErrRange), ("strconv.ErrSyntax", Rows.laid_strconv_ErrSyntax), ("confluence/value.words", Rows.laid_confluence_value_words)]) W := h'.1.tail.tail
    exact Lib.tabIs_of_head tr_gP (by kernel_rfl) Tryz.underlying142 Tryz.underlying82 (by kernel_rfl) (by kernel_rfl) h3
  · obtain ⟨a, s, hv, _⟩ := laid_sentinel h'.1.tail.tail.tail.tail tr_gS tr_gSt Tryz.underlying61 tr_rowES Tryz.underlying137 Tryz.underlying139 rfl rfl Tryz.underlying9 c_es c_str
    exact ⟨_, _, hv⟩
  · obtain ⟨a, s, hv, _⟩ := laid_sentinel h'.1.tail.tail.tail tr_gR tr_gRt Tryz.underlying61 tr_rowES Tryz.underlying137 Tryz.underlying139 rfl rfl Tryz.underlying9 c_es c_str
    exact ⟨_, _, hv⟩
end Go.Proofs.YtmegkmhcfehnkaaGreatDoor
