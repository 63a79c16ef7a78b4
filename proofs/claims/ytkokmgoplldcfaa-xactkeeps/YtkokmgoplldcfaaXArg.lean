/- Deeds that are handed in. -/
import Derived.Test.YtkokmgoplldcfaaRows
import Derived.Test.YtkokmgoplldcfaaXOwn1
import Derived.ProofKit
import Derived.SizedLaws
import Derived.OpenShut
import Derived.Deep.Slices
namespace Go.Proofs.Ytkokmgoplldcfaa
open Go.ChangeShapes Go.WideShapes Go.ChangeAt Go.RowKit Go.Deep Go
set_option maxRecDepth 100000

theorem tr_own : ownKnob Try.prog.godebug = none := by kernel_rfl
theorem tr_laidOut : laidOutB Try.prog = true := by kernel_rfl
theorem c_int : Try.prog.cellsOf 3 = 1 := by kernel_rfl
theorem wf_i64 {n : Int} (h : (Lit.int .i64 n).wf = true) : -9223372036854775808 ≤ n ∧ n ≤ 9223372036854775807 := by
  have := bounds_i64 h
  omega
theorem c_dd : Try.prog.cellsOf 33 = 2 := by kernel_rfl
theorem list2 {α : Type} (l : List α) (h : l.length = 2) : ∃ c0 c1, l = [c0, c1] := by
  rcases l with _ | ⟨c0, _ | ⟨c1, _ | ⟨c2, l⟩⟩⟩ <;> simp at h
  exact ⟨c0, c1, rfl⟩
def okD (d : Int × Int) : Prop := -9223372036854775808 ≤ d.1 ∧ d.1 ≤ 9223372036854775807 ∧ -9223372036854775808 ≤ d.2 ∧ d.2 ≤ 9223372036854775807
section
variable {H : Type} {enc : TypeId × Value → H} {W : World} {fuel : Nat} {x : DataW H × List MemPlace} {cs : List Value}
theorem deed_of (h : DataW.trod enc Try.prog W 0 (fun _ => true) true fuel 33 cs = some x) : ∃ d : Int × Int, cs = [.int .i64 d.1, .int .i64 d.2] ∧ okD d := by
  obtain ⟨xs, n', _, hx, hcl, hxl, hf⟩ := DataW.trod_struct Try.underlying33 h
  rw [c_dd] at hcl
  have hxs : xs.length = 2 := hxl
  obtain ⟨c0, c1, rfl⟩ := list2 cs hcl
  obtain ⟨y0, y1, rfl⟩ := list2 xs hxs
  have f0 : DataW.trod enc Try.prog W 0 (fun _ => true) true n' 3 [c0] = some y0 := by have := hf 0 _ rfl; simpa [c_int] using this
  have f1 : DataW.trod enc Try.prog W 0 (fun _ => true) true n' 3 [c1] = some y1 := by have := hf 1 _ rfl; simpa [c_int] using this
  obtain ⟨k, e0, _, w0⟩ := DataW.trod_int Try.underlying3 f0
  obtain ⟨n, e1, _, w1⟩ := DataW.trod_int Try.underlying3 f1
  simp at e0 e1
  subst e0 e1
  exact ⟨(k, n), rfl, (wf_i64 w0).1, (wf_i64 w0).2, (wf_i64 w1).1, (wf_i64 w1).2⟩
theorem deeds_of {ao : Option Addr} {len cap : Nat} (h : DataW.trod enc Try.prog W 0 (fun _ => true) true fuel 22 [.slice ao len cap] = some x) :
    ∃ l : List (Int × Int), len = l.length ∧ DL W ao l ∧ len ≤ maxLen := by
  rcases open_slice Try.underlying22 h with ⟨h1, _⟩ | ⟨a, len', cap', m, n, D, Pl, h1, _, hl, hmx, hm, hx, hee⟩
  · simp at h1
    obtain ⟨rfl, rfl, rfl⟩ := h1
    exact ⟨[], rfl, fun i d hi => by simp at hi, Nat.zero_le _⟩
  · simp only [List.cons.injEq, Value.slice.injEq, and_true] at h1
    obtain ⟨rfl, rfl, rfl⟩ := h1
    have hm' : m = cap := by simpa using hm
    rw [c_dd] at hee
    have key : ∀ i, i < len → ∃ u : Int × Int, W.cell? (a.add (i * 2)) = some (.int .i64 u.1) ∧ W.cell? ((a.add (i * 2)).add 1) = some (.int .i64 u.2) ∧ okD u := by
      intro i hi
      obtain ⟨cs', hc', ht⟩ := hee i (by omega)
      obtain ⟨_, hcl, hcc⟩ := World.cells?_some hc'
      obtain ⟨v, rfl, hv⟩ := deed_of ht
      have g0 := hcc 0 (by simp)
      have g1 := hcc 1 (by simp)
      exact ⟨v, by simpa [Addr.add] using g0, by simpa using g1, hv⟩
    have pick : ∃ vs : List (Int × Int), vs.length = len ∧ ∀ i (hi : i < vs.length), W.cell? (a.add (i * 2)) = some (.int .i64 vs[i].1) ∧ W.cell? ((a.add (i * 2)).add 1) = some (.int .i64 vs[i].2) ∧ okD vs[i] := by
      classical
      refine ⟨List.ofFn (fun i : Fin len => (key i.1 i.2).choose), by simp, fun i hi => ?_⟩
      have hi' : i < len := by simpa using hi
      rw [List.getElem_ofFn]
      exact (key i hi').choose_spec
    obtain ⟨vs, rfl, hvs⟩ := pick
    refine ⟨vs, rfl, fun i d hd => ?_, by omega⟩
    obtain ⟨hi, e⟩ := List.getElem?_eq_some_iff.1 hd
    obtain ⟨b, off, spot⟩ := a
    obtain ⟨h0, h1, ho⟩ := hvs i hi
    have hspot : spot = none := by
      obtain ⟨h0', _⟩ := hvs 0 (by omega)
      simpa [Addr.add] using World.cell?_spot h0'
    subst hspot
    simp only [add_plain] at h0 h1
    rw [e] at h0 h1 ho
    exact ⟨ho, b, off, rfl, h0, h1⟩
end
end Go.Proofs.Ytkokmgoplldcfaa
