/- From the row's reading to cells: the listed variable; a list of steps. -/
import Derived.Test.YtdicnnlfnfcmeabDoorRows
import Derived.Test.YtdicnnlfnfcmeabDoorWriter3
import Derived.ProofKit
import Derived.ChangeSame
import Derived.ChangeVars
import Derived.JoinedOf
import Derived.RowKit
import Derived.RowKitTokens
import Derived.LaidLaws
import Derived.LaidHandle
import Derived.Stop.Joined
import Derived.OpenShut
import Derived.SizedLaws
import Derived.Deep.Slices
namespace Go.Proofs.YtdicnnlfnfcmeabDoor
open Go.ChangeShapes Go.WideShapes Go.RowKit Go.Deep

theorem tr_own : ownKnob Tryd.prog.godebug = none := by kernel_rfl
theorem tr_et : Tryd.prog.globalNamed "errors.errorType" = some 0 := by kernel_rfl
theorem tr_rt : (Tryd.prog.cutTypes.find? (·.1 == "internal/reflectlite.rtype")).map (·.2) = some 96 := by kernel_rfl
theorem tr_oneRow : ((List.range 138).filter fun t => Tryd.prog.rowNamed t [101, 114, 114, 111, 114]) = [54] := by kernel_rfl
theorem tr_size : Tryd.prog.types.size = 138 := by kernel_rfl
theorem tr_laidOut : laidOutB Tryd.prog = true := by kernel_rfl

abbrev theLaid : List (String × DataW Unit) := [("errors.errorType", Rows.laid_errors_errorType)]

theorem handle_of_laid {W : World} (h : laidMetH Tryd.prog theLaid W) : HE W := by
  have h' : laidMet Tryd.prog [] W ∧ handlesMet Tryd.prog theLaid W := h
  obtain ⟨name, u, ty, e1, e2, e3, e4, e5⟩ := h'.2 _ (List.mem_singleton.2 rfl)
  have en : name = [101, 114, 114, 111, 114] := (Option.some.inj e1).symm
  subst en
  obtain rfl := Option.some.inj (tr_rt.symm.trans e2)
  have hm : ty ∈ (List.range 138).filter fun t => Tryd.prog.rowNamed t [101, 114, 114, 111, 114] := List.mem_filter.2 ⟨List.mem_range.2 (by rw [← tr_size]; exact e3), e4⟩
  rw [tr_oneRow] at hm
  obtain rfl := List.mem_singleton.1 hm
  have hh : typeHandle Tryd.prog 54 = .pointer (some ⟨1, 54, none⟩) := by kernel_rfl
  rw [hh] at e5
  have := World.var?_cell tr_et e5 0
  unfold HE
  simpa using this

/-- A world that meets the condition: the settled one, the variable's cell laid. -/
noncomputable def laidWorld (os : Os) : World :=
  let w0 := World.holding Tryd.prog os ⟨#[], #[], []⟩
  { w0 with heap := w0.heap.modify 0 fun
      | .cells _ t frozen => .cells #[.iface 96 (.agg #[.pointer (some ⟨1, 54, none⟩)])] t frozen
      | o => o }
theorem laidWorld_met (os : Os) (args : Array Value) : laidMetH Tryd.prog theLaid ((laidWorld os).forCall (fun _ _ => 0) ⟨#[], args, []⟩).memory :=
  laidMetH_of_parts (laidMet_nil _ _) (by kernel_rfl)

theorem cells_op : Tryd.prog.cellsOf 32 = 5 := by kernel_rfl
theorem cells_op0 : Tryd.prog.cellsOf 4 = 1 := by kernel_rfl
theorem cells_op1 : Tryd.prog.cellsOf 3 = 1 := by kernel_rfl
theorem cells_op3 : Tryd.prog.cellsOf 9 = 1 := by kernel_rfl
theorem cells_op4 : Tryd.prog.cellsOf 30 = 1 := by kernel_rfl

/-- The cells of a list of steps. -/
def Ops (w : World) (b off len : Nat) : Prop := ∀ i, i < len → ∃ (o : Bool) (k n : Int) (s : ByteArray) (l : Value),
  (w.cell? ⟨b, off + i * 5, none⟩ = some (.bool o) ∧ w.cell? ⟨b, off + i * 5 + 1, none⟩ = some (.int .i64 k) ∧ w.cell? ⟨b, off + i * 5 + 2, none⟩ = some (.int .i64 n) ∧ w.cell? ⟨b, off + i * 5 + 3, none⟩ = some (.string s) ∧ w.cell? ⟨b, off + i * 5 + 4, none⟩ = some l) ∧ -9223372036854775808 ≤ k ∧ k ≤ 9223372036854775807 ∧ -9223372036854775808 ≤ n ∧ n ≤ 9223372036854775807 ∧ ∃ la ln lc, l = .slice la ln lc
theorem Ops.tch {S : Nat → Prop} {w w' : World} {b off len : Nat} (h : Ops w b off len) (t : Tch S w w') (hS : ¬ S b) : Ops w' b off len := by
  intro i hi
  obtain ⟨o, k, n, s, l, ⟨h0, h1, h2, h3, h4⟩, hr⟩ := h i hi
  have hl : b < w.heap.size := cell_lt h0
  exact ⟨o, k, n, s, l, ⟨(t.cell (p := ⟨b, _, none⟩) hl hS).trans h0, (t.cell (p := ⟨b, _, none⟩) hl hS).trans h1, (t.cell (p := ⟨b, _, none⟩) hl hS).trans h2, (t.cell (p := ⟨b, _, none⟩) hl hS).trans h3, (t.cell (p := ⟨b, _, none⟩) hl hS).trans h4⟩, hr⟩

theorem wf_i64 {n : Int} (h : (Lit.int .i64 n).wf = true) : -9223372036854775808 ≤ n ∧ n ≤ 9223372036854775807 := by
  have := bounds_i64 h
  omega

theorem list5 {α : Type} (l : List α) (h : l.length = 5) : ∃ c0 c1 c2 c3 c4, l = [c0, c1, c2, c3, c4] := by
  rcases l with _ | ⟨c0, _ | ⟨c1, _ | ⟨c2, _ | ⟨c3, _ | ⟨c4, _ | ⟨c5, l⟩⟩⟩⟩⟩⟩ <;> simp at h
  exact ⟨c0, c1, c2, c3, c4, rfl⟩
set_option maxRecDepth 100000 in
theorem ops_of {H : Type} {enc : TypeId × Value → H} {W : World} {fuel : Nat} {ao : Option Addr} {len cap : Nat} {x : DataW H × List MemPlace}
    (h : DataW.trod enc Tryd.prog W 0 (fun _ => true) true fuel 22 [.slice ao len cap] = some x) :
    len = 0 ∨ ∃ b off, ao = some ⟨b, off, none⟩ ∧ Ops W b off len ∧ b < W.heap.size ∧ len ≤ 9223372036854775807 := by
  rcases open_slice Tryd.underlying22 h with ⟨h1, _⟩ | ⟨a, len', cap', m, n, D, Pl, h1, _, hl, hmx, hm, _, hel⟩
  · simp at h1; exact Or.inl h1.2.1
  · simp only [List.cons.injEq, Value.slice.injEq, and_true] at h1
    obtain ⟨rfl, rfl, rfl⟩ := h1
    by_cases h0 : len = 0
    · exact Or.inl h0
    right
    have hm' : m = cap := by simpa using hm
    rw [cells_op] at hel
    have key : ∀ i, i < len → ∃ (o : Bool) (k n : Int) (s : ByteArray) (l : Value),
        (W.cell? (a.add (i * 5)) = some (.bool o) ∧ W.cell? ((a.add (i * 5)).add 1) = some (.int .i64 k) ∧ W.cell? ((a.add (i * 5)).add 2) = some (.int .i64 n) ∧ W.cell? ((a.add (i * 5)).add 3) = some (.string s) ∧ W.cell? ((a.add (i * 5)).add 4) = some l) ∧ -9223372036854775808 ≤ k ∧ k ≤ 9223372036854775807 ∧ -9223372036854775808 ≤ n ∧ n ≤ 9223372036854775807 ∧ ∃ la ln lc, l = .slice la ln lc := by
      intro i hi
      obtain ⟨cs', hc, ht⟩ := hel i (by omega)
      obtain ⟨_, hcl, hcc⟩ := World.cells?_some hc
      obtain ⟨xs, n', _, _, _, hxl, hf⟩ := DataW.trod_struct Tryd.underlying32 ht
      have hxs : xs.length = 5 := hxl
      obtain ⟨c0, c1, c2, c3, c4, rfl⟩ := list5 cs' hcl
      obtain ⟨y0, y1, y2, y3, y4, rfl⟩ := list5 xs hxs
      have f0 : DataW.trod enc Tryd.prog W 0 (fun _ => true) true n' 4 [c0] = some y0 := by have := hf 0 _ rfl; simpa [cells_op0] using this
      have f1 : DataW.trod enc Tryd.prog W 0 (fun _ => true) true n' 3 [c1] = some y1 := by have := hf 1 _ rfl; simpa [cells_op1] using this
      have f2 : DataW.trod enc Tryd.prog W 0 (fun _ => true) true n' 3 [c2] = some y2 := by have := hf 2 _ rfl; simpa [cells_op1] using this
      have f3 : DataW.trod enc Tryd.prog W 0 (fun _ => true) true n' 9 [c3] = some y3 := by have := hf 3 _ rfl; simpa [cells_op3] using this
      have f4 : DataW.trod enc Tryd.prog W 0 (fun _ => true) true n' 30 [c4] = some y4 := by have := hf 4 _ rfl; simpa [cells_op4] using this
      have e4 : ∃ la ln lc, c4 = .slice la ln lc := by
        rcases open_slice Tryd.underlying30 f4 with ⟨h1, _⟩ | ⟨a', len', cap', _, _, _, _, h1, _⟩
        · simp at h1; exact ⟨_, _, _, h1⟩
        · simp at h1; exact ⟨_, _, _, h1⟩
      obtain ⟨o, e0, _⟩ := DataW.trod_bool Tryd.underlying4 f0
      obtain ⟨k, e1, _, wk⟩ := DataW.trod_int Tryd.underlying3 f1
      obtain ⟨nn, e2, _, wn⟩ := DataW.trod_int Tryd.underlying3 f2
      obtain ⟨s, e3, _⟩ := DataW.trod_string Tryd.underlying9 f3
      simp at e0 e1 e2 e3
      subst e0 e1 e2 e3
      have g0 := hcc 0 (by omega)
      have g1 := hcc 1 (by omega)
      have g2 := hcc 2 (by omega)
      have g3 := hcc 3 (by omega)
      have g4 := hcc 4 (by omega)
      have b1 := wf_i64 wk
      have b2 := wf_i64 wn
      exact ⟨o, k, nn, s, c4, ⟨by simpa [Addr.add] using g0, by simpa using g1, by simpa using g2, by simpa using g3, by simpa using g4⟩, b1.1, b1.2, b2.1, b2.2, e4⟩
    obtain ⟨b, off, spot⟩ := a
    have hspot : spot = none := by
      obtain ⟨_, _, _, _, _, ⟨h0', _⟩, _⟩ := key 0 (by omega)
      simpa [Addr.add] using World.cell?_spot h0'
    subst hspot
    refine ⟨b, off, rfl, ?_, ?_, by unfold maxLen at hmx; omega⟩
    · intro i hi
      obtain ⟨o, k, n, s, l, ⟨h0', h1', h2', h3', h4'⟩, hr⟩ := key i hi
      simp only [add_plain] at h0' h1' h2' h3' h4'
      exact ⟨o, k, n, s, l, ⟨h0', h1', h2', h3', h4'⟩, hr⟩
    · obtain ⟨_, _, _, _, _, ⟨h0', _⟩, _⟩ := key 0 (by omega)
      have := cell_lt h0'
      simpa [Addr.add] using this
end Go.Proofs.YtdicnnlfnfcmeabDoor
