import Derived.Test.YtblhmjndegfofaaCArg
import Derived.Test.YtblhmjndegfofaaCStp
/- Deeds that are handed in; a catalog of one's own beside others. -/
namespace Go.Proofs.Ytblhmjndegfofaa
open Go.ChangeShapes Go.WideShapes Go.ChangeAt Go.RowKit Go.Deep Go

/-- A list of deeds, for reading. -/
def DS (W : World) (ao : Option Addr) (l : List Dd) : Prop := ∀ i (hi : i < l.length), ∃ g o, ao = some ⟨g, o, none⟩ ∧ W.cell? ⟨g, o + i * 4, none⟩ = some (.int .i64 l[i].k) ∧ W.cell? ⟨g, o + i * 4 + 1, none⟩ = some (.int .i64 l[i].nm) ∧ W.cell? ⟨g, o + i * 4 + 2, none⟩ = some (.int .i64 l[i].n) ∧ W.cell? ⟨g, o + i * 4 + 3, none⟩ = some (.int .i64 l[i].m)
theorem DS.tch {S : Nat → Prop} {W W' : World} {ao : Option Addr} {l : List Dd} (h : DS W ao l) (t : Tch S W W') (hS : ∀ i, i < W.heap.size → ¬ S i) : DS W' ao l := fun i hi => by
  obtain ⟨g, o, e, c0, c1, c2, c3⟩ := h i hi
  have key : ∀ (p : Addr) v, W.cell? p = some v → W'.cell? p = some v := fun p v h => (t.cell (p := p) (cell_lt h) (hS _ (cell_lt h))).trans h
  exact ⟨g, o, e, key _ _ c0, key _ _ c1, key _ _ c2, key _ _ c3⟩
theorem c_dd : Try.prog.cellsOf 56 = 4 := by kernel_rfl
theorem list4 {α : Type} (l : List α) (h : l.length = 4) : ∃ c0 c1 c2 c3, l = [c0, c1, c2, c3] := by
  rcases l with _ | ⟨c0, _ | ⟨c1, _ | ⟨c2, _ | ⟨c3, _ | ⟨c4, l⟩⟩⟩⟩⟩ <;> simp at h
  exact ⟨c0, c1, c2, c3, rfl⟩
section
variable {H : Type} {enc : TypeId × Value → H} {W : World} {fuel : Nat} {x : DataW H × List MemPlace} {cs : List Value}
theorem deed_of (h : DataW.trod enc Try.prog W 0 (fun _ => true) true fuel 56 cs = some x) : ∃ d : Dd, cs = [.int .i64 d.k, .int .i64 d.nm, .int .i64 d.n, .int .i64 d.m] ∧ d.ok := by
  obtain ⟨xs, n', _, hx, hcl, hxl, hf⟩ := DataW.trod_struct Try.underlying56 h
  rw [c_dd] at hcl
  have hxs : xs.length = 4 := hxl
  obtain ⟨c0, c1, c2, c3, rfl⟩ := list4 cs hcl
  obtain ⟨y0, y1, y2, y3, rfl⟩ := list4 xs hxs
  have f0 : DataW.trod enc Try.prog W 0 (fun _ => true) true n' 3 [c0] = some y0 := by have := hf 0 _ rfl; simpa [c_int] using this
  have f1 : DataW.trod enc Try.prog W 0 (fun _ => true) true n' 3 [c1] = some y1 := by have := hf 1 _ rfl; simpa [c_int] using this
  have f2 : DataW.trod enc Try.prog W 0 (fun _ => true) true n' 3 [c2] = some y2 := by have := hf 2 _ rfl; simpa [c_int] using this
  have f3 : DataW.trod enc Try.prog W 0 (fun _ => true) true n' 3 [c3] = some y3 := by have := hf 3 _ rfl; simpa [c_int] using this
  obtain ⟨k, e0, _, w0⟩ := DataW.trod_int Try.underlying3 f0
  obtain ⟨nm, e1, _, w1⟩ := DataW.trod_int Try.underlying3 f1
  obtain ⟨n, e2, _, w2⟩ := DataW.trod_int Try.underlying3 f2
  obtain ⟨m, e3, _, w3⟩ := DataW.trod_int Try.underlying3 f3
  simp at e0 e1 e2 e3
  subst e0 e1 e2 e3
  exact ⟨⟨k, nm, n, m⟩, rfl, wf_i64 w0, wf_i64 w1, wf_i64 w2, wf_i64 w3⟩
theorem deeds_of {ao : Option Addr} {len cap : Nat} (h : DataW.trod enc Try.prog W 0 (fun _ => true) true fuel 52 [.slice ao len cap] = some x) :
    ∃ l : List Dd, len = l.length ∧ DS W ao l ∧ len ≤ maxLen ∧ ∀ d ∈ l, d.ok := by
  rcases open_slice Try.underlying52 h with ⟨h1, _⟩ | ⟨a, len', cap', m, n, D, Pl, h1, _, hl, hmx, hm, hx, hee⟩
  · simp at h1
    obtain ⟨rfl, rfl, rfl⟩ := h1
    exact ⟨[], rfl, fun i hi => by simp at hi, Nat.zero_le _, fun n hn => by simp at hn⟩
  · simp only [List.cons.injEq, Value.slice.injEq, and_true] at h1
    obtain ⟨rfl, rfl, rfl⟩ := h1
    have hm' : m = cap := by simpa using hm
    rw [c_dd] at hee
    have key : ∀ i, i < len → ∃ u : Dd, W.cell? (a.add (i * 4)) = some (.int .i64 u.k) ∧ W.cell? ((a.add (i * 4)).add 1) = some (.int .i64 u.nm) ∧ W.cell? ((a.add (i * 4)).add 2) = some (.int .i64 u.n) ∧ W.cell? ((a.add (i * 4)).add 3) = some (.int .i64 u.m) ∧ u.ok := by
      intro i hi
      obtain ⟨cs', hc', ht⟩ := hee i (by omega)
      obtain ⟨_, hcl, hcc⟩ := World.cells?_some hc'
      obtain ⟨v, rfl, hv⟩ := deed_of ht
      have g0 := hcc 0 (by simp)
      have g1 := hcc 1 (by simp)
      have g2 := hcc 2 (by simp)
      have g3 := hcc 3 (by simp)
      exact ⟨v, by simpa [Addr.add] using g0, by simpa using g1, by simpa using g2, by simpa using g3, hv⟩
    have pick : ∃ vs : List Dd, vs.length = len ∧ ∀ i (hi : i < vs.length), W.cell? (a.add (i * 4)) = some (.int .i64 vs[i].k) ∧ W.cell? ((a.add (i * 4)).add 1) = some (.int .i64 vs[i].nm) ∧ W.cell? ((a.add (i * 4)).add 2) = some (.int .i64 vs[i].n) ∧ W.cell? ((a.add (i * 4)).add 3) = some (.int .i64 vs[i].m) ∧ vs[i].ok := by
      classical
      refine ⟨List.ofFn (fun i : Fin len => (key i.1 i.2).choose), by simp, fun i hi => ?_⟩
      have hi' : i < len := by simpa using hi
      rw [List.getElem_ofFn]
      exact (key i hi').choose_spec
    obtain ⟨vs, rfl, hvs⟩ := pick
    refine ⟨vs, rfl, fun i hi => ?_, by omega, fun n hn => ?_⟩
    · obtain ⟨b, off, spot⟩ := a
      obtain ⟨h0, h1, h2, h3, _⟩ := hvs i hi
      have hspot : spot = none := by
        obtain ⟨h0', _⟩ := hvs 0 (by omega)
        simpa [Addr.add] using World.cell?_spot h0'
      subst hspot
      simp only [add_plain] at h0 h1 h2 h3
      exact ⟨b, off, rfl, h0, h1, h2, h3⟩
    · obtain ⟨i, hi, rfl⟩ := List.getElem_of_mem hn
      exact (hvs i hi).2.2.2.2
end
/-- A catalog of one's own, for reading: none of the blocks that are older, or newer, is its. -/
theorem CO.ca {F : Nat → Prop} {W : World} {base b : Nat} {L : List Tbl} {gv : Int} {P : List (Tbl × Value)} {tv : Value} (h : CO W base b L gv P tv) (hF : ∀ i, F i → i < base ∨ W.heap.size ≤ i) : ∃ to tc, CA W F b L gv P to tc := by
  obtain ⟨to, tc, htv⟩ := row_slice h.to.own
  rw [htv] at h
  have hb : base ≤ b ∧ b < W.heap.size := ⟨h.ge, blk_lt h.blk⟩
  refine ⟨to, tc, h.blk, h.eq, h.to.tl' (fun g hg hf => ?_), fun hf => ?_⟩
  · have hgb : base ≤ g ∧ g < W.heap.size := by
      rcases hg with hg | ⟨i, hi, hg⟩
      · exact h.to.own.lt g hg
      · exact (h.to.col i hi).lt g hg
    rcases hf with hf | hf
    · have := hF g hf; omega
    · subst hf
      rcases hg with hg | ⟨i, hi, hg⟩
      · exact h.nb.1 hg
      · exact h.nb.2 i hi hg
  · have := hF b hf; omega
end Go.Proofs.Ytblhmjndegfofaa
