import Derived.Test.YtkcmpipipelgoaaRows
import Derived.Test.YtkcmpipipelgoaaCCopy
import Derived.ProofKit
import Derived.SizedLaws
import Derived.OpenShut
import Derived.Deep.Slices
/- From the rows' reading to cells: values, columns, tables, their lists. -/
namespace Go.Proofs.Ytkcmpipipelgoaa
open Go.ChangeShapes Go.WideShapes Go.ChangeAt Go.RowKit Go.Deep
set_option maxRecDepth 100000

theorem tr_own : ownKnob Try.prog.godebug = none := by kernel_rfl
theorem tr_laidOut : laidOutB Try.prog = true := by kernel_rfl
theorem c_int : Try.prog.cellsOf 3 = 1 := by kernel_rfl
theorem c_str : Try.prog.cellsOf 9 = 1 := by kernel_rfl
theorem c_bool : Try.prog.cellsOf 4 = 1 := by kernel_rfl
theorem c_col : Try.prog.cellsOf 80 = 3 := by kernel_rfl
theorem c_cols : Try.prog.cellsOf 34 = 1 := by kernel_rfl
theorem c_tbl : Try.prog.cellsOf 36 = 5 := by kernel_rfl
theorem b_col : Try.prog.bytesOf 80 = 32 := by kernel_rfl
theorem wf_i64 {n : Int} (h : (Lit.int .i64 n).wf = true) : -9223372036854775808 ≤ n ∧ n ≤ 9223372036854775807 := by
  have := bounds_i64 h
  omega
theorem list3 {α : Type} (l : List α) (h : l.length = 3) : ∃ c0 c1 c2, l = [c0, c1, c2] := by
  rcases l with _ | ⟨c0, _ | ⟨c1, _ | ⟨c2, _ | ⟨c3, l⟩⟩⟩⟩ <;> simp at h
  exact ⟨c0, c1, c2, rfl⟩
theorem list5 {α : Type} (l : List α) (h : l.length = 5) : ∃ c0 c1 c2 c3 c4, l = [c0, c1, c2, c3, c4] := by
  rcases l with _ | ⟨c0, _ | ⟨c1, _ | ⟨c2, _ | ⟨c3, _ | ⟨c4, _ | ⟨c5, l⟩⟩⟩⟩⟩⟩ <;> simp at h
  exact ⟨c0, c1, c2, c3, c4, rfl⟩
section
variable {H : Type} {enc : TypeId × Value → H} {W : World} {fuel : Nat} {x : DataW H × List MemPlace} {cs : List Value}
/-- The cells of a column. -/
theorem col_of (h : DataW.trod enc Try.prog W 0 (fun _ => true) true fuel 80 cs = some x) : ∃ c : Col, cs = [.string c.nm, .int .i64 c.k, .bool c.nl] := by
  obtain ⟨xs, n', _, hx, hcl, hxl, hf⟩ := DataW.trod_struct Try.underlying80 h
  rw [c_col] at hcl
  have hxs : xs.length = 3 := hxl
  obtain ⟨c0, c1, c2, rfl⟩ := list3 cs hcl
  obtain ⟨y0, y1, y2, rfl⟩ := list3 xs hxs
  have f0 : DataW.trod enc Try.prog W 0 (fun _ => true) true n' 9 [c0] = some y0 := by have := hf 0 _ rfl; simpa [c_str] using this
  have f1 : DataW.trod enc Try.prog W 0 (fun _ => true) true n' 3 [c1] = some y1 := by have := hf 1 _ rfl; simpa [c_int] using this
  have f2 : DataW.trod enc Try.prog W 0 (fun _ => true) true n' 4 [c2] = some y2 := by have := hf 2 _ rfl; simpa [c_bool] using this
  obtain ⟨nm, e0, _⟩ := DataW.trod_string Try.underlying9 f0
  obtain ⟨ck, e1, _⟩ := DataW.trod_int Try.underlying3 f1
  obtain ⟨cn, e2, _⟩ := DataW.trod_bool Try.underlying4 f2
  simp at e0 e1 e2
  subst e0 e1 e2
  exact ⟨⟨nm, ck, cn⟩, rfl⟩
/-- A list of elements of three cells. -/
theorem list_of {α : Type} [Inhabited α] (f g k : α → Value) {t e : TypeId} (hu : Try.prog.underlying t = some (.slice e)) (hc : Try.prog.cellsOf e = 3) (hel : ∀ {fuel cs x}, DataW.trod enc Try.prog W 0 (fun _ => true) true fuel e cs = some x → ∃ v : α, cs = [f v, g v, k v]) {ao : Option Addr} {len cap : Nat}
    (h : DataW.trod enc Try.prog W 0 (fun _ => true) true fuel t [.slice ao len cap] = some x) :
    ∃ vs : List α, len = vs.length ∧ SL W ao (f3 f g k vs) ∧ (ao = none → vs = [] ∧ cap = 0) ∧ len ≤ cap ∧ len ≤ maxLen ∧ (vs ≠ [] → ∃ es sp, x.1 = .slice es sp ∧ es.length = vs.length) := by
  rcases open_slice hu h with ⟨h1, _⟩ | ⟨a, len', cap', m, n, D, Pl, h1, _, hl, hmx, hm, hx, hee⟩
  · simp at h1
    obtain ⟨rfl, rfl, rfl⟩ := h1
    exact ⟨[], rfl, SL.nil _ _, fun _ => ⟨rfl, rfl⟩, Nat.le_refl _, Nat.zero_le _, fun h => absurd rfl h⟩
  · simp only [List.cons.injEq, Value.slice.injEq, and_true] at h1
    obtain ⟨rfl, rfl, rfl⟩ := h1
    have hm' : m = cap := by simpa using hm
    rw [hc] at hee
    have key : ∀ i, i < len → ∃ u : α, W.cell? (a.add (i * 3)) = some (f u) ∧ W.cell? ((a.add (i * 3)).add 1) = some (g u) ∧ W.cell? ((a.add (i * 3)).add 2) = some (k u) := by
      intro i hi
      obtain ⟨cs', hc', ht⟩ := hee i (by omega)
      obtain ⟨_, hcl, hcc⟩ := World.cells?_some hc'
      obtain ⟨v, rfl⟩ := hel ht
      have g0 := hcc 0 (by simp)
      have g1 := hcc 1 (by simp)
      have g2 := hcc 2 (by simp)
      exact ⟨v, by simpa [Addr.add] using g0, by simpa using g1, by simpa using g2⟩
    have pick : ∃ vs : List α, vs.length = len ∧ ∀ i (hi : i < vs.length), W.cell? (a.add (i * 3)) = some (f vs[i]) ∧ W.cell? ((a.add (i * 3)).add 1) = some (g vs[i]) ∧ W.cell? ((a.add (i * 3)).add 2) = some (k vs[i]) := by
      classical
      refine ⟨List.ofFn (fun i : Fin len => (key i.1 i.2).choose), by simp, fun i hi => ?_⟩
      have hi' : i < len := by simpa using hi
      rw [List.getElem_ofFn]
      exact (key i hi').choose_spec
    obtain ⟨vs, rfl, hvs⟩ := pick
    refine ⟨vs, rfl, fun hv => ?_, fun h => (by cases h), by omega, by omega, fun _ => ⟨_, _, congrArg Prod.fst hx, by rw [List.length_map, List.length_range]⟩⟩
    have h0 : 0 < vs.length := List.length_pos_iff.2 (by rintro rfl; exact hv rfl)
    obtain ⟨b, off, spot⟩ := a
    have hspot : spot = none := by
      obtain ⟨h0', _⟩ := hvs 0 h0
      simpa [Addr.add] using World.cell?_spot h0'
    subst hspot
    refine ⟨b, off, rfl, fun j u hu' => ?_⟩
    have hj : j < vs.length * 3 := by rw [← f3_len f g k]; exact (List.getElem?_eq_some_iff.1 hu').1
    obtain ⟨q, r, rfl, hr⟩ : ∃ q r, j = q * 3 + r ∧ r < 3 := ⟨j / 3, j % 3, by omega, by omega⟩
    have hq : q < vs.length := by omega
    obtain ⟨h0', h1', h2'⟩ := hvs q hq
    obtain ⟨g0, g1, g2⟩ := f3_get f g k vs q hq
    simp only [add_plain] at h0' h1' h2'
    rcases (by omega : r = 0 ∨ r = 1 ∨ r = 2) with rfl | rfl | rfl
    · rw [Nat.add_zero] at hu' ⊢; rw [g0] at hu'; rw [h0', hu']
    · rw [g1] at hu'; rw [← Nat.add_assoc, h1', hu']
    · rw [g2] at hu'; rw [← Nat.add_assoc, h2', hu']
end
section
variable {H : Type} {enc : TypeId × Value → H} {W : World} {fuel : Nat} {x : DataW H × List MemPlace} {cs : List Value}
instance : Inhabited Val := ⟨nullV⟩
instance : Inhabited Col := ⟨⟨⟨#[]⟩, 0, false⟩⟩
theorem cols_of {ao : Option Addr} {len cap : Nat} (h : DataW.trod enc Try.prog W 0 (fun _ => true) true fuel 34 [.slice ao len cap] = some x) :
    ∃ vs : List Col, len = vs.length ∧ SL W ao (ccl vs) ∧ (ao = none → vs = [] ∧ cap = 0) ∧ len ≤ cap ∧ len ≤ maxLen ∧ (vs ≠ [] → ∃ es sp, x.1 = .slice es sp ∧ es.length = vs.length) :=
  list_of _ _ _ Try.underlying34 c_col (fun h => col_of h) h
/-- The cells of a table. -/
theorem tbl_of (h : DataW.trod enc Try.prog W 0 (fun _ => true) true fuel 36 cs = some x) : ∃ (t : Tbl) (ao : Option Addr) (c : Nat), cs = [.int .i64 t.id, .int .i64 t.ver, .string t.nm, .slice ao t.cols.length c, .int .i64 t.key] ∧ SL W ao (ccl t.cols) ∧ (ao = none → t.cols = [] ∧ c = 0) ∧ t.cols.length ≤ c ∧ t.cols.length ≤ maxLen ∧
    ((-9223372036854775808 ≤ t.id ∧ t.id ≤ 9223372036854775807) ∧ (-9223372036854775808 ≤ t.ver ∧ t.ver ≤ 9223372036854775807) ∧ -9223372036854775808 ≤ t.key ∧ t.key ≤ 9223372036854775807) ∧ (t.cols ≠ [] → ∃ a b n es sp k, x.1 = .agg [a, b, n, .slice es sp, k] ∧ es.length = t.cols.length) := by
  obtain ⟨xs, n', _, hx, hcl, hxl, hf⟩ := DataW.trod_struct Try.underlying36 h
  rw [c_tbl] at hcl
  have hxs : xs.length = 5 := hxl
  obtain ⟨c0, c1, c2, c3, c4, rfl⟩ := list5 cs hcl
  obtain ⟨y0, y1, y2, y3, y4, rfl⟩ := list5 xs hxs
  have f0 : DataW.trod enc Try.prog W 0 (fun _ => true) true n' 3 [c0] = some y0 := by have := hf 0 _ rfl; simpa [c_int] using this
  have f1 : DataW.trod enc Try.prog W 0 (fun _ => true) true n' 3 [c1] = some y1 := by have := hf 1 _ rfl; simpa [c_int] using this
  have f2 : DataW.trod enc Try.prog W 0 (fun _ => true) true n' 9 [c2] = some y2 := by have := hf 2 _ rfl; simpa [c_str] using this
  have f3 : DataW.trod enc Try.prog W 0 (fun _ => true) true n' 34 [c3] = some y3 := by have := hf 3 _ rfl; simpa [c_cols] using this
  have f4 : DataW.trod enc Try.prog W 0 (fun _ => true) true n' 3 [c4] = some y4 := by have := hf 4 _ rfl; simpa [c_int] using this
  obtain ⟨id, e0, _, w0⟩ := DataW.trod_int Try.underlying3 f0
  obtain ⟨ver, e1, _, w1⟩ := DataW.trod_int Try.underlying3 f1
  obtain ⟨nm, e2, _⟩ := DataW.trod_string Try.underlying9 f2
  obtain ⟨key, e4, _, w4⟩ := DataW.trod_int Try.underlying3 f4
  have hs : ∃ ao len cap, c3 = .slice ao len cap := by
    rcases open_slice Try.underlying34 f3 with ⟨h1, _⟩ | ⟨a, len', cap', m, n, D, Pl, h1, _⟩
    · simp at h1; exact ⟨_, _, _, h1⟩
    · simp at h1; exact ⟨_, _, _, h1⟩
  obtain ⟨ao, len, cap, rfl⟩ := hs
  obtain ⟨cols, rfl, hsl, hno, hlc, hlm, hd⟩ := cols_of f3
  simp at e0 e1 e2 e4
  subst e0 e1 e2 e4
  refine ⟨⟨id, ver, nm, cols, key⟩, ao, cap, rfl, hsl, hno, hlc, hlm, ⟨wf_i64 w0, wf_i64 w1, wf_i64 w4⟩, fun hne => ?_⟩
  obtain ⟨es, sp, hd1, hd2⟩ := hd hne
  refine ⟨y0.1, y1.1, y2.1, es, sp, y4.1, ?_, hd2⟩
  rw [hx]
  simp [hd1]
end
theorem okWide_agg {P : Program} {w : World} {r : Reach} {base : Nat} {t : TypeId} {v : Value} {fs : Array Field} (ht : P.underlying t = some (.struct fs)) (h : Value.okWide P w r base t v) : ∃ cs, v = .agg cs := by
  unfold Value.okWide at h
  simp only [ht] at h
  obtain ⟨cs, rfl, _⟩ := h
  exact ⟨cs, rfl⟩
/-- What is within a struct is of no greater weight. -/
theorem sized_agg {H : Type} {P : Program} {ts : List TypeId} {ds : List (DataW H)} (h : (DataW.weightsEach P ts ds).all (· ≤ reachBytes) = true) {j : Nat} {t : TypeId} {parts : List (DataW H)} {fs : Array Field} (ht : ts[j]? = some t) (hd : ds[j]? = some (.agg parts)) (hu : P.underlying t = some (.struct fs)) :
    (DataW.weightsEach P (fs.toList.map (·.type)) parts).all (· ≤ reachBytes) = true := by
  rw [List.all_eq_true] at h ⊢
  intro n hn
  exact h n (DataW.weights_mem_each ht hd n (by simp only [DataW.weights, hu]; exact hn))
end Go.Proofs.Ytkcmpipipelgoaa
