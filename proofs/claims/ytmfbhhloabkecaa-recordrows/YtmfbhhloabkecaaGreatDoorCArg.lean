import Derived.Test.YtmfbhhloabkecaaGreatDoorCGrow
import Derived.Laws.CopyRow
import Derived.Test.YtmfbhhloabkecaaGreatDoorRows
import Derived.ProofKit
import Derived.SizedLaws
import Derived.OpenShut
import Derived.Deep.Slices
set_option maxRecDepth 100000
namespace Go.Proofs.YtmfbhhloabkecaaGreatDoor.C
open Go.RowKit Go
theorem info_val : (Tryz.prog.info? 58).map (fun i => (i.zero, i.size, i.bytes)) = some (some (.agg #[.int .i64 0, .int .i64 0, .string ⟨#[]⟩]), 3, 32) := by kernel_rfl
theorem info_col : (Tryz.prog.info? 43).map (fun i => (i.zero, i.size, i.bytes)) = some (some (.agg #[.string ⟨#[]⟩, .int .i64 0, .bool false]), 3, 32) := by kernel_rfl
theorem info_val3 : (Tryz.prog.info? 58).map (·.size) = some 3 := by kernel_rfl
theorem made3 (a b c : Value) (n : Nat) : madeCells #[a, b, c] (n * 3) = (rep n [a, b, c]).toArray := by
  apply Array.ext'
  apply List.ext_getElem?
  intro j
  show (madeCells #[a, b, c] (n * 3)).toList[j]? = (rep n [a, b, c])[j]?
  rw [Array.getElem?_toList]
  rcases Nat.lt_or_ge j (n * 3) with hj | hj
  · have h := rep_get [a, b, c] n (j / 3) (j % 3) (by omega) (by simp; omega)
    simp only [List.length_cons, List.length_nil, Nat.zero_add] at h
    rw [show j / 3 * 3 + j % 3 = j by omega] at h
    rw [h, Array.getElem?_eq_getElem (by rw [size_madeCells]; exact hj)]
    unfold madeCells
    have h3 : j % 3 < 3 := by omega
    rw [Array.getElem_map, Array.getElem_range]
    have e : (#[a, b, c] : Array Value).size = 3 := rfl
    rw [e]
    rcases (by omega : j % 3 = 0 ∨ j % 3 = 1 ∨ j % 3 = 2) with h | h | h <;> rw [h] <;> rfl
  · rw [Array.getElem?_eq_none (by rw [size_madeCells]; exact hj), List.getElem?_eq_none (by rw [rep_len]; simpa using hj)]
theorem rep_add (n m : Nat) (cs : List Value) : rep (n + m) cs = rep n cs ++ rep m cs := by
  unfold rep
  rw [← List.replicate_append_replicate, List.flatten_append]
theorem rep_drop (n m : Nat) (cs : List Value) : (rep (n + m) cs).drop (n * cs.length) = rep m cs := by
  rw [rep_add, ← rep_len n cs, List.drop_left]
theorem make_row (n : Nat) (w : World) (hn : 32 * n ≤ 281474976710656) :
    (Instr.makeSlice 24 (.int .i64 (n : Int)) (.int .i64 (n : Int))).run Tryz.prog w = .ok (.slice (some ⟨w.heap.size, 0, none⟩) n n) (w.alloc (.cells (rep n [.int .i64 0, .int .i64 0, .string ⟨#[]⟩]).toArray 58)) := by
  obtain ⟨i0, hi, hz0, hz1, hz2⟩ := info_parts info_val
  have h := run_make (P := Tryz.prog) w 24 58 i0 (.agg #[.int .i64 0, .int .i64 0, .string ⟨#[]⟩]) Tryz.underlying24 hi hz0 .i64 .i64 n n (by omega) (Int.le_refl _) (by rw [hz2]; omega) (by omega)
  rw [← made3]
  simpa [hz1, Value.cells] using h
theorem add_plain (b o j : Nat) : (⟨b, o, none⟩ : Addr).add j = ⟨b, o + j, none⟩ := by unfold Addr.add; split <;> simp_all
theorem run_copy_row3 {P : Program} (w : World) (dT sT ty elem : TypeId) (g o dLen dCap : Nat) (a : Addr) (sLen sCap : Nat) (cur : Array Value) (t : TypeId) (cs : List Value)
    (hu : P.underlying dT = some (.slice elem)) (hs : (P.info? elem).map (·.size) = some 3)
    (hg : w.heap[g]? = some (.cells cur t (0, 0))) (hn : cs.length = Nat.min sLen dLen * 3)
    (hsrc : ∀ j v, cs[j]? = some v → w.cell? (a.add j) = some v) (hfit : o + cs.length ≤ cur.size) (h1 : ∀ v ∈ cs, v.oneCell' = true) :
    (Builtin.copy_ #[dT, sT] ty #[.slice (some ⟨g, o, none⟩) dLen dCap, .slice (some a) sLen sCap]).run P w =
      .ok (goInt (Nat.min sLen dLen)) (w.setRow g (cur.toList.take o ++ cs ++ cur.toList.drop (o + cs.length)).toArray) := by
  have hl := run_loadCells_list (P := P) w a cs hsrc
  have hst := run_storeCells_at P g o t cs 0 cur w hg (by simpa using hfit) h1
  cases hq : P.info? elem with
  | none => simp [hq] at hs
  | some i =>
    have hi : i.size = 3 := by simpa [hq] using hs
    simp [Builtin.copy_, run_underlying hu, Builtin.lenOf, Builtin.firstCells, sizeOf, typeInfo, hq, hi, ← hn, hl, hst]
theorem copy_in {P : Program} (W : World) (dT elem t : TypeId) (g dLen dCap : Nat) (so : Option Addr) (n cs : Nat) (cur : Array Value) (xs : List Value)
    (hu : P.underlying dT = some (.slice elem)) (hs : (P.info? elem).map (·.size) = some 3)
    (hg : W.heap[g]? = some (.cells cur t (0, 0))) (hl : xs.length = n * 3) (hnd : n ≤ dLen) (hfit : n * 3 ≤ cur.size) (h1 : ∀ v ∈ xs, v.oneCell' = true) (hsl : SL W so xs) (hso : so = none → cs = 0) :
    ∃ W', (∀ ty, (Builtin.copy_ #[dT, dT] ty #[.slice (some ⟨g, 0, none⟩) dLen dCap, .slice so n cs]).run P W = .ok (.int .i64 n) W') ∧ W'.heap[g]? = some (.cells (xs ++ cur.toList.drop (n * 3)).toArray t (0, 0)) ∧ Tch (fun i => i = g) W W' := by
  rcases Nat.eq_zero_or_pos n with rfl | hn
  · have hx : xs = [] := List.eq_nil_of_length_eq_zero (by omega)
    subst hx
    refine ⟨W, fun ty => ?_, by simpa using hg, Tch.refl _ _⟩
    cases hq : P.info? elem with
    | none => simp [hq] at hs
    | some i =>
      cases so with
      | none => obtain rfl := hso rfl; simp [Builtin.copy_, run_underlying hu, Builtin.lenOf, Builtin.firstCells, sizeOf, typeInfo, hq, storeCells, goInt]
      | some s => simp [Builtin.copy_, run_underlying hu, Builtin.lenOf, Builtin.firstCells, sizeOf, typeInfo, hq, storeCells, goInt, loadCells, loadCellsFrom]
  · obtain ⟨gs, o, rfl, ha⟩ := hsl (by rintro rfl; simp at hl; omega)
    have e : Nat.min n dLen = n := Nat.min_eq_left hnd
    refine ⟨W.setRow g (cur.toList.take 0 ++ xs ++ cur.toList.drop (0 + xs.length)).toArray, fun ty => ?_, ?_, ?_⟩
    · have hr := run_copy_row3 (P := P) W dT dT ty elem g 0 dLen dCap ⟨gs, o, none⟩ n cs cur t xs hu hs hg (by rw [e]; exact hl) (fun j v hv => by rw [add_plain]; exact ha j v hv) (by omega) h1
      rw [hr, e]; rfl
    · rw [setRow_heap W g cur _ t (0, 0) hg]
      simp [hl]
    · exact ⟨rfl, rfl, rfl, by simp [World.setRow], fun k _ hk => setRow_other W g k _ hk⟩
theorem eq_val (a b : Val) : ∃ d : Bool, (d = true ↔ a = b) ∧ ∀ w, (Op.equalIn 10000 58 (.agg #[.int .i64 a.k, .int .i64 a.n, .string a.s]) (.agg #[.int .i64 b.k, .int .i64 b.n, .string b.s])).run Tryz.prog w = .ok d w := by
  have u3 := Tryz.underlying3
  have u9 := Tryz.underlying9
  have hS : Tryz.prog.underlying 58 = some (.struct (Tryz.prog.fieldsOf 58)) := by kernel_rfl
  have hp : Tryz.prog.stoodInHeld 58 = false := by kernel_rfl
  refine ⟨decide (a.k = b.k ∧ a.n = b.n ∧ a.s = b.s), ?_, fun w => ?_⟩
  · simp only [decide_eq_true_eq]
    exact ⟨Val.ext', fun h => by subst h; exact ⟨rfl, rfl, rfl⟩⟩
  · rw [show (10000 : Nat) = 9999 + 1 from rfl, run_equalIn_agg w 9999 58 _ _ hS hp]
    simp only [Program.fieldsOf, Tryz.underlying58]
    go_simp
    have hs : (a.s.toList = b.s.toList) ↔ a.s = b.s := by
      rw [ByteArray.toList_eq, ByteArray.toList_eq]
      exact ⟨fun h => ByteArray.ext (Array.ext' h), fun h => by rw [h]⟩
    by_cases h1 : a.k = b.k <;> by_cases h2 : a.n = b.n <;> by_cases h3 : a.s = b.s <;> simp [h1, h2, h3, hs]
theorem ne_val (a b : Val) : ∃ d : Bool, (d = true ↔ a ≠ b) ∧ ∀ w, (binOp .neq 58 (.agg #[.int .i64 a.k, .int .i64 a.n, .string a.s]) (.agg #[.int .i64 b.k, .int .i64 b.n, .string b.s])).run Tryz.prog w = .ok (.bool d) w := by
  obtain ⟨d, h1, h2⟩ := eq_val a b
  refine ⟨!d, ?_, fun w => ?_⟩
  · cases d <;> simp_all
  · rw [run_neq_struct, h2]; rfl
theorem eq_col (a b : Col) : ∃ d : Bool, (d = true ↔ a = b) ∧ ∀ w, (Op.equalIn 10000 43 (.agg #[.string a.nm, .int .i64 a.k, .bool a.nl]) (.agg #[.string b.nm, .int .i64 b.k, .bool b.nl])).run Tryz.prog w = .ok d w := by
  have u3 := Tryz.underlying3
  have u9 := Tryz.underlying9
  have u4 := Tryz.underlying4
  have hS : Tryz.prog.underlying 43 = some (.struct (Tryz.prog.fieldsOf 43)) := by kernel_rfl
  have hp : Tryz.prog.stoodInHeld 43 = false := by kernel_rfl
  refine ⟨decide (a.nm = b.nm ∧ a.k = b.k ∧ a.nl = b.nl), ?_, fun w => ?_⟩
  · simp only [decide_eq_true_eq]
    exact ⟨Col.ext', fun h => by subst h; exact ⟨rfl, rfl, rfl⟩⟩
  · rw [show (10000 : Nat) = 9999 + 1 from rfl, run_equalIn_agg w 9999 43 _ _ hS hp]
    simp only [Program.fieldsOf, Tryz.underlying43]
    go_simp
    have hs : (a.nm.toList = b.nm.toList) ↔ a.nm = b.nm := by
      rw [ByteArray.toList_eq, ByteArray.toList_eq]
      exact ⟨fun h => ByteArray.ext (Array.ext' h), fun h => by rw [h]⟩
    by_cases h1 : a.nm = b.nm <;> by_cases h2 : a.k = b.k <;> by_cases h3 : a.nl = b.nl <;> simp [h1, h2, h3, hs]
theorem ne_col (a b : Col) : ∃ d : Bool, (d = true ↔ a ≠ b) ∧ ∀ w, (binOp .neq 43 (.agg #[.string a.nm, .int .i64 a.k, .bool a.nl]) (.agg #[.string b.nm, .int .i64 b.k, .bool b.nl])).run Tryz.prog w = .ok (.bool d) w := by
  obtain ⟨d, h1, h2⟩ := eq_col a b
  refine ⟨!d, ?_, fun w => ?_⟩
  · cases d <;> simp_all
  · rw [run_neq_struct, h2]; rfl
end Go.Proofs.YtmfbhhloabkecaaGreatDoor.C
namespace Go.Proofs.YtmfbhhloabkecaaGreatDoor.C
open Go.ChangeShapes Go.WideShapes Go.ChangeAt Go.RowKit Go.Deep
set_option maxRecDepth 100000
theorem tr_own : ownKnob Tryz.prog.godebug = none := by kernel_rfl
theorem tr_laidOut : laidOutB Tryz.prog = true := by kernel_rfl
theorem c_int : Tryz.prog.cellsOf 3 = 1 := by kernel_rfl
theorem c_str : Tryz.prog.cellsOf 9 = 1 := by kernel_rfl
theorem c_bool : Tryz.prog.cellsOf 4 = 1 := by kernel_rfl
theorem c_val : Tryz.prog.cellsOf 58 = 3 := by kernel_rfl
theorem c_col : Tryz.prog.cellsOf 43 = 3 := by kernel_rfl
theorem b_val : Tryz.prog.bytesOf 58 = 32 := by kernel_rfl
theorem wf_i64 {n : Int} (h : (Lit.int .i64 n).wf = true) : -9223372036854775808 ≤ n ∧ n ≤ 9223372036854775807 := by
  have := bounds_i64 h
  omega
theorem list3 {α : Type} (l : List α) (h : l.length = 3) : ∃ c0 c1 c2, l = [c0, c1, c2] := by
  rcases l with _ | ⟨c0, _ | ⟨c1, _ | ⟨c2, _ | ⟨c3, l⟩⟩⟩⟩ <;> simp at h
  exact ⟨c0, c1, c2, rfl⟩
section
variable {H : Type} {enc : TypeId × Value → H} {W : World} {fuel : Nat} {x : DataW H × List MemPlace} {cs : List Value}
theorem val_of (h : DataW.trod enc Tryz.prog W 0 (fun _ => true) true fuel 58 cs = some x) : ∃ v : Val, cs = [.int .i64 v.k, .int .i64 v.n, .string v.s] := by
  obtain ⟨xs, n', _, hx, hcl, hxl, hf⟩ := DataW.trod_struct Tryz.underlying58 h
  rw [c_val] at hcl
  have hxs : xs.length = 3 := hxl
  obtain ⟨c0, c1, c2, rfl⟩ := list3 cs hcl
  obtain ⟨y0, y1, y2, rfl⟩ := list3 xs hxs
  have f0 : DataW.trod enc Tryz.prog W 0 (fun _ => true) true n' 3 [c0] = some y0 := by have := hf 0 _ rfl; simpa [c_int] using this
  have f1 : DataW.trod enc Tryz.prog W 0 (fun _ => true) true n' 3 [c1] = some y1 := by have := hf 1 _ rfl; simpa [c_int] using this
  have f2 : DataW.trod enc Tryz.prog W 0 (fun _ => true) true n' 9 [c2] = some y2 := by have := hf 2 _ rfl; simpa [c_str] using this
  obtain ⟨k, e0, g0, wk⟩ := DataW.trod_int Tryz.underlying3 f0
  obtain ⟨n, e1, g1, wn⟩ := DataW.trod_int Tryz.underlying3 f1
  obtain ⟨s, e2, g2, ws⟩ := DataW.trod_string Tryz.underlying9 f2
  simp at e0 e1 e2
  subst e0 e1 e2
  exact ⟨⟨k, n, s⟩, rfl⟩
theorem col_of (h : DataW.trod enc Tryz.prog W 0 (fun _ => true) true fuel 43 cs = some x) : ∃ c : Col, cs = [.string c.nm, .int .i64 c.k, .bool c.nl] := by
  obtain ⟨xs, n', _, hx, hcl, hxl, hf⟩ := DataW.trod_struct Tryz.underlying43 h
  rw [c_col] at hcl
  have hxs : xs.length = 3 := hxl
  obtain ⟨c0, c1, c2, rfl⟩ := list3 cs hcl
  obtain ⟨y0, y1, y2, rfl⟩ := list3 xs hxs
  have f0 : DataW.trod enc Tryz.prog W 0 (fun _ => true) true n' 9 [c0] = some y0 := by have := hf 0 _ rfl; simpa [c_str] using this
  have f1 : DataW.trod enc Tryz.prog W 0 (fun _ => true) true n' 3 [c1] = some y1 := by have := hf 1 _ rfl; simpa [c_int] using this
  have f2 : DataW.trod enc Tryz.prog W 0 (fun _ => true) true n' 4 [c2] = some y2 := by have := hf 2 _ rfl; simpa [c_bool] using this
  obtain ⟨nm, e0, _⟩ := DataW.trod_string Tryz.underlying9 f0
  obtain ⟨ck, e1, _⟩ := DataW.trod_int Tryz.underlying3 f1
  obtain ⟨cn, e2, _⟩ := DataW.trod_bool Tryz.underlying4 f2
  simp at e0 e1 e2
  subst e0 e1 e2
  exact ⟨⟨nm, ck, cn⟩, rfl⟩
theorem list_of {α : Type} [Inhabited α] (f g k : α → Value) {t e : TypeId} (hu : Tryz.prog.underlying t = some (.slice e)) (hc : Tryz.prog.cellsOf e = 3) (hel : ∀ {fuel cs x}, DataW.trod enc Tryz.prog W 0 (fun _ => true) true fuel e cs = some x → ∃ v : α, cs = [f v, g v, k v]) {ao : Option Addr} {len cap : Nat}
    (h : DataW.trod enc Tryz.prog W 0 (fun _ => true) true fuel t [.slice ao len cap] = some x) :
    ∃ vs : List α, len = vs.length ∧ SL W ao (f3 f g k vs) ∧ (ao = none → vs = [] ∧ cap = 0) ∧ len ≤ cap ∧ len ≤ maxLen ∧ (vs ≠ [] → ∃ es sp, x.1 = .slice es sp ∧ es.length = vs.length) := by
  rcases open_slice hu h with ⟨h1, _⟩ | ⟨a, len', cap', m, n, D, Pl, h1, _, hl, hmx, hm, hx, hee⟩
  · simp at h1
    obtain ⟨rfl, rfl, rfl⟩ := h1
    exact ⟨[], rfl, SL.nil _ _, fun _ => ⟨rfl, rfl⟩, Nat.le_refl _, Nat.zero_le _, fun h => absurd rfl h⟩
  · simp only [List.cons.injEq, Value.slice.injEq, and_true] at h1
    obtain ⟨rfl, rfl, rfl⟩ := h1
    have hm' : m = cap := by simpa using hm
    rw [hc] at hee
    have key : ∀ i, i < len → ∃ u : α, W.cell? (a.add (i * 3)) = some (f u) ∧ W.cell? ((a.add (i * 3)).add 1) = some (g u) ∧ W.cell? ((a.add (i * 3)).add 2) = some (k u) := by
      intro i hi
      obtain ⟨cs', hc', ht⟩ := hee i (by omega)
      obtain ⟨_, hcl, hcc⟩ := World.cells?_some hc'
      obtain ⟨v, rfl⟩ := hel ht
      have g0 := hcc 0 (by simp)
      have g1 := hcc 1 (by simp)
      have g2 := hcc 2 (by simp)
      exact ⟨v, by simpa [Addr.add] using g0, by simpa using g1, by simpa using g2⟩
    have pick : ∃ vs : List α, vs.length = len ∧ ∀ i (hi : i < vs.length), W.cell? (a.add (i * 3)) = some (f vs[i]) ∧ W.cell? ((a.add (i * 3)).add 1) = some (g vs[i]) ∧ W.cell? ((a.add (i * 3)).add 2) = some (k vs[i]) := by
      classical
      refine ⟨List.ofFn (fun i : Fin len => (key i.1 i.2).choose), by simp, fun i hi => ?_⟩
      have hi' : i < len := by simpa using hi
      rw [List.getElem_ofFn]
      exact (key i hi').choose_spec
    obtain ⟨vs, rfl, hvs⟩ := pick
    refine ⟨vs, rfl, fun hv => ?_, fun h => (by cases h), by omega, by omega, fun _ => ⟨_, _, congrArg Prod.fst hx, by rw [List.length_map, List.length_range]⟩⟩
    have h0 : 0 < vs.length := List.length_pos_iff.2 (by rintro rfl; exact hv rfl)
    obtain ⟨b, off, spot⟩ := a
    have hspot : spot = none := by
      obtain ⟨h0', _⟩ := hvs 0 h0
      simpa [Addr.add] using World.cell?_spot h0'
    subst hspot
    refine ⟨b, off, rfl, fun j u hu' => ?_⟩
    have hj : j < vs.length * 3 := by rw [← f3_len f g k]; exact (List.getElem?_eq_some_iff.1 hu').1
    obtain ⟨q, r, rfl, hr⟩ : ∃ q r, j = q * 3 + r ∧ r < 3 := ⟨j / 3, j % 3, by omega, by omega⟩
    have hq : q < vs.length := by omega
    obtain ⟨h0', h1', h2'⟩ := hvs q hq
    obtain ⟨g0, g1, g2⟩ := f3_get f g k vs q hq
    simp only [add_plain] at h0' h1' h2'
    rcases (by omega : r = 0 ∨ r = 1 ∨ r = 2) with rfl | rfl | rfl
    · rw [Nat.add_zero] at hu' ⊢; rw [g0] at hu'; rw [h0', hu']
    · rw [g1] at hu'; rw [← Nat.add_assoc, h1', hu']
    · rw [g2] at hu'; rw [← Nat.add_assoc, h2', hu']
end
section
variable {H : Type} {enc : TypeId × Value → H} {W : World} {fuel : Nat} {x : DataW H × List MemPlace} {cs : List Value}
instance : Inhabited Val := ⟨nullV⟩
instance : Inhabited Col := ⟨⟨⟨#[]⟩, 0, false⟩⟩
theorem cols_of {ao : Option Addr} {len cap : Nat} (h : DataW.trod enc Tryz.prog W 0 (fun _ => true) true fuel 22 [.slice ao len cap] = some x) :
    ∃ vs : List Col, len = vs.length ∧ SL W ao (ccl vs) ∧ (ao = none → vs = [] ∧ cap = 0) ∧ len ≤ cap ∧ len ≤ maxLen ∧ (vs ≠ [] → ∃ es sp, x.1 = .slice es sp ∧ es.length = vs.length) :=
  list_of _ _ _ Tryz.underlying22 c_col (fun h => col_of h) h
end
theorem okWide_agg {P : Program} {w : World} {r : Reach} {base : Nat} {t : TypeId} {v : Value} {fs : Array Field} (ht : P.underlying t = some (.struct fs)) (h : Value.okWide P w r base t v) : ∃ cs, v = .agg cs := by
  unfold Value.okWide at h
  simp only [ht] at h
  obtain ⟨cs, rfl, _⟩ := h
  exact ⟨cs, rfl⟩
end Go.Proofs.YtmfbhhloabkecaaGreatDoor.C
