import Derived.Test.YtececlalnkiafaaCGrow
import Derived.Laws.CopyRow
/- make, copy, struct comparison: rows and columns. -/
namespace Go.Proofs.Ytececlalnkiafaa
open Go.RowKit Go

theorem info_col : (Try.prog.info? 80).map (fun i => (i.zero, i.size, i.bytes)) = some (some (.agg #[.string ⟨#[]⟩, .int .i64 0, .bool false]), 3, 32) := by kernel_rfl
theorem info_col3 : (Try.prog.info? 80).map (·.size) = some 3 := by kernel_rfl
theorem made3 (a b c : Value) (n : Nat) : madeCells #[a, b, c] (n * 3) = (rep n [a, b, c]).toArray := by
  apply Array.ext'
  apply List.ext_getElem?
  intro j
  show (madeCells #[a, b, c] (n * 3)).toList[j]? = (rep n [a, b, c])[j]?
  rw [Array.getElem?_toList]
  rcases Nat.lt_or_ge j (n * 3) with hj | hj
  · have h := rep_get [a, b, c] n (j / 3) (j % 3) (by omega) (by simp; omega)
    simp only [List.length_cons, List.length_nil, Nat.zero_add] at h
    rw [show j / 3 * 3 + j % 3 = j by omega] at h
    rw [h, Array.getElem?_eq_getElem (by rw [size_madeCells]; exact hj)]
    unfold madeCells
    have h3 : j % 3 < 3 := by omega
    rw [Array.getElem_map, Array.getElem_range]
    have e : (#[a, b, c] : Array Value).size = 3 := rfl
    rw [e]
    rcases (by omega : j % 3 = 0 ∨ j % 3 = 1 ∨ j % 3 = 2) with h | h | h <;> rw [h] <;> rfl
  · rw [Array.getElem?_eq_none (by rw [size_madeCells]; exact hj), List.getElem?_eq_none (by rw [rep_len]; simpa using hj)]
theorem rep_add (n m : Nat) (cs : List Value) : rep (n + m) cs = rep n cs ++ rep m cs := by
  unfold rep
  rw [← List.replicate_append_replicate, List.flatten_append]
theorem rep_drop (n m : Nat) (cs : List Value) : (rep (n + m) cs).drop (n * cs.length) = rep m cs := by
  rw [rep_add, ← rep_len n cs, List.drop_left]
theorem make_col (n : Nat) (w : World) (hn : 32 * n ≤ 281474976710656) :
    (Instr.makeSlice 34 (.int .i64 (n : Int)) (.int .i64 (n : Int))).run Try.prog w = .ok (.slice (some ⟨w.heap.size, 0, none⟩) n n) (w.alloc (.cells (rep n [.string ⟨#[]⟩, .int .i64 0, .bool false]).toArray 80)) := by
  obtain ⟨i0, hi, hz0, hz1, hz2⟩ := info_parts info_col
  have h := run_make (P := Try.prog) w 34 80 i0 (.agg #[.string ⟨#[]⟩, .int .i64 0, .bool false]) Try.underlying34 hi hz0 .i64 .i64 n n (by omega) (Int.le_refl _) (by rw [hz2]; omega) (by omega)
  rw [← made3]
  simpa [hz1, Value.cells] using h
theorem add_plain (b o j : Nat) : (⟨b, o, none⟩ : Addr).add j = ⟨b, o + j, none⟩ := by unfold Addr.add; split <;> simp_all
theorem run_copy_row3 {P : Program} (w : World) (dT sT ty elem : TypeId) (g o dLen dCap : Nat) (a : Addr) (sLen sCap : Nat) (cur : Array Value) (t : TypeId) (cs : List Value)
    (hu : P.underlying dT = some (.slice elem)) (hs : (P.info? elem).map (·.size) = some 3)
    (hg : w.heap[g]? = some (.cells cur t (0, 0))) (hn : cs.length = Nat.min sLen dLen * 3)
    (hsrc : ∀ j v, cs[j]? = some v → w.cell? (a.add j) = some v) (hfit : o + cs.length ≤ cur.size) (h1 : ∀ v ∈ cs, v.oneCell' = true) :
    (Builtin.copy_ #[dT, sT] ty #[.slice (some ⟨g, o, none⟩) dLen dCap, .slice (some a) sLen sCap]).run P w =
      .ok (goInt (Nat.min sLen dLen)) (w.setRow g (cur.toList.take o ++ cs ++ cur.toList.drop (o + cs.length)).toArray) := by
  have hl := run_loadCells_list (P := P) w a cs hsrc
  have hst := run_storeCells_at P g o t cs 0 cur w hg (by simpa using hfit) h1
  cases hq : P.info? elem with
  | none => simp [hq] at hs
  | some i =>
    have hi : i.size = 3 := by simpa [hq] using hs
    simp [Builtin.copy_, run_underlying hu, Builtin.lenOf, Builtin.firstCells, sizeOf, typeInfo, hq, hi, ← hn, hl, hst]
theorem copy_in {P : Program} (W : World) (dT elem t : TypeId) (g dLen dCap : Nat) (so : Option Addr) (n cs : Nat) (cur : Array Value) (xs : List Value)
    (hu : P.underlying dT = some (.slice elem)) (hs : (P.info? elem).map (·.size) = some 3)
    (hg : W.heap[g]? = some (.cells cur t (0, 0))) (hl : xs.length = n * 3) (hnd : n ≤ dLen) (hfit : n * 3 ≤ cur.size) (h1 : ∀ v ∈ xs, v.oneCell' = true) (hsl : SL W so xs) (hso : so = none → cs = 0) :
    ∃ W', (∀ ty, (Builtin.copy_ #[dT, dT] ty #[.slice (some ⟨g, 0, none⟩) dLen dCap, .slice so n cs]).run P W = .ok (.int .i64 n) W') ∧ W'.heap[g]? = some (.cells (xs ++ cur.toList.drop (n * 3)).toArray t (0, 0)) ∧ Tch (fun i => i = g) W W' := by
  rcases Nat.eq_zero_or_pos n with rfl | hn
  · have hx : xs = [] := List.eq_nil_of_length_eq_zero (by omega)
    subst hx
    refine ⟨W, fun ty => ?_, by simpa using hg, Tch.refl _ _⟩
    cases hq : P.info? elem with
    | none => simp [hq] at hs
    | some i =>
      cases so with
      | none => obtain rfl := hso rfl; simp [Builtin.copy_, run_underlying hu, Builtin.lenOf, Builtin.firstCells, sizeOf, typeInfo, hq, storeCells, goInt]
      | some s => simp [Builtin.copy_, run_underlying hu, Builtin.lenOf, Builtin.firstCells, sizeOf, typeInfo, hq, storeCells, goInt, loadCells, loadCellsFrom]
  · obtain ⟨gs, o, rfl, ha⟩ := hsl (by rintro rfl; simp at hl; omega)
    have e : Nat.min n dLen = n := Nat.min_eq_left hnd
    refine ⟨W.setRow g (cur.toList.take 0 ++ xs ++ cur.toList.drop (0 + xs.length)).toArray, fun ty => ?_, ?_, ?_⟩
    · have hr := run_copy_row3 (P := P) W dT dT ty elem g 0 dLen dCap ⟨gs, o, none⟩ n cs cur t xs hu hs hg (by rw [e]; exact hl) (fun j v hv => by rw [add_plain]; exact ha j v hv) (by omega) h1
      rw [hr, e]; rfl
    · rw [setRow_heap W g cur _ t (0, 0) hg]
      simp [hl]
    · exact ⟨rfl, rfl, rfl, by simp [World.setRow], fun k _ hk => setRow_other W g k _ hk⟩
theorem eq_col (a b : Col) : ∃ d : Bool, (d = true ↔ a = b) ∧ ∀ w, (Op.equalIn 10000 80 (.agg #[.string a.nm, .int .i64 a.k, .bool a.nl]) (.agg #[.string b.nm, .int .i64 b.k, .bool b.nl])).run Try.prog w = .ok d w := by
  have u3 := Try.underlying3
  have u9 := Try.underlying9
  have u4 := Try.underlying4
  have hS : Try.prog.underlying 80 = some (.struct (Try.prog.fieldsOf 80)) := by kernel_rfl
  have hp : Try.prog.stoodInHeld 80 = false := by kernel_rfl
  refine ⟨decide (a.nm = b.nm ∧ a.k = b.k ∧ a.nl = b.nl), ?_, fun w => ?_⟩
  · simp only [decide_eq_true_eq]
    exact ⟨Col.ext', fun h => by subst h; exact ⟨rfl, rfl, rfl⟩⟩
  · rw [show (10000 : Nat) = 9999 + 1 from rfl, run_equalIn_agg w 9999 80 _ _ hS hp]
    simp only [Program.fieldsOf, Try.underlying80]
    go_simp
    have hs : (a.nm.toList = b.nm.toList) ↔ a.nm = b.nm := by
      rw [ByteArray.toList_eq, ByteArray.toList_eq]
      exact ⟨fun h => ByteArray.ext (Array.ext' h), fun h => by rw [h]⟩
    by_cases h1 : a.nm = b.nm <;> by_cases h2 : a.k = b.k <;> by_cases h3 : a.nl = b.nl <;> simp [h1, h2, h3, hs]
theorem ne_col (a b : Col) : ∃ d : Bool, (d = true ↔ a ≠ b) ∧ ∀ w, (binOp .neq 80 (.agg #[.string a.nm, .int .i64 a.k, .bool a.nl]) (.agg #[.string b.nm, .int .i64 b.k, .bool b.nl])).run Try.prog w = .ok (.bool d) w := by
  obtain ⟨d, h1, h2⟩ := eq_col a b
  refine ⟨!d, ?_, fun w => ?_⟩
  · cases d <;> simp_all
  · rw [run_neq_struct, h2]; rfl
theorem eql_col (a b : Col) : ∃ d : Bool, (d = true ↔ a = b) ∧ ∀ w, (binOp .eql 80 (.agg #[.string a.nm, .int .i64 a.k, .bool a.nl]) (.agg #[.string b.nm, .int .i64 b.k, .bool b.nl])).run Try.prog w = .ok (.bool d) w := by
  obtain ⟨d, h1, h2⟩ := eq_col a b
  refine ⟨d, h1, fun w => ?_⟩
  rw [run_eql_struct, h2]; rfl
end Go.Proofs.Ytececlalnkiafaa
