import Derived.Test.YtjambfbibeihiaaGreatAs2
import Derived.Test.YtjambfbibeihiaaGreatMakes1
/- Crash of a pair. -/
namespace Go.Proofs.YtjambfbibeihiaaGreat
set_option maxRecDepth 100000
open Go.RowKit Go.ChangeMaps Go.Sort

theorem info_keep : (Tryz.prog.info? 58).map (fun i => (i.zero, i.size, i.bytes)) = some (some (.agg #[.string ⟨#[]⟩, .int .i64 0]), 2, 24) := by kernel_rfl
theorem make_keeps (n : Nat) (w : World) (hn : 24 * n ≤ 281474976710656) :
    (Instr.makeSlice 39 (.int .i64 (n : Int)) (.int .i64 (n : Int))).run Tryz.prog w = .ok (.slice (some ⟨w.heap.size, 0, none⟩) n n) (w.alloc (.cells (madeCells #[.string ⟨#[]⟩, .int .i64 0] (n * 2)) 58)) := by
  obtain ⟨i0, hi, hz0, hz1, hz2⟩ := info_parts info_keep
  have h := run_make (P := Tryz.prog) w 39 58 i0 (.agg #[.string ⟨#[]⟩, .int .i64 0]) Tryz.underlying39 hi hz0 .i64 .i64 n n (by omega) (Int.le_refl _) (by rw [hz2]; omega) (by omega)
  simpa [hz1, Value.cells] using h

def kcl (nm : Nat → ByteArray) (by' : Nat → Int) : Nat → List Value
  | 0 => []
  | k + 1 => kcl nm by' k ++ [.string (nm k), .int .i64 (by' k)]
theorem kcl_len (nm : Nat → ByteArray) (by' : Nat → Int) : ∀ k, (kcl nm by' k).length = k * 2
  | 0 => rfl
  | k + 1 => by simp [kcl, kcl_len nm by' k]; omega
theorem kcl_get (nm : Nat → ByteArray) (by' : Nat → Int) : ∀ k i, i < k → (kcl nm by' k)[i * 2]? = some (.string (nm i)) ∧ (kcl nm by' k)[i * 2 + 1]? = some (.int .i64 (by' i))
  | 0, _, h => by omega
  | k + 1, i, h => by
    have hl := kcl_len nm by' k
    rw [kcl]
    rcases Nat.lt_or_ge i k with h1 | h1
    · rw [List.getElem?_append_left (by omega), List.getElem?_append_left (by omega)]
      exact kcl_get nm by' k i h1
    · obtain rfl : i = k := by omega
      rw [List.getElem?_append_right (by omega), List.getElem?_append_right (by omega), hl]
      rw [show i * 2 - i * 2 = 0 by omega, show i * 2 + 1 - i * 2 = 1 by omega]
      exact ⟨rfl, rfl⟩
theorem kcl_one (nm : Nat → ByteArray) (by' : Nat → Int) : ∀ k, ∀ v ∈ kcl nm by' k, v.oneCell' = true
  | 0, v, h => by cases h
  | k + 1, v, h => by
    rcases List.mem_append.1 h with h | h
    · exact kcl_one nm by' k v h
    · simp at h
      rcases h with rfl | rfl <;> rfl
theorem kls_cells {w : World} {a : Addr} {n : Nat} {nm : Nat → ByteArray} {by' : Nat → Int} (h : KLs w (some a) n nm by') : ∀ j v, (kcl nm by' n)[j]? = some v → w.cell? (a.add j) = some v := by
  intro j v hj
  have hl : j < n * 2 := by
    have := (List.getElem?_eq_some_iff.1 hj).1
    rwa [kcl_len] at this
  obtain ⟨b, off, e, ⟨h1, h2⟩, _⟩ := h (j / 2) (by omega)
  cases e
  obtain ⟨g1, g2⟩ := kcl_get nm by' n (j / 2) (by omega)
  rw [Addr.add_lit]
  rcases Nat.mod_two_eq_zero_or_one j with e | e
  · rw [show j / 2 * 2 = j by omega] at g1 h1
    rw [g1] at hj
    cases hj
    exact h1
  · rw [show j / 2 * 2 + 1 = j by omega] at g2
    rw [show off + j / 2 * 2 + 1 = off + j by omega] at h2
    rw [g2] at hj
    cases hj
    exact h2
theorem KLs.tch {S : Nat → Prop} {w w' : World} {ao : Option Addr} {n : Nat} {nm : Nat → ByteArray} {by' : Nat → Int} (h : KLs w ao n nm by') (t : Tch S w w') (hS : ∀ a, 0 < n → ao = some a → ¬ S a.block) : KLs w' ao n nm by' := fun i hi => by
  obtain ⟨b, off, h1, ⟨h2, h3⟩, h4⟩ := h i hi
  have hb : ¬ S b := hS _ (by omega) h1
  exact ⟨b, off, h1, ⟨(t.cell (p := ⟨b, _, none⟩) (cell_lt h2) hb).trans h2, (t.cell (p := ⟨b, _, none⟩) (cell_lt h3) hb).trans h3⟩, h4⟩

/-- The list with two marks behind it; from j on as it was. -/
structure AK (w : World) (sb n j : Nat) (nm : Nat → ByteArray) (by' : Nat → Int) : Prop where
  blk : ∃ cur, w.heap[sb]? = some (.cells cur 58 (0, 0)) ∧ cur.size = (n + 2) * 2
  m0 : w.cell? ⟨sb, n * 2, none⟩ = some (.string ⟨#[98, 101, 104, 105, 110, 100]⟩)
  m1 : w.cell? ⟨sb, (n + 1) * 2, none⟩ = some (.string ⟨#[102, 97, 114]⟩)
  rest : ∀ i, j ≤ i → i < n → w.cell? ⟨sb, i * 2, none⟩ = some (.string (nm i)) ∧ w.cell? ⟨sb, i * 2 + 1, none⟩ = some (.int .i64 (by' i))
theorem AK.tch {S : Nat → Prop} {w w' : World} {sb n j : Nat} {nm : Nat → ByteArray} {by' : Nat → Int} (h : AK w sb n j nm by') (t : Tch S w w') (hs : ¬ S sb) : AK w' sb n j nm by' := by
  obtain ⟨cur, h1, h2⟩ := h.blk
  have hl := blk_lt h1
  exact ⟨⟨cur, (t.block sb hl hs).trans h1, h2⟩, (t.cell (p := ⟨sb, _, none⟩) hl hs).trans h.m0, (t.cell (p := ⟨sb, _, none⟩) hl hs).trans h.m1, fun i h3 h4 => ⟨(t.cell (p := ⟨sb, _, none⟩) hl hs).trans (h.rest i h3 h4).1, (t.cell (p := ⟨sb, _, none⟩) hl hs).trans (h.rest i h3 h4).2⟩⟩
theorem AK.step {w : World} {sb n j : Nat} {nm : Nat → ByteArray} {by' : Nat → Int} (h : AK w sb n j nm by') (hj : j < n) (a b : Value) : AK ((w.setCell ⟨sb, j * 2, none⟩ a).setCell ⟨sb, j * 2 + 1, none⟩ b) sb n (j + 1) nm by' := by
  obtain ⟨cur, h1, h2⟩ := h.blk
  have h3 := blk_set (blk_set h1 (i := j * 2) a) (i := j * 2 + 1) b
  have g0 := h.m0
  have g1 := h.m1
  rw [blk_cell h1] at g0 g1
  refine ⟨⟨_, h3, by simp [h2]⟩, ?_, ?_, fun i h4 h5 => ?_⟩
  · rw [blk_cell h3, Array.getElem?_setIfInBounds_ne (by omega), Array.getElem?_setIfInBounds_ne (by omega)]; exact g0
  · rw [blk_cell h3, Array.getElem?_setIfInBounds_ne (by omega), Array.getElem?_setIfInBounds_ne (by omega)]; exact g1
  · obtain ⟨g2, g3⟩ := h.rest i (by omega) h5
    rw [blk_cell h1] at g2 g3
    rw [blk_cell h3, blk_cell h3, Array.getElem?_setIfInBounds_ne (by omega), Array.getElem?_setIfInBounds_ne (by omega), Array.getElem?_setIfInBounds_ne (by omega), Array.getElem?_setIfInBounds_ne (by omega)]
    exact ⟨g2, g3⟩
theorem laid_keeps (ao : Option Addr) (n cap : Nat) (nm : Nat → ByteArray) (by' : Nat → Int) (w : World) (hL : KLs w ao n nm by') (hnil : ao = none → n = 0 ∧ cap = 0) (hn : 24 * (n + 2) ≤ 281474976710656) :
    ∃ w1 w2, ((Instr.makeSlice 39 (.int .i64 ((n : Int) + 2)) (.int .i64 ((n : Int) + 2))).run Tryz.prog w = .ok (.slice (some ⟨w.heap.size, 0, none⟩) (n + 2) (n + 2)) w1) ∧
      (∀ ty, (Builtin.copy_ #[39, 39] ty #[.slice (some ⟨w.heap.size, 0, none⟩) (n + 2) (n + 2), .slice ao n cap]).run Tryz.prog w1 = .ok (goInt n) w2) ∧
      (∃ cur, w2.heap[w.heap.size]? = some (.cells cur 58 (0, 0)) ∧ cur.size = (n + 2) * 2 ∧ ∀ i, i < n → cur[i * 2]? = some (.string (nm i)) ∧ cur[i * 2 + 1]? = some (.int .i64 (by' i))) ∧ Tch (fun _ => False) w w1 ∧ Tch (fun _ => False) w w2 := by
  have hmk := make_keeps (n + 2) w hn
  rw [show ((n + 2 : Nat) : Int) = (n : Int) + 2 by omega] at hmk
  obtain ⟨w1, hw1⟩ : ∃ w1, w1 = w.alloc (.cells (madeCells #[.string ⟨#[]⟩, .int .i64 0] ((n + 2) * 2)) 58) := ⟨_, rfl⟩
  rw [← hw1] at hmk
  have t1 : Tch (fun _ => False) w w1 := by rw [hw1]; exact Tch.alloc _ _ _
  have hb : w1.heap[w.heap.size]? = some (.cells (madeCells #[.string ⟨#[]⟩, .int .i64 0] ((n + 2) * 2)) 58 (0, 0)) := by rw [hw1]; exact box_one w _
  have hsz := size_madeCells #[.string ⟨#[]⟩, .int .i64 0] ((n + 2) * 2)
  obtain ⟨cur0, hcur0⟩ : ∃ cur0, cur0 = madeCells #[.string ⟨#[]⟩, .int .i64 0] ((n + 2) * 2) := ⟨_, rfl⟩
  rw [← hcur0] at hb hsz
  clear hcur0 hw1
  have hi : (Tryz.prog.info? 58).map (·.size) = some 2 := by kernel_rfl
  cases ao with
  | none =>
    obtain ⟨rfl, rfl⟩ := hnil rfl
    refine ⟨w1, w1, hmk, fun ty => run_copy_nil Tryz.prog w1 _ _ ty 58 _ _ _ Tryz.underlying39 (by rw [hi]; rfl), ⟨cur0, hb, hsz, fun i hi => by omega⟩, t1, t1⟩
  | some a =>
    have hr := fun ty => run_copy_row2 (P := Tryz.prog) w1 39 39 ty 58 w.heap.size 0 (n + 2) (n + 2) a n cap cur0 58 (kcl nm by' n) Tryz.underlying39 hi hb (by rw [kcl_len, show Nat.min n (n + 2) = n from Nat.min_eq_left (by omega)]) (kls_cells (hL.no t1)) (by rw [kcl_len]; omega) (kcl_one nm by' n)
    rw [show Nat.min n (n + 2) = n from Nat.min_eq_left (by omega)] at hr
    refine ⟨w1, _, hmk, hr, ⟨_, setRow_heap w1 _ cur0 _ 58 _ hb, ?_, fun i hi => ?_⟩, t1, ?_⟩
    · simp [kcl_len]; omega
    · obtain ⟨g1, g2⟩ := kcl_get nm by' n i hi
      have hl := kcl_len nm by' n
      simp only [List.take_zero, List.nil_append, List.getElem?_toArray]
      rw [List.getElem?_append_left (by omega), List.getElem?_append_left (by omega)]
      exact ⟨g1, g2⟩
    · exact t1.trans (Tch.setRow (fun i => i = w.heap.size) w1 _ _ rfl) (fun i hi e => by omega)
/-- The list copied and marked, in a new block. -/
theorem laid_keeps2 (ao : Option Addr) (n cap : Nat) (nm : Nat → ByteArray) (by' : Nat → Int) (w : World) (hL : KLs w ao n nm by') (hnil : ao = none → n = 0 ∧ cap = 0) (hn : 24 * (n + 2) ≤ 281474976710656) :
    ∃ w1 w2, ((Instr.makeSlice 39 (.int .i64 ((n : Int) + 2)) (.int .i64 ((n : Int) + 2))).run Tryz.prog w = .ok (.slice (some ⟨w.heap.size, 0, none⟩) (n + 2) (n + 2)) w1) ∧
      (∀ ty, (Builtin.copy_ #[39, 39] ty #[.slice (some ⟨w.heap.size, 0, none⟩) (n + 2) (n + 2), .slice ao n cap]).run Tryz.prog w1 = .ok (goInt n) w2) ∧
      ((∃ x0, w2.cell? ⟨w.heap.size, n * 2, none⟩ = some x0) ∧ (∃ x1, w2.cell? ⟨w.heap.size, (n + 1) * 2, none⟩ = some x1) ∧ ∀ j, w2.frozen? ⟨w.heap.size, j, none⟩ = false) ∧
      AK ((w2.setCell ⟨w.heap.size, n * 2, none⟩ (.string ⟨#[98, 101, 104, 105, 110, 100]⟩)).setCell ⟨w.heap.size, (n + 1) * 2, none⟩ (.string ⟨#[102, 97, 114]⟩)) w.heap.size n 0 nm by' ∧
      Tch (fun _ => False) w ((w2.setCell ⟨w.heap.size, n * 2, none⟩ (.string ⟨#[98, 101, 104, 105, 110, 100]⟩)).setCell ⟨w.heap.size, (n + 1) * 2, none⟩ (.string ⟨#[102, 97, 114]⟩)) := by
  obtain ⟨w1, w2, hmk, hcp, ⟨cur, hcb, hcs, hcc⟩, t1, t2⟩ := laid_keeps ao n cap nm by' w hL hnil hn
  have hb4 := blk_set (blk_set hcb (i := n * 2) (.string ⟨#[98, 101, 104, 105, 110, 100]⟩)) (i := (n + 1) * 2) (.string ⟨#[102, 97, 114]⟩)
  refine ⟨w1, w2, hmk, hcp, ⟨⟨cur[n * 2]'(by omega), by rw [blk_cell hcb]; exact Array.getElem?_eq_getElem _⟩, ⟨cur[(n + 1) * 2]'(by omega), by rw [blk_cell hcb]; exact Array.getElem?_eq_getElem _⟩, fun j => blk_frozen hcb j⟩, ⟨⟨_, hb4, by simp [hcs]⟩, ?_, ?_, fun i _ hi => ?_⟩, ?_⟩
  · rw [blk_cell hb4, Array.getElem?_setIfInBounds_ne (by omega), Array.getElem?_setIfInBounds_self_of_lt (by omega)]
  · rw [blk_cell hb4, Array.getElem?_setIfInBounds_self_of_lt (by simp; omega)]
  · obtain ⟨g1, g2⟩ := hcc i hi
    rw [blk_cell hb4, blk_cell hb4, Array.getElem?_setIfInBounds_ne (by omega), Array.getElem?_setIfInBounds_ne (by omega), Array.getElem?_setIfInBounds_ne (by omega), Array.getElem?_setIfInBounds_ne (by omega)]
    exact ⟨g1, g2⟩
  · exact t2.trans ((Tch.setCell (fun i => i = w.heap.size) w2 ⟨w.heap.size, n * 2, none⟩ _ rfl).setCellR ⟨w.heap.size, (n + 1) * 2, none⟩ _ rfl) (fun i hi e => by omega)
theorem length_torn (d : Dsk) (k : Nm → Nat) : (d.torn k).m.length = d.m.length := by simp [Dsk.torn]
end Go.Proofs.YtjambfbibeihiaaGreat
