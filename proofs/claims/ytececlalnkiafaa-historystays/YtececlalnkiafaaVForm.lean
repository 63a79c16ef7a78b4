import Derived.Test.YtececlalnkiafaaBase
import Derived.Test.YtececlalnkiafaaCPure
/- What is right of a value, by the code and by the document. -/
namespace Go.Proofs.Ytececlalnkiafaa
open Go.RowKit

abbrev vA (k n : Int) (s : ByteArray) : Value := .agg #[.int .i64 k, .int .i64 n, .string s]
theorem emp (s : ByteArray) : s.toList.isEmpty = decide (s.size = 0) := by
  by_cases h : s.size = 0
  · rw [empty_of_size h]; simp [h]
  · rw [nonempty_of_size (by omega)]; simp [h]
theorem emp' (s : ByteArray) : s.toList = [] ↔ s.size = 0 := by
  rw [← List.isEmpty_iff, emp]; simp
theorem vret_bool {a b : Bool} (h : a = b) : Ending.returned (.bool a) = .returned (.bool b) := by rw [h]
theorem box_cells (w : World) (a b c : Value) (t : TypeId) : (w.alloc (.cells #[a, b, c] t)).cell? ⟨w.heap.size, 0, none⟩ = some a ∧ (w.alloc (.cells #[a, b, c] t)).cell? ⟨w.heap.size, 1, none⟩ = some b ∧ (w.alloc (.cells #[a, b, c] t)).cell? ⟨w.heap.size, 2, none⟩ = some c := by simp
theorem box_tch {w w1 : World} {a b c : Value} {t : TypeId} (h : Tch (fun _ => False) (w.alloc (.cells #[a, b, c] t)) w1) : w1.cell? ⟨w.heap.size, 0, none⟩ = some a ∧ w1.cell? ⟨w.heap.size, 1, none⟩ = some b ∧ w1.cell? ⟨w.heap.size, 2, none⟩ = some c := by
  obtain ⟨h0, h1, h2⟩ := box_cells w a b c t
  exact ⟨(h.cell (p := ⟨_, _, none⟩) (by simp) (fun h => h)).trans h0, (h.cell (p := ⟨_, _, none⟩) (by simp) (fun h => h)).trans h1, (h.cell (p := ⟨_, _, none⟩) (by simp) (fun h => h)).trans h2⟩

abbrev cA (nm : ByteArray) (ck : Int) (cn : Bool) : Value := .agg #[.string nm, .int .i64 ck, .bool cn]
theorem box_tch2 {w w1 : World} {a b c d e f : Value} {t u : TypeId} (h : Tch (fun _ => False) ((w.alloc (.cells #[a, b, c] t)).alloc (.cells #[d, e, f] u)) w1) : (w1.cell? ⟨w.heap.size, 0, none⟩ = some a ∧ w1.cell? ⟨w.heap.size, 1, none⟩ = some b ∧ w1.cell? ⟨w.heap.size, 2, none⟩ = some c) ∧ w1.cell? ⟨w.heap.size + 1, 0, none⟩ = some d ∧ w1.cell? ⟨w.heap.size + 1, 1, none⟩ = some e ∧ w1.cell? ⟨w.heap.size + 1, 2, none⟩ = some f := by
  have h1 : Tch (fun _ => False) (w.alloc (.cells #[a, b, c] t)) w1 := (Tch.alloc _ _ _).trans' h
  refine ⟨box_tch h1, ?_⟩
  have := box_tch h
  simpa using this
end Go.Proofs.Ytececlalnkiafaa
