import Derived.Test.YtmegkmhcfehnkaaGreatDoorBase
import Derived.Test.YtmegkmhcfehnkaaGreatDoorVPure
/- What is right of a value, by the code and by the document. -/
namespace Go.Proofs.YtmegkmhcfehnkaaGreatDoor
open Go.RowKit

abbrev vA (k n : Int) (s : ByteArray) : Value := .agg #[.int .i64 k, .int .i64 n, .string s]
theorem emp (s : ByteArray) : s.toList.isEmpty = decide (s.size = 0) := by
  by_cases h : s.size = 0
  · rw [empty_of_size h]; simp [h]
  · rw [nonempty_of_size (by omega)]; simp [h]
theorem emp' (s : ByteArray) : s.toList = [] ↔ s.size = 0 := by
  rw [← List.isEmpty_iff, emp]; simp
theorem vret_bool {a b : Bool} (h : a = b) : Ending.returned (.bool a) = .returned (.bool b) := by rw [h]
theorem box_cells (w : World) (a b c : Value) (t : TypeId) : (w.alloc (.cells #[a, b, c] t)).cell? ⟨w.heap.size, 0, none⟩ = some a ∧ (w.alloc (.cells #[a, b, c] t)).cell? ⟨w.heap.size, 1, none⟩ = some b ∧ (w.alloc (.cells #[a, b, c] t)).cell? ⟨w.heap.size, 2, none⟩ = some c := by simp
theorem box_tch {w w1 : World} {a b c : Value} {t : TypeId} (h : Tch (fun _ => False) (w.alloc (.cells #[a, b, c] t)) w1) : w1.cell? ⟨w.heap.size, 0, none⟩ = some a ∧ w1.cell? ⟨w.heap.size, 1, none⟩ = some b ∧ w1.cell? ⟨w.heap.size, 2, none⟩ = some c := by
  obtain ⟨h0, h1, h2⟩ := box_cells w a b c t
  exact ⟨(h.cell (p := ⟨_, _, none⟩) (by simp) (fun h => h)).trans h0, (h.cell (p := ⟨_, _, none⟩) (by simp) (fun h => h)).trans h1, (h.cell (p := ⟨_, _, none⟩) (by simp) (fun h => h)).trans h2⟩

set_option maxHeartbeats 1000000 in
set_option maxRecDepth 100000 in
theorem hasForm_any (k n : Int) (s : ByteArray) (w : World) :
    Calls Tryz.prog 34 #[vA k n s] w fun x w' => x = .returned (.bool (decide (frm ⟨k, n, s⟩))) ∧ Tch (fun _ => False) w w' := by
  go_enter Tryz.func34, Tryz.ntmps34
  go_wp2
  all_goals (go_ret; refine ⟨vret_bool ?_, Tch.alloc _ _ _⟩; rw [Bool.eq_iff_iff, decide_eq_true_iff]; unfold frm; simp only [emp] at *; generalize s.size = z at *; simp at *; omega)
set_option maxHeartbeats 1000000 in
set_option maxRecDepth 100000 in
theorem form_any (k n : Int) (s : ByteArray) (w : World) :
    Calls Tryz.prog 35 #[vA k n s] w fun x w' => x = .returned (.bool (decide (frm ⟨k, n, s⟩))) ∧ Tch (fun _ => False) w w' := by
  go_enter Tryz.func35, Tryz.ntmps35
  go_wp2
  all_goals (go_ret; refine ⟨vret_bool ?_, Tch.alloc _ _ _⟩; rw [Bool.eq_iff_iff, decide_eq_true_iff]; unfold frm; simp only [emp, emp'] at *; generalize s.size = z at *; simp at *; omega)

set_option maxHeartbeats 1000000 in
set_option maxRecDepth 100000 in
theorem wrong_any (k n : Int) (s : ByteArray) (w : World) :
    Calls Tryz.prog 17 #[vA k n s] w fun x w' => x = .returned (.int .i64 (wrg ⟨k, n, s⟩)) ∧ Tch (fun _ => False) w w' := by
  go_enter Tryz.func17, Tryz.ntmps17
  go_wp2_with (go_at_call 34; refine (hasForm_any _ _ _ _).mono ?_; rintro x w1 ⟨rfl, t1⟩; obtain ⟨c0, c1, c2⟩ := box_tch t1)
  all_goals (go_ret; refine ⟨?_, (Tch.alloc _ _ _).trans' t1⟩; congr 2; simp_all [wrg] <;> omega)
set_option maxHeartbeats 1000000 in
set_option maxRecDepth 100000 in
theorem rwrong_any (k n : Int) (s : ByteArray) (w : World) :
    Calls Tryz.prog 18 #[vA k n s] w fun x w' => x = .returned (.int .i64 (wrg ⟨k, n, s⟩)) ∧ Tch (fun _ => False) w w' := by
  go_enter Tryz.func18, Tryz.ntmps18
  go_wp2_with (go_at_call 35; refine (form_any _ _ _ _).mono ?_; rintro x w1 ⟨rfl, t1⟩; obtain ⟨c0, c1, c2⟩ := box_tch t1)
  all_goals (go_ret; refine ⟨?_, (Tch.alloc _ _ _).trans' t1⟩; congr 2; simp_all [wrg] <;> omega)

/-- May it stand in a column of kind ck, which may be null or not? -/
def fitE (v : Val) (ck : Int) (cn : Bool) : Int := if wrg v ≠ 0 then wrg v else if v.k = 0 ∧ cn = false then 41 else if v.k ≠ 0 ∧ v.k ≠ ck then 40 else 0
abbrev cA (nm : ByteArray) (ck : Int) (cn : Bool) : Value := .agg #[.string nm, .int .i64 ck, .bool cn]
theorem box_tch2 {w w1 : World} {a b c d e f : Value} {t u : TypeId} (h : Tch (fun _ => False) ((w.alloc (.cells #[a, b, c] t)).alloc (.cells #[d, e, f] u)) w1) : (w1.cell? ⟨w.heap.size, 0, none⟩ = some a ∧ w1.cell? ⟨w.heap.size, 1, none⟩ = some b ∧ w1.cell? ⟨w.heap.size, 2, none⟩ = some c) ∧ w1.cell? ⟨w.heap.size + 1, 0, none⟩ = some d ∧ w1.cell? ⟨w.heap.size + 1, 1, none⟩ = some e ∧ w1.cell? ⟨w.heap.size + 1, 2, none⟩ = some f := by
  have h1 : Tch (fun _ => False) (w.alloc (.cells #[a, b, c] t)) w1 := (Tch.alloc _ _ _).trans' h
  refine ⟨box_tch h1, ?_⟩
  have := box_tch h
  simpa using this
end Go.Proofs.YtmegkmhcfehnkaaGreatDoor
