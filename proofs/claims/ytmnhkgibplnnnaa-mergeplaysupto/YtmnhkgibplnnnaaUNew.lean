import Derived.Test.YtmnhkgibplnnnaaUNext
/- New. -/
namespace Go.Proofs.Ytmnhkgibplnnnaa
open Go.RowKit Go

def zArr : Array Value := #[.int .i64 0, .int .i64 0, .pointer none, .int .i64 0, .int .i64 0, .pointer none, .int .i64 0, .int .i64 0, .pointer none, .int .i64 0, .int .i64 0, .pointer none, .int .i64 0, .int .i64 0, .pointer none, .int .i64 0, .int .i64 0, .pointer none, .int .i64 0, .int .i64 0, .pointer none, .int .i64 0, .int .i64 0, .pointer none]
set_option maxRecDepth 100000 in
theorem empty_any (w : World) : Calls Try.prog 24 #[] w fun e w' => e = .returned (.slice (some ⟨w.heap.size, 0, none⟩) 0 8) ∧ w' = w.alloc (.cells zArr 77) := by
  unfold zArr
  go_enter Try.func24, Try.ntmps24
  go_wp2
  go_ret
  exact ⟨rfl, rfl⟩
set_option maxRecDepth 100000 in
theorem new_any (D : Rc → List Value × List Value) (w : World) : Calls Try.prog 8 #[] w fun e w' => e = .returned (.pointer (some ⟨w.heap.size + 1, 0, none⟩)) ∧ (∃ g cap, MS D w.heap.size w' (w.heap.size + 1) g cap [] (fun _ => 0) (fun _ => 0) (fun _ => k0) []) ∧ Tch (fun _ => False) w w' := by
  have q := empty_any w
  obtain ⟨w1, hw1⟩ : ∃ w1, w1 = w.alloc (.cells zArr 77) := ⟨_, rfl⟩
  rw [← hw1] at q
  obtain ⟨w2, hw2⟩ : ∃ w2, w2 = w1.alloc (.cells #[.slice (some ⟨w.heap.size, 0, none⟩) 0 8, .int .i64 0] 66) := ⟨_, rfl⟩
  have hz1 : w1.heap.size = w.heap.size + 1 := by rw [hw1, World.size_alloc]
  have t1 : Tch (fun _ => False) w w1 := by rw [hw1]; exact Tch.alloc _ _ _
  have t2 : Tch (fun _ => False) w w2 := by rw [hw2]; exact t1.allocR _
  have b1 : w2.heap[w.heap.size]? = some (.cells zArr 77 (0, 0)) := by rw [hw2, (Tch.alloc (fun _ => False) w1 _).block _ (by omega) (fun h => h), hw1]; exact alloc_new _ _
  have b2 : w2.heap[w.heap.size + 1]? = some (.cells #[.slice (some ⟨w.heap.size, 0, none⟩) 0 8, .int .i64 0] 66 (0, 0)) := by rw [hw2, ← hz1]; exact alloc_new _ _
  have H : Hid ((∃ g cap, MS D w.heap.size w2 (w.heap.size + 1) g cap [] (fun _ => 0) (fun _ => 0) (fun _ => k0) []) ∧ Tch (fun _ => False) w w2) :=
    ⟨⟨w.heap.size, 8, b2, ⟨⟨zArr, _, b1, rfl, rfl⟩, by decide, by decide, ty_of b1 (.inr rfl)⟩, fun i _ hi => by simp at hi, its_nil _ _ _, fun j c u e => by simp at e, fun i j hi => by simp at hi, fun i j hi => by simp at hi, fun j hj => by simp at hj, ⟨Nat.le_succ _, Nat.le_refl _, fun j hj => by simp at hj⟩, fun i j c d u v e => by simp at e⟩, t2⟩
  have HW2 : Hid (w2 = _) := hw2
  clear hw1 hw2 t1 t2 b1 b2
  go_enter Try.func8, Try.ntmps8
  go_wp2_with (go_at_call 24; refine q.mono ?_; rintro e w3 ⟨rfl, rfl⟩)
  go_ret
  refine ⟨rfl, ?_⟩
  rw [← HW2.out]; exact H.out
end Go.Proofs.Ytmnhkgibplnnnaa
