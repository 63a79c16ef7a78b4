/- One step of a Reader and of the document's: a kind that does nothing. -/
import Derived.Test.YtdicnnlfnfcmeabDoorRStep
namespace Go.Proofs.YtdicnnlfnfcmeabDoor
open Go.RowKit

set_option maxHeartbeats 1000000 in
set_option maxRecDepth 100000 in
theorem rstep_0 (br bx : Nat) (S : ByteArray) (a : Nat) (e kd n : Int) (o : Bool) (s : ByteArray) (l : Value) (w : World) (h : Pair w br bx S a e) (hS : S.size ≤ 281474976710656) (hg : HE w) (k1 : ¬ kd = 1) (k2 : ¬ kd = 2) (k3 : ¬ kd = 3) (k4 : ¬ kd = 4) (k5 : ¬ kd = 5) :
    Calls Tryd.prog 13 #[.agg #[.pointer (some ⟨br, 0, none⟩), .pointer (some ⟨bx, 0, none⟩)], .agg #[.bool o, .int .i64 kd, .int .i64 n, .string s, l]] w fun x w' => x = .returned (.bool true) ∧ (∃ a' e', Pair w' br bx S a' e') ∧ Tch (fun i => i = br ∨ i = bx) w w' := by
  have HP0 : Hid (∀ W, Tch (fun _ => False) w W → Pair W br bx S a e) := fun W t => h.tch t (fun h => h) (fun h => h)
  have HG : Hid (∀ W, Tch (fun _ => False) w W → HE W) := fun W t => hg.tch t (fun h => h)
  clear h hg
  go_enter Tryd.func13, Tryd.ntmps13
  go_wp2_with fail
  have t2 : Tch (fun _ => False) w ((w.alloc (.cells #[.pointer (some ⟨br, 0, none⟩), .pointer (some ⟨bx, 0, none⟩)] 43)).alloc (.cells #[.bool o, .int .i64 kd, .int .i64 n, .string s, l] 32)) := Tch.allocR (Tch.alloc _ _ _) _
  refine (rdone_q br S a e _ (HP0.out _ t2).r (HG.out _ t2)).mono ?_
  rintro x w3 ⟨rfl, t3⟩
  have T3 := t2.trans' t3
  have u0 := (t3.cell (p := ⟨w.heap.size, 0, none⟩) (by simp; omega) (fun h => h)).trans (by simp; rfl)
  have u1 := (t3.cell (p := ⟨w.heap.size, 1, none⟩) (by simp; omega) (fun h => h)).trans (by simp; rfl)
  have z3 : w.heap.size < w3.heap.size := by have := t3.size; simp at this; omega
  clear t2 t3
  go_wp2_with fail
  refine (xdone_any bx S a e _ (HP0.out _ T3).x).mono ?_
  rintro x w4 ⟨rfl, t4⟩
  have v0 := (t4.cell (p := ⟨w.heap.size, 0, none⟩) z3 (fun h => h)).trans u0
  have v1 := (t4.cell (p := ⟨w.heap.size, 1, none⟩) z3 (fun h => h)).trans u1
  have T4 := T3.trans' t4
  clear u0 u1 z3 T3 t4
  go_wp2_with fail
  have HP : Hid (∀ n, Pair (w4.drewN n) br bx S a e) := fun n => HP0.out _ (T4.drewN n)
  have T5 : Hid (∀ n, Tch (fun i => i = br ∨ i = bx) w (w4.drewN n)) := fun n => false_mono (T4.drewN n)
  clear T4 HP0 HG
  go_quiet ((first | (go_at_call 39; exact Calls.quiet_of_same (left_q br S a e _ (HP.out _).r)) | (go_at_call 40; exact Calls.quiet_of (xleft_q bx S a e _ (HP.out _).x hS))))
  go_wp2
  go_ret
  exact ⟨rfl, ⟨a, e, HP.out _⟩, T5.out _⟩
end Go.Proofs.YtdicnnlfnfcmeabDoor
