import Derived.Test.YtmegkmhcfehnkaaGreatDoorVLq
import Derived.Test.YtmegkmhcfehnkaaGreatDoorVLu
/- Values as literals, by the code. -/
namespace Go.Proofs.YtmegkmhcfehnkaaGreatDoor
open Go.RowKit Go

set_option maxHeartbeats 2000000 in
set_option maxRecDepth 100000 in
theorem literal_null (w : World) (hw : HWd w) :
    Calls Tryz.prog 13 #[vA 0 0 ⟨#[]⟩] w fun x w' => x = .returned (.string ⟨#[110, 117, 108, 108]⟩) ∧ Tch (fun _ => False) w w' := by
  have hl := hw.lt
  have hw1 := hw.tch (Tch.alloc (fun _ => False) w (.cells #[.int .i64 0, .int .i64 0, .string ⟨#[]⟩] 23)) (fun h => h)
  have HC : Hid (∀ W, Tch (fun _ => False) (w.alloc (.cells #[.int .i64 0, .int .i64 0, .string ⟨#[]⟩] 23)) W → HWd W ∧ W.cell? ⟨w.heap.size, 0, none⟩ = some (.int .i64 0) ∧ W.cell? ⟨w.heap.size, 1, none⟩ = some (.int .i64 0) ∧ W.cell? ⟨w.heap.size, 2, none⟩ = some (.string ⟨#[]⟩)) := fun W t =>
    ⟨hw1.tch t (fun h => h), box_tch t⟩
  have w0 := hw 0 _ rfl; have w1 := hw 1 _ rfl; have w2 := hw 2 _ rfl; have w3 := hw 3 _ rfl; have w4 := hw 4 _ rfl; have w5 := hw 5 _ rfl
  have w6 := hw 6 _ rfl; have w7 := hw 7 _ rfl; have w8 := hw 8 _ rfl; have w9 := hw 9 _ rfl; have w10 := hw 10 _ rfl; have w11 := hw 11 _ rfl
  clear hw hw1
  go_enter Tryz.func13, Tryz.ntmps13
  go_wp2_with fail
  clear w0 w1 w2 w3 w4 w5 w6 w7 w8 w9 w10 w11
  go_loopw [6] (fun i wr => ∃ k : Nat, i = .int .i64 k ∧ k ≤ 0 ∧ Tch (fun _ => False) (w.alloc (.cells #[.int .i64 0, .int .i64 0, .string ⟨#[]⟩] 23)) wr) (fun i _ => 3 - (RowKit.intOf i).toNat)
  case atStart => exact ⟨0, rfl, by omega, Tch.refl _ _⟩
  case round =>
    obtain ⟨k, rfl, hk, hT⟩ := hrel
    obtain ⟨-, c0, c1, c2⟩ := HC.out wr hT
    have hz := hT.size
    have hwz : w.heap.size < wr.heap.size := by simp at hz; omega
    clear hz
    have i0 := word_0; have i1 := word_1; have i2 := word_2
    rcases (by omega : k = 0) with rfl
    · go_wp2_with fail
      go_ret
      exact ⟨rfl, ((Tch.alloc _ _ _).trans' hT).allocR _⟩
set_option maxHeartbeats 2000000 in
set_option maxRecDepth 100000 in
theorem literal_false (w : World) (hw : HWd w) :
    Calls Tryz.prog 13 #[vA 3 0 ⟨#[]⟩] w fun x w' => x = .returned (.string ⟨#[102, 97, 108, 115, 101]⟩) ∧ Tch (fun _ => False) w w' := by
  have hl := hw.lt
  have hw1 := hw.tch (Tch.alloc (fun _ => False) w (.cells #[.int .i64 3, .int .i64 0, .string ⟨#[]⟩] 23)) (fun h => h)
  have HC : Hid (∀ W, Tch (fun _ => False) (w.alloc (.cells #[.int .i64 3, .int .i64 0, .string ⟨#[]⟩] 23)) W → HWd W ∧ W.cell? ⟨w.heap.size, 0, none⟩ = some (.int .i64 3) ∧ W.cell? ⟨w.heap.size, 1, none⟩ = some (.int .i64 0) ∧ W.cell? ⟨w.heap.size, 2, none⟩ = some (.string ⟨#[]⟩)) := fun W t =>
    ⟨hw1.tch t (fun h => h), box_tch t⟩
  have w0 := hw 0 _ rfl; have w1 := hw 1 _ rfl; have w2 := hw 2 _ rfl; have w3 := hw 3 _ rfl; have w4 := hw 4 _ rfl; have w5 := hw 5 _ rfl
  have w6 := hw 6 _ rfl; have w7 := hw 7 _ rfl; have w8 := hw 8 _ rfl; have w9 := hw 9 _ rfl; have w10 := hw 10 _ rfl; have w11 := hw 11 _ rfl
  clear hw hw1
  go_enter Tryz.func13, Tryz.ntmps13
  go_wp2_with fail
  clear w0 w1 w2 w3 w4 w5 w6 w7 w8 w9 w10 w11
  go_loopw [6] (fun i wr => ∃ k : Nat, i = .int .i64 k ∧ k ≤ 1 ∧ Tch (fun _ => False) (w.alloc (.cells #[.int .i64 3, .int .i64 0, .string ⟨#[]⟩] 23)) wr) (fun i _ => 3 - (RowKit.intOf i).toNat)
  case atStart => exact ⟨0, rfl, by omega, Tch.refl _ _⟩
  case round =>
    obtain ⟨k, rfl, hk, hT⟩ := hrel
    obtain ⟨-, c0, c1, c2⟩ := HC.out wr hT
    have hz := hT.size
    have hwz : w.heap.size < wr.heap.size := by simp at hz; omega
    clear hz
    have i0 := word_0; have i1 := word_1; have i2 := word_2
    rcases (by omega : k = 0 ∨ k = 1) with rfl | rfl
    · go_wp2_with fail
      go_roundw
      case rel => exact ⟨1, rfl, by omega, hT.allocR _⟩
      case measure => simp [RowKit.intOf]
    · go_wp2_with fail
      go_ret
      exact ⟨rfl, ((Tch.alloc _ _ _).trans' hT).allocR _⟩
set_option maxHeartbeats 2000000 in
set_option maxRecDepth 100000 in
theorem literal_true (w : World) (hw : HWd w) :
    Calls Tryz.prog 13 #[vA 3 1 ⟨#[]⟩] w fun x w' => x = .returned (.string ⟨#[116, 114, 117, 101]⟩) ∧ Tch (fun _ => False) w w' := by
  have hl := hw.lt
  have hw1 := hw.tch (Tch.alloc (fun _ => False) w (.cells #[.int .i64 3, .int .i64 1, .string ⟨#[]⟩] 23)) (fun h => h)
  have HC : Hid (∀ W, Tch (fun _ => False) (w.alloc (.cells #[.int .i64 3, .int .i64 1, .string ⟨#[]⟩] 23)) W → HWd W ∧ W.cell? ⟨w.heap.size, 0, none⟩ = some (.int .i64 3) ∧ W.cell? ⟨w.heap.size, 1, none⟩ = some (.int .i64 1) ∧ W.cell? ⟨w.heap.size, 2, none⟩ = some (.string ⟨#[]⟩)) := fun W t =>
    ⟨hw1.tch t (fun h => h), box_tch t⟩
  have w0 := hw 0 _ rfl; have w1 := hw 1 _ rfl; have w2 := hw 2 _ rfl; have w3 := hw 3 _ rfl; have w4 := hw 4 _ rfl; have w5 := hw 5 _ rfl
  have w6 := hw 6 _ rfl; have w7 := hw 7 _ rfl; have w8 := hw 8 _ rfl; have w9 := hw 9 _ rfl; have w10 := hw 10 _ rfl; have w11 := hw 11 _ rfl
  clear hw hw1
  go_enter Tryz.func13, Tryz.ntmps13
  go_wp2_with fail
  clear w0 w1 w2 w3 w4 w5 w6 w7 w8 w9 w10 w11
  go_loopw [6] (fun i wr => ∃ k : Nat, i = .int .i64 k ∧ k ≤ 2 ∧ Tch (fun _ => False) (w.alloc (.cells #[.int .i64 3, .int .i64 1, .string ⟨#[]⟩] 23)) wr) (fun i _ => 3 - (RowKit.intOf i).toNat)
  case atStart => exact ⟨0, rfl, by omega, Tch.refl _ _⟩
  case round =>
    obtain ⟨k, rfl, hk, hT⟩ := hrel
    obtain ⟨-, c0, c1, c2⟩ := HC.out wr hT
    have hz := hT.size
    have hwz : w.heap.size < wr.heap.size := by simp at hz; omega
    clear hz
    have i0 := word_0; have i1 := word_1; have i2 := word_2
    rcases (by omega : k = 0 ∨ k = 1 ∨ k = 2) with rfl | rfl | rfl
    · go_wp2_with fail
      go_roundw
      case rel => exact ⟨1, rfl, by omega, hT.allocR _⟩
      case measure => simp [RowKit.intOf]
    · go_wp2_with fail
      go_roundw
      case rel => exact ⟨2, rfl, by omega, hT.allocR _⟩
      case measure => simp [RowKit.intOf]
    · go_wp2_with fail
      go_ret
      exact ⟨rfl, ((Tch.alloc _ _ _).trans' hT).allocR _⟩
set_option maxHeartbeats 2000000 in
set_option maxRecDepth 100000 in
theorem literal_int (n : Int) (hn : i64v n) (w : World) (hw : HWd w) (hv : HV w) :
    Calls Tryz.prog 13 #[vA 1 n ⟨#[]⟩] w fun x w' => x = .returned (.string ⟨(Lib.itoa n).toArray⟩) ∧ Tch (fun _ => False) w w' := by
  have hl := hw.lt
  have hw1 := hw.tch (Tch.alloc (fun _ => False) w (.cells #[.int .i64 1, .int .i64 n, .string ⟨#[]⟩] 23)) (fun h => h)
  have HC : Hid (∀ W, Tch (fun _ => False) (w.alloc (.cells #[.int .i64 1, .int .i64 n, .string ⟨#[]⟩] 23)) W → HWd W ∧ W.cell? ⟨w.heap.size, 0, none⟩ = some (.int .i64 1) ∧ W.cell? ⟨w.heap.size, 1, none⟩ = some (.int .i64 n) ∧ W.cell? ⟨w.heap.size, 2, none⟩ = some (.string ⟨#[]⟩)) := fun W t =>
    ⟨hw1.tch t (fun h => h), box_tch t⟩
  have w0 := hw 0 _ rfl; have w1 := hw 1 _ rfl; have w2 := hw 2 _ rfl; have w3 := hw 3 _ rfl; have w4 := hw 4 _ rfl; have w5 := hw 5 _ rfl
  have w6 := hw 6 _ rfl; have w7 := hw 7 _ rfl; have w8 := hw 8 _ rfl; have w9 := hw 9 _ rfl; have w10 := hw 10 _ rfl; have w11 := hw 11 _ rfl
  clear hw hw1
  go_enter Tryz.func13, Tryz.ntmps13
  go_wp2_with fail
  clear w0 w1 w2 w3 w4 w5 w6 w7 w8 w9 w10 w11
  go_loopw [6] (fun i wr => ∃ k : Nat, i = .int .i64 k ∧ k ≤ 3 ∧ Tch (fun _ => False) (w.alloc (.cells #[.int .i64 1, .int .i64 n, .string ⟨#[]⟩] 23)) wr) (fun i _ => 3 - (RowKit.intOf i).toNat)
  case atStart => exact ⟨0, rfl, by omega, Tch.refl _ _⟩
  case round =>
    obtain ⟨k, rfl, hk, hT⟩ := hrel
    obtain ⟨-, c0, c1, c2⟩ := HC.out wr hT
    have hz := hT.size
    have hwz : w.heap.size < wr.heap.size := by simp at hz; omega
    clear hz
    have i0 := word_0; have i1 := word_1; have i2 := word_2
    rcases (by omega : k = 0 ∨ k = 1 ∨ k = 2 ∨ k = 3) with rfl | rfl | rfl | rfl
    · go_wp2_with fail
      go_roundw
      case rel => exact ⟨1, rfl, by omega, hT.allocR _⟩
      case measure => simp [RowKit.intOf]
    · go_wp2_with fail
      go_roundw
      case rel => exact ⟨2, rfl, by omega, hT.allocR _⟩
      case measure => simp [RowKit.intOf]
    · go_wp2_with fail
      go_roundw
      case rel => exact ⟨3, rfl, by omega, hT.allocR _⟩
      case measure => simp [RowKit.intOf]
    · have q := itoa_any n hn wr (hv.no ((Tch.alloc _ _ _).trans' hT))
      go_wp2_with fail
      refine q.mono ?_
      rintro x w1 ⟨rfl, t1⟩
      clear q
      go_wp2_with fail
      go_ret
      exact ⟨rfl, ((Tch.alloc _ _ _).trans' hT).trans' t1⟩
end Go.Proofs.YtmegkmhcfehnkaaGreatDoor
