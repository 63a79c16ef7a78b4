import Derived.Test.YtmaekkhmiafnmaaGreatDoorVLu
set_option maxHeartbeats 4000000
set_option maxRecDepth 100000
namespace Go.Proofs.YtmaekkhmiafnmaaGreatDoor
open Go.RowKit Go
theorem literal_null (w : World) (hw : HWd w) :
    Calls Tryz.prog 55 #[vA 0 0 ⟨#[]⟩] w fun x w' => x = .returned (.string ⟨#[110, 117, 108, 108]⟩) ∧ Tch (fun _ => False) w w' := by
  have hl := hw.lt
  have hw1 := hw.tch (Tch.alloc (fun _ => False) w (.cells #[.int .i64 0, .int .i64 0, .string ⟨#[]⟩] 29)) (fun h => h)
  have HC : Hid (∀ W, Tch (fun _ => False) (w.alloc (.cells #[.int .i64 0, .int .i64 0, .string ⟨#[]⟩] 29)) W → HWd W ∧ W.cell? ⟨w.heap.size, 0, none⟩ = some (.int .i64 0) ∧ W.cell? ⟨w.heap.size, 1, none⟩ = some (.int .i64 0) ∧ W.cell? ⟨w.heap.size, 2, none⟩ = some (.string ⟨#[]⟩)) := fun W t =>
    ⟨hw1.tch t (fun h => h), box_tch t⟩
  have w0 := hw 0 _ rfl; have w1 := hw 1 _ rfl; have w2 := hw 2 _ rfl; have w3 := hw 3 _ rfl; have w4 := hw 4 _ rfl; have w5 := hw 5 _ rfl
  have w6 := hw 6 _ rfl; have w7 := hw 7 _ rfl; have w8 := hw 8 _ rfl; have w9 := hw 9 _ rfl; have w10 := hw 10 _ rfl; have w11 := hw 11 _ rfl
  clear hw hw1
  go_enter Tryz.func55, Tryz.ntmps55
  go_wp2_with fail
  clear w0 w1 w2 w3 w4 w5 w6 w7 w8 w9 w10 w11
  go_loopw [6] (fun i wr => ∃ k : Nat, i = .int .i64 k ∧ k ≤ 0 ∧ Tch (fun _ => False) (w.alloc (.cells #[.int .i64 0, .int .i64 0, .string ⟨#[]⟩] 29)) wr) (fun i _ => 3 - (RowKit.intOf i).toNat)
  case atStart => exact ⟨0, rfl, by omega, Tch.refl _ _⟩
  case round =>
    obtain ⟨k, rfl, hk, hT⟩ := hrel
    obtain ⟨-, c0, c1, c2⟩ := HC.out wr hT
    have hz := hT.size
    have hwz : w.heap.size < wr.heap.size := by simp at hz; omega
    clear hz
    have i0 := word_0; have i1 := word_1; have i2 := word_2
    rcases (by omega : k = 0) with rfl
    · go_wp2_with fail
      go_ret
      exact ⟨rfl, ((Tch.alloc _ _ _).trans' hT).allocR _⟩
theorem literal_false (w : World) (hw : HWd w) :
    Calls Tryz.prog 55 #[vA 3 0 ⟨#[]⟩] w fun x w' => x = .returned (.string ⟨#[102, 97, 108, 115, 101]⟩) ∧ Tch (fun _ => False) w w' := by
  have hl := hw.lt
  have hw1 := hw.tch (Tch.alloc (fun _ => False) w (.cells #[.int .i64 3, .int .i64 0, .string ⟨#[]⟩] 29)) (fun h => h)
  have HC : Hid (∀ W, Tch (fun _ => False) (w.alloc (.cells #[.int .i64 3, .int .i64 0, .string ⟨#[]⟩] 29)) W → HWd W ∧ W.cell? ⟨w.heap.size, 0, none⟩ = some (.int .i64 3) ∧ W.cell? ⟨w.heap.size, 1, none⟩ = some (.int .i64 0) ∧ W.cell? ⟨w.heap.size, 2, none⟩ = some (.string ⟨#[]⟩)) := fun W t =>
    ⟨hw1.tch t (fun h => h), box_tch t⟩
  have w0 := hw 0 _ rfl; have w1 := hw 1 _ rfl; have w2 := hw 2 _ rfl; have w3 := hw 3 _ rfl; have w4 := hw 4 _ rfl; have w5 := hw 5 _ rfl
  have w6 := hw 6 _ rfl; have w7 := hw 7 _ rfl; have w8 := hw 8 _ rfl; have w9 := hw 9 _ rfl; have w10 := hw 10 _ rfl; have w11 := hw 11 _ rfl
  clear hw hw1
  go_enter Tryz.func55, Tryz.ntmps55
  go_wp2_with fail
  clear w0 w1 w2 w3 w4 w5 w6 w7 w8 w9 w10 w11
  go_loopw [6] (fun i wr => ∃ k : Nat, i = .int .i64 k ∧ k ≤ 1 ∧ Tch (fun _ => False) (w.alloc (.cells #[.int .i64 3, .int .i64 0, .string ⟨#[]⟩] 29)) wr) (fun i _ => 3 - (RowKit.intOf i).toNat)
  case atStart => exact ⟨0, rfl, by omega, Tch.refl _ _⟩
  case round =>
    obtain ⟨k, rfl, hk, hT⟩ := hrel
    obtain ⟨-, c0, c1, c2⟩ := HC.out wr hT
    have hz := hT.size
    have hwz : w.heap.size < wr.heap.size := by simp at hz; omega
    clear hz
    have i0 := word_0; have i1 := word_1; have i2 := word_2
    rcases (by omega : k = 0 ∨ k = 1) with rfl | rfl
    · go_wp2_with fail
      go_roundw
      case rel => exact ⟨1, rfl, by omega, hT.allocR _⟩
      case measure => simp [RowKit.intOf]
    · go_wp2_with fail
      go_ret
      exact ⟨rfl, ((Tch.alloc _ _ _).trans' hT).allocR _⟩
theorem literal_true (w : World) (hw : HWd w) :
    Calls Tryz.prog 55 #[vA 3 1 ⟨#[]⟩] w fun x w' => x = .returned (.string ⟨#[116, 114, 117, 101]⟩) ∧ Tch (fun _ => False) w w' := by
  have hl := hw.lt
  have hw1 := hw.tch (Tch.alloc (fun _ => False) w (.cells #[.int .i64 3, .int .i64 1, .string ⟨#[]⟩] 29)) (fun h => h)
  have HC : Hid (∀ W, Tch (fun _ => False) (w.alloc (.cells #[.int .i64 3, .int .i64 1, .string ⟨#[]⟩] 29)) W → HWd W ∧ W.cell? ⟨w.heap.size, 0, none⟩ = some (.int .i64 3) ∧ W.cell? ⟨w.heap.size, 1, none⟩ = some (.int .i64 1) ∧ W.cell? ⟨w.heap.size, 2, none⟩ = some (.string ⟨#[]⟩)) := fun W t =>
    ⟨hw1.tch t (fun h => h), box_tch t⟩
  have w0 := hw 0 _ rfl; have w1 := hw 1 _ rfl; have w2 := hw 2 _ rfl; have w3 := hw 3 _ rfl; have w4 := hw 4 _ rfl; have w5 := hw 5 _ rfl
  have w6 := hw 6 _ rfl; have w7 := hw 7 _ rfl; have w8 := hw 8 _ rfl; have w9 := hw 9 _ rfl; have w10 := hw 10 _ rfl; have w11 := hw 11 _ rfl
  clear hw hw1
  go_enter Tryz.func55, Tryz.ntmps55
  go_wp2_with fail
  clear w0 w1 w2 w3 w4 w5 w6 w7 w8 w9 w10 w11
  go_loopw [6] (fun i wr => ∃ k : Nat, i = .int .i64 k ∧ k ≤ 2 ∧ Tch (fun _ => False) (w.alloc (.cells #[.int .i64 3, .int .i64 1, .string ⟨#[]⟩] 29)) wr) (fun i _ => 3 - (RowKit.intOf i).toNat)
  case atStart => exact ⟨0, rfl, by omega, Tch.refl _ _⟩
  case round =>
    obtain ⟨k, rfl, hk, hT⟩ := hrel
    obtain ⟨-, c0, c1, c2⟩ := HC.out wr hT
    have hz := hT.size
    have hwz : w.heap.size < wr.heap.size := by simp at hz; omega
    clear hz
    have i0 := word_0; have i1 := word_1; have i2 := word_2
    rcases (by omega : k = 0 ∨ k = 1 ∨ k = 2) with rfl | rfl | rfl
    · go_wp2_with fail
      go_roundw
      case rel => exact ⟨1, rfl, by omega, hT.allocR _⟩
      case measure => simp [RowKit.intOf]
    · go_wp2_with fail
      go_roundw
      case rel => exact ⟨2, rfl, by omega, hT.allocR _⟩
      case measure => simp [RowKit.intOf]
    · go_wp2_with fail
      go_ret
      exact ⟨rfl, ((Tch.alloc _ _ _).trans' hT).allocR _⟩
theorem literal_int (n : Int) (hn : i64v n) (w : World) (hw : HWd w) (hv : HV w) :
    Calls Tryz.prog 55 #[vA 1 n ⟨#[]⟩] w fun x w' => x = .returned (.string ⟨(Lib.itoa n).toArray⟩) ∧ Tch (fun _ => False) w w' := by
  have hl := hw.lt
  have hw1 := hw.tch (Tch.alloc (fun _ => False) w (.cells #[.int .i64 1, .int .i64 n, .string ⟨#[]⟩] 29)) (fun h => h)
  have HC : Hid (∀ W, Tch (fun _ => False) (w.alloc (.cells #[.int .i64 1, .int .i64 n, .string ⟨#[]⟩] 29)) W → HWd W ∧ W.cell? ⟨w.heap.size, 0, none⟩ = some (.int .i64 1) ∧ W.cell? ⟨w.heap.size, 1, none⟩ = some (.int .i64 n) ∧ W.cell? ⟨w.heap.size, 2, none⟩ = some (.string ⟨#[]⟩)) := fun W t =>
    ⟨hw1.tch t (fun h => h), box_tch t⟩
  have w0 := hw 0 _ rfl; have w1 := hw 1 _ rfl; have w2 := hw 2 _ rfl; have w3 := hw 3 _ rfl; have w4 := hw 4 _ rfl; have w5 := hw 5 _ rfl
  have w6 := hw 6 _ rfl; have w7 := hw 7 _ rfl; have w8 := hw 8 _ rfl; have w9 := hw 9 _ rfl; have w10 := hw 10 _ rfl; have w11 := hw 11 _ rfl
  clear hw hw1
  go_enter Tryz.func55, Tryz.ntmps55
  go_wp2_with fail
  clear w0 w1 w2 w3 w4 w5 w6 w7 w8 w9 w10 w11
  go_loopw [6] (fun i wr => ∃ k : Nat, i = .int .i64 k ∧ k ≤ 3 ∧ Tch (fun _ => False) (w.alloc (.cells #[.int .i64 1, .int .i64 n, .string ⟨#[]⟩] 29)) wr) (fun i _ => 3 - (RowKit.intOf i).toNat)
  case atStart => exact ⟨0, rfl, by omega, Tch.refl _ _⟩
  case round =>
    obtain ⟨k, rfl, hk, hT⟩ := hrel
    obtain ⟨-, c0, c1, c2⟩ := HC.out wr hT
    have hz := hT.size
    have hwz : w.heap.size < wr.heap.size := by simp at hz; omega
    clear hz
    have i0 := word_0; have i1 := word_1; have i2 := word_2
    rcases (by omega : k = 0 ∨ k = 1 ∨ k = 2 ∨ k = 3) with rfl | rfl | rfl | rfl
    · go_wp2_with fail
      go_roundw
      case rel => exact ⟨1, rfl, by omega, hT.allocR _⟩
      case measure => simp [RowKit.intOf]
    · go_wp2_with fail
      go_roundw
      case rel => exact ⟨2, rfl, by omega, hT.allocR _⟩
      case measure => simp [RowKit.intOf]
    · go_wp2_with fail
      go_roundw
      case rel => exact ⟨3, rfl, by omega, hT.allocR _⟩
      case measure => simp [RowKit.intOf]
    · have q := itoa_any n hn wr (hv.no ((Tch.alloc _ _ _).trans' hT))
      go_wp2_with fail
      refine q.mono ?_
      rintro x w1 ⟨rfl, t1⟩
      clear q
      go_wp2_with fail
      go_ret
      exact ⟨rfl, ((Tch.alloc _ _ _).trans' hT).trans' t1⟩
end Go.Proofs.YtmaekkhmiafnmaaGreatDoor
namespace Go.Proofs.YtmaekkhmiafnmaaGreatDoor
open Go.RowKit Go
theorem guess_res (tmps : Array Value) (W : World) (p : Nat) (k n : Int) (s : ByteArray) (c0 : W.cell? ⟨p, 0, none⟩ = some (.int .i64 k)) (c1 : W.cell? ⟨p, 1, none⟩ = some (.int .i64 n)) (c2 : W.cell? ⟨p, 2, none⟩ = some (.string s)) (h2 : tmps[2]?.getD undef = .pointer (some ⟨p, 0, none⟩)) :
    (results Tryz.f150 tmps).run Tryz.prog W = .ok (vA k n s) W := by
  have hrs : Tryz.f150.results = #[.cell 2 29] := by kernel_rfl
  simp only [results, hrs]
  go_simp
def noW (s : ByteArray) : Prop := s ≠ ⟨#[110, 117, 108, 108]⟩ ∧ s ≠ ⟨#[102, 97, 108, 115, 101]⟩ ∧ s ≠ ⟨#[116, 114, 117, 101]⟩
end Go.Proofs.YtmaekkhmiafnmaaGreatDoor
namespace Go.Proofs.YtmaekkhmiafnmaaGreatDoor
open Go.RowKit Go
theorem guess_null (w : World) (hw : HWd w) :
    Calls Tryz.prog 150 #[.string ⟨#[110, 117, 108, 108]⟩] w fun x w' => x = .returned (vA 0 0 ⟨#[]⟩) ∧ Tch (fun _ => False) w w' := by
  have HFin : Hid (∀ W, Tch (fun _ => False) (w.alloc (.cells #[.int .i64 0, .int .i64 0, .string ⟨#[]⟩] 29)) W → ∀ (k n : Int) (s : ByteArray) (W2 : World), Tch (fun _ => False) (((W.setCell ⟨w.heap.size, 0, none⟩ (.int .i64 k)).setCell ⟨w.heap.size, 1, none⟩ (.int .i64 n)).setCell ⟨w.heap.size, 2, none⟩ (.string s)) W2 →
      (∀ tmps : Array Value, tmps[2]?.getD undef = .pointer (some ⟨w.heap.size, 0, none⟩) → (results Tryz.f150 tmps).run Tryz.prog W2 = .ok (vA k n s) W2) ∧ Tch (fun _ => False) w W2) := fun W t k n s W2 t2 => by
    obtain ⟨c0, c1, c2⟩ := box_tch t
    obtain ⟨d0, d1, d2⟩ := box_set W w.heap.size _ _ _ (.int .i64 k) (.int .i64 n) (.string s) c0 c1 c2
    have tw : Tch (fun _ => False) w (((W.setCell ⟨w.heap.size, 0, none⟩ (.int .i64 k)).setCell ⟨w.heap.size, 1, none⟩ (.int .i64 n)).setCell ⟨w.heap.size, 2, none⟩ (.string s)) := (((Tch.alloc (fun _ => False) w _).trans' t).trans (box_set_tch W w.heap.size _ _ _) (fun i hi he => by omega))
    have key : ∀ (p : Addr) v, (((W.setCell ⟨w.heap.size, 0, none⟩ (.int .i64 k)).setCell ⟨w.heap.size, 1, none⟩ (.int .i64 n)).setCell ⟨w.heap.size, 2, none⟩ (.string s)).cell? p = some v → W2.cell? p = some v := fun p v h => (t2.cell (p := p) (cell_lt h) (fun h => h)).trans h
    exact ⟨fun tmps h2 => guess_res tmps _ w.heap.size k n s (key _ _ d0) (key _ _ d1) (key _ _ d2) h2, tw.trans' t2⟩
  have HBx : Hid (∀ W, Tch (fun _ => False) (w.alloc (.cells #[.int .i64 0, .int .i64 0, .string ⟨#[]⟩] 29)) W → (W.cell? ⟨w.heap.size, 0, none⟩ = some (.int .i64 0) ∧ W.cell? ⟨w.heap.size, 1, none⟩ = some (.int .i64 0) ∧ W.cell? ⟨w.heap.size, 2, none⟩ = some (.string ⟨#[]⟩)) ∧ W.frozen? ⟨w.heap.size, 0, none⟩ = false ∧ W.frozen? ⟨w.heap.size, 1, none⟩ = false ∧ W.frozen? ⟨w.heap.size, 2, none⟩ = false) := fun W t =>
    ⟨box_tch t, (t.frozen (p := ⟨_, _, none⟩) (by simp) (fun h => h)).trans (by simp), (t.frozen (p := ⟨_, _, none⟩) (by simp) (fun h => h)).trans (by simp), (t.frozen (p := ⟨_, _, none⟩) (by simp) (fun h => h)).trans (by simp)⟩
  have hl := hw.lt
  have w0 := hw 0 _ rfl; have w1 := hw 1 _ rfl; have w2 := hw 2 _ rfl; have w3 := hw 3 _ rfl; have w4 := hw 4 _ rfl; have w5 := hw 5 _ rfl
  have w6 := hw 6 _ rfl; have w7 := hw 7 _ rfl; have w8 := hw 8 _ rfl; have w9 := hw 9 _ rfl; have w10 := hw 10 _ rfl; have w11 := hw 11 _ rfl
  clear hw
  go_enter Tryz.func150, Tryz.ntmps150
  go_wp2_with fail
  clear w0 w1 w2 w3 w4 w5 w6 w7 w8 w9 w10 w11
  go_loopw [8] (fun i wr => ∃ k : Nat, i = .int .i64 k ∧ k ≤ 0 ∧ Tch (fun _ => False) (w.alloc (.cells #[.int .i64 0, .int .i64 0, .string ⟨#[]⟩] 29)) wr) (fun i _ => 3 - (RowKit.intOf i).toNat)
  case atStart => exact ⟨0, rfl, by omega, Tch.refl _ _⟩
  case round =>
    obtain ⟨k, rfl, hk, hT⟩ := hrel
    have hz := hT.size
    have hwz : w.heap.size < wr.heap.size := by simp at hz; omega
    clear hz
    have i0 := word_0; have i1 := word_1; have i2 := word_2
    rcases (by omega : k = 0) with rfl
    · obtain ⟨⟨z0, z1, z2⟩, f0, f1, f2⟩ := HBx.out wr hT
      go_wp2_with fail
      refine bodyPost_ret ((HFin.out wr hT 0 0 ⟨#[]⟩ _ (Tch.alloc _ _ _)).1 _ ?_) rfl ⟨rfl, (HFin.out wr hT 0 0 ⟨#[]⟩ _ (Tch.alloc _ _ _)).2⟩
      rfl
theorem guess_false (w : World) (hw : HWd w) :
    Calls Tryz.prog 150 #[.string ⟨#[102, 97, 108, 115, 101]⟩] w fun x w' => x = .returned (vA 3 0 ⟨#[]⟩) ∧ Tch (fun _ => False) w w' := by
  have HFin : Hid (∀ W, Tch (fun _ => False) (w.alloc (.cells #[.int .i64 0, .int .i64 0, .string ⟨#[]⟩] 29)) W → ∀ (k n : Int) (s : ByteArray) (W2 : World), Tch (fun _ => False) (((W.setCell ⟨w.heap.size, 0, none⟩ (.int .i64 k)).setCell ⟨w.heap.size, 1, none⟩ (.int .i64 n)).setCell ⟨w.heap.size, 2, none⟩ (.string s)) W2 →
      (∀ tmps : Array Value, tmps[2]?.getD undef = .pointer (some ⟨w.heap.size, 0, none⟩) → (results Tryz.f150 tmps).run Tryz.prog W2 = .ok (vA k n s) W2) ∧ Tch (fun _ => False) w W2) := fun W t k n s W2 t2 => by
    obtain ⟨c0, c1, c2⟩ := box_tch t
    obtain ⟨d0, d1, d2⟩ := box_set W w.heap.size _ _ _ (.int .i64 k) (.int .i64 n) (.string s) c0 c1 c2
    have tw : Tch (fun _ => False) w (((W.setCell ⟨w.heap.size, 0, none⟩ (.int .i64 k)).setCell ⟨w.heap.size, 1, none⟩ (.int .i64 n)).setCell ⟨w.heap.size, 2, none⟩ (.string s)) := (((Tch.alloc (fun _ => False) w _).trans' t).trans (box_set_tch W w.heap.size _ _ _) (fun i hi he => by omega))
    have key : ∀ (p : Addr) v, (((W.setCell ⟨w.heap.size, 0, none⟩ (.int .i64 k)).setCell ⟨w.heap.size, 1, none⟩ (.int .i64 n)).setCell ⟨w.heap.size, 2, none⟩ (.string s)).cell? p = some v → W2.cell? p = some v := fun p v h => (t2.cell (p := p) (cell_lt h) (fun h => h)).trans h
    exact ⟨fun tmps h2 => guess_res tmps _ w.heap.size k n s (key _ _ d0) (key _ _ d1) (key _ _ d2) h2, tw.trans' t2⟩
  have HBx : Hid (∀ W, Tch (fun _ => False) (w.alloc (.cells #[.int .i64 0, .int .i64 0, .string ⟨#[]⟩] 29)) W → (W.cell? ⟨w.heap.size, 0, none⟩ = some (.int .i64 0) ∧ W.cell? ⟨w.heap.size, 1, none⟩ = some (.int .i64 0) ∧ W.cell? ⟨w.heap.size, 2, none⟩ = some (.string ⟨#[]⟩)) ∧ W.frozen? ⟨w.heap.size, 0, none⟩ = false ∧ W.frozen? ⟨w.heap.size, 1, none⟩ = false ∧ W.frozen? ⟨w.heap.size, 2, none⟩ = false) := fun W t =>
    ⟨box_tch t, (t.frozen (p := ⟨_, _, none⟩) (by simp) (fun h => h)).trans (by simp), (t.frozen (p := ⟨_, _, none⟩) (by simp) (fun h => h)).trans (by simp), (t.frozen (p := ⟨_, _, none⟩) (by simp) (fun h => h)).trans (by simp)⟩
  have hl := hw.lt
  have w0 := hw 0 _ rfl; have w1 := hw 1 _ rfl; have w2 := hw 2 _ rfl; have w3 := hw 3 _ rfl; have w4 := hw 4 _ rfl; have w5 := hw 5 _ rfl
  have w6 := hw 6 _ rfl; have w7 := hw 7 _ rfl; have w8 := hw 8 _ rfl; have w9 := hw 9 _ rfl; have w10 := hw 10 _ rfl; have w11 := hw 11 _ rfl
  clear hw
  go_enter Tryz.func150, Tryz.ntmps150
  go_wp2_with fail
  clear w0 w1 w2 w3 w4 w5 w6 w7 w8 w9 w10 w11
  go_loopw [8] (fun i wr => ∃ k : Nat, i = .int .i64 k ∧ k ≤ 1 ∧ Tch (fun _ => False) (w.alloc (.cells #[.int .i64 0, .int .i64 0, .string ⟨#[]⟩] 29)) wr) (fun i _ => 3 - (RowKit.intOf i).toNat)
  case atStart => exact ⟨0, rfl, by omega, Tch.refl _ _⟩
  case round =>
    obtain ⟨k, rfl, hk, hT⟩ := hrel
    have hz := hT.size
    have hwz : w.heap.size < wr.heap.size := by simp at hz; omega
    clear hz
    have i0 := word_0; have i1 := word_1; have i2 := word_2
    rcases (by omega : k = 0 ∨ k = 1) with rfl | rfl
    · go_wp2_with fail
      go_roundw
      case rel => exact ⟨1, rfl, by omega, hT.allocR _⟩
      case measure => simp [RowKit.intOf]
    · obtain ⟨⟨z0, z1, z2⟩, f0, f1, f2⟩ := HBx.out wr hT
      go_wp2_with fail
      refine bodyPost_ret ((HFin.out wr hT 3 0 ⟨#[]⟩ _ (Tch.alloc _ _ _)).1 _ ?_) rfl ⟨rfl, (HFin.out wr hT 3 0 ⟨#[]⟩ _ (Tch.alloc _ _ _)).2⟩
      rfl
theorem guess_true (w : World) (hw : HWd w) :
    Calls Tryz.prog 150 #[.string ⟨#[116, 114, 117, 101]⟩] w fun x w' => x = .returned (vA 3 1 ⟨#[]⟩) ∧ Tch (fun _ => False) w w' := by
  have HFin : Hid (∀ W, Tch (fun _ => False) (w.alloc (.cells #[.int .i64 0, .int .i64 0, .string ⟨#[]⟩] 29)) W → ∀ (k n : Int) (s : ByteArray) (W2 : World), Tch (fun _ => False) (((W.setCell ⟨w.heap.size, 0, none⟩ (.int .i64 k)).setCell ⟨w.heap.size, 1, none⟩ (.int .i64 n)).setCell ⟨w.heap.size, 2, none⟩ (.string s)) W2 →
      (∀ tmps : Array Value, tmps[2]?.getD undef = .pointer (some ⟨w.heap.size, 0, none⟩) → (results Tryz.f150 tmps).run Tryz.prog W2 = .ok (vA k n s) W2) ∧ Tch (fun _ => False) w W2) := fun W t k n s W2 t2 => by
    obtain ⟨c0, c1, c2⟩ := box_tch t
    obtain ⟨d0, d1, d2⟩ := box_set W w.heap.size _ _ _ (.int .i64 k) (.int .i64 n) (.string s) c0 c1 c2
    have tw : Tch (fun _ => False) w (((W.setCell ⟨w.heap.size, 0, none⟩ (.int .i64 k)).setCell ⟨w.heap.size, 1, none⟩ (.int .i64 n)).setCell ⟨w.heap.size, 2, none⟩ (.string s)) := (((Tch.alloc (fun _ => False) w _).trans' t).trans (box_set_tch W w.heap.size _ _ _) (fun i hi he => by omega))
    have key : ∀ (p : Addr) v, (((W.setCell ⟨w.heap.size, 0, none⟩ (.int .i64 k)).setCell ⟨w.heap.size, 1, none⟩ (.int .i64 n)).setCell ⟨w.heap.size, 2, none⟩ (.string s)).cell? p = some v → W2.cell? p = some v := fun p v h => (t2.cell (p := p) (cell_lt h) (fun h => h)).trans h
    exact ⟨fun tmps h2 => guess_res tmps _ w.heap.size k n s (key _ _ d0) (key _ _ d1) (key _ _ d2) h2, tw.trans' t2⟩
  have HBx : Hid (∀ W, Tch (fun _ => False) (w.alloc (.cells #[.int .i64 0, .int .i64 0, .string ⟨#[]⟩] 29)) W → (W.cell? ⟨w.heap.size, 0, none⟩ = some (.int .i64 0) ∧ W.cell? ⟨w.heap.size, 1, none⟩ = some (.int .i64 0) ∧ W.cell? ⟨w.heap.size, 2, none⟩ = some (.string ⟨#[]⟩)) ∧ W.frozen? ⟨w.heap.size, 0, none⟩ = false ∧ W.frozen? ⟨w.heap.size, 1, none⟩ = false ∧ W.frozen? ⟨w.heap.size, 2, none⟩ = false) := fun W t =>
    ⟨box_tch t, (t.frozen (p := ⟨_, _, none⟩) (by simp) (fun h => h)).trans (by simp), (t.frozen (p := ⟨_, _, none⟩) (by simp) (fun h => h)).trans (by simp), (t.frozen (p := ⟨_, _, none⟩) (by simp) (fun h => h)).trans (by simp)⟩
  have hl := hw.lt
  have w0 := hw 0 _ rfl; have w1 := hw 1 _ rfl; have w2 := hw 2 _ rfl; have w3 := hw 3 _ rfl; have w4 := hw 4 _ rfl; have w5 := hw 5 _ rfl
  have w6 := hw 6 _ rfl; have w7 := hw 7 _ rfl; have w8 := hw 8 _ rfl; have w9 := hw 9 _ rfl; have w10 := hw 10 _ rfl; have w11 := hw 11 _ rfl
  clear hw
  go_enter Tryz.func150, Tryz.ntmps150
  go_wp2_with fail
  clear w0 w1 w2 w3 w4 w5 w6 w7 w8 w9 w10 w11
  go_loopw [8] (fun i wr => ∃ k : Nat, i = .int .i64 k ∧ k ≤ 2 ∧ Tch (fun _ => False) (w.alloc (.cells #[.int .i64 0, .int .i64 0, .string ⟨#[]⟩] 29)) wr) (fun i _ => 3 - (RowKit.intOf i).toNat)
  case atStart => exact ⟨0, rfl, by omega, Tch.refl _ _⟩
  case round =>
    obtain ⟨k, rfl, hk, hT⟩ := hrel
    have hz := hT.size
    have hwz : w.heap.size < wr.heap.size := by simp at hz; omega
    clear hz
    have i0 := word_0; have i1 := word_1; have i2 := word_2
    rcases (by omega : k = 0 ∨ k = 1 ∨ k = 2) with rfl | rfl | rfl
    · go_wp2_with fail
      go_roundw
      case rel => exact ⟨1, rfl, by omega, hT.allocR _⟩
      case measure => simp [RowKit.intOf]
    · go_wp2_with fail
      go_roundw
      case rel => exact ⟨2, rfl, by omega, hT.allocR _⟩
      case measure => simp [RowKit.intOf]
    · obtain ⟨⟨z0, z1, z2⟩, f0, f1, f2⟩ := HBx.out wr hT
      go_wp2_with fail
      refine bodyPost_ret ((HFin.out wr hT 3 1 ⟨#[]⟩ _ (Tch.alloc _ _ _)).1 _ ?_) rfl ⟨rfl, (HFin.out wr hT 3 1 ⟨#[]⟩ _ (Tch.alloc _ _ _)).2⟩
      rfl
end Go.Proofs.YtmaekkhmiafnmaaGreatDoor
namespace Go.Proofs.YtmaekkhmiafnmaaGreatDoor
open Go.RowKit Go
theorem guess_text (s : ByteArray) (hs : s.size ≤ 1048576) (hne : noW s) (h0 : 0 < s.size) (h39 : s[0].toNat = 39) (w : World) (hw : HWd w) :
    Calls Tryz.prog 150 #[.string s] w fun x w' => x = .returned (vA 2 0 ⟨(uq s).toArray⟩) ∧ Tch (fun _ => False) w w' := by
  have HFin : Hid (∀ W, Tch (fun _ => False) (w.alloc (.cells #[.int .i64 0, .int .i64 0, .string ⟨#[]⟩] 29)) W → ∀ (k n : Int) (s : ByteArray) (W2 : World), Tch (fun _ => False) (((W.setCell ⟨w.heap.size, 0, none⟩ (.int .i64 k)).setCell ⟨w.heap.size, 1, none⟩ (.int .i64 n)).setCell ⟨w.heap.size, 2, none⟩ (.string s)) W2 →
      (∀ tmps : Array Value, tmps[2]?.getD undef = .pointer (some ⟨w.heap.size, 0, none⟩) → (results Tryz.f150 tmps).run Tryz.prog W2 = .ok (vA k n s) W2) ∧ Tch (fun _ => False) w W2) := fun W t k n s W2 t2 => by
    obtain ⟨c0, c1, c2⟩ := box_tch t
    obtain ⟨d0, d1, d2⟩ := box_set W w.heap.size _ _ _ (.int .i64 k) (.int .i64 n) (.string s) c0 c1 c2
    have tw : Tch (fun _ => False) w (((W.setCell ⟨w.heap.size, 0, none⟩ (.int .i64 k)).setCell ⟨w.heap.size, 1, none⟩ (.int .i64 n)).setCell ⟨w.heap.size, 2, none⟩ (.string s)) := (((Tch.alloc (fun _ => False) w _).trans' t).trans (box_set_tch W w.heap.size _ _ _) (fun i hi he => by omega))
    have key : ∀ (p : Addr) v, (((W.setCell ⟨w.heap.size, 0, none⟩ (.int .i64 k)).setCell ⟨w.heap.size, 1, none⟩ (.int .i64 n)).setCell ⟨w.heap.size, 2, none⟩ (.string s)).cell? p = some v → W2.cell? p = some v := fun p v h => (t2.cell (p := p) (cell_lt h) (fun h => h)).trans h
    exact ⟨fun tmps h2 => guess_res tmps _ w.heap.size k n s (key _ _ d0) (key _ _ d1) (key _ _ d2) h2, tw.trans' t2⟩
  have HBx : Hid (∀ W, Tch (fun _ => False) (w.alloc (.cells #[.int .i64 0, .int .i64 0, .string ⟨#[]⟩] 29)) W → (W.cell? ⟨w.heap.size, 0, none⟩ = some (.int .i64 0) ∧ W.cell? ⟨w.heap.size, 1, none⟩ = some (.int .i64 0) ∧ W.cell? ⟨w.heap.size, 2, none⟩ = some (.string ⟨#[]⟩)) ∧ W.frozen? ⟨w.heap.size, 0, none⟩ = false ∧ W.frozen? ⟨w.heap.size, 1, none⟩ = false ∧ W.frozen? ⟨w.heap.size, 2, none⟩ = false) := fun W t =>
    ⟨box_tch t, (t.frozen (p := ⟨_, _, none⟩) (by simp) (fun h => h)).trans (by simp), (t.frozen (p := ⟨_, _, none⟩) (by simp) (fun h => h)).trans (by simp), (t.frozen (p := ⟨_, _, none⟩) (by simp) (fun h => h)).trans (by simp)⟩
  have hl := hw.lt
  have w0 := hw 0 _ rfl; have w1 := hw 1 _ rfl; have w2 := hw 2 _ rfl; have w3 := hw 3 _ rfl; have w4 := hw 4 _ rfl; have w5 := hw 5 _ rfl
  have w6 := hw 6 _ rfl; have w7 := hw 7 _ rfl; have w8 := hw 8 _ rfl; have w9 := hw 9 _ rfl; have w10 := hw 10 _ rfl; have w11 := hw 11 _ rfl
  have n0 : (s.toList == [110, 117, 108, 108]) = false := by
    have h := str_ne hne.1
    rw [ByteArray.toList_eq ⟨#[110, 117, 108, 108]⟩] at h
    exact h
  have n1 : (s.toList == [102, 97, 108, 115, 101]) = false := by
    have h := str_ne hne.2.1
    rw [ByteArray.toList_eq ⟨#[102, 97, 108, 115, 101]⟩] at h
    exact h
  have n2 : (s.toList == [116, 114, 117, 101]) = false := by
    have h := str_ne hne.2.2
    rw [ByteArray.toList_eq ⟨#[116, 114, 117, 101]⟩] at h
    exact h
  have h39' : (s[0].toNat : Int) = 39 := by omega
  have h0I : (0 : Int) < s.size := by omega
  have hem := nonempty_of_size (r := s) h0
  have HQ : Hid (∀ W, Calls Tryz.prog 175 #[.string s] W fun x w' => x = .returned (.string ⟨(uq s).toArray⟩) ∧ Tch (fun _ => False) W w') := fun W => unquoted_any s hs W
  clear h39
  clear hw
  go_enter Tryz.func150, Tryz.ntmps150
  go_wp2_with fail
  clear w0 w1 w2 w3 w4 w5 w6 w7 w8 w9 w10 w11
  go_loopw [8] (fun i wr => ∃ k : Nat, i = .int .i64 k ∧ k ≤ 3 ∧ Tch (fun _ => False) (w.alloc (.cells #[.int .i64 0, .int .i64 0, .string ⟨#[]⟩] 29)) wr) (fun i _ => 3 - (RowKit.intOf i).toNat)
  case atStart => exact ⟨0, rfl, by omega, Tch.refl _ _⟩
  case round =>
    obtain ⟨k, rfl, hk, hT⟩ := hrel
    have hz := hT.size
    have hwz : w.heap.size < wr.heap.size := by simp at hz; omega
    clear hz
    have i0 := word_0; have i1 := word_1; have i2 := word_2
    rcases (by omega : k = 0 ∨ k = 1 ∨ k = 2 ∨ k = 3) with rfl | rfl | rfl | rfl
    · go_wp2_with fail
      go_roundw
      case rel => exact ⟨1, rfl, by omega, hT.allocR _⟩
      case measure => simp [RowKit.intOf]
    · go_wp2_with fail
      go_roundw
      case rel => exact ⟨2, rfl, by omega, hT.allocR _⟩
      case measure => simp [RowKit.intOf]
    · go_wp2_with fail
      go_roundw
      case rel => exact ⟨3, rfl, by omega, hT.allocR _⟩
      case measure => simp [RowKit.intOf]
    · go_wp2_with fail
      refine (HQ.out _).mono ?_
      rintro y w1 ⟨rfl, t1⟩
      obtain ⟨⟨z0, z1, z2⟩, f0, f1, f2⟩ := HBx.out w1 (hT.trans' t1)
      go_wp2_with fail
      refine bodyPost_ret ((HFin.out w1 (hT.trans' t1) 2 0 ⟨(uq s).toArray⟩ _ (Tch.refl _ _)).1 _ ?_) rfl ⟨rfl, (HFin.out w1 (hT.trans' t1) 2 0 ⟨(uq s).toArray⟩ _ (Tch.refl _ _)).2⟩
      rfl
end Go.Proofs.YtmaekkhmiafnmaaGreatDoor
namespace Go.Proofs.YtmaekkhmiafnmaaGreatDoor
open Go.RowKit Go
theorem guess_int (s : ByteArray) (hs : s.size ≤ 1048576) (hne : noW s) (h0 : 0 < s.size) (h39 : ¬ s[0].toNat = 39) (w : World) (hw : HWd w) (hv : HV w) :
    Calls Tryz.prog 150 #[.string s] w fun x w' => (∃ n, x = .returned (vA 1 n ⟨#[]⟩) ∧ i64v n ∧ ∀ m, Lib.atoiAll s.data.toList = .ok m → n = m) ∧ Tch (fun _ => False) w w' := by
  have HFin : Hid (∀ W, Tch (fun _ => False) (w.alloc (.cells #[.int .i64 0, .int .i64 0, .string ⟨#[]⟩] 29)) W → ∀ (k n : Int) (s : ByteArray) (W2 : World), Tch (fun _ => False) (((W.setCell ⟨w.heap.size, 0, none⟩ (.int .i64 k)).setCell ⟨w.heap.size, 1, none⟩ (.int .i64 n)).setCell ⟨w.heap.size, 2, none⟩ (.string s)) W2 →
      (∀ tmps : Array Value, tmps[2]?.getD undef = .pointer (some ⟨w.heap.size, 0, none⟩) → (results Tryz.f150 tmps).run Tryz.prog W2 = .ok (vA k n s) W2) ∧ Tch (fun _ => False) w W2) := fun W t k n s W2 t2 => by
    obtain ⟨c0, c1, c2⟩ := box_tch t
    obtain ⟨d0, d1, d2⟩ := box_set W w.heap.size _ _ _ (.int .i64 k) (.int .i64 n) (.string s) c0 c1 c2
    have tw : Tch (fun _ => False) w (((W.setCell ⟨w.heap.size, 0, none⟩ (.int .i64 k)).setCell ⟨w.heap.size, 1, none⟩ (.int .i64 n)).setCell ⟨w.heap.size, 2, none⟩ (.string s)) := (((Tch.alloc (fun _ => False) w _).trans' t).trans (box_set_tch W w.heap.size _ _ _) (fun i hi he => by omega))
    have key : ∀ (p : Addr) v, (((W.setCell ⟨w.heap.size, 0, none⟩ (.int .i64 k)).setCell ⟨w.heap.size, 1, none⟩ (.int .i64 n)).setCell ⟨w.heap.size, 2, none⟩ (.string s)).cell? p = some v → W2.cell? p = some v := fun p v h => (t2.cell (p := p) (cell_lt h) (fun h => h)).trans h
    exact ⟨fun tmps h2 => guess_res tmps _ w.heap.size k n s (key _ _ d0) (key _ _ d1) (key _ _ d2) h2, tw.trans' t2⟩
  have HBx : Hid (∀ W, Tch (fun _ => False) (w.alloc (.cells #[.int .i64 0, .int .i64 0, .string ⟨#[]⟩] 29)) W → (W.cell? ⟨w.heap.size, 0, none⟩ = some (.int .i64 0) ∧ W.cell? ⟨w.heap.size, 1, none⟩ = some (.int .i64 0) ∧ W.cell? ⟨w.heap.size, 2, none⟩ = some (.string ⟨#[]⟩)) ∧ W.frozen? ⟨w.heap.size, 0, none⟩ = false ∧ W.frozen? ⟨w.heap.size, 1, none⟩ = false ∧ W.frozen? ⟨w.heap.size, 2, none⟩ = false) := fun W t =>
    ⟨box_tch t, (t.frozen (p := ⟨_, _, none⟩) (by simp) (fun h => h)).trans (by simp), (t.frozen (p := ⟨_, _, none⟩) (by simp) (fun h => h)).trans (by simp), (t.frozen (p := ⟨_, _, none⟩) (by simp) (fun h => h)).trans (by simp)⟩
  have hl := hw.lt
  have w0 := hw 0 _ rfl; have w1 := hw 1 _ rfl; have w2 := hw 2 _ rfl; have w3 := hw 3 _ rfl; have w4 := hw 4 _ rfl; have w5 := hw 5 _ rfl
  have w6 := hw 6 _ rfl; have w7 := hw 7 _ rfl; have w8 := hw 8 _ rfl; have w9 := hw 9 _ rfl; have w10 := hw 10 _ rfl; have w11 := hw 11 _ rfl
  have n0 : (s.toList == [110, 117, 108, 108]) = false := by
    have h := str_ne hne.1
    rw [ByteArray.toList_eq ⟨#[110, 117, 108, 108]⟩] at h
    exact h
  have n1 : (s.toList == [102, 97, 108, 115, 101]) = false := by
    have h := str_ne hne.2.1
    rw [ByteArray.toList_eq ⟨#[102, 97, 108, 115, 101]⟩] at h
    exact h
  have n2 : (s.toList == [116, 114, 117, 101]) = false := by
    have h := str_ne hne.2.2
    rw [ByteArray.toList_eq ⟨#[116, 114, 117, 101]⟩] at h
    exact h
  have h39' : ¬ (s[0].toNat : Int) = 39 := by omega
  have h39b : ((s[0].toNat : Int) == 39) = false := beq_eq_false_iff_ne.2 h39'
  have h0I : (0 : Int) < s.size := by omega
  have hem := nonempty_of_size (r := s) h0
  clear h39
  have HQ : Hid (∀ W, Tch (fun _ => False) w W → Calls Tryz.prog 176 #[.string s] W fun x w' => (∃ n ev, x = .returned (.tuple #[.int .i64 n, ev]) ∧ (ev = .nilIface ∨ ∃ t N, ev = .iface t (.pointer (some ⟨N, 0, none⟩))) ∧ i64v n ∧ ∀ m, Lib.atoiAll s.data.toList = .ok m → n = m) ∧ Tch (fun _ => False) W w') := fun W t => atoi_any s hs W (hv.no t)
  clear hw
  go_enter Tryz.func150, Tryz.ntmps150
  go_wp2_with fail
  clear w0 w1 w2 w3 w4 w5 w6 w7 w8 w9 w10 w11
  go_loopw [8] (fun i wr => ∃ k : Nat, i = .int .i64 k ∧ k ≤ 3 ∧ Tch (fun _ => False) (w.alloc (.cells #[.int .i64 0, .int .i64 0, .string ⟨#[]⟩] 29)) wr) (fun i _ => 3 - (RowKit.intOf i).toNat)
  case atStart => exact ⟨0, rfl, by omega, Tch.refl _ _⟩
  case round =>
    obtain ⟨k, rfl, hk, hT⟩ := hrel
    have hz := hT.size
    have hwz : w.heap.size < wr.heap.size := by simp at hz; omega
    clear hz
    have i0 := word_0; have i1 := word_1; have i2 := word_2
    rcases (by omega : k = 0 ∨ k = 1 ∨ k = 2 ∨ k = 3) with rfl | rfl | rfl | rfl
    · go_wp2_with fail
      go_roundw
      case rel => exact ⟨1, rfl, by omega, hT.allocR _⟩
      case measure => simp [RowKit.intOf]
    · go_wp2_with fail
      go_roundw
      case rel => exact ⟨2, rfl, by omega, hT.allocR _⟩
      case measure => simp [RowKit.intOf]
    · go_wp2_with fail
      go_roundw
      case rel => exact ⟨3, rfl, by omega, hT.allocR _⟩
      case measure => simp [RowKit.intOf]
    · go_wp2_with fail
      refine (HQ.out _ ((Tch.alloc _ _ _).trans' hT)).mono ?_
      rintro y w1 ⟨⟨n, ev, rfl, hev, hn1, hn2⟩, t1⟩
      have Hn : Hid (i64v n ∧ ∀ m, Lib.atoiAll s.data.toList = .ok m → n = m) := ⟨hn1, hn2⟩
      clear hn1 hn2
      obtain ⟨⟨z0, z1, z2⟩, f0, f1, f2⟩ := HBx.out w1 (hT.trans' t1)
      rcases hev with rfl | ⟨et, eN, rfl⟩
      all_goals
        go_wp2_with fail
        refine bodyPost_ret ((HFin.out w1 (hT.trans' t1) 1 n ⟨#[]⟩ _ (Tch.refl _ _)).1 _ ?_) rfl ⟨⟨n, rfl, Hn.out⟩, (HFin.out w1 (hT.trans' t1) 1 n ⟨#[]⟩ _ (Tch.refl _ _)).2⟩
        rfl
end Go.Proofs.YtmaekkhmiafnmaaGreatDoor
