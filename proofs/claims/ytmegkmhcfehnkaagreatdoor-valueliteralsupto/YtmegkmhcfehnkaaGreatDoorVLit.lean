import Derived.Test.YtmegkmhcfehnkaaGreatDoorVPrint
/- A plain text as a literal, by the code. -/
namespace Go.Proofs.YtmegkmhcfehnkaaGreatDoor
open Go.RowKit

/-- The cells of value.words. -/
def wordCells : List Value := [.string ⟨#[110, 117, 108, 108]⟩, .int .i64 0, .int .i64 0, .string ⟨#[]⟩, .string ⟨#[102, 97, 108, 115, 101]⟩, .int .i64 3, .int .i64 0, .string ⟨#[]⟩, .string ⟨#[116, 114, 117, 101]⟩, .int .i64 3, .int .i64 1, .string ⟨#[]⟩]
def HWd (w : World) : Prop := ∀ j u, wordCells[j]? = some u → w.cell? ⟨0, j, none⟩ = some u
theorem HWd.lt {w : World} (h : HWd w) : 0 < w.heap.size := cell_lt (h 0 _ rfl)
theorem HWd.tch {S : Nat → Prop} {w w' : World} (h : HWd w) (t : Tch S w w') (h0 : ¬ S 0) : HWd w' := fun j u hu => (t.cell (p := ⟨_, _, none⟩) h.lt h0).trans (h j u hu)

theorem word_0 (W : World) : (Instr.index 59 (.agg #[.string ⟨#[110, 117, 108, 108]⟩, .int .i64 0, .int .i64 0, .string ⟨#[]⟩, .string ⟨#[102, 97, 108, 115, 101]⟩, .int .i64 3, .int .i64 0, .string ⟨#[]⟩, .string ⟨#[116, 114, 117, 101]⟩, .int .i64 3, .int .i64 1, .string ⟨#[]⟩]) (.int .i64 0)).run Tryz.prog W = .ok (.agg #[.string ⟨#[110, 117, 108, 108]⟩, .int .i64 0, .int .i64 0, .string ⟨#[]⟩]) W := by kernel_rfl
theorem word_1 (W : World) : (Instr.index 59 (.agg #[.string ⟨#[110, 117, 108, 108]⟩, .int .i64 0, .int .i64 0, .string ⟨#[]⟩, .string ⟨#[102, 97, 108, 115, 101]⟩, .int .i64 3, .int .i64 0, .string ⟨#[]⟩, .string ⟨#[116, 114, 117, 101]⟩, .int .i64 3, .int .i64 1, .string ⟨#[]⟩]) (.int .i64 1)).run Tryz.prog W = .ok (.agg #[.string ⟨#[102, 97, 108, 115, 101]⟩, .int .i64 3, .int .i64 0, .string ⟨#[]⟩]) W := by kernel_rfl
theorem word_2 (W : World) : (Instr.index 59 (.agg #[.string ⟨#[110, 117, 108, 108]⟩, .int .i64 0, .int .i64 0, .string ⟨#[]⟩, .string ⟨#[102, 97, 108, 115, 101]⟩, .int .i64 3, .int .i64 0, .string ⟨#[]⟩, .string ⟨#[116, 114, 117, 101]⟩, .int .i64 3, .int .i64 1, .string ⟨#[]⟩]) (.int .i64 2)).run Tryz.prog W = .ok (.agg #[.string ⟨#[116, 114, 117, 101]⟩, .int .i64 3, .int .i64 1, .string ⟨#[]⟩]) W := by kernel_rfl

set_option maxHeartbeats 2000000 in
set_option maxRecDepth 100000 in
theorem literal_text (s : ByteArray) (w : World) (hw : HWd w) (q : ByteArray) (hq : ∀ W, Calls Tryz.prog 32 #[.string s] W fun x w' => x = .returned (.string q) ∧ Tch (fun _ => False) W w') :
    Calls Tryz.prog 13 #[vA 2 0 s] w fun x w' => x = .returned (.string q) ∧ Tch (fun _ => False) w w' := by
  have hl := hw.lt
  have hw1 := hw.tch (Tch.alloc (fun _ => False) w (.cells #[.int .i64 2, .int .i64 0, .string s] 23)) (fun h => h)
  have HC : Hid (∀ W, Tch (fun _ => False) (w.alloc (.cells #[.int .i64 2, .int .i64 0, .string s] 23)) W → HWd W ∧ W.cell? ⟨w.heap.size, 0, none⟩ = some (.int .i64 2) ∧ W.cell? ⟨w.heap.size, 1, none⟩ = some (.int .i64 0) ∧ W.cell? ⟨w.heap.size, 2, none⟩ = some (.string s)) := fun W t =>
    ⟨hw1.tch t (fun h => h), box_tch t⟩
  have w0 := hw 0 _ rfl; have w1 := hw 1 _ rfl; have w2 := hw 2 _ rfl; have w3 := hw 3 _ rfl; have w4 := hw 4 _ rfl; have w5 := hw 5 _ rfl
  have w6 := hw 6 _ rfl; have w7 := hw 7 _ rfl; have w8 := hw 8 _ rfl; have w9 := hw 9 _ rfl; have w10 := hw 10 _ rfl; have w11 := hw 11 _ rfl
  clear hw hw1
  go_enter Tryz.func13, Tryz.ntmps13
  go_wp2_with fail
  clear w0 w1 w2 w3 w4 w5 w6 w7 w8 w9 w10 w11
  go_loopw [6] (fun i wr => ∃ k : Nat, i = .int .i64 k ∧ k ≤ 3 ∧ Tch (fun _ => False) (w.alloc (.cells #[.int .i64 2, .int .i64 0, .string s] 23)) wr) (fun i _ => 3 - (intOf i).toNat)
  case atStart => exact ⟨0, rfl, by omega, Tch.refl _ _⟩
  case round =>
    obtain ⟨k, rfl, hk, hT⟩ := hrel
    obtain ⟨-, c0, c1, c2⟩ := HC.out wr hT
    have hz := hT.size
    have hwz : w.heap.size < wr.heap.size := by simp at hz; omega
    clear hz
    have i0 := word_0; have i1 := word_1; have i2 := word_2
    rcases (by omega : k = 0 ∨ k = 1 ∨ k = 2 ∨ k = 3) with rfl | rfl | rfl | rfl
    · go_wp2_with fail
      go_roundw
      case rel => exact ⟨1, rfl, by omega, hT.allocR _⟩
      case measure => simp [intOf]
    · go_wp2_with fail
      go_roundw
      case rel => exact ⟨2, rfl, by omega, hT.allocR _⟩
      case measure => simp [intOf]
    · go_wp2_with fail
      go_roundw
      case rel => exact ⟨3, rfl, by omega, hT.allocR _⟩
      case measure => simp [intOf]
    · go_wp2_with fail
      refine (hq _).mono ?_
      rintro x w1 ⟨rfl, t1⟩
      go_wp2_with fail
      go_ret
      exact ⟨rfl, ((Tch.alloc _ _ _).trans' hT).trans' t1⟩
set_option maxHeartbeats 2000000 in
set_option maxRecDepth 100000 in
theorem print_text (s : ByteArray) (w : World) (hw : HWd w) (hs : s.size ≤ 200) (q : ByteArray) (hq : ∀ W, Calls Tryz.prog 32 #[.string s] W fun x w' => x = .returned (.string q) ∧ Tch (fun _ => False) W w') :
    Calls Tryz.prog 7 #[vA 2 0 s] w fun x w' => x = .returned (.string q) ∧ Tch (fun _ => False) w w' := by
  have hr : wrg ⟨2, 0, s⟩ = 0 := by
    have hf : frm ⟨2, 0, s⟩ := Or.inr (Or.inr (Or.inl ⟨rfl, rfl⟩))
    unfold wrg; rw [if_pos hf, if_pos hs]
  have HL : Hid (∀ W, Tch (fun _ => False) w W → Calls Tryz.prog 13 #[vA 2 0 s] W fun x w' => x = .returned (.string q) ∧ Tch (fun _ => False) W w') := fun W t => literal_text s W (hw.tch t (fun h => h)) q hq
  clear hq hw
  go_enter Tryz.func7, Tryz.ntmps7
  go_wp2_with fail
  refine (wrong_any 2 0 s _).mono ?_
  rintro x w1 ⟨rfl, t1⟩
  obtain ⟨c0, c1, c2⟩ := box_tch t1
  have T1 : Tch (fun _ => False) w w1 := (Tch.alloc _ _ _).trans' t1
  rw [hr]
  go_wp2_with fail
  refine (HL.out _ T1).mono ?_
  rintro x w2 ⟨rfl, t2⟩
  go_wp2_with fail
  go_ret
  exact ⟨rfl, T1.trans' t2⟩

/-- The row of the document's example. -/
def kRow : List Val := [⟨1, 5, ⟨#[]⟩⟩, ⟨0, 0, ⟨#[]⟩⟩, ⟨2, 0, ⟨#[97]⟩⟩, ⟨3, 1, ⟨#[]⟩⟩]
theorem k_enc : encR kRow = ([4, 1, 10, 0, 2, 1, 97, 4], 0) := by kernel_rfl
theorem k_dec : decR ⟨#[4, 1, 10, 0, 2, 1, 97, 4]⟩ = some kRow := by kernel_rfl
theorem k_qtd : qtd ⟨#[97]⟩ = [39, 97, 39] := by kernel_rfl
theorem k_len : kRow.length = 4 := rfl
set_option maxHeartbeats 2000000 in
set_option maxRecDepth 100000 in
theorem known_any (w : World) (hg : HE w) (hw : HWd w) :
    Calls Tryz.prog 4 #[] w fun x w' => x = .returned (.bool true) ∧ Tch (fun _ => False) w w' := by
  obtain ⟨wA, hwA⟩ : ∃ wA, wA = w.alloc (.cells #[.int .i64 1, .int .i64 5, .string ⟨#[]⟩, .int .i64 0, .int .i64 0, .string ⟨#[]⟩, .int .i64 2, .int .i64 0, .string ⟨#[97]⟩, .int .i64 3, .int .i64 1, .string ⟨#[]⟩] 23) := ⟨_, rfl⟩
  have TA : Tch (fun _ => False) w wA := by rw [hwA]; exact Tch.alloc _ _ _
  have hrow : RowAt wA w.heap.size 0 kRow := by
    intro j hj
    rw [hwA]
    rw [k_len] at hj
    rcases j with _ | _ | _ | _ | j
    · refine ⟨?_, ?_, ?_⟩ <;> simp [kRow]
    · refine ⟨?_, ?_, ?_⟩ <;> simp [kRow]
    · refine ⟨?_, ?_, ?_⟩ <;> simp [kRow]
    · refine ⟨?_, ?_, ?_⟩ <;> simp [kRow]
    · omega
  have HR : Hid (∀ W, Tch (fun _ => False) wA W → HE W ∧ HWd W ∧ RowAt W w.heap.size 0 kRow) := fun W t => ⟨(hg.tch TA (fun h => h)).tch t (fun h => h), (hw.tch TA (fun h => h)).tch t (fun h => h), hrow.tch t (fun _ h => h)⟩
  have hkp : ∀ W, Calls Tryz.prog 32 #[.string ⟨#[97]⟩] W fun x w' => x = .returned (.string ⟨#[39, 97, 39]⟩) ∧ Tch (fun _ => False) W w' := fun W => by
    have := quoted_plain ⟨#[97]⟩ W (by decide) (fun k hk => by
      obtain rfl : k = 0 := by have : k < 1 := hk; omega
      rw [show (⟨#[97]⟩ : ByteArray)[0]'hk = 97 from rfl]; decide)
    rw [k_qtd] at this; exact this
  have hE : Calls Tryz.prog 9 #[.slice (some ⟨w.heap.size, 0, none⟩) 4 4] wA fun x w' => x = .returned (.tuple #[.string ⟨#[4, 1, 10, 0, 2, 1, 97, 4]⟩, .int .i64 0]) ∧ Tch (fun _ => False) wA w' := by
    have := encode_any kRow (some ⟨w.heap.size, 0, none⟩) w.heap.size 0 4 wA (HR.out wA (Tch.refl _ _)).1 (fun _ => rfl) hrow (by intro v hv; simp only [kRow, List.mem_cons, List.not_mem_nil, or_false] at hv; rcases hv with rfl | rfl | rfl | rfl <;> (unfold Val.i64; decide)) (by rw [k_len]; decide)
    rw [k_enc] at this; exact this
  have HDc : Hid (∀ W, Tch (fun _ => False) wA W → Calls Tryz.prog 10 #[.string ⟨#[4, 1, 10, 0, 2, 1, 97, 4]⟩] W fun x w' => (∃ R, x = .returned (.tuple #[.slice (some ⟨R, 0, none⟩) 4 4, .int .i64 0]) ∧ RowAt w' R 0 kRow) ∧ Tch (fun _ => False) W w') := fun W t => by
    refine (decode_any ⟨#[4, 1, 10, 0, 2, 1, 97, 4]⟩ W (HR.out W t).1 (by decide)).mono ?_
    rintro x w' ⟨h1, h2⟩
    unfold DecOut at h1
    rw [k_dec] at h1
    obtain ⟨R, _, hx, hr⟩ := h1
    exact ⟨⟨R, hx, hr.1⟩, h2⟩
  have HSm : Hid (∀ W R, Tch (fun _ => False) wA W → RowAt W R 0 kRow → Calls Tryz.prog 11 #[.slice (some ⟨R, 0, none⟩) 4 4, .slice (some ⟨w.heap.size, 0, none⟩) 4 4] W fun x w' => x = .returned (.bool true) ∧ Tch (fun _ => False) W w') := fun W R t hr => by
    refine (same_any kRow kRow (some ⟨R, 0, none⟩) (some ⟨w.heap.size, 0, none⟩) 4 4 W (fun _ => ⟨R, 0, rfl, hr⟩) (fun _ => ⟨_, 0, rfl, (HR.out W t).2.2⟩) (by rw [k_len]; decide)).mono ?_
    rintro x w' ⟨b, hx, hb, m, rfl⟩
    rw [hb.2 rfl] at hx
    exact ⟨hx, (Tch.refl _ _).drewN m⟩
  have HPr : Hid (∀ W, Tch (fun _ => False) wA W → Calls Tryz.prog 7 #[vA 2 0 ⟨#[97]⟩] W fun x w' => x = .returned (.string ⟨#[39, 97, 39]⟩) ∧ Tch (fun _ => False) W w') := fun W t => print_text ⟨#[97]⟩ W (HR.out W t).2.1 (by decide) _ hkp
  have HC : Hid (∀ W, Tch (fun _ => False) wA W → W.cell? ⟨w.heap.size, 6, none⟩ = some (.int .i64 2) ∧ W.cell? ⟨w.heap.size, 7, none⟩ = some (.int .i64 0) ∧ W.cell? ⟨w.heap.size, 8, none⟩ = some (.string ⟨#[97]⟩)) := fun W t => (HR.out W t).2.2 2 (by rw [k_len]; decide)
  clear hkp hg hw hrow HR
  go_enter Tryz.func4, Tryz.ntmps4
  go_wp2_with fail
  rw [← hwA]
  clear hwA
  refine hE.mono ?_
  rintro x w1 ⟨rfl, t1⟩
  clear hE
  go_wp2_with fail
  refine (HDc.out w1 t1).mono ?_
  rintro x w2 ⟨⟨R, rfl, hr⟩, t2⟩
  have T2 := t1.trans' t2
  clear t1 t2
  go_wp2_with fail
  refine (HSm.out w2 R T2 hr).mono ?_
  rintro x w3 ⟨rfl, t3⟩
  have T3 := T2.trans' t3
  obtain ⟨c0, c1, c2⟩ := HC.out w3 T3
  clear t3 T2 hr
  go_wp2_with fail
  refine (HPr.out w3 T3).mono ?_
  rintro x w4 ⟨rfl, t4⟩
  go_wp2_with fail
  go_ret
  exact ⟨rfl, (TA.trans' T3).trans' t4⟩
end Go.Proofs.YtmegkmhcfehnkaaGreatDoor
