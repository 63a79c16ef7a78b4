import Derived.Test.YtnjiiebjdpipjaaTNum
import Derived.Test.YtnjiiebjdpipjaaTAsk2
import Derived.Test.YtnjiiebjdpipjaaTAsk3
import Derived.Test.YtnjiiebjdpipjaaTAsk4
import Derived.BigQuiet
/- numbered of the law, of any text and number. -/
namespace Go.Proofs.Ytnjiiebjdpipjaa
open Go.RowKit Go

theorem run_two (w : World) (a b : Int) (ha : 0 ≤ a ∧ a < 256) (hb : 0 ≤ b ∧ b < 256) : (convert 71 9 (.slice (some ⟨w.heap.size, 0, none⟩) 2 2)).run Try.prog (w.alloc (.cells #[.int .u8 a, .int .u8 b] 5)) = .ok (.string ⟨#[UInt8.ofNat a.toNat, UInt8.ofNat b.toNat]⟩) (w.alloc (.cells #[.int .u8 a, .int .u8 b] 5)) := by
  have := run_convert_bytes_back (P := Try.prog) (w.alloc (.cells #[.int .u8 a, .int .u8 b] 5)) 71 9 5 ⟨w.heap.size, 0, none⟩ 2 [UInt8.ofNat a.toNat, UInt8.ofNat b.toNat] Try.underlying71 Try.underlying5 Try.underlying9 (fun j hj => by
    rw [add_plain, Nat.zero_add, blk_cell (alloc_new w _)]
    rcases j with _ | _ | j
    · have e : ((UInt8.ofNat a.toNat).toNat : Int) = a := by rw [UInt8.toNat_ofNat']; omega
      simp only [List.getElem_cons_zero]
      rw [e]; rfl
    · have e : ((UInt8.ofNat b.toNat).toNat : Int) = b := by rw [UInt8.toNat_ofNat']; omega
      simp only [List.getElem_cons_succ, List.getElem_cons_zero]
      rw [e]; rfl
    · simp at hj; omega)
  simpa using this
set_option maxHeartbeats 1000000 in
set_option maxRecDepth 100000 in
theorem numbered_ex (s : ByteArray) (n : Int) (hs : s.size < 1000000000000000000) : ∃ k : ByteArray, ∀ w, Calls Try.prog 10 #[.string s, .int .i64 n] w fun x w' => x = .returned (.string k) ∧ Tch (fun _ => False) w w' := by
  refine ⟨s ++ (⟨#[UInt8.ofNat (n / 256 % 256).toNat, UInt8.ofNat (n % 256).toNat]⟩ : ByteArray), fun w => ?_⟩
  have n1 : ¬ 9223372036854775807 < s.size + 2 := by omega
  have hcv := run_two w (n / 256 % 256) (n % 256) (by omega) (by omega)
  go_enter Try.func10, Try.ntmps10
  go_wp2_with fail
  go_ret
  exact ⟨rfl, Tch.alloc _ _ _⟩
end Go.Proofs.Ytnjiiebjdpipjaa
/- play of the law: the kinds that do nothing. -/
namespace Go.Proofs.Ytnjiiebjdpipjaa
open Go.RowKit Go Go.Shelf Go.Sort

set_option maxHeartbeats 8000000 in
set_option maxRecDepth 100000 in
theorem play_none (W0 : World) (G : Nat → Prop) (W : World) (b mb : Nat) (l : List It) (ot : Bool) (kd N : Int) (s t : ByteArray) (h : PS W0 G W b mb l l) (hl : l.length < 900000) (hb1 : -9223372036854775808 ≤ N) (hb2 : N ≤ 9223372036854775807) (hs : s.size < 1000000000000000000) (hk : kd ≠ 1 ∧ kd ≠ 2 ∧ kd ≠ 3 ∧ kd ≠ 4 ∧ kd ≠ 5 ∧ kd ≠ 6 ∧ kd ≠ 7 ∧ kd ≠ 8 ∧ kd ≠ 9 ∧ kd ≠ 10) : Calls Try.prog 24 #[.agg #[pv b, pv mb], opV ⟨ot, kd, N, s, t⟩] W fun x w' => x = .returned (.bool true) ∧ ∃ l', PS W0 G w' b mb l' l' ∧ l'.length ≤ l.length + 30 := by
  obtain ⟨q0, hq0⟩ : ∃ q0, q0 = W.heap.size := ⟨_, rfl⟩
  obtain ⟨W1, hW1⟩ : ∃ W1, W1 = wBox W b mb ⟨ot, kd, N, s, t⟩ := ⟨_, rfl⟩
  have t1 : Tch (fun _ => False) W W1 := by rw [hW1]; exact (Tch.alloc _ _ _).allocR _
  obtain ⟨k0, k1⟩ := two_new W (.cells #[pv b, pv mb] 53) (.cells (opC ⟨ot, kd, N, s, t⟩) 55)
  have k0' : W1.heap[q0]? = some (.cells #[pv b, pv mb] 53 (0, 0)) := by rw [hW1, hq0]; exact k0
  have k1' : W1.heap[q0 + 1]? = some (.cells (opC ⟨ot, kd, N, s, t⟩) 55 (0, 0)) := by rw [hW1, hq0]; exact k1
  obtain ⟨x0, x1, x2, x4, x3, x5⟩ := bx_of (p := ⟨ot, kd, N, s, t⟩) k0' k1'
  obtain ⟨G2, -, hg1, -, hg2⟩ := h.anew
  obtain ⟨hS0, hS1⟩ := hg2 W1 t1
  have HX : Hid (∀ w' m m', PS W1 G2 w' b mb m m' → BX w' q0 b mb ⟨ot, kd, N, s, t⟩) := fun w' m m' hh => bx_of (hh.cell k0' (fun hG => by have := hg1 _ hG; omega)) (hh.cell k1' (fun hG => by have := hg1 _ hG; omega))
  have HS1 : Hid (∀ w' m m', PS W1 G2 w' b mb m m' → PS W0 G w' b mb m m') := fun w' m m' hh => (hS1 w' b mb m m' hh).1
  have HW1 : Hid (W1 = wBox W b mb ⟨ot, kd, N, s, t⟩) := hW1
  have Hq0 : Hid (q0 = W.heap.size) := hq0
  have Hl : Hid (l.length < 900000) := hl
  have HS0 : Hid (PS W1 G2 W1 b mb l l) := hS0
  have Hb : Hid (-9223372036854775808 ≤ N ∧ N ≤ 9223372036854775807) := ⟨hb1, hb2⟩
  have Hs : Hid (s.size < 1000000000000000000) := hs
  obtain ⟨h1, h2, h3, h4, h5, h6, h7, h8, h9, h10⟩ := hk
  have f1 := beq_eq_false_iff_ne.2 h1
  have f2 := beq_eq_false_iff_ne.2 h2
  have f3 := beq_eq_false_iff_ne.2 h3
  have f4 := beq_eq_false_iff_ne.2 h4
  have f5 := beq_eq_false_iff_ne.2 h5
  have f6 := beq_eq_false_iff_ne.2 h6
  have f7 := beq_eq_false_iff_ne.2 h7
  have f8 := beq_eq_false_iff_ne.2 h8
  have f9 := beq_eq_false_iff_ne.2 h9
  have f10 := beq_eq_false_iff_ne.2 h10
  clear h1 h2 h3 h4 h5 h6 h7 h8 h9 h10
  rw [hW1, hq0] at x0 x1 x2 x3 x4 x5
  clear k0 k1 k0' k1' h hg1 hg2 hl hb1 hb2 hs t1 hW1 hq0 hS0 hS1
  go_enter Try.func24, Try.ntmps24
  go_wp2_with fail
  have hw : W1 = ((W.alloc (.cells #[pv b, pv mb] 53)).alloc (.cells #[.bool ot, .int .i64 kd, .int .i64 N, .string s, .string t] 55)) := HW1.out
  rw [← hw, ← Hq0.out]
  clear hw HW1 Hq0
  clear x0 x1 x2 x3 x4 x5 f1 f2 f3 f4 f5 f6 f7 f8 f9 f10
  have HS : Hid (PS W1 G2 W1 b mb l l) := HS0.out
  have HlE : Hid (l.length ≤ l.length + 30) := by show _ ≤ _; omega
  obtain ⟨ln, hln⟩ : ∃ ln, ln = l.length := ⟨_, rfl⟩
  obtain ⟨ht, ko, vo, kc', vc', y0, HH, HFl, HL⟩ : ∃ (ht : Nat) (ko vo : Option Addr) (kc' vc' : Nat), W1.cell? ⟨mb, 0, none⟩ = some (.slice ko ln kc') ∧ Hid (∀ m, Calls Try.prog 12 #[pv b] (W1.drewN m) fun x w' => x = .returned (.int .i64 ht) ∧ w' = W1.drewN m) ∧ Hid (∀ m, Calls Try.prog 11 #[.int .i64 ln, .int .i64 ht] (W1.drewN m) fun x w' => x = .returned (.bool true) ∧ w' = W1.drewN m) ∧ Hid (∀ w2, Tch (fun _ => False) W1 w2 → Calls Try.prog 13 #[pv b] w2 fun x w' => x = .returned (.int .i64 ln) ∧ w' = w2) := by
    obtain ⟨_, F, FM, ht, h1, h2, _⟩ := HS.out
    obtain ⟨ko, vo, c1, c2, z0, z1, _⟩ := h2.read
    have hlow : ht ≤ 8 := by
      have hf := h1.floors
      have := Hl.out
      have := HlE.out
      rcases hf with ⟨_, h⟩ | ⟨_, h, h3, _⟩
      · omega
      · rcases Nat.lt_or_ge 8 ht with h9 | h9
        · have : 8 ^ 8 ≤ 8 ^ (ht - 1) := Nat.pow_le_pow_right (by omega) (by omega)
          omega
        · exact h9
    subst hln
    have ht' : ∀ m, TW (W1.drewN m) b l ht F := fun m => h1.tch ((Tch.refl _ _).drewN m) (fun _ _ h => h)
    exact ⟨ht, ko, vo, c1, c2, z0, fun m => height_t _ b l ht F (ht' m) (by omega), fun m => floors_any _ ht _ hlow (by have := Hl.out; have := HlE.out; omega) h1.floors, fun w2 t2 => len_t _ b l ht F (h1.tch t2 (fun _ _ h => h))⟩
  obtain ⟨x0, x1, -, -, -, -⟩ := HX.out _ _ _ HS.out
  have HE : Hid (∀ w2, Tch (fun _ => False) W1 w2 → ∃ l', PS W0 G w2 b mb l' l' ∧ l'.length ≤ l.length + 30) := fun w2 t2 => ⟨l, HS1.out _ _ _ (HS.out.more t2), HlE.out⟩
  have e7 : ((ln : Int) == (ln : Int)) = true := by simp
  clear hln
  go_quiet ((first | (go_at_call 12; exact Calls.quiet_of_same (HH.out _)) | (go_at_call 11; exact Calls.quiet_of_same (HFl.out _))))
  obtain ⟨w5, hw5⟩ : ∃ w5, w5 = W1.drewN nq := ⟨_, rfl⟩
  rw [← hw5]
  have t5 : Tch (fun _ => False) W1 w5 := by rw [hw5]; exact (Tch.refl _ _).drewN nq
  have y5 : w5.cell? ⟨mb, 0, none⟩ = some (.slice ko ln kc') := (t5.cell (p := ⟨mb, 0, none⟩) (cell_lt y0) (fun h => h)).trans y0
  clear x0 x1 hw5 y0 HH HFl
  obtain ⟨x0, x1, -, -, -, -⟩ := HX.out _ _ _ (HS.out.more t5)
  have HL1 : Hid (∀ m, Calls Try.prog 13 #[pv b] (w5.drewN m) fun x w' => x = .returned (.int .i64 ln) ∧ w' = w5.drewN m) := fun m => HL.out _ (t5.drewN m)
  have HE5 : Hid (∀ m, ∃ l', PS W0 G (w5.drewN m) b mb l' l' ∧ l'.length ≤ l.length + 30) := fun m => HE.out _ (t5.drewN m)
  clear HL HE t5 HS HX
  go_wp2_with fail
  go_quiet ((go_at_call 13; exact Calls.quiet_of_same (HL1.out _)))
  go_wp2_with fail
  go_ret
  exact ⟨rfl, HE5.out _⟩
end Go.Proofs.Ytnjiiebjdpipjaa
