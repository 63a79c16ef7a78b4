import Derived.Test.YtnjiiebjdpipjaaTAsk2
import Derived.Test.YtnjiiebjdpipjaaTAsk3
import Derived.Test.YtnjiiebjdpipjaaTAsk4
import Derived.Test.YtnjiiebjdpipjaaTPlay1
import Derived.BigQuiet
/- play of the law: many keys put. -/
namespace Go.Proofs.Ytnjiiebjdpipjaa
open Go.RowKit Go Go.Shelf Go.Sort

set_option maxHeartbeats 8000000 in
set_option maxRecDepth 100000 in
theorem play_many (W0 : World) (G : Nat → Prop) (W : World) (b mb : Nat) (l : List It) (ot : Bool) (kd N : Int) (s t : ByteArray) (h : PS W0 G W b mb l l) (hl : l.length < 900000) (hb1 : -9223372036854775808 ≤ N) (hb2 : N ≤ 9223372036854775807) (hs : s.size < 1000000000000000000) (hk : kd = 8) : Calls Try.prog 24 #[.agg #[pv b, pv mb], opV ⟨ot, kd, N, s, t⟩] W fun x w' => x = .returned (.bool true) ∧ ∃ l', PS W0 G w' b mb l' l' ∧ l'.length ≤ l.length + 30 := by
  subst hk
  obtain ⟨q0, hq0⟩ : ∃ q0, q0 = W.heap.size := ⟨_, rfl⟩
  obtain ⟨W1, hW1⟩ : ∃ W1, W1 = wBox W b mb ⟨ot, 8, N, s, t⟩ := ⟨_, rfl⟩
  have t1 : Tch (fun _ => False) W W1 := by rw [hW1]; exact (Tch.alloc _ _ _).allocR _
  obtain ⟨k0, k1⟩ := two_new W (.cells #[pv b, pv mb] 53) (.cells (opC ⟨ot, 8, N, s, t⟩) 55)
  have k0' : W1.heap[q0]? = some (.cells #[pv b, pv mb] 53 (0, 0)) := by rw [hW1, hq0]; exact k0
  have k1' : W1.heap[q0 + 1]? = some (.cells (opC ⟨ot, 8, N, s, t⟩) 55 (0, 0)) := by rw [hW1, hq0]; exact k1
  obtain ⟨x0, x1, x2, x4, x3, x5⟩ := bx_of (p := ⟨ot, 8, N, s, t⟩) k0' k1'
  obtain ⟨G2, -, hg1, -, hg2⟩ := h.anew
  obtain ⟨hS0, hS1⟩ := hg2 W1 t1
  have HX : Hid (∀ w' m m', PS W1 G2 w' b mb m m' → BX w' q0 b mb ⟨ot, 8, N, s, t⟩) := fun w' m m' hh => bx_of (hh.cell k0' (fun hG => by have := hg1 _ hG; omega)) (hh.cell k1' (fun hG => by have := hg1 _ hG; omega))
  have HS1 : Hid (∀ w' m m', PS W1 G2 w' b mb m m' → PS W0 G w' b mb m m') := fun w' m m' hh => (hS1 w' b mb m m' hh).1
  have HW1 : Hid (W1 = wBox W b mb ⟨ot, 8, N, s, t⟩) := hW1
  have Hq0 : Hid (q0 = W.heap.size) := hq0
  have Hl : Hid (l.length < 900000) := hl
  have HS0 : Hid (PS W1 G2 W1 b mb l l) := hS0
  have Hb : Hid (-9223372036854775808 ≤ N ∧ N ≤ 9223372036854775807) := ⟨hb1, hb2⟩
  have Hs : Hid (s.size < 1000000000000000000) := hs
  have HNb : Hid (∀ n W, Calls Try.prog 10 #[.string s, .int .i64 n] W fun x w' => ∃ k, x = .returned (.string k) ∧ Tch (fun _ => False) W w') := fun n W => by
    obtain ⟨k, hk⟩ := numbered_ex s n hs
    refine (hk W).mono ?_
    rintro x w' ⟨h1, h2⟩
    exact ⟨k, h1, h2⟩
  rw [hW1, hq0] at x0 x1 x2 x3 x4 x5
  clear k0 k1 k0' k1' h hg1 hg2 hl hb1 hb2 hs t1 hW1 hq0 hS0 hS1
  go_enter Try.func24, Try.ntmps24
  go_wp2_with fail
  have hw : W1 = ((W.alloc (.cells #[pv b, pv mb] 53)).alloc (.cells #[.bool ot, .int .i64 8, .int .i64 N, .string s, .string t] 55)) := HW1.out
  rw [← hw, ← Hq0.out]
  clear hw HW1 Hq0
  clear x0 x1 x2 x3 x4 x5
  have HLp : Hid (PS W1 G2 W1 b mb l l) := HS0.out
  clear HS0
  go_loopw [13] (fun s13 wr => ∃ (wL : World) (i : Nat) (ml : List It), wL = wr ∧ s13 = .int .i64 i ∧ i ≤ 30 ∧ Hid (PS W1 G2 wL b mb ml ml) ∧ Hid (ml.length ≤ l.length + i)) (fun s13 _ => 30 - (intOf s13).toNat)
  case atStart => exact ⟨_, 0, l, rfl, rfl, by omega, HLp, by show _ ≤ _; omega⟩
  case round =>
    obtain ⟨wr, i, ml, rfl, rfl, hi, HM, HlM⟩ := hrel
    clear HLp
    obtain ⟨x0, x1, x2, x4, x3, x5⟩ := HX.out _ _ _ HM.out
    by_cases hlt : (i : Int) < 30
    · go_wp2_with fail
      refine (HNb.out _ _).mono ?_
      rintro y w2 ⟨k, rfl, t2⟩
      have hS := HM.out.more t2
      clear t2 x0 x1 x2 x3 x4 x5
      obtain ⟨x0, x1, x2, x4, x3, x5⟩ := HX.out _ _ _ hS
      have q := put1 k (i : Int) hS (by have := Hl.out; have := HlM.out; omega)
      clear hS
      go_wp2_with fail
      refine q.mono ?_
      clear q x0 x1 x2 x3 x4 x5
      rintro y w3 ⟨m2, old, th, rfl, hr, hS⟩
      have HlM2 : Hid (m2.length ≤ l.length + (i + 1)) := by have := HlM.out; have := hr.len; show _ ≤ _; omega
      obtain ⟨x0, x1, x2, x4, x3, x5⟩ := HX.out _ _ _ hS
      have q := put2 hS hr (by have := Hl.out; have := HlM.out; omega)
      clear hS hr
      go_wp2_with fail
      refine q.mono ?_
      clear q x0 x1 x2 x3 x4 x5
      rintro y w4 ⟨rfl, hS⟩
      have HM2 : Hid (PS W1 G2 w4 b mb m2 m2) := hS
      have e1 : (old == old) = true := by simp
      have e2 : (th == th) = true := by simp
      clear hS HM HlM
      go_wp2_with fail
      clear e1 e2
      go_roundw
      case measure => simp [intOf]; omega
      case rel => exact ⟨_, i + 1, m2, rfl, by go_num, by omega, HM2, HlM2⟩
    · obtain rfl : i = 30 := by omega
      clear hlt hi x0 x1 x2 x3 x4 x5
      have HS : Hid (PS W1 G2 wr b mb ml ml) := HM.out
      have HlE : Hid (ml.length ≤ l.length + 30) := HlM.out
      clear HM HlM
      go_wp2_with fail
      obtain ⟨ln, hln⟩ : ∃ ln, ln = ml.length := ⟨_, rfl⟩
      obtain ⟨ht, ko, vo, kc', vc', y0, HH, HFl, HL⟩ : ∃ (ht : Nat) (ko vo : Option Addr) (kc' vc' : Nat), wr.cell? ⟨mb, 0, none⟩ = some (.slice ko ln kc') ∧ Hid (∀ m, Calls Try.prog 12 #[pv b] (wr.drewN m) fun x w' => x = .returned (.int .i64 ht) ∧ w' = wr.drewN m) ∧ Hid (∀ m, Calls Try.prog 11 #[.int .i64 ln, .int .i64 ht] (wr.drewN m) fun x w' => x = .returned (.bool true) ∧ w' = wr.drewN m) ∧ Hid (∀ w2, Tch (fun _ => False) wr w2 → Calls Try.prog 13 #[pv b] w2 fun x w' => x = .returned (.int .i64 ln) ∧ w' = w2) := by
        obtain ⟨_, F, FM, ht, h1, h2, _⟩ := HS.out
        obtain ⟨ko, vo, c1, c2, z0, z1, _⟩ := h2.read
        have hlow : ht ≤ 8 := by
          have hf := h1.floors
          have := Hl.out
          have := HlE.out
          rcases hf with ⟨_, h⟩ | ⟨_, h, h3, _⟩
          · omega
          · rcases Nat.lt_or_ge 8 ht with h9 | h9
            · have : 8 ^ 8 ≤ 8 ^ (ht - 1) := Nat.pow_le_pow_right (by omega) (by omega)
              omega
            · exact h9
        subst hln
        have ht' : ∀ m, TW (wr.drewN m) b ml ht F := fun m => h1.tch ((Tch.refl _ _).drewN m) (fun _ _ h => h)
        exact ⟨ht, ko, vo, c1, c2, z0, fun m => height_t _ b ml ht F (ht' m) (by omega), fun m => floors_any _ ht _ hlow (by have := Hl.out; have := HlE.out; omega) h1.floors, fun w2 t2 => len_t _ b ml ht F (h1.tch t2 (fun _ _ h => h))⟩
      obtain ⟨x0, x1, -, -, -, -⟩ := HX.out _ _ _ HS.out
      have HE : Hid (∀ w2, Tch (fun _ => False) wr w2 → ∃ l', PS W0 G w2 b mb l' l' ∧ l'.length ≤ l.length + 30) := fun w2 t2 => ⟨ml, HS1.out _ _ _ (HS.out.more t2), HlE.out⟩
      have e7 : ((ln : Int) == (ln : Int)) = true := by simp
      clear hln
      go_quiet ((first | (go_at_call 12; exact Calls.quiet_of_same (HH.out _)) | (go_at_call 11; exact Calls.quiet_of_same (HFl.out _))))
      obtain ⟨w5, hw5⟩ : ∃ w5, w5 = wr.drewN nq := ⟨_, rfl⟩
      rw [← hw5]
      have t5 : Tch (fun _ => False) wr w5 := by rw [hw5]; exact (Tch.refl _ _).drewN nq
      have y5 : w5.cell? ⟨mb, 0, none⟩ = some (.slice ko ln kc') := (t5.cell (p := ⟨mb, 0, none⟩) (cell_lt y0) (fun h => h)).trans y0
      clear x0 x1 hw5 y0 HH HFl
      obtain ⟨x0, x1, -, -, -, -⟩ := HX.out _ _ _ (HS.out.more t5)
      have HL1 : Hid (∀ m, Calls Try.prog 13 #[pv b] (w5.drewN m) fun x w' => x = .returned (.int .i64 ln) ∧ w' = w5.drewN m) := fun m => HL.out _ (t5.drewN m)
      have HE5 : Hid (∀ m, ∃ l', PS W0 G (w5.drewN m) b mb l' l' ∧ l'.length ≤ l.length + 30) := fun m => HE.out _ (t5.drewN m)
      clear HL HE t5 HS HX
      go_wp2_with fail
      go_quiet ((go_at_call 13; exact Calls.quiet_of_same (HL1.out _)))
      go_wp2_with fail
      go_ret
      exact ⟨rfl, HE5.out _⟩
end Go.Proofs.Ytnjiiebjdpipjaa
/- play of the law: the same taken away. -/
namespace Go.Proofs.Ytnjiiebjdpipjaa
open Go.RowKit Go Go.Shelf Go.Sort

set_option maxHeartbeats 8000000 in
set_option maxRecDepth 100000 in
theorem play_few (W0 : World) (G : Nat → Prop) (W : World) (b mb : Nat) (l : List It) (ot : Bool) (kd N : Int) (s t : ByteArray) (h : PS W0 G W b mb l l) (hl : l.length < 900000) (hb1 : -9223372036854775808 ≤ N) (hb2 : N ≤ 9223372036854775807) (hs : s.size < 1000000000000000000) (hk : kd = 9) : Calls Try.prog 24 #[.agg #[pv b, pv mb], opV ⟨ot, kd, N, s, t⟩] W fun x w' => x = .returned (.bool true) ∧ ∃ l', PS W0 G w' b mb l' l' ∧ l'.length ≤ l.length + 30 := by
  subst hk
  obtain ⟨q0, hq0⟩ : ∃ q0, q0 = W.heap.size := ⟨_, rfl⟩
  obtain ⟨W1, hW1⟩ : ∃ W1, W1 = wBox W b mb ⟨ot, 9, N, s, t⟩ := ⟨_, rfl⟩
  have t1 : Tch (fun _ => False) W W1 := by rw [hW1]; exact (Tch.alloc _ _ _).allocR _
  obtain ⟨k0, k1⟩ := two_new W (.cells #[pv b, pv mb] 53) (.cells (opC ⟨ot, 9, N, s, t⟩) 55)
  have k0' : W1.heap[q0]? = some (.cells #[pv b, pv mb] 53 (0, 0)) := by rw [hW1, hq0]; exact k0
  have k1' : W1.heap[q0 + 1]? = some (.cells (opC ⟨ot, 9, N, s, t⟩) 55 (0, 0)) := by rw [hW1, hq0]; exact k1
  obtain ⟨x0, x1, x2, x4, x3, x5⟩ := bx_of (p := ⟨ot, 9, N, s, t⟩) k0' k1'
  obtain ⟨G2, -, hg1, -, hg2⟩ := h.anew
  obtain ⟨hS0, hS1⟩ := hg2 W1 t1
  have HX : Hid (∀ w' m m', PS W1 G2 w' b mb m m' → BX w' q0 b mb ⟨ot, 9, N, s, t⟩) := fun w' m m' hh => bx_of (hh.cell k0' (fun hG => by have := hg1 _ hG; omega)) (hh.cell k1' (fun hG => by have := hg1 _ hG; omega))
  have HS1 : Hid (∀ w' m m', PS W1 G2 w' b mb m m' → PS W0 G w' b mb m m') := fun w' m m' hh => (hS1 w' b mb m m' hh).1
  have HW1 : Hid (W1 = wBox W b mb ⟨ot, 9, N, s, t⟩) := hW1
  have Hq0 : Hid (q0 = W.heap.size) := hq0
  have Hl : Hid (l.length < 900000) := hl
  have HS0 : Hid (PS W1 G2 W1 b mb l l) := hS0
  have Hb : Hid (-9223372036854775808 ≤ N ∧ N ≤ 9223372036854775807) := ⟨hb1, hb2⟩
  have Hs : Hid (s.size < 1000000000000000000) := hs
  have HNb : Hid (∀ n W, Calls Try.prog 10 #[.string s, .int .i64 n] W fun x w' => ∃ k, x = .returned (.string k) ∧ Tch (fun _ => False) W w') := fun n W => by
    obtain ⟨k, hk⟩ := numbered_ex s n hs
    refine (hk W).mono ?_
    rintro x w' ⟨h1, h2⟩
    exact ⟨k, h1, h2⟩
  rw [hW1, hq0] at x0 x1 x2 x3 x4 x5
  clear k0 k1 k0' k1' h hg1 hg2 hl hb1 hb2 hs t1 hW1 hq0 hS0 hS1
  go_enter Try.func24, Try.ntmps24
  go_wp2_with fail
  have hw : W1 = ((W.alloc (.cells #[pv b, pv mb] 53)).alloc (.cells #[.bool ot, .int .i64 9, .int .i64 N, .string s, .string t] 55)) := HW1.out
  rw [← hw, ← Hq0.out]
  clear hw HW1 Hq0
  clear x0 x1 x2 x3 x4 x5
  have HLp : Hid (PS W1 G2 W1 b mb l l) := HS0.out
  clear HS0
  go_loopw [13] (fun s13 wr => ∃ (wL : World) (i : Nat) (ml : List It), wL = wr ∧ s13 = .int .i64 i ∧ i ≤ 30 ∧ Hid (PS W1 G2 wL b mb ml ml) ∧ Hid (ml.length ≤ l.length + i)) (fun s13 _ => 30 - (intOf s13).toNat)
  case atStart => exact ⟨_, 0, l, rfl, rfl, by omega, HLp, by show _ ≤ _; omega⟩
  case round =>
    obtain ⟨wr, i, ml, rfl, rfl, hi, HM, HlM⟩ := hrel
    clear HLp
    obtain ⟨x0, x1, x2, x4, x3, x5⟩ := HX.out _ _ _ HM.out
    by_cases hlt : (i : Int) < 30
    · go_wp2_with fail
      refine (HNb.out _ _).mono ?_
      rintro y w2 ⟨k, rfl, t2⟩
      have hS := HM.out.more t2
      clear t2 x0 x1 x2 x3 x4 x5
      obtain ⟨x0, x1, x2, x4, x3, x5⟩ := HX.out _ _ _ hS
      have q := del1 k hS (by have := Hl.out; have := HlM.out; omega)
      clear hS
      go_wp2_with fail
      refine q.mono ?_
      clear q x0 x1 x2 x3 x4 x5
      rintro y w3 ⟨m2, old, th, rfl, hr, hS⟩
      have HlM2 : Hid (m2.length ≤ l.length + (i + 1)) := by have := HlM.out; have := hr.le_len; show _ ≤ _; omega
      obtain ⟨x0, x1, x2, x4, x3, x5⟩ := HX.out _ _ _ hS
      have q := del2 hS hr (by have := Hl.out; have := HlM.out; omega)
      clear hS hr
      go_wp2_with fail
      refine q.mono ?_
      clear q x0 x1 x2 x3 x4 x5
      rintro y w4 ⟨rfl, hS⟩
      have HM2 : Hid (PS W1 G2 w4 b mb m2 m2) := hS
      have e1 : (old == old) = true := by simp
      have e2 : (th == th) = true := by simp
      clear hS HM HlM
      go_wp2_with fail
      clear e1 e2
      go_roundw
      case measure => simp [intOf]; omega
      case rel => exact ⟨_, i + 1, m2, rfl, by go_num, by omega, HM2, HlM2⟩
    · obtain rfl : i = 30 := by omega
      clear hlt hi x0 x1 x2 x3 x4 x5
      have HS : Hid (PS W1 G2 wr b mb ml ml) := HM.out
      have HlE : Hid (ml.length ≤ l.length + 30) := HlM.out
      clear HM HlM
      go_wp2_with fail
      obtain ⟨ln, hln⟩ : ∃ ln, ln = ml.length := ⟨_, rfl⟩
      obtain ⟨ht, ko, vo, kc', vc', y0, HH, HFl, HL⟩ : ∃ (ht : Nat) (ko vo : Option Addr) (kc' vc' : Nat), wr.cell? ⟨mb, 0, none⟩ = some (.slice ko ln kc') ∧ Hid (∀ m, Calls Try.prog 12 #[pv b] (wr.drewN m) fun x w' => x = .returned (.int .i64 ht) ∧ w' = wr.drewN m) ∧ Hid (∀ m, Calls Try.prog 11 #[.int .i64 ln, .int .i64 ht] (wr.drewN m) fun x w' => x = .returned (.bool true) ∧ w' = wr.drewN m) ∧ Hid (∀ w2, Tch (fun _ => False) wr w2 → Calls Try.prog 13 #[pv b] w2 fun x w' => x = .returned (.int .i64 ln) ∧ w' = w2) := by
        obtain ⟨_, F, FM, ht, h1, h2, _⟩ := HS.out
        obtain ⟨ko, vo, c1, c2, z0, z1, _⟩ := h2.read
        have hlow : ht ≤ 8 := by
          have hf := h1.floors
          have := Hl.out
          have := HlE.out
          rcases hf with ⟨_, h⟩ | ⟨_, h, h3, _⟩
          · omega
          · rcases Nat.lt_or_ge 8 ht with h9 | h9
            · have : 8 ^ 8 ≤ 8 ^ (ht - 1) := Nat.pow_le_pow_right (by omega) (by omega)
              omega
            · exact h9
        subst hln
        have ht' : ∀ m, TW (wr.drewN m) b ml ht F := fun m => h1.tch ((Tch.refl _ _).drewN m) (fun _ _ h => h)
        exact ⟨ht, ko, vo, c1, c2, z0, fun m => height_t _ b ml ht F (ht' m) (by omega), fun m => floors_any _ ht _ hlow (by have := Hl.out; have := HlE.out; omega) h1.floors, fun w2 t2 => len_t _ b ml ht F (h1.tch t2 (fun _ _ h => h))⟩
      obtain ⟨x0, x1, -, -, -, -⟩ := HX.out _ _ _ HS.out
      have HE : Hid (∀ w2, Tch (fun _ => False) wr w2 → ∃ l', PS W0 G w2 b mb l' l' ∧ l'.length ≤ l.length + 30) := fun w2 t2 => ⟨ml, HS1.out _ _ _ (HS.out.more t2), HlE.out⟩
      have e7 : ((ln : Int) == (ln : Int)) = true := by simp
      clear hln
      go_quiet ((first | (go_at_call 12; exact Calls.quiet_of_same (HH.out _)) | (go_at_call 11; exact Calls.quiet_of_same (HFl.out _))))
      obtain ⟨w5, hw5⟩ : ∃ w5, w5 = wr.drewN nq := ⟨_, rfl⟩
      rw [← hw5]
      have t5 : Tch (fun _ => False) wr w5 := by rw [hw5]; exact (Tch.refl _ _).drewN nq
      have y5 : w5.cell? ⟨mb, 0, none⟩ = some (.slice ko ln kc') := (t5.cell (p := ⟨mb, 0, none⟩) (cell_lt y0) (fun h => h)).trans y0
      clear x0 x1 hw5 y0 HH HFl
      obtain ⟨x0, x1, -, -, -, -⟩ := HX.out _ _ _ (HS.out.more t5)
      have HL1 : Hid (∀ m, Calls Try.prog 13 #[pv b] (w5.drewN m) fun x w' => x = .returned (.int .i64 ln) ∧ w' = w5.drewN m) := fun m => HL.out _ (t5.drewN m)
      have HE5 : Hid (∀ m, ∃ l', PS W0 G (w5.drewN m) b mb l' l' ∧ l'.length ≤ l.length + 30) := fun m => HE.out _ (t5.drewN m)
      clear HL HE t5 HS HX
      go_wp2_with fail
      go_quiet ((go_at_call 13; exact Calls.quiet_of_same (HL1.out _)))
      go_wp2_with fail
      go_ret
      exact ⟨rfl, HE5.out _⟩
end Go.Proofs.Ytnjiiebjdpipjaa
