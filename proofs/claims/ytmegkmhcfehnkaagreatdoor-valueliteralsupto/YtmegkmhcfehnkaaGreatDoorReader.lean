import Derived.Test.YtmegkmhcfehnkaaGreatDoorClone
/- The Reader of package code, call by call. -/
namespace Go.Proofs.YtmegkmhcfehnkaaGreatDoor
open Go.RowKit

theorem ret_str {x y : ByteArray} (h : x = y) : Ending.returned (.string x) = .returned (.string y) := by rw [h]
theorem ret_int {k : IntKind} {x y : Int} (h : x = y) : Ending.returned (.int k x) = .returned (.int k y) := by rw [h]

/-- What was left is a text's end. -/
theorem tail_skip (S : ByteArray) (a n : Nat) : (S.extract a S.size).extract n (S.extract a S.size).size = S.extract (a + n) S.size := by
  apply ByteArray.ext
  apply Array.toList_inj.1
  rw [Lib.extract_data, Lib.extract_data, Lib.extract_data]
  have hs : (S.extract a S.size).size = S.size - a := by simp
  rw [hs] at *
  rw [List.take_of_length_le (by simp), List.take_of_length_le (by simp), List.take_of_length_le (by simp), List.drop_drop]
theorem tail_size (S : ByteArray) (a : Nat) : (S.extract a S.size).size = S.size - a := by simp
theorem tail_list (S : ByteArray) (a : Nat) : (S.extract a S.size).data.toList = S.data.toList.drop a := by
  rw [Lib.extract_data, List.take_of_length_le (by simp)]
theorem tail_front (S : ByteArray) (a n : Nat) : (S.extract a S.size).extract 0 n = S.extract a (a + n) := by
  apply ByteArray.ext
  apply Array.toList_inj.1
  rw [Lib.extract_data, Lib.extract_data, Lib.extract_data]
  rw [List.take_of_length_le (l := List.drop a S.data.toList) (by simp)]
  simp

theorem tail_head (S : ByteArray) (a : Nat) (ha : a < S.size) (h : 0 < (S.extract a S.size).size) : wrap64 ((S.extract a S.size)[0].toNat : Int) = ((S.data.toList.getD a 0).toNat : Int) := by
  rw [wrap64_byte]
  have e1 : (S.extract a S.size)[0] = S[a] := by simp [ByteArray.getElem_extract]
  have e2 : S.data.toList.getD a 0 = S[a] := by
    rw [List.getD_eq_getElem?_getD, List.getElem?_eq_getElem (by simpa using ha)]; rfl
  rw [e1, e2]
/-- A Reader of the text S at its place a. -/
structure RD (w : World) (b : Nat) (S : ByteArray) (a : Nat) (e : Int) : Prop where
  st : RS w b (S.extract a S.size) a e
  le : a ≤ S.size
theorem RD.tch {T : Nat → Prop} {w w' : World} {b : Nat} {S : ByteArray} {a : Nat} {e : Int} (h : RD w b S a e) (t : Tch T w w') (hb : ¬ T b) : RD w' b S a e := ⟨h.st.tch t hb, h.le⟩

theorem take_any (b : Nat) (S : ByteArray) (a n : Nat) (w : World) (h : RD w b S a 0) (hS : S.size ≤ 281474976710656) (hn : a + n ≤ S.size) :
    Calls Tryz.prog 57 #[.pointer (some ⟨b, 0, none⟩), .int .i64 n] w fun x w' => x = .returned (.string (S.extract a (a + n))) ∧ RD w' b S (a + n) 0 ∧ Tch (fun i => i = b) w w' := by
  have c0 := h.st.c0
  have hl : b < w.heap.size := cell_lt h.st.c0
  have hz := tail_size S a
  have hn2 : n ≤ (S.extract a S.size).size := by omega
  have hn3 : (n : Int) ≤ ((S.extract a S.size).size : Int) := by omega
  have hlim : ((S.extract a S.size).extract 0 n).size ≤ 281474976710656 := by simp; omega
  go_enter Tryz.func57, Tryz.ntmps57
  go_wp2_with (first | (go_at_call 69; go_must (refine (clone_any _ _ hlim).mono ?_); rintro e w1 ⟨rfl, hb⟩; have h1 := h.st.tch (S := fun _ => False) (Tch.of_below hb (Nat.le_refl _)) (fun h => h)) | (go_at_call 42; go_must (refine (skip_any b _ a n 0 _ h1 hn2 (by omega)).mono ?_); rintro e w2 ⟨rfl, h2, t2⟩))
  go_ret
  refine ⟨ret_str (tail_front S a n), ⟨?_, hn⟩, ((Tch.of_below hb (Nat.le_refl _)).trans' t2)⟩
  have h3 := h2
  rw [tail_skip] at h3
  exact h3

theorem RD.fail {w' : World} {b : Nat} {S : ByteArray} {a : Nat} {c : Int} (hle : a ≤ S.size) (h : RS w' b (S.extract a S.size) a c) : RD w' b S a c := ⟨h, hle⟩
theorem RD.skip {w' : World} {b : Nat} {S : ByteArray} {a n : Nat} {c : Int} (hle : a + n ≤ S.size) (h : RS w' b ((S.extract a S.size).extract n (S.extract a S.size).size) ((a + n : Nat) : Int) c) : RD w' b S (a + n) c := by
  rw [tail_skip] at h; exact ⟨h, hle⟩

set_option maxHeartbeats 1000000 in
theorem number_any (b : Nat) (S : ByteArray) (a : Nat) (e : Int) (last top : Nat) (w : World) (h : RD w b S a e) (hS : S.size ≤ 281474976710656) (hl : last ≤ 10) (hl0 : 0 < last) (ht : top ≤ 127) (h10 : last = 10 → top ≤ 1) :
    Calls Tryz.prog 55 #[.pointer (some ⟨b, 0, none⟩), .int .i64 last, .int .i64 top] w fun x w' => x = .returned (.int .u64 (numR last top S a e).1) ∧ RD w' b S (numR last top S a e).2.1 (numR last top S a e).2.2 ∧ Tch (fun i => i = b) w w' := by
  have c0 := h.st.c0; have c2 := h.st.c2
  have hl' : b < w.heap.size := cell_lt h.st.c0
  by_cases he : e = 0
  · subst he
    rw [errV_zero] at c2
    have hz : (S.extract a S.size).size ≤ maxLen := by rw [tail_size]; unfold maxLen; omega
    rcases hd : dgs last top (S.data.toList.drop a) 0 0 with ⟨n, k, c⟩
    have HD : Hid (dgs last top (S.extract a S.size).data.toList 0 0 = (n, k, c)) := by show _ = _; rw [tail_list]; exact hd
    have dig := digits_any (S.extract a S.size) last top w hz hl hl0 ht h10
    rw [HD.out] at dig
    by_cases hc : c = 0
    · subst hc
      have HR : Hid (numR last top S a 0 = (n, a + k, 0)) := numR_ok hd
      obtain ⟨hk, _⟩ := dgs_ok hl ht h10 _ _ _ _ _ (by decide) hl0 hd
      have hk2 : k ≤ S.size - a := by simpa using hk
      have hle := h.le
      have hk3 : k ≤ (S.extract a S.size).size := by rw [tail_size]; exact hk2
      clear hd hk
      go_enter Tryz.func55, Tryz.ntmps55
      go_wp2_with (first | (go_at_call 56; refine dig.mono ?_; rintro x w1 ⟨⟨n1, k1, c1, hh, rfl⟩, rfl⟩; simp only [Prod.mk.injEq] at hh; obtain ⟨rfl, rfl, rfl⟩ := hh) | (go_at_call 42; refine (skip_any b _ a _ 0 _ h.st hk3 (by omega)).mono ?_; rintro x w2 ⟨rfl, h2, t2⟩))
      go_ret
      rw [HR.out]
      exact ⟨rfl, RD.skip (by omega) h2, t2⟩
    · have HR : Hid (numR last top S a 0 = (0, a, c)) := numR_bad hd hc
      have hcb : (c != 0) = true := by simpa using hc
      have hle := h.le
      clear hd
      go_enter Tryz.func55, Tryz.ntmps55
      go_wp2_with (first | (go_at_call 56; refine dig.mono ?_; rintro x w1 ⟨⟨n1, k1, c1, hh, rfl⟩, rfl⟩; simp only [Prod.mk.injEq] at hh; obtain ⟨rfl, rfl, rfl⟩ := hh) | (go_at_call 41; refine (rfail_any b _ a _ _ h.st hc).mono ?_; rintro x w2 ⟨rfl, h2, t2⟩))
      go_ret
      rw [HR.out]
      exact ⟨rfl, RD.fail hle h2, t2⟩
  · rw [errV_ne he] at c2
    rw [numR_wrong he]
    go_enter Tryz.func55, Tryz.ntmps55
    go_wp2
    go_ret
    exact ⟨rfl, h, Tch.refl _ _⟩

theorem unfold_any (u : Nat) (w : World) (hu : u < 18446744073709551616) :
    Calls Tryz.prog 54 #[.int .u64 u] w fun x w' => x = .returned (.int .i64 (unf u)) ∧ w' = w := by
  have h1 : (u : Int) / 2 ≤ 9223372036854775807 := by omega
  have h2 : (0 : Int) ≤ u := by omega
  by_cases hp : u % 2 = 0
  · have hp2 : (u : Int) % 2 = 0 := by omega
    have HU : Hid (unf u = (u : Int) / 2) := by show _ = _; simp [unf, hp]
    go_enter Tryz.func54, Tryz.ntmps54
    go_wp2
    go_ret
    exact ⟨ret_int HU.out.symm, rfl⟩
  · have hp2 : ¬ (u : Int) % 2 = 0 := by omega
    have HU : Hid (unf u = -((u : Int) / 2) - 1) := by show _ = _; simp [unf, hp]
    go_enter Tryz.func54, Tryz.ntmps54
    go_wp2
    go_ret
    exact ⟨ret_int HU.out.symm, rfl⟩

theorem rbyte_any (b : Nat) (S : ByteArray) (a : Nat) (e : Int) (w : World) (h : RD w b S a e) (hS : S.size ≤ 281474976710656) :
    Calls Tryz.prog 25 #[.pointer (some ⟨b, 0, none⟩)] w fun x w' => x = .returned (.int .i64 (byteR S a e).1) ∧ RD w' b S (byteR S a e).2.1 (byteR S a e).2.2 ∧ Tch (fun i => i = b) w w' := by
  have c0 := h.st.c0; have c2 := h.st.c2
  have hle := h.le
  by_cases he : e = 0
  · subst he
    rw [errV_zero] at c2
    by_cases ha : a < S.size
    · have hne := nonempty_of_size (r := S.extract a S.size) (by rw [tail_size]; omega)
      have h1 : 1 ≤ (S.extract a S.size).size := by rw [tail_size]; omega
      have h1' : (0 : Int) < (S.extract a S.size).size := by omega
      have HR : Hid (byteR S a 0 = ((S.data.toList.getD a 0).toNat, a + 1, 0)) := by show _ = _; simp [byteR, ha]
      go_enter Tryz.func25, Tryz.ntmps25
      go_wp2_with (go_at_call 42; refine (skip_any b _ a 1 0 _ h.st h1 (by omega)).mono ?_; rintro x w2 ⟨rfl, h2, t2⟩)
      go_ret
      rw [HR.out]
      exact ⟨ret_int (tail_head S a ha _), RD.skip (by omega) h2, t2⟩
    · have hem := empty_of_size (r := S.extract a S.size) (by rw [tail_size]; omega)
      have HR : Hid (byteR S a 0 = (0, a, 11)) := by show _ = _; simp [byteR, ha]
      go_enter Tryz.func25, Tryz.ntmps25
      go_wp2_with (go_at_call 41; refine (rfail_any b _ a 11 _ h.st (by omega)).mono ?_; rintro x w2 ⟨rfl, h2, t2⟩)
      go_ret
      rw [HR.out]
      exact ⟨rfl, RD.fail hle h2, t2⟩
  · rw [errV_ne he] at c2
    have HR : Hid (byteR S a e = (0, a, e)) := by show _ = _; simp [byteR, he]
    go_enter Tryz.func25, Tryz.ntmps25
    go_wp2
    go_ret
    rw [HR.out]
    exact ⟨rfl, h, Tch.refl _ _⟩

set_option maxHeartbeats 1000000 in
theorem rtext_any (b : Nat) (S : ByteArray) (a : Nat) (e most : Int) (w : World) (h : RD w b S a e) (hS : S.size ≤ 281474976710656) :
    Calls Tryz.prog 44 #[.pointer (some ⟨b, 0, none⟩), .int .i64 most] w fun x w' => x = .returned (.string (textR most S a e).1) ∧ RD w' b S (textR most S a e).2.1 (textR most S a e).2.2 ∧ Tch (fun i => i = b) w w' := by
  have c0 := h.st.c0; have c2 := h.st.c2
  have hle := h.le
  by_cases he : e = 0
  · subst he
    rw [errV_zero] at c2
    by_cases hm : most < 0
    · have HR : Hid (textR most S a 0 = (⟨#[]⟩, a, 1)) := by show _ = _; simp [textR, hm]
      go_enter Tryz.func44, Tryz.ntmps44
      go_wp2_with (go_at_call 41; refine (rfail_any b _ a 1 _ h.st (by omega)).mono ?_; rintro x w2 ⟨rfl, h2, t2⟩)
      go_ret
      rw [HR.out]
      exact ⟨rfl, RD.fail hle h2, t2⟩
    · have hz : (S.extract a S.size).size ≤ maxLen := by rw [tail_size]; unfold maxLen; omega
      rcases hd : dgs 9 127 (S.data.toList.drop a) 0 0 with ⟨n, k, c⟩
      have HD : Hid (dgs 9 127 (S.extract a S.size).data.toList 0 0 = (n, k, c)) := by show _ = _; rw [tail_list]; exact hd
      have dig := digits_any (S.extract a S.size) 9 127 w hz (by omega) (by omega) (by omega) (by omega)
      rw [HD.out] at dig
      have HT : Hid (textR most S a 0 = if c ≠ 0 then (⟨#[]⟩, a, c) else if most < n then (⟨#[]⟩, a, 12) else if S.size - a - k < n then (⟨#[]⟩, a, 11) else (S.extract (a + k) (a + k + n), a + k + n, 0)) := by
        show _ = _; unfold textR; rw [if_neg (by simp), if_neg hm, hd]
      by_cases hc : c = 0
      · subst hc
        obtain ⟨hk, _, hk9, _, hn⟩ := dgs_ok (by omega) (by omega) (by omega) _ _ _ _ _ (by decide) (by omega) hd
        have hn63 : n < 9223372036854775808 := by
          have h2 := pow_le_of hk9
          have h3 : (128 : Nat) ^ 9 = 9223372036854775808 := by decide
          omega
        have hn3 : (n : Int) ≤ 9223372036854775807 := by omega
        have hk2 : k ≤ S.size - a := by simpa using hk
        have hk3 : k ≤ (S.extract a S.size).size := by rw [tail_size]; exact hk2
        clear hd hk hn hk9 hz hn63
        by_cases h12 : most < n
        · have HR : Hid (textR most S a 0 = (⟨#[]⟩, a, 12)) := by show _ = _; rw [HT.out, if_neg (by simp), if_pos h12]
          go_enter Tryz.func44, Tryz.ntmps44
          go_wp2_with (first | (go_at_call 56; refine dig.mono ?_; rintro x w1 ⟨⟨n1, k1, c1, hh, rfl⟩, rfl⟩; simp only [Prod.mk.injEq] at hh; obtain ⟨rfl, rfl, rfl⟩ := hh) | (go_at_call 41; refine (rfail_any b _ a 12 _ h.st (by omega)).mono ?_; rintro x w2 ⟨rfl, h2, t2⟩))
          go_ret
          rw [HR.out]
          exact ⟨rfl, RD.fail hle h2, t2⟩
        · by_cases h11 : S.size - a - k < n
          · have HR : Hid (textR most S a 0 = (⟨#[]⟩, a, 11)) := by show _ = _; rw [HT.out, if_neg (by simp), if_neg h12, if_pos h11]
            have h11' : ((S.size - a : Nat) : Int) - k < n := by omega
            go_enter Tryz.func44, Tryz.ntmps44
            go_wp2_with (first | (go_at_call 56; refine dig.mono ?_; rintro x w1 ⟨⟨n1, k1, c1, hh, rfl⟩, rfl⟩; simp only [Prod.mk.injEq] at hh; obtain ⟨rfl, rfl, rfl⟩ := hh) | (go_at_call 41; refine (rfail_any b _ a 11 _ h.st (by omega)).mono ?_; rintro x w2 ⟨rfl, h2, t2⟩))
            go_ret
            rw [HR.out]
            exact ⟨rfl, RD.fail hle h2, t2⟩
          · have HR : Hid (textR most S a 0 = (S.extract (a + k) (a + k + n), a + k + n, 0)) := by show _ = _; rw [HT.out, if_neg (by simp), if_neg h12, if_neg h11]
            have h11' : ¬ ((S.size - a : Nat) : Int) - k < n := by omega
            have hak : a + k + n ≤ S.size := by omega
            go_enter Tryz.func44, Tryz.ntmps44
            go_wp2_with (first | (go_at_call 56; refine dig.mono ?_; rintro x w1 ⟨⟨n1, k1, c1, hh, rfl⟩, rfl⟩; simp only [Prod.mk.injEq] at hh; obtain ⟨rfl, rfl, rfl⟩ := hh) | (go_at_call 42; refine (skip_any b _ a _ 0 _ h.st hk3 (by omega)).mono ?_; rintro x w2 ⟨rfl, h2, t2⟩; have h3 := RD.skip (by omega) h2) | (go_at_call 57; refine (take_any b S _ _ _ h3 hS hak).mono ?_; rintro x w3 ⟨rfl, h4, t3⟩))
            go_ret
            rw [HR.out]
            exact ⟨rfl, h4, t2.trans' t3⟩
      · have HR : Hid (textR most S a 0 = (⟨#[]⟩, a, c)) := by show _ = _; rw [HT.out, if_pos hc]
        have hcb : (c != 0) = true := by simpa using hc
        obtain ⟨rfl, rfl, _⟩ := dgs_zero _ _ _ _ _ _ hd hc
        clear hd hz
        go_enter Tryz.func44, Tryz.ntmps44
        go_wp2_with (first | (go_at_call 56; refine dig.mono ?_; rintro x w1 ⟨⟨n1, k1, c1, hh, rfl⟩, rfl⟩; simp only [Prod.mk.injEq] at hh; obtain ⟨rfl, rfl, rfl⟩ := hh) | (go_at_call 41; refine (rfail_any b _ a _ _ h.st hc).mono ?_; rintro x w2 ⟨rfl, h2, t2⟩))
        go_ret
        rw [HR.out]
        exact ⟨rfl, RD.fail hle h2, t2⟩
  · rw [errV_ne he] at c2
    have HR : Hid (textR most S a e = (⟨#[]⟩, a, e)) := by show _ = _; simp [textR, he]
    go_enter Tryz.func44, Tryz.ntmps44
    go_wp2
    go_ret
    rw [HR.out]
    exact ⟨rfl, h, Tch.refl _ _⟩

theorem rint_any (b : Nat) (S : ByteArray) (a : Nat) (e : Int) (w : World) (h : RD w b S a e) (hS : S.size ≤ 281474976710656) :
    Calls Tryz.prog 43 #[.pointer (some ⟨b, 0, none⟩)] w fun x w' => x = .returned (.int .i64 (unf (numR 10 1 S a e).1)) ∧ RD w' b S (numR 10 1 S a e).2.1 (numR 10 1 S a e).2.2 ∧ Tch (fun i => i = b) w w' := by
  obtain ⟨hlt, _⟩ := numR_lt (last := 10) (top := 1) (by omega) (by omega) (by omega) (by omega) S a e
  have num := number_any b S a e 10 1 w h hS (by omega) (by omega) (by omega) (by omega)
  rcases hR : numR 10 1 S a e with ⟨n, a', e'⟩
  rw [hR] at num hlt
  clear hR
  simp only [] at num hlt
  go_enter Tryz.func43, Tryz.ntmps43
  go_wp2_with (first | (go_at_call 55; refine num.mono ?_; rintro x w1 ⟨rfl, h1, t1⟩) | (go_at_call 54; refine (unfold_any _ _ hlt).mono ?_; rintro x w2 ⟨rfl, rfl⟩))
  go_ret
  exact ⟨rfl, h1, t1⟩
end Go.Proofs.YtmegkmhcfehnkaaGreatDoor
