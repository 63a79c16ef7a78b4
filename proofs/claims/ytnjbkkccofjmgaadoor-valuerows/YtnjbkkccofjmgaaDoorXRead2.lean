/- The document's Reader (confluenceref1), its calls. -/
import Derived.Test.YtnjbkkccofjmgaaDoorXReader
namespace Go.Proofs.YtnjbkkccofjmgaaDoor
open Go.RowKit

theorem xslice (S : ByteArray) (a m : Nat) (h : a + m ≤ S.size) (w : World) : (Instr.slice 9 (.string S) (some (.int .i64 (a : Int))) (some (.int .i64 ((a : Int) + m))) none).run Tryd.prog w = .ok (.string (S.extract a (a + m))) w := by
  rw [run_slice_string_if (h := Tryd.underlying9), if_pos (by omega), if_pos (by omega)]
  have e : ((a : Int) + m).toNat = a + m := by omega
  rw [e, Int.toNat_natCast]
theorem xindex0 (S : ByteArray) (a : Nat) (h : a < S.size) (w : World) :
    (Instr.index 9 (.string S) (.int .i64 (a : Int))).run Tryd.prog w = .ok (.int .u8 ((S.data.toList.getD a 0).toNat : Int)) w := by
  rw [run_index_string (h := Tryd.underlying9), dif_pos (by omega)]
  simp only [Int.toNat_natCast]
  have e2 : S.data.toList.getD a 0 = S[a] := by
    rw [List.getD_eq_getElem?_getD, List.getElem?_eq_getElem (by simpa using h)]; rfl
  rw [e2]

set_option maxHeartbeats 1000000 in
theorem xbyte_any (b : Nat) (S : ByteArray) (a : Nat) (e : Int) (w : World) (h : XS w b S a e) (hS : S.size ≤ 281474976710656) :
    Calls Tryd.prog 52 #[.pointer (some ⟨b, 0, none⟩)] w fun x w' => x = .returned (.int .i64 (byteR S a e).1) ∧ XS w' b S (byteR S a e).2.1 (byteR S a e).2.2 ∧ Tch (fun i => i = b) w w' := by
  have c0 := h.c0; have c1 := h.c1; have c2 := h.c2; have f1 := h.f1
  have hle := h.le
  by_cases he : e = 0
  · subst he
    by_cases ha : a < S.size
    · obtain ⟨B1, hB1⟩ : ∃ B1 : Nat, B1 = (S.data.toList.getD a 0).toNat := ⟨_, rfl⟩
      have hb255 : (B1 : Int) ≤ 255 := by have := (S.data.toList.getD a 0).toNat_lt; omega
      have hix := xindex0 S a ha
      rw [← hB1] at hix
      have HR : Hid (byteR S a 0 = (B1, a + 1, 0)) := by show _ = _; rw [hB1]; unfold byteR; rw [if_neg (by simp), if_pos ha]
      clear hB1
      have hne : ¬ (a : Int) = S.size := by omega
      have hx : ∀ n, XS (w.drewN n) b S a 0 := fun n => h.tch ((Tch.refl (fun _ => False) w).drewN n) (fun h => h)
      have hsub : IntKind.i64.wrap ((a : Int) + 1 - 1) = a := by rw [IntKind.wrap_i64]; omega
      go_enter Tryd.func52, Tryd.ntmps52
      go_wp2
      go_quiet (fail)
      go_wp2
      go_quiet (fail)
      go_wp2
      go_ret
      rw [HR.out]
      exact ⟨rfl, ((hx _).set1 (a + 1) (by omega)).tch ((Tch.refl (fun _ => False) _).drewN _) (fun h => h), Tch.drewN (Tch.trans' (Tch.drewN (Tch.refl (fun i => i = b) w) _) (Tch.setCell (fun i => i = b) _ ⟨b, 1, none⟩ _ rfl)) _⟩
    · have hna : ((a : Int) == S.size) = true := by simp; omega
      have HR : Hid (byteR S a 0 = (0, a, 11)) := by show _ = _; unfold byteR; rw [if_neg (by simp), if_neg ha]
      have hx : ∀ n, XS (w.drewN n) b S a 0 := fun n => h.tch ((Tch.refl (fun _ => False) w).drewN n) (fun h => h)
      go_enter Tryd.func52, Tryd.ntmps52
      go_wp2
      go_quiet (fail)
      go_wp2_with (go_at_call 76; refine (xwrong_any b S a 11 _ (hx _)).mono ?_; rintro x w2 ⟨rfl, h2, t2⟩)
      go_ret
      rw [HR.out]
      exact ⟨rfl, h2, ((Tch.refl _ w).drewN _).trans' t2⟩
  · have hn : (e != 0) = true := by simpa using he
    have HR : Hid (byteR S a e = (0, a, e)) := by show _ = _; simp [byteR, he]
    go_enter Tryd.func52, Tryd.ntmps52
    go_wp2
    go_ret
    rw [HR.out]
    exact ⟨rfl, h, Tch.refl _ _⟩

set_option maxHeartbeats 1000000 in
theorem xint_any (b : Nat) (S : ByteArray) (a : Nat) (e : Int) (w : World) (h : XS w b S a e) (hS : S.size ≤ 281474976710656) :
    Calls Tryd.prog 53 #[.pointer (some ⟨b, 0, none⟩)] w fun x w' => x = .returned (.int .i64 (unf (numR 10 1 S a e).1)) ∧ XS w' b S (numR 10 1 S a e).2.1 (numR 10 1 S a e).2.2 ∧ Tch (fun i => i = b) w w' := by
  have c2 := h.c2
  have hle := h.le
  by_cases he : e = 0
  · subst he
    have num := xnumber_any b S a 0 10 1 w h hS (by omega) (by omega) (by omega) (by omega)
    rcases hd : dgs 10 1 (S.data.toList.drop a) 0 0 with ⟨n, k, c⟩
    rw [hd] at num
    by_cases hc : c = 0
    · subst hc
      have HR : Hid (numR 10 1 S a 0 = (n, a + k, 0)) := numR_ok hd
      obtain ⟨hk, _, _, hn, _⟩ := dgs_ok (by omega) (by omega) (by omega) _ _ _ _ _ (by decide) (by omega) hd
      have h1 : (n : Int) / 2 ≤ 9223372036854775807 := by omega
      have h2 : (0 : Int) ≤ n := by omega
      have hk2 : k ≤ S.size - a := by simpa using hk
      have hk3 : a + k ≤ S.size := by omega
      clear hd hk hk2
      by_cases hp : n % 2 = 0
      · have hp2 : (n : Int) % 2 = 0 := by omega
        have HU : Hid (unf n = (n : Int) / 2) := by show _ = _; simp [unf, hp]
        clear hn hp
        go_enter Tryd.func53, Tryd.ntmps53
        go_wp2_with (go_at_call 77; refine num.mono ?_; rintro x w1 ⟨⟨n1, k1, c1, hh, rfl⟩, t1⟩; simp only [Prod.mk.injEq] at hh; obtain ⟨rfl, rfl, rfl⟩ := hh; have h1 := h.tch t1 (fun h => h); have d1 := h1.c1; have g1 := h1.f1)
        go_ret
        rw [HR.out]
        exact ⟨ret_int HU.out.symm, h1.set1 _ hk3, (t1.mono (fun _ _ h => h.elim)).trans' (Tch.setCell _ _ ⟨b, 1, none⟩ _ rfl)⟩
      · have hp2 : ¬ (n : Int) % 2 = 0 := by omega
        have HU : Hid (unf n = -((n : Int) / 2) - 1) := by show _ = _; simp [unf, hp]
        clear hn hp
        go_enter Tryd.func53, Tryd.ntmps53
        go_wp2_with (go_at_call 77; refine num.mono ?_; rintro x w1 ⟨⟨n1, k1, c1, hh, rfl⟩, t1⟩; simp only [Prod.mk.injEq] at hh; obtain ⟨rfl, rfl, rfl⟩ := hh; have h1 := h.tch t1 (fun h => h); have d1 := h1.c1; have g1 := h1.f1)
        go_ret
        rw [HR.out]
        exact ⟨ret_int HU.out.symm, h1.set1 _ hk3, (t1.mono (fun _ _ h => h.elim)).trans' (Tch.setCell _ _ ⟨b, 1, none⟩ _ rfl)⟩
    · have HR : Hid (numR 10 1 S a 0 = (0, a, c)) := numR_bad hd hc
      have hcb : (c != 0) = true := by simpa using hc
      clear hd
      go_enter Tryd.func53, Tryd.ntmps53
      go_wp2_with (first | (go_at_call 77; refine num.mono ?_; rintro x w1 ⟨⟨n1, k1, c1, hh, rfl⟩, t1⟩; simp only [Prod.mk.injEq] at hh; obtain ⟨rfl, rfl, rfl⟩ := hh; have h1 := h.tch t1 (fun h => h)) | (go_at_call 76; refine (xwrong_any b S a _ _ h1).mono ?_; rintro x w2 ⟨rfl, h2, t2⟩))
      go_ret
      rw [HR.out]
      exact ⟨ret_int (by simp [unf]), h2, (t1.mono (fun _ _ h => h.elim)).trans' t2⟩
  · have hn : (e != 0) = true := by simpa using he
    have HR : Hid (numR 10 1 S a e = (0, a, e)) := numR_wrong he
    go_enter Tryd.func53, Tryd.ntmps53
    go_wp2
    go_ret
    rw [HR.out]
    exact ⟨ret_int (by simp [unf]), h, Tch.refl _ _⟩

set_option maxHeartbeats 1000000 in
theorem xtext_any (b : Nat) (S : ByteArray) (a : Nat) (e most : Int) (w : World) (h : XS w b S a e) (hS : S.size ≤ 281474976710656) :
    Calls Tryd.prog 54 #[.pointer (some ⟨b, 0, none⟩), .int .i64 most] w fun x w' => x = .returned (.string (textR most S a e).1) ∧ XS w' b S (textR most S a e).2.1 (textR most S a e).2.2 ∧ Tch (fun i => i = b) w w' := by
  have c2 := h.c2
  have hle := h.le
  by_cases he : e = 0
  · subst he
    by_cases hm : most < 0
    · have HR : Hid (textR most S a 0 = (⟨#[]⟩, a, 1)) := by show _ = _; simp [textR, hm]
      go_enter Tryd.func54, Tryd.ntmps54
      go_wp2_with (go_at_call 76; refine (xwrong_any b S a 1 _ h).mono ?_; rintro x w2 ⟨rfl, h2, t2⟩)
      go_ret
      rw [HR.out]
      exact ⟨rfl, h2, t2⟩
    · have num := xnumber_any b S a 0 9 127 w h hS (by omega) (by omega) (by omega) (by omega)
      rcases hd : dgs 9 127 (S.data.toList.drop a) 0 0 with ⟨n, k, c⟩
      rw [hd] at num
      have HT : Hid (textR most S a 0 = if c ≠ 0 then (⟨#[]⟩, a, c) else if most < n then (⟨#[]⟩, a, 12) else if S.size - a - k < n then (⟨#[]⟩, a, 11) else (S.extract (a + k) (a + k + n), a + k + n, 0)) := by
        show _ = _; unfold textR; rw [if_neg (by simp), if_neg hm, hd]
      by_cases hc : c = 0
      · subst hc
        obtain ⟨hk, _, hk9, _, hn⟩ := dgs_ok (by omega) (by omega) (by omega) _ _ _ _ _ (by decide) (by omega) hd
        have hn3 : (n : Int) ≤ 9223372036854775807 := by
          have h2 := pow_le_of hk9
          have h3 : (128 : Nat) ^ 9 = 9223372036854775808 := by decide
          omega
        have hk2 : k ≤ S.size - a := by simpa using hk
        have hk3 : a + k ≤ S.size := by omega
        clear hd hk hn hk9 hk2
        by_cases h12 : most < n
        · have HR : Hid (textR most S a 0 = (⟨#[]⟩, a, 12)) := by show _ = _; rw [HT.out, if_neg (by simp), if_pos h12]
          go_enter Tryd.func54, Tryd.ntmps54
          go_wp2_with (first | (go_at_call 77; refine num.mono ?_; rintro x w1 ⟨⟨n1, k1, c1, hh, rfl⟩, t1⟩; simp only [Prod.mk.injEq] at hh; obtain ⟨rfl, rfl, rfl⟩ := hh; have h1 := h.tch t1 (fun h => h)) | (go_at_call 76; refine (xwrong_any b S a 12 _ h1).mono ?_; rintro x w2 ⟨rfl, h2, t2⟩))
          go_ret
          rw [HR.out]
          exact ⟨rfl, h2, (t1.mono (fun _ _ h => h.elim)).trans' t2⟩
        · by_cases h11 : S.size - a - k < n
          · have HR : Hid (textR most S a 0 = (⟨#[]⟩, a, 11)) := by show _ = _; rw [HT.out, if_neg (by simp), if_neg h12, if_pos h11]
            have h11' : (S.size : Int) - a - k < n := by omega
            go_enter Tryd.func54, Tryd.ntmps54
            go_wp2_with (go_at_call 77; refine num.mono ?_; rintro x w1 ⟨⟨n1, k1, c1, hh, rfl⟩, t1⟩; simp only [Prod.mk.injEq] at hh; obtain ⟨rfl, rfl, rfl⟩ := hh; have h1 := h.tch t1 (fun h => h); have d0 := h1.c0; have d1 := h1.c1; have hx : ∀ n, XS (w1.drewN n) b S a 0 := fun n => h1.tch ((Tch.refl (fun _ => False) w1).drewN n) (fun h => h))
            go_quiet (fail)
            go_wp2_with (go_at_call 76; refine (xwrong_any b S a 11 _ (hx _)).mono ?_; rintro x w2 ⟨rfl, h2, t2⟩)
            go_ret
            rw [HR.out]
            exact ⟨rfl, h2, Tch.trans' ((t1.mono (fun _ _ h => h.elim)).drewN _) t2⟩
          · have HR : Hid (textR most S a 0 = (S.extract (a + k) (a + k + n), a + k + n, 0)) := by show _ = _; rw [HT.out, if_neg (by simp), if_neg h12, if_neg h11]
            have h11' : ¬ (S.size : Int) - a - k < n := by omega
            have hak : a + k + n ≤ S.size := by omega
            have hsl : ∀ w : World, (Instr.slice 9 (.string S) (some (.int .i64 ((a : Int) + k))) (some (.int .i64 ((a : Int) + k + n))) none).run Tryd.prog w = .ok (.string (S.extract (a + k) (a + k + n))) w := xslice S (a + k) n hak
            have hsum : (a : Int) + k + n ≤ S.size := by omega
            go_enter Tryd.func54, Tryd.ntmps54
            go_wp2_with (go_at_call 77; refine num.mono ?_; rintro x w1 ⟨⟨n1, k1, c1, hh, rfl⟩, t1⟩; simp only [Prod.mk.injEq] at hh; obtain ⟨rfl, rfl, rfl⟩ := hh; have h1 := h.tch t1 (fun h => h); have d0 := h1.c0; have d1 := h1.c1; have g1 := h1.f1; have hx : ∀ n, XS (w1.drewN n) b S a 0 := fun n => h1.tch ((Tch.refl (fun _ => False) w1).drewN n) (fun h => h))
            go_quiet (fail)
            go_wp2
            go_quiet (fail)
            go_wp2
            go_ret
            rw [HR.out]
            exact ⟨rfl, ((hx _).set1 (a + k + n) hak).tch ((Tch.refl (fun _ => False) _).drewN _) (fun h => h), Tch.drewN (Tch.trans' ((t1.mono (fun _ _ h => h.elim)).drewN _) (Tch.setCell (fun i => i = b) _ ⟨b, 1, none⟩ _ rfl)) _⟩
      · have HR : Hid (textR most S a 0 = (⟨#[]⟩, a, c)) := by show _ = _; rw [HT.out, if_pos hc]
        have hcb : (c != 0) = true := by simpa using hc
        obtain ⟨rfl, rfl, _⟩ := dgs_zero _ _ _ _ _ _ hd hc
        clear hd
        go_enter Tryd.func54, Tryd.ntmps54
        go_wp2_with (first | (go_at_call 77; refine num.mono ?_; rintro x w1 ⟨⟨n1, k1, c1, hh, rfl⟩, t1⟩; simp only [Prod.mk.injEq] at hh; obtain ⟨rfl, rfl, rfl⟩ := hh; have h1 := h.tch t1 (fun h => h)) | (go_at_call 76; refine (xwrong_any b S a _ _ h1).mono ?_; rintro x w2 ⟨rfl, h2, t2⟩))
        go_ret
        rw [HR.out]
        exact ⟨rfl, h2, (t1.mono (fun _ _ h => h.elim)).trans' t2⟩
  · have hn : (e != 0) = true := by simpa using he
    have HR : Hid (textR most S a e = (⟨#[]⟩, a, e)) := by show _ = _; simp [textR, he]
    go_enter Tryd.func54, Tryd.ntmps54
    go_wp2
    go_ret
    rw [HR.out]
    exact ⟨rfl, h, Tch.refl _ _⟩
end Go.Proofs.YtnjbkkccofjmgaaDoor
