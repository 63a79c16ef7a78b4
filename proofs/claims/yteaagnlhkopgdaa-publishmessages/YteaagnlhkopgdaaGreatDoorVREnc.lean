import Derived.Test.YteaagnlhkopgdaaGreatDoorXReader
import Derived.Test.YteaagnlhkopgdaaGreatDoorVEnc
import Derived.Test.YteaagnlhkopgdaaGreatDoorVAgain
set_option maxHeartbeats 2000000
set_option maxRecDepth 100000
namespace Go.Proofs.YteaagnlhkopgdaaGreatDoor
open Go.RowKit
theorem xslice (S : ByteArray) (a m : Nat) (h : a + m ≤ S.size) (w : World) : (Instr.slice 9 (.string S) (some (.int .i64 (a : Int))) (some (.int .i64 ((a : Int) + m))) none).run Tryz.prog w = .ok (.string (S.extract a (a + m))) w := by
  rw [run_slice_string_if (h := Tryz.underlying9), if_pos (by omega), if_pos (by omega)]
  have e : ((a : Int) + m).toNat = a + m := by omega
  rw [e, Int.toNat_natCast]
theorem xindex0 (S : ByteArray) (a : Nat) (h : a < S.size) (w : World) :
    (Instr.index 9 (.string S) (.int .i64 (a : Int))).run Tryz.prog w = .ok (.int .u8 ((S.data.toList.getD a 0).toNat : Int)) w := by
  rw [run_index_string (h := Tryz.underlying9), dif_pos (by omega)]
  simp only [Int.toNat_natCast]
  have e2 : S.data.toList.getD a 0 = S[a] := by
    rw [List.getD_eq_getElem?_getD, List.getElem?_eq_getElem (by simpa using h)]; rfl
  rw [e2]
theorem xbyte_any (b : Nat) (S : ByteArray) (a : Nat) (e : Int) (w : World) (h : XS w b S a e) (hS : S.size ≤ 281474976710656) :
    Calls Tryz.prog 75 #[.pointer (some ⟨b, 0, none⟩)] w fun x w' => x = .returned (.int .i64 (byteR S a e).1) ∧ XS w' b S (byteR S a e).2.1 (byteR S a e).2.2 ∧ Tch (fun i => i = b) w w' := by
  have c0 := h.c0; have c1 := h.c1; have c2 := h.c2; have f1 := h.f1
  have hle := h.le
  by_cases he : e = 0
  · subst he
    by_cases ha : a < S.size
    · obtain ⟨B1, hB1⟩ : ∃ B1 : Nat, B1 = (S.data.toList.getD a 0).toNat := ⟨_, rfl⟩
      have hb255 : (B1 : Int) ≤ 255 := by have := (S.data.toList.getD a 0).toNat_lt; omega
      have hix := xindex0 S a ha
      rw [← hB1] at hix
      have HR : Hid (byteR S a 0 = (B1, a + 1, 0)) := by show _ = _; rw [hB1]; unfold byteR; rw [if_neg (by simp), if_pos ha]
      clear hB1
      have hne : ¬ (a : Int) = S.size := by omega
      have hx : ∀ n, XS (w.drewN n) b S a 0 := fun n => h.tch ((Tch.refl (fun _ => False) w).drewN n) (fun h => h)
      have hsub : IntKind.i64.wrap ((a : Int) + 1 - 1) = a := by rw [IntKind.wrap_i64]; omega
      go_enter Tryz.func75, Tryz.ntmps75
      go_wp2
      go_quiet (fail)
      go_wp2
      go_quiet (fail)
      go_wp2
      go_ret
      rw [HR.out]
      exact ⟨rfl, ((hx _).set1 (a + 1) (by omega)).tch ((Tch.refl (fun _ => False) _).drewN _) (fun h => h), Tch.drewN (Tch.trans' (Tch.drewN (Tch.refl (fun i => i = b) w) _) (Tch.setCell (fun i => i = b) _ ⟨b, 1, none⟩ _ rfl)) _⟩
    · have hna : ((a : Int) == S.size) = true := by simp; omega
      have HR : Hid (byteR S a 0 = (0, a, 11)) := by show _ = _; unfold byteR; rw [if_neg (by simp), if_neg ha]
      have hx : ∀ n, XS (w.drewN n) b S a 0 := fun n => h.tch ((Tch.refl (fun _ => False) w).drewN n) (fun h => h)
      go_enter Tryz.func75, Tryz.ntmps75
      go_wp2
      go_quiet (fail)
      go_wp2_with (go_at_call 83; refine (xwrong_any b S a 11 _ (hx _)).mono ?_; rintro x w2 ⟨rfl, h2, t2⟩)
      go_ret
      rw [HR.out]
      exact ⟨rfl, h2, ((Tch.refl _ w).drewN _).trans' t2⟩
  · have hn : (e != 0) = true := by simpa using he
    have HR : Hid (byteR S a e = (0, a, e)) := by show _ = _; simp [byteR, he]
    go_enter Tryz.func75, Tryz.ntmps75
    go_wp2
    go_ret
    rw [HR.out]
    exact ⟨rfl, h, Tch.refl _ _⟩
theorem xint_any (b : Nat) (S : ByteArray) (a : Nat) (e : Int) (w : World) (h : XS w b S a e) (hS : S.size ≤ 281474976710656) :
    Calls Tryz.prog 76 #[.pointer (some ⟨b, 0, none⟩)] w fun x w' => x = .returned (.int .i64 (unf (numR 10 1 S a e).1)) ∧ XS w' b S (numR 10 1 S a e).2.1 (numR 10 1 S a e).2.2 ∧ Tch (fun i => i = b) w w' := by
  have c2 := h.c2
  have hle := h.le
  by_cases he : e = 0
  · subst he
    have num := xnumber_any b S a 0 10 1 w h hS (by omega) (by omega) (by omega) (by omega)
    rcases hd : dgs 10 1 (S.data.toList.drop a) 0 0 with ⟨n, k, c⟩
    rw [hd] at num
    by_cases hc : c = 0
    · subst hc
      have HR : Hid (numR 10 1 S a 0 = (n, a + k, 0)) := numR_ok hd
      obtain ⟨hk, _, _, hn, _⟩ := dgs_ok (by omega) (by omega) (by omega) _ _ _ _ _ (by decide) (by omega) hd
      have h1 : (n : Int) / 2 ≤ 9223372036854775807 := by omega
      have h2 : (0 : Int) ≤ n := by omega
      have hk2 : k ≤ S.size - a := by simpa using hk
      have hk3 : a + k ≤ S.size := by omega
      clear hd hk hk2
      by_cases hp : n % 2 = 0
      · have hp2 : (n : Int) % 2 = 0 := by omega
        have HU : Hid (unf n = (n : Int) / 2) := by show _ = _; simp [unf, hp]
        clear hn hp
        go_enter Tryz.func76, Tryz.ntmps76
        go_wp2_with (go_at_call 84; refine num.mono ?_; rintro x w1 ⟨⟨n1, k1, c1, hh, rfl⟩, t1⟩; simp only [Prod.mk.injEq] at hh; obtain ⟨rfl, rfl, rfl⟩ := hh; have h1 := h.tch t1 (fun h => h); have d1 := h1.c1; have g1 := h1.f1)
        go_ret
        rw [HR.out]
        exact ⟨ret_int HU.out.symm, h1.set1 _ hk3, (t1.mono (fun _ _ h => h.elim)).trans' (Tch.setCell _ _ ⟨b, 1, none⟩ _ rfl)⟩
      · have hp2 : ¬ (n : Int) % 2 = 0 := by omega
        have HU : Hid (unf n = -((n : Int) / 2) - 1) := by show _ = _; simp [unf, hp]
        clear hn hp
        go_enter Tryz.func76, Tryz.ntmps76
        go_wp2_with (go_at_call 84; refine num.mono ?_; rintro x w1 ⟨⟨n1, k1, c1, hh, rfl⟩, t1⟩; simp only [Prod.mk.injEq] at hh; obtain ⟨rfl, rfl, rfl⟩ := hh; have h1 := h.tch t1 (fun h => h); have d1 := h1.c1; have g1 := h1.f1)
        go_ret
        rw [HR.out]
        exact ⟨ret_int HU.out.symm, h1.set1 _ hk3, (t1.mono (fun _ _ h => h.elim)).trans' (Tch.setCell _ _ ⟨b, 1, none⟩ _ rfl)⟩
    · have HR : Hid (numR 10 1 S a 0 = (0, a, c)) := numR_bad hd hc
      have hcb : (c != 0) = true := by simpa using hc
      clear hd
      go_enter Tryz.func76, Tryz.ntmps76
      go_wp2_with (first | (go_at_call 84; refine num.mono ?_; rintro x w1 ⟨⟨n1, k1, c1, hh, rfl⟩, t1⟩; simp only [Prod.mk.injEq] at hh; obtain ⟨rfl, rfl, rfl⟩ := hh; have h1 := h.tch t1 (fun h => h)) | (go_at_call 83; refine (xwrong_any b S a _ _ h1).mono ?_; rintro x w2 ⟨rfl, h2, t2⟩))
      go_ret
      rw [HR.out]
      exact ⟨ret_int (by simp [unf]), h2, (t1.mono (fun _ _ h => h.elim)).trans' t2⟩
  · have hn : (e != 0) = true := by simpa using he
    have HR : Hid (numR 10 1 S a e = (0, a, e)) := numR_wrong he
    go_enter Tryz.func76, Tryz.ntmps76
    go_wp2
    go_ret
    rw [HR.out]
    exact ⟨ret_int (by simp [unf]), h, Tch.refl _ _⟩
theorem xtext_any (b : Nat) (S : ByteArray) (a : Nat) (e most : Int) (w : World) (h : XS w b S a e) (hS : S.size ≤ 281474976710656) :
    Calls Tryz.prog 77 #[.pointer (some ⟨b, 0, none⟩), .int .i64 most] w fun x w' => x = .returned (.string (textR most S a e).1) ∧ XS w' b S (textR most S a e).2.1 (textR most S a e).2.2 ∧ Tch (fun i => i = b) w w' := by
  have c2 := h.c2
  have hle := h.le
  by_cases he : e = 0
  · subst he
    by_cases hm : most < 0
    · have HR : Hid (textR most S a 0 = (⟨#[]⟩, a, 1)) := by show _ = _; simp [textR, hm]
      go_enter Tryz.func77, Tryz.ntmps77
      go_wp2_with (go_at_call 83; refine (xwrong_any b S a 1 _ h).mono ?_; rintro x w2 ⟨rfl, h2, t2⟩)
      go_ret
      rw [HR.out]
      exact ⟨rfl, h2, t2⟩
    · have num := xnumber_any b S a 0 9 127 w h hS (by omega) (by omega) (by omega) (by omega)
      rcases hd : dgs 9 127 (S.data.toList.drop a) 0 0 with ⟨n, k, c⟩
      rw [hd] at num
      have HT : Hid (textR most S a 0 = if c ≠ 0 then (⟨#[]⟩, a, c) else if most < n then (⟨#[]⟩, a, 12) else if S.size - a - k < n then (⟨#[]⟩, a, 11) else (S.extract (a + k) (a + k + n), a + k + n, 0)) := by
        show _ = _; unfold textR; rw [if_neg (by simp), if_neg hm, hd]
      by_cases hc : c = 0
      · subst hc
        obtain ⟨hk, _, hk9, _, hn⟩ := dgs_ok (by omega) (by omega) (by omega) _ _ _ _ _ (by decide) (by omega) hd
        have hn3 : (n : Int) ≤ 9223372036854775807 := by
          have h2 := pow_le_of hk9
          have h3 : (128 : Nat) ^ 9 = 9223372036854775808 := by decide
          omega
        have hk2 : k ≤ S.size - a := by simpa using hk
        have hk3 : a + k ≤ S.size := by omega
        clear hd hk hn hk9 hk2
        by_cases h12 : most < n
        · have HR : Hid (textR most S a 0 = (⟨#[]⟩, a, 12)) := by show _ = _; rw [HT.out, if_neg (by simp), if_pos h12]
          go_enter Tryz.func77, Tryz.ntmps77
          go_wp2_with (first | (go_at_call 84; refine num.mono ?_; rintro x w1 ⟨⟨n1, k1, c1, hh, rfl⟩, t1⟩; simp only [Prod.mk.injEq] at hh; obtain ⟨rfl, rfl, rfl⟩ := hh; have h1 := h.tch t1 (fun h => h)) | (go_at_call 83; refine (xwrong_any b S a 12 _ h1).mono ?_; rintro x w2 ⟨rfl, h2, t2⟩))
          go_ret
          rw [HR.out]
          exact ⟨rfl, h2, (t1.mono (fun _ _ h => h.elim)).trans' t2⟩
        · by_cases h11 : S.size - a - k < n
          · have HR : Hid (textR most S a 0 = (⟨#[]⟩, a, 11)) := by show _ = _; rw [HT.out, if_neg (by simp), if_neg h12, if_pos h11]
            have h11' : (S.size : Int) - a - k < n := by omega
            go_enter Tryz.func77, Tryz.ntmps77
            go_wp2_with (go_at_call 84; refine num.mono ?_; rintro x w1 ⟨⟨n1, k1, c1, hh, rfl⟩, t1⟩; simp only [Prod.mk.injEq] at hh; obtain ⟨rfl, rfl, rfl⟩ := hh; have h1 := h.tch t1 (fun h => h); have d0 := h1.c0; have d1 := h1.c1; have hx : ∀ n, XS (w1.drewN n) b S a 0 := fun n => h1.tch ((Tch.refl (fun _ => False) w1).drewN n) (fun h => h))
            go_quiet (fail)
            go_wp2_with (go_at_call 83; refine (xwrong_any b S a 11 _ (hx _)).mono ?_; rintro x w2 ⟨rfl, h2, t2⟩)
            go_ret
            rw [HR.out]
            exact ⟨rfl, h2, Tch.trans' ((t1.mono (fun _ _ h => h.elim)).drewN _) t2⟩
          · have HR : Hid (textR most S a 0 = (S.extract (a + k) (a + k + n), a + k + n, 0)) := by show _ = _; rw [HT.out, if_neg (by simp), if_neg h12, if_neg h11]
            have h11' : ¬ (S.size : Int) - a - k < n := by omega
            have hak : a + k + n ≤ S.size := by omega
            have hsl : ∀ w : World, (Instr.slice 9 (.string S) (some (.int .i64 ((a : Int) + k))) (some (.int .i64 ((a : Int) + k + n))) none).run Tryz.prog w = .ok (.string (S.extract (a + k) (a + k + n))) w := xslice S (a + k) n hak
            have hsum : (a : Int) + k + n ≤ S.size := by omega
            go_enter Tryz.func77, Tryz.ntmps77
            go_wp2_with (go_at_call 84; refine num.mono ?_; rintro x w1 ⟨⟨n1, k1, c1, hh, rfl⟩, t1⟩; simp only [Prod.mk.injEq] at hh; obtain ⟨rfl, rfl, rfl⟩ := hh; have h1 := h.tch t1 (fun h => h); have d0 := h1.c0; have d1 := h1.c1; have g1 := h1.f1; have hx : ∀ n, XS (w1.drewN n) b S a 0 := fun n => h1.tch ((Tch.refl (fun _ => False) w1).drewN n) (fun h => h))
            go_quiet (fail)
            go_wp2
            go_quiet (fail)
            go_wp2
            go_ret
            rw [HR.out]
            exact ⟨rfl, ((hx _).set1 (a + k + n) hak).tch ((Tch.refl (fun _ => False) _).drewN _) (fun h => h), Tch.drewN (Tch.trans' ((t1.mono (fun _ _ h => h.elim)).drewN _) (Tch.setCell (fun i => i = b) _ ⟨b, 1, none⟩ _ rfl)) _⟩
      · have HR : Hid (textR most S a 0 = (⟨#[]⟩, a, c)) := by show _ = _; rw [HT.out, if_pos hc]
        have hcb : (c != 0) = true := by simpa using hc
        obtain ⟨rfl, rfl, _⟩ := dgs_zero _ _ _ _ _ _ hd hc
        clear hd
        go_enter Tryz.func77, Tryz.ntmps77
        go_wp2_with (first | (go_at_call 84; refine num.mono ?_; rintro x w1 ⟨⟨n1, k1, c1, hh, rfl⟩, t1⟩; simp only [Prod.mk.injEq] at hh; obtain ⟨rfl, rfl, rfl⟩ := hh; have h1 := h.tch t1 (fun h => h)) | (go_at_call 83; refine (xwrong_any b S a _ _ h1).mono ?_; rintro x w2 ⟨rfl, h2, t2⟩))
        go_ret
        rw [HR.out]
        exact ⟨rfl, h2, (t1.mono (fun _ _ h => h.elim)).trans' t2⟩
  · have hn : (e != 0) = true := by simpa using he
    have HR : Hid (textR most S a e = (⟨#[]⟩, a, e)) := by show _ = _; simp [textR, he]
    go_enter Tryz.func77, Tryz.ntmps77
    go_wp2
    go_ret
    rw [HR.out]
    exact ⟨rfl, h, Tch.refl _ _⟩
end Go.Proofs.YteaagnlhkopgdaaGreatDoor
namespace Go.Proofs.YteaagnlhkopgdaaGreatDoor
open Go.RowKit Go.Sort
theorem xwbyte_any (b : Nat) (s : ByteArray) (e : Int) (l : List Int) (ad : Addr) (g o c : Nat) (w : World) (h : XW w b s e) (had : l ≠ [] → ad = ⟨g, o, none⟩) (hgb : l ≠ [] → g ≠ b) (hlen : s.size + l.length ≤ 140737488355328)
    (hcells : ∀ j (hj : j < l.length), w.cell? ⟨g, o + j, none⟩ = some (.int .i64 l[j])) :
    Calls Tryz.prog 60 #[.pointer (some ⟨b, 0, none⟩), .slice (some ad) l.length c] w fun x w' => x = .returned (.tuple #[]) ∧ XW w' b (xs s (bytesL l) (bytesC l)) (failE e (bytesC l)) ∧ Tch (fun i => i = b) w w' := by
  have HG : Hid (∀ W, Tch (fun i => i = b) w W → ∀ j (hj : j < l.length), W.cell? ⟨g, o + j, none⟩ = some (.int .i64 l[j])) := fun W t j hj => (t.cell (p := ⟨g, o + j, none⟩) (cell_lt (hcells j hj)) (hgb (by rintro rfl; simp at hj))).trans (hcells j hj)
  have HD : Hid (l ≠ [] → ad = ⟨g, o, none⟩) := had
  clear hcells hgb had
  have HW : Hid (XW w b s e) := h
  clear h
  go_enter Tryz.func60, Tryz.ntmps60
  go_wp2
  go_loopw [4] (fun i wr => ∃ k : Nat, i = .int .i64 k ∧ k ≤ l.length ∧ Hid ((l.take k).all byteOk = true) ∧ w = wr) (fun i _ => l.length - (intOf i).toNat)
  case atStart => exact ⟨0, rfl, Nat.zero_le _, rfl, rfl⟩
  case round =>
    obtain ⟨k, rfl, hk, HA, rfl⟩ := hrel
    by_cases hkl : k < l.length
    · have hkl' : (k : Int) < l.length := by omega
      have hda := HD.out (by rintro rfl; simp at hkl)
      clear HD
      subst hda
      have hc := HG.out w (Tch.refl _ _) k hkl
      obtain ⟨x, hx⟩ : ∃ x, x = l[k] := ⟨_, rfl⟩
      rw [← hx] at hc
      have HX : Hid (x = l[k]) := hx
      clear hx
      by_cases hb : byteOk x = true
      · have hb' : 0 ≤ x ∧ x ≤ 255 := by simpa [byteOk] using hb
        obtain ⟨hb0, hb1⟩ := hb'
        clear hb
        have HTK : Hid (l.take (k + 1) = l.take k ++ [x]) := by show _ = _; rw [List.take_succ_eq_append_getElem hkl, HX.out]
        have HA2 : Hid ((l.take (k + 1)).all byteOk = true) := by
          show _ = _
          rw [HTK.out, List.all_append, HA.out]; simp [byteOk]; omega
        go_wp2
        go_roundw
        case rel => exact ⟨k + 1, by go_num, by omega, HA2, by first | rfl | trivial⟩
        case measure => simp [intOf]; omega
      · have HC : Hid (bytesC l = 10) := by
          show _ = _
          unfold bytesC
          rw [if_neg]
          intro hall
          rw [List.all_eq_true] at hall
          exact hb (hall x (by rw [HX.out]; exact List.getElem_mem hkl))
        have hf := xwwrong_any b s e 10 w HW.out
        have hb' : ¬ (0 ≤ x ∧ x ≤ 255) := by simpa [byteOk] using hb
        clear hb
        by_cases hx0 : x < 0
        · go_wp2_with (go_at_call 70; refine hf.mono ?_; rintro x w1 ⟨rfl, h1, t1⟩)
          refine bodyPost_ret (results_none rfl _ _ _) rfl ?_
          rw [HC.out, xs_bad _ _ (by omega)]
          exact ⟨rfl, h1, t1⟩
        · have hx1 : 255 < x := by omega
          go_wp2_with (go_at_call 70; refine hf.mono ?_; rintro x w1 ⟨rfl, h1, t1⟩)
          refine bodyPost_ret (results_none rfl _ _ _) rfl ?_
          rw [HC.out, xs_bad _ _ (by omega)]
          exact ⟨rfl, h1, t1⟩
    · have hkl' : ¬ (k : Int) < l.length := by omega
      have HA3 : Hid (l.all byteOk = true) := by
        have h1 := HA.out
        rwa [List.take_of_length_le (by omega)] at h1
      have HC : Hid (bytesC l = 0) := by show _ = _; unfold bytesC; rw [if_pos HA3.out]
      have HF : Hid (xs s (bytesL l) (bytesC l) = s ++ ⟨(bytesL l).toArray⟩ ∧ failE e (bytesC l) = e) := by
        refine ⟨?_, ?_⟩
        · rw [HC.out, xs_ok]
        · rw [HC.out, failE_zero]
      clear hk HA HC
      go_wp2
      go_loopw [5] (fun i wr' => ∃ k : Nat, i = .int .i64 k ∧ k ≤ l.length ∧ Hid (XW wr' b (s ++ ⟨(bytesL (l.take k)).toArray⟩) e) ∧ Tch (fun i => i = b) w wr') (fun i _ => l.length - (intOf i).toNat)
      case atStart =>
        refine ⟨0, rfl, Nat.zero_le _, ?_, Tch.refl _ _⟩
        have e0 : s ++ (⟨(bytesL (l.take 0)).toArray⟩ : ByteArray) = s := by apply ByteArray.ext; simp [bytesL]
        show XW _ _ _ _
        rw [e0]; exact HW.out
      case round =>
        obtain ⟨k, rfl, hk, HX, hT⟩ := hrel
        obtain ⟨P, hP⟩ : ∃ P : ByteArray, P = s ++ ⟨(bytesL (l.take k)).toArray⟩ := ⟨_, rfl⟩
        have hps : P.size ≤ s.size + l.length := by rw [hP, ByteArray.size_append, size_list (bytesL (l.take k)), show (bytesL (l.take k)).length = min k l.length by simp [bytesL]]; omega
        rw [← hP] at HX
        by_cases hkl2 : k < l.length
        · have hkl' : (k : Int) < l.length := by omega
          have hda := HD.out (by rintro rfl; simp at hkl2)
          clear HD
          subst hda
          have hc := HG.out wr hT k hkl2
          obtain ⟨x, hx⟩ : ∃ x, x = l[k] := ⟨_, rfl⟩
          rw [← hx] at hc
          have hb : byteOk x = true := List.all_eq_true.1 HA3.out x (by rw [hx]; exact List.getElem_mem hkl2)
          have hb' : 0 ≤ x ∧ x ≤ 255 := by simpa [byteOk] using hb
          have HTK : Hid (P ++ ⟨#[UInt8.ofNat x.toNat]⟩ = s ++ ⟨(bytesL (l.take (k + 1))).toArray⟩) := by
            show _ = _
            rw [hP, ByteArray.append_assoc]
            congr 1
            rw [List.take_succ_eq_append_getElem hkl2, ← hx]
            apply ByteArray.ext
            simp [bytesL]
          have ho := fun (W : World) => xone_any x.toNat W (by omega)
          obtain ⟨B, hB⟩ : ∃ B : ByteArray, B = ⟨#[UInt8.ofNat x.toNat]⟩ := ⟨_, rfl⟩
          have hbs : B.size = 1 := by rw [hB]; rfl
          rw [← hB] at HTK ho
          rw [show ((x.toNat : Nat) : Int) = x by omega] at ho
          clear hB hP hx hb hb'
          have n1 : ¬ 9223372036854775807 < P.size + B.size := by omega
          have k0 := cell_regrown HX.out.c0
          have kc := cell_regrown hc
          have cO : ∀ d os, Calls Tryz.prog 71 #[.int .i64 x] (grow (redrawn wr d) os) fun e w'' => e = .returned (.string B) ∧ ∃ p : Regrown, w'' = grow (redrawn wr p.d) p.os := fun d os => Calls.tch_regrown_of (ho _)
          have HX2 : Hid (∀ p : Regrown, XW (grow (redrawn wr p.d) p.os) b P e) := fun p => HX.out.tch (tch_regrown wr p) (fun h => h)
          have hl63 : l.length ≤ 140737488355328 := by omega
          clear ho hbs hps hlen hc
          go_wp2
          refine wp_region_below_tail 13 (by kernel_rfl) (by kernel_rfl) ?_
          simp only [List.take_succ_cons, List.take_zero, List.drop_succ_cons, List.drop_zero]
          repeat (quiet_step ((go_at_call 71; exact cO _ _)))
          refine wpQuiet_nil ?_
          rintro w1 ⟨p, rfl⟩
          have hX1 := HX2.out p
          have T1 := tch_regrown wr p
          obtain ⟨W, hW⟩ : ∃ W, W = grow (redrawn wr p.d) p.os := ⟨_, rfl⟩
          rw [← hW] at hX1 T1 ⊢
          clear hW cO HX2 k0 kc
          have d0 := hX1.c0; have g0 := hX1.f0
          go_wp2
          go_roundw
          case rel =>
            refine ⟨k + 1, by go_num, by omega, ?_, hT.trans' (hX1.stored T1 _).2⟩
            show XW _ _ _ _
            rw [← HTK.out]
            exact (hX1.stored T1 _).1
          case measure => simp [intOf]; omega
        · have hkl' : ¬ (k : Int) < l.length := by omega
          have HP : Hid (P = s ++ ⟨(bytesL l).toArray⟩) := by show _ = _; rw [hP, List.take_of_length_le (by omega)]
          clear hP
          go_wp2
          go_end0
          rw [HF.out.1, HF.out.2, ← HP.out]
          exact ⟨rfl, HX.out, hT⟩
theorem xnewReader_any (s : ByteArray) (w : World) :
    Calls Tryz.prog 74 #[.string s] w fun x w' => x = .returned (.pointer (some ⟨w.heap.size, 0, none⟩)) ∧ XS w' w.heap.size s 0 0 ∧ Tch (fun _ => False) w w' ∧ w'.heap.size = w.heap.size + 1 := by
  go_enter Tryz.func74, Tryz.ntmps74
  go_wp2
  go_ret
  exact ⟨rfl, ⟨by simp, by simp, by simp, by simp, by simp, Nat.zero_le _⟩, Tch.alloc _ _ _, by simp⟩
def bsA (l : List UInt8) : ByteArray := ⟨l.toArray⟩
theorem bsA_size (l : List UInt8) : (bsA l).size = l.length := size_list l
theorem bsA_app (a b : List UInt8) : bsA a ++ bsA b = bsA (a ++ b) := app_list a b
theorem bytesL_one (n : Int) (h0 : 0 ≤ n) (h1 : n ≤ 255) : bytesL [n] = [UInt8.ofNat n.toNat] ∧ bytesC [n] = 0 := by
  have hb : byteOk n = true := by simp [byteOk]; omega
  refine ⟨by simp [bytesL], ?_⟩
  unfold bytesC; simp [hb]
theorem xwbyte1 (b : Nat) (bs : List UInt8) (n : Int) (z : Nat) (w : World) (h : XW w b (bsA bs) 0) (hz : w.heap.size = z) (h0 : 0 ≤ n) (h1 : n ≤ 255) (hlen : bs.length + 1 ≤ 140737488355328) :
    Calls Tryz.prog 60 #[.pointer (some ⟨b, 0, none⟩), .slice (some ⟨z, 0, none⟩) 1 1] (w.alloc (.cells #[.int .i64 n] 3)) fun x w' => x = .returned (.tuple #[]) ∧ XW w' b (bsA (bs ++ [UInt8.ofNat n.toNat])) 0 ∧ Tch (fun i => i = b) (w.alloc (.cells #[.int .i64 n] 3)) w' := by
  subst hz
  have hb : b < w.heap.size := cell_lt h.c0
  have := xwbyte_any b (bsA bs) 0 [n] ⟨w.heap.size, 0, none⟩ w.heap.size 0 1 _ (h.tch (Tch.alloc (fun _ => False) w (.cells #[.int .i64 n] 3)) (fun h => h)) (fun _ => rfl) (fun _ => by omega) (by rw [bsA_size]; simpa using hlen) (fun j hj => by
    obtain rfl : j = 0 := by simp at hj; omega
    simp)
  refine this.mono ?_
  rintro x w' ⟨rfl, h2, t⟩
  obtain ⟨e1, e2⟩ := bytesL_one n h0 h1
  rw [e1, e2, xs_ok, failE_zero] at h2
  refine ⟨rfl, ?_, t⟩
  rw [← bsA_app]; exact h2
theorem xwint1 (b : Nat) (bs : List UInt8) (n : Int) (w : World) (h : XW w b (bsA bs) 0) (h1 : -9223372036854775808 ≤ n) (h2 : n ≤ 9223372036854775807) (hlen : bs.length + 10 ≤ 140737488355328) :
    Calls Tryz.prog 62 #[.pointer (some ⟨b, 0, none⟩), .int .i64 n] w fun x w' => x = .returned (.tuple #[]) ∧ XW w' b (bsA (bs ++ dg (fol n))) 0 ∧ Tch (fun i => i = b) w w' := by
  refine (xwint_any b (bsA bs) 0 n w h h1 h2 (by rw [bsA_size]; exact hlen)).mono ?_
  rintro x w' ⟨rfl, h3, t⟩
  refine ⟨rfl, ?_, t⟩
  rw [← bsA_app]; exact h3
theorem xwtext1 (b : Nat) (bs : List UInt8) (s : ByteArray) (w : World) (h : XW w b (bsA bs) 0) (hs : s.size ≤ 200) (hlen : bs.length + 10 + s.size ≤ 140737488355328) :
    Calls Tryz.prog 63 #[.pointer (some ⟨b, 0, none⟩), .string s, .int .i64 200] w fun x w' => x = .returned (.tuple #[]) ∧ XW w' b (bsA (bs ++ textL s)) 0 ∧ Tch (fun i => i = b) w w' := by
  refine (xwtext_any b (bsA bs) 0 s 200 w h (by rw [bsA_size]; exact hlen)).mono ?_
  rintro x w' ⟨rfl, h3, t⟩
  have e : textC s 200 = 0 := by unfold textC; rw [if_neg (by omega), if_neg (by omega)]
  rw [e, xs_ok, failE_zero] at h3
  refine ⟨rfl, ?_, t⟩
  rw [← bsA_app]; exact h3
end Go.Proofs.YteaagnlhkopgdaaGreatDoor
namespace Go.Proofs.YteaagnlhkopgdaaGreatDoor
open Go.RowKit Go.Sort
theorem rowAt_get {w : World} {g o : Nat} {vs : List Val} (h : RowAt w g o vs) (k : Nat) (hk : k < vs.length) {v : Val} (e : v = vs[k]) : w.cell? ⟨g, o + k * 3, none⟩ = some (.int .i64 v.k) ∧ w.cell? ⟨g, o + k * 3 + 1, none⟩ = some (.int .i64 v.n) ∧ w.cell? ⟨g, o + k * 3 + 2, none⟩ = some (.string v.s) := by
  subst e; exact h k hk
theorem rencode_any (vs : List Val) (ao : Option Addr) (g o c : Nat) (w : World) (hao : vs ≠ [] → ao = some ⟨g, o, none⟩) (hrow : RowAt w g o vs) (hi : ∀ v ∈ vs, v.i64) (hlen : vs.length ≤ 9223372036854775807) :
    Calls Tryz.prog 39 #[.slice ao vs.length c] w fun x w' => x = .returned (.tuple #[.string ⟨(encR vs).1.toArray⟩, .int .i64 (encR vs).2]) ∧ Tch (fun _ => False) w w' := by
  by_cases h8 : 8 < vs.length
  · have h8' : (8 : Int) < vs.length := by omega
    have e : encR vs = ([], 44) := by unfold encR; rw [if_pos h8]
    rw [e]
    clear hao hrow hi e
    go_enter Tryz.func39, Tryz.ntmps39
    go_wp2
    go_ret2
    exact ⟨rfl, Tch.refl _ _⟩
  · have h8' : ¬ (8 : Int) < vs.length := by omega
    have HR : Hid (encR vs = encGo vs [UInt8.ofNat vs.length]) := by show _ = _; unfold encR; rw [if_neg h8]
    have HG : Hid (∀ W, Tch (fun i => w.heap.size ≤ i) w W → RowAt W g o vs) := fun W t => hrow.tch t (fun hv => by have := hrow.lt hv; omega)
    have HI : Hid (∀ v ∈ vs, v.i64) := hi
    have HAO : Hid (vs ≠ [] → ao = some ⟨g, o, none⟩) := hao
    clear hrow hi hao
    go_enter Tryz.func39, Tryz.ntmps39
    go_wp2_with (go_at_call 59; refine (xnewWriter_any _).mono ?_; rintro x w1 ⟨rfl, h1, t1, z1⟩; have T1 := no_mono (S := fun i => w.heap.size ≤ i) t1)
    refine (xwbyte1 _ [] vs.length _ _ h1 z1 (by omega) (by omega) (by simp)).mono ?_
    rintro x w2 ⟨rfl, h2, t2⟩
    have T2 := (T1.allocR _).trans' (eq_mono t2 (Nat.le_refl _))
    clear T1 t1 t2 h1 z1
    simp only [List.nil_append, Int.toNat_natCast] at h2
    go_wp2_with fail
    go_loopw [5] (fun i wr => ∃ (k : Nat) (bs : List UInt8), i = .int .i64 k ∧ k ≤ vs.length ∧ Hid (encR vs = encGo (vs.drop k) bs) ∧ bs.length ≤ 1 + 211 * k ∧ XW wr w.heap.size (bsA bs) 0 ∧ Tch (fun i => w.heap.size ≤ i) w wr) (fun i _ => vs.length - (intOf i).toNat)
    case atStart => exact ⟨0, _, rfl, Nat.zero_le _, by show _ = _; rw [HR.out]; rfl, by simp, h2, T2⟩
    case round =>
      obtain ⟨k, bs, rfl, hk, HA, hbl, hW, hT⟩ := hrel
      clear h2 T2
      by_cases hkl : k < vs.length
      · have hkl' : (k : Int) < vs.length := by omega
        obtain rfl := HAO.out (by intro e; rw [e] at hkl; simp at hkl)
        obtain ⟨v, hv⟩ : ∃ v, v = vs[k] := ⟨_, rfl⟩
        obtain ⟨c0, c1, c2⟩ := rowAt_get (HG.out wr hT) k hkl hv
        have HV : Hid (encGo (vs.drop k) bs = if wrg v = 0 then encGo (vs.drop (k + 1)) (bs ++ encV v) else ([], wrg v)) := by
          show _ = _
          rw [List.drop_eq_getElem_cons hkl, ← hv]; rfl
        have hvi := HI.out v (by rw [hv]; exact List.getElem_mem hkl)
        have HC : Hid (∀ W, Tch (fun i => w.heap.size ≤ i) w W → W.cell? ⟨g, o + k * 3, none⟩ = some (.int .i64 v.k) ∧ W.cell? ⟨g, o + k * 3 + 1, none⟩ = some (.int .i64 v.n) ∧ W.cell? ⟨g, o + k * 3 + 2, none⟩ = some (.string v.s)) := fun W t => rowAt_get (HG.out W t) k hkl hv
        obtain ⟨vk, vn, vs'⟩ := v
        simp only at c0 c1 c2
        simp only at HC
        unfold Val.i64 at hvi
        simp only at hvi
        clear hv
        obtain ⟨⟨-, -⟩, hv1, hv2⟩ := hvi
        go_wp2_with fail
        refine (rwrong_any vk vn vs' _).mono ?_
        rintro x w3 ⟨rfl, t3⟩
        have T3 : Tch (fun i => w.heap.size ≤ i) w w3 := hT.trans' (no_mono t3)
        have W3 := hW.tch t3 (fun h => h)
        clear c0 c1 c2 hT t3 hW
        by_cases hw : wrg ⟨vk, vn, vs'⟩ = 0
        · obtain ⟨hf, hs⟩ := wrg_zero hw
          rw [hw]
          have hel := encV_len (v := ⟨vk, vn, vs'⟩) hs
          have HA4 : Hid (encR vs = encGo (vs.drop (k + 1)) (bs ++ encV ⟨vk, vn, vs'⟩)) := by
            show _ = _
            rw [HA.out, HV.out, if_pos hw]
          clear hw HV HA
          obtain ⟨d0, d1, d2⟩ := HC.out w3 T3
          unfold frm at hf
          simp only at hf hs
          rcases hf with ⟨rfl, rfl, hz⟩ | ⟨rfl, hz⟩ | ⟨rfl, rfl⟩ | ⟨rfl, hz, hn⟩
          · go_wp2_with fail
            refine (xwbyte1 _ bs 0 _ _ W3 rfl (by omega) (by omega) (by omega)).mono ?_
            rintro x w4 ⟨rfl, W4, t4⟩
            have T4 := (T3.allocR _).trans' (eq_mono t4 (Nat.le_refl _))
            clear d0 d1 d2 T3 W3 t4
            have W5 : XW w4 w.heap.size (bsA (bs ++ encV ⟨0, 0, vs'⟩)) 0 := W4
            clear W4
            go_wp2_with fail
            go_roundw
            case rel => exact ⟨k + 1, _, by go_num, by omega, HA4, by rw [List.length_append]; omega, W5, T4⟩
            case measure => simp [intOf]; omega
          · go_wp2_with fail
            refine (xwbyte1 _ bs 1 _ _ W3 rfl (by omega) (by omega) (by omega)).mono ?_
            rintro x w4 ⟨rfl, W4, t4⟩
            have T4 := (T3.allocR _).trans' (eq_mono t4 (Nat.le_refl _))
            clear d0 d1 d2 T3 W3 t4
            obtain ⟨d0, d1, d2⟩ := HC.out w4 T4
            go_wp2_with fail
            refine (xwint1 _ _ vn _ W4 hv1 hv2 (by rw [List.length_append]; simp; omega)).mono ?_
            rintro x w5 ⟨rfl, W5, t5⟩
            have T5 := T4.trans' (eq_mono t5 (Nat.le_refl _))
            clear d0 d1 d2 T4 W4 t5
            have W6 : XW w5 w.heap.size (bsA (bs ++ encV ⟨1, vn, vs'⟩)) 0 := by
              have e : encV ⟨1, vn, vs'⟩ = [1] ++ dg (fol vn) := rfl
              rw [e, ← List.append_assoc]; exact W5
            clear W5
            go_wp2_with fail
            go_roundw
            case rel => exact ⟨k + 1, _, by go_num, by omega, HA4, by rw [List.length_append]; omega, W6, T5⟩
            case measure => simp [intOf]; omega
          · go_wp2_with fail
            refine (xwbyte1 _ bs 2 _ _ W3 rfl (by omega) (by omega) (by omega)).mono ?_
            rintro x w4 ⟨rfl, W4, t4⟩
            have T4 := (T3.allocR _).trans' (eq_mono t4 (Nat.le_refl _))
            clear d0 d1 d2 T3 W3 t4
            obtain ⟨d0, d1, d2⟩ := HC.out w4 T4
            go_wp2_with fail
            refine (xwtext1 _ _ vs' _ W4 hs (by rw [List.length_append]; simp; omega)).mono ?_
            rintro x w5 ⟨rfl, W5, t5⟩
            have T5 := T4.trans' (eq_mono t5 (Nat.le_refl _))
            clear d0 d1 d2 T4 W4 t5
            have W6 : XW w5 w.heap.size (bsA (bs ++ encV ⟨2, 0, vs'⟩)) 0 := by
              have e : encV ⟨2, 0, vs'⟩ = [2] ++ textL vs' := rfl
              rw [e, ← List.append_assoc]; exact W5
            clear W5
            go_wp2_with fail
            go_roundw
            case rel => exact ⟨k + 1, _, by go_num, by omega, HA4, by rw [List.length_append]; omega, W6, T5⟩
            case measure => simp [intOf]; omega
          · have hn3 : (0 : Int) ≤ 3 + vn ∧ 3 + vn ≤ 255 := by omega
            go_wp2_with fail
            refine (xwbyte1 _ bs (3 + vn) _ _ W3 rfl hn3.1 hn3.2 (by omega)).mono ?_
            rintro x w4 ⟨rfl, W4, t4⟩
            have T4 := (T3.allocR _).trans' (eq_mono t4 (Nat.le_refl _))
            clear d0 d1 d2 T3 W3 t4
            have W5 : XW w4 w.heap.size (bsA (bs ++ encV ⟨3, vn, vs'⟩)) 0 := W4
            clear W4
            go_wp2_with fail
            go_roundw
            case rel => exact ⟨k + 1, _, by go_num, by omega, HA4, by rw [List.length_append]; omega, W5, T4⟩
            case measure => simp [intOf]; omega
        · have HE2 : Hid (encR vs = ([], wrg ⟨vk, vn, vs'⟩)) := by
            show _ = _
            rw [HA.out, HV.out, if_neg hw]
          have T4 := ge_new T3
          clear T3 HV HA
          have hw' : (wrg ⟨vk, vn, vs'⟩ != 0) = true := by simpa using hw
          obtain ⟨e, he⟩ : ∃ e, e = wrg ⟨vk, vn, vs'⟩ := ⟨_, rfl⟩
          rw [← he] at hw' HE2 ⊢
          clear he hw
          go_wp2_with fail
          go_ret2
          rw [HE2.out]
          exact ⟨rfl, T4⟩
      · have hkl' : ¬ (k : Int) < vs.length := by omega
        have HE2 : Hid (encR vs = (bs, 0)) := by
          show _ = _
          rw [HA.out, List.drop_eq_nil_of_le (by omega)]; rfl
        go_wp2_with fail
        refine (xwdone_any _ (bsA bs) 0 _ hW).mono ?_
        rintro x w3 ⟨rfl, t3⟩
        have T4 := ge_new (hT.trans' (no_mono t3))
        go_wp2_with fail
        go_ret2
        rw [HE2.out]
        exact ⟨rfl, T4⟩
end Go.Proofs.YteaagnlhkopgdaaGreatDoor
