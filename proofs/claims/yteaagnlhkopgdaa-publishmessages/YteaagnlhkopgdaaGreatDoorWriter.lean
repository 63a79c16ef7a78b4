import Derived.Test.YteaagnlhkopgdaaGreatDoorPlain
import Derived.Laws.BitsAllLaws
import Derived.Laws.Bits64
import Derived.Lib.Walk
import Derived.Lib.BufferWrite
import Derived.Lib.UnsafeStr
import Derived.Laws.MakeOwn
import Derived.OwnWalk
import Derived.Laws.AppendOwn
import Derived.Laws.IdiomStrings
import Derived.Lib.ConvBytes
import Derived.Lib.BufferRead
set_option maxHeartbeats 4000000
set_option maxRecDepth 100000
namespace Go.Proofs.YteaagnlhkopgdaaGreatDoor
open Go.RowKit
theorem or_step {v b k : Nat} (hv : v < 128 ^ k) (hfit : v + (b % 128) * 128 ^ k < 18446744073709551616) :
    bits .or .u64 (v : Int) (IntKind.u64.wrap ((b : Int) % 128 * 2 ^ (7 * k))) = ((v + (b % 128) * 128 ^ k : Nat) : Int) := by
  have e1 : ((b : Int) % 128 * 2 ^ (7 * k)) = (((b % 128) * 128 ^ k : Nat) : Int) := by
    rw [p128]; simp
  have hlt : (b % 128) * 128 ^ k < 18446744073709551616 := by omega
  rw [e1, IntKind.wrap_u64]
  have e2 : ((((b % 128) * 128 ^ k : Nat) : Int) % 18446744073709551616) = (((b % 128) * 128 ^ k : Nat) : Int) := by omega
  rw [e2, u64_or_nat _ _ (by omega) hlt, ← or_shl hv, Nat.shiftLeft_eq, p128]
theorem wrap64_byte (b : UInt8) : wrap64 (b.toNat : Int) = b.toNat := by
  have := b.toNat_lt; unfold wrap64; omega
theorem drop_cons (s : ByteArray) (k : Nat) (h : k < s.size) : s.data.toList.drop k = s[k] :: s.data.toList.drop (k + 1) := by
  rw [List.drop_eq_getElem_cons (by simpa using h)]; rfl
theorem digits_any (s : ByteArray) (last top : Nat) (w : World) (hs : s.size ≤ maxLen) (hl : last ≤ 10) (hl0 : 0 < last) (ht : top ≤ 127) (h10 : last = 10 → top ≤ 1) :
    Calls Tryz.prog 115 #[.string s, .int .i64 last, .int .i64 top] w fun x w' => (∃ n k : Nat, ∃ c : Int, dgs last top s.data.toList 0 0 = (n, k, c) ∧ x = .returned (.tuple #[.int .u64 n, .int .i64 k, .int .i64 c])) ∧ w' = w := by
  unfold maxLen at hs
  go_enter Tryz.func115, Tryz.ntmps115
  go_wp2
  go_loop [9, 14] (fun n i => ∃ k v : Nat, k ≤ s.size ∧ k < last ∧ i = .int .i64 k ∧ n = .int .u64 v ∧ v < 128 ^ k ∧ Hid (dgs last top (s.data.toList.drop k) k v = dgs last top s.data.toList 0 0)) (fun _ i => s.size - (intOf i).toNat)
  case atStart => exact ⟨0, 0, Nat.zero_le _, hl0, rfl, rfl, by decide, rfl⟩
  case round =>
    obtain ⟨k, v, hk, hkl, rfl, rfl, hv, HD⟩ := hrel
    by_cases hlt : k < s.size
    · have hw := wrap64_byte s[k]
      have hbn : (s[k].toNat : Int) ≤ 255 := by have := s[k].toNat_lt; omega
      have HD2 := HD.out
      rw [drop_cons s k hlt] at HD2
      have HE2 : Hid (dgs last top (s[k] :: List.drop (k + 1) s.data.toList) k v = dgs last top s.data.toList 0 0) := HD2
      clear HD HD2
      by_cases hA : k + 1 = last ∧ top < s[k].toNat
      · obtain ⟨hA1, hA2⟩ := hA
        have hA3 : (k : Int) + 1 = last := by omega
        have hA4 : (top : Int) < s[k].toNat := by omega
        go_wp2
        go_ret3
        exact ⟨⟨0, 0, 10, by rw [← HE2.out, dgs_range hA1 hA2], rfl⟩, rfl⟩
      · have hfit := Hid.out (p := _) (show Hid _ from digit_fits hv hl hkl ht h10 hA)
        have HO : Hid (bits .or .u64 (v : Int) (IntKind.u64.wrap ((s[k].toNat : Int) % 128 * 2 ^ (7 * k))) = ((v + (s[k].toNat % 128) * 128 ^ k : Nat) : Int)) := or_step hv hfit
        have HA : Hid (¬ (k + 1 = last ∧ top < s[k].toNat)) := hA
        by_cases hB : 128 ≤ s[k].toNat
        · have hB1 : (128 : Int) ≤ s[k].toNat := by omega
          have hB2 : ¬ ((k : Int) + 1 = last) := by omega
          have HS : Hid (v + (s[k].toNat % 128) * 128 ^ k < 128 ^ (k + 1)) := step_lt hv
          clear hA hfit
          go_wp2
          go_round
          case rel =>
            exact ⟨k + 1, v + (s[k].toNat % 128) * 128 ^ k, by omega, by omega, by go_num, by rw [HO.out], HS.out, by rw [← HE2.out, dgs_more HA.out hB]; rfl⟩
          case measure => simp [intOf]; omega
        · have hB1 : (s[k].toNat : Int) < 128 := by omega
          clear hA hfit
          by_cases hz : s[k].toNat = 0 ∧ 0 < k
          · obtain ⟨hz1, hz2⟩ := hz
            have hz3 : (s[k].toNat : Int) = 0 := by omega
            by_cases hA1 : (k : Int) + 1 = last
            · have hA4 : ¬ (top : Int) < s[k].toNat := by omega
              go_wp2
              go_ret3
              exact ⟨⟨0, 0, 14, by rw [← HE2.out, dgs_form HA.out hz1 hz2], rfl⟩, rfl⟩
            · go_wp2
              go_ret3
              exact ⟨⟨0, 0, 14, by rw [← HE2.out, dgs_form HA.out hz1 hz2], rfl⟩, rfl⟩
          · have HZ : Hid (dgs last top s.data.toList 0 0 = (v + (s[k].toNat % 128) * 128 ^ k, k + 1, 0)) := by
              have := HE2.out; rw [dgs_end HA.out (by omega) hz] at this; exact this.symm
            have HA5 : Hid ((k : Int) + 1 = last → ¬ (top : Int) < s[k].toNat) := by
              intro h1 h2; exact HA.out ⟨by omega, by omega⟩
            by_cases hzz : s[k].toNat = 0
            · obtain rfl : k = 0 := by omega
              obtain rfl : v = 0 := by simpa using hv
              have HZ0 : Hid (dgs last top s.data.toList 0 0 = (0, 1, 0)) := by have := HZ.out; show _ = _; simpa [hzz] using this
              have HO0 : Hid (bits .or .u64 0 0 = 0) := by show _ = _; decide
              have hz3 : (s[0].toNat : Int) = 0 := by omega
              by_cases hA1 : (0 : Int) + 1 = last
              · have hA4 : ¬ (top : Int) < s[0].toNat := HA5.out (by simpa using hA1)
                have HK : Hid ((last : Int) = (1 : Nat)) := by show _ = _; omega
                clear HA hz HO HZ
                go_wp2
                go_ret3
                exact ⟨⟨0, 1, 0, HZ0.out, by simp only [HO0.out, HK.out]; rfl⟩, rfl⟩
              · clear HA hz HO HZ
                go_wp2
                go_ret3
                exact ⟨⟨0, 1, 0, HZ0.out, by simp only [HO0.out]; rfl⟩, rfl⟩
            · have hz3 : ¬ (s[k].toNat : Int) = 0 := by omega
              by_cases hA1 : (k : Int) + 1 = last
              · have hA4 : ¬ (top : Int) < s[k].toNat := HA5.out hA1
                have HK : Hid ((last : Int) = (k + 1 : Nat)) := by show _ = _; omega
                clear HA hz
                go_wp2
                go_ret3
                exact ⟨⟨_, _, _, HZ.out, by rw [HO.out, HK.out]; rfl⟩, rfl⟩
              · clear HA hz
                go_wp2
                go_ret3
                exact ⟨⟨_, _, _, HZ.out, by rw [HO.out]; rfl⟩, rfl⟩
    · go_wp2
      go_ret3
      refine ⟨⟨0, 0, 11, ?_, rfl⟩, rfl⟩
      rw [← HD.out, List.drop_of_length_le (by simp; omega)]; rfl
end Go.Proofs.YteaagnlhkopgdaaGreatDoor
namespace Go.Proofs.YteaagnlhkopgdaaGreatDoor
open Go.RowKit
theorem cells_byte : Tryz.prog.cellsOf 5 = 1 := by kernel_rfl
theorem info_byte : (Tryz.prog.info? 5).map (fun i => (i.zero, i.size, i.bytes)) = some (some (.int .u8 0), 1, 1) := by kernel_rfl
theorem slclone_any (s : ByteArray) (w : World) (hlim : s.size ≤ 281474976710656) :
    Calls Tryz.prog 139 #[.string s] w fun e w' => e = .returned (.string s) ∧ Below w.heap.size w w' := by
  by_cases h0 : s.size = 0
  · obtain rfl : s = ⟨#[]⟩ := ByteArray.ext (Array.eq_empty_of_size_eq_zero h0)
    go_enter Tryz.func139, Tryz.ntmps139
    go_wp2
    go_ret
    exact ⟨rfl, Below.refl _ _⟩
  · obtain ⟨i0, hi, hz0, hz1, hz2⟩ := info_parts info_byte
    have hinfo : (Tryz.prog.info? 5).map (·.size) = some 1 := by rw [hi]; simp [hz1]
    obtain ⟨M, hM⟩ : ∃ M, M = madeCells (Value.int .u8 0).cells (((s.size : Nat) : Int).toNat * i0.size) := ⟨_, rfl⟩
    have hMs : M.size = s.size := by rw [hM, size_madeCells, hz1]; simp
    have hmk : ∀ W : World, (Instr.makeSlice 46 (.int .i64 (s.size : Int)) (.int .i64 (s.size : Int))).run Tryz.prog W = .ok (.slice (some ⟨W.heap.size, 0, none⟩) s.size s.size) (W.alloc (.cells M 5)) := fun W => by
      have h := run_make (P := Tryz.prog) W 46 5 i0 (.int .u8 0) Tryz.underlying46 hi hz0 .i64 .i64 (s.size : Int) (s.size : Int) (by omega) (by omega) (by rw [hz2]; omega) (by omega)
      rw [← hM] at h
      simpa using h
    clear hM
    have hcp := Lib.run_copy_row_string (P := Tryz.prog) (w.alloc (.cells M 5)) 46 9 3 5 w.heap.size 0 s.size s.size s M 5 Tryz.underlying46 hinfo (heap_alloc_new w _) (Nat.le_refl _) (by omega)
    obtain ⟨Y, hY⟩ : ∃ Y, Y = (M.toList.take 0 ++ Lib.byteCells s.data.toList ++ M.toList.drop (0 + s.size)).toArray := ⟨_, rfl⟩
    rw [← hY] at hcp
    have hYl : Y.toList = Lib.byteCells s.data.toList := by
      rw [hY, List.toList_toArray, List.take_zero, List.nil_append, List.drop_of_length_le (by rw [Array.length_toList]; omega), List.append_nil]
    have hYs : Y.size = s.size := by rw [← Array.length_toList, hYl, Lib.byteCells_length, ← Lib.size_eq]
    have hgY : ((w.alloc (.cells M 5)).setRow w.heap.size Y).heap[w.heap.size]? = some (.cells Y 5 (0, 0)) := setRow_heap _ _ M _ 5 (0, 0) (heap_alloc_new w _)
    have hne : s.data.toList ≠ [] := fun e => h0 (by rw [Lib.size_eq, e]; rfl)
    have hUS := Lib.run_unsafeString_row (P := Tryz.prog) ((w.alloc (.cells M 5)).setRow w.heap.size Y) 180 3 9 5 Tryz.underlying180 cells_byte w.heap.size Y.size (by unfold World.shape?; rw [hgY]) s.data.toList hne (by rw [← Lib.size_eq]; omega) (by rw [← Lib.size_eq]; omega)
      (fun j x hx => Lib.cells_of_row hgY Y.size j _ (by rw [List.take_of_length_le (by rw [Array.length_toList]; exact Nat.le_refl _), hYl]; simp [Lib.byteCells, hx]))
    rw [← Lib.size_eq] at hUS
    clear hY
    go_enter Tryz.func139, Tryz.ntmps139
    go_wp2
    go_ret
    have hb1 : Below w.heap.size w (w.alloc (.cells M 5)) := (Below.refl _ w).alloc (Nat.le_refl _) _
    have hb2 : Below w.heap.size (w.alloc (.cells M 5)) ((w.alloc (.cells M 5)).setRow w.heap.size Y) := ⟨rfl, rfl, rfl, by simp, fun k hk => setRow_other _ _ _ _ (by omega)⟩
    exact ⟨rfl, Lib.below_freeze (hb1.trans hb2) (p := ⟨w.heap.size, 0, none⟩) (Nat.le_refl _) _⟩
theorem clone_any (s : ByteArray) (w : World) (hlim : s.size ≤ 281474976710656) :
    Calls Tryz.prog 138 #[.string s] w fun e w' => e = .returned (.string s) ∧ Below w.heap.size w w' := by
  go_enter Tryz.func138, Tryz.ntmps138
  go_wp2_with (go_at_call 139; go_must (refine (slclone_any _ _ hlim).mono ?_); rintro e w' ⟨rfl, hb⟩)
  go_ret
  exact ⟨rfl, hb⟩
end Go.Proofs.YteaagnlhkopgdaaGreatDoor
namespace Go.Proofs.YteaagnlhkopgdaaGreatDoor
open Go.RowKit
theorem ret_str {x y : ByteArray} (h : x = y) : Ending.returned (.string x) = .returned (.string y) := by rw [h]
theorem ret_int {k : IntKind} {x y : Int} (h : x = y) : Ending.returned (.int k x) = .returned (.int k y) := by rw [h]
theorem tail_skip (S : ByteArray) (a n : Nat) : (S.extract a S.size).extract n (S.extract a S.size).size = S.extract (a + n) S.size := by
  apply ByteArray.ext
  apply Array.toList_inj.1
  rw [Lib.extract_data, Lib.extract_data, Lib.extract_data]
  have hs : (S.extract a S.size).size = S.size - a := by simp
  rw [hs] at *
  rw [List.take_of_length_le (by simp), List.take_of_length_le (by simp), List.take_of_length_le (by simp), List.drop_drop]
theorem tail_size (S : ByteArray) (a : Nat) : (S.extract a S.size).size = S.size - a := by simp
theorem tail_list (S : ByteArray) (a : Nat) : (S.extract a S.size).data.toList = S.data.toList.drop a := by
  rw [Lib.extract_data, List.take_of_length_le (by simp)]
theorem tail_front (S : ByteArray) (a n : Nat) : (S.extract a S.size).extract 0 n = S.extract a (a + n) := by
  apply ByteArray.ext
  apply Array.toList_inj.1
  rw [Lib.extract_data, Lib.extract_data, Lib.extract_data]
  rw [List.take_of_length_le (l := List.drop a S.data.toList) (by simp)]
  simp
theorem tail_head (S : ByteArray) (a : Nat) (ha : a < S.size) (h : 0 < (S.extract a S.size).size) : wrap64 ((S.extract a S.size)[0].toNat : Int) = ((S.data.toList.getD a 0).toNat : Int) := by
  rw [wrap64_byte]
  have e1 : (S.extract a S.size)[0] = S[a] := by simp [ByteArray.getElem_extract]
  have e2 : S.data.toList.getD a 0 = S[a] := by
    rw [List.getD_eq_getElem?_getD, List.getElem?_eq_getElem (by simpa using ha)]; rfl
  rw [e1, e2]
structure RD (w : World) (b : Nat) (S : ByteArray) (a : Nat) (e : Int) : Prop where
  st : RS w b (S.extract a S.size) a e
  le : a ≤ S.size
theorem RD.tch {T : Nat → Prop} {w w' : World} {b : Nat} {S : ByteArray} {a : Nat} {e : Int} (h : RD w b S a e) (t : Tch T w w') (hb : ¬ T b) : RD w' b S a e := ⟨h.st.tch t hb, h.le⟩
theorem take_any (b : Nat) (S : ByteArray) (a n : Nat) (w : World) (h : RD w b S a 0) (hS : S.size ≤ 281474976710656) (hn : a + n ≤ S.size) :
    Calls Tryz.prog 137 #[.pointer (some ⟨b, 0, none⟩), .int .i64 n] w fun x w' => x = .returned (.string (S.extract a (a + n))) ∧ RD w' b S (a + n) 0 ∧ Tch (fun i => i = b) w w' := by
  have c0 := h.st.c0
  have hl : b < w.heap.size := cell_lt h.st.c0
  have hz := tail_size S a
  have hn2 : n ≤ (S.extract a S.size).size := by omega
  have hn3 : (n : Int) ≤ ((S.extract a S.size).size : Int) := by omega
  have hlim : ((S.extract a S.size).extract 0 n).size ≤ 281474976710656 := by simp; omega
  go_enter Tryz.func137, Tryz.ntmps137
  go_wp2_with (first | (go_at_call 138; go_must (refine (clone_any _ _ hlim).mono ?_); rintro e w1 ⟨rfl, hb⟩; have h1 := h.st.tch (S := fun _ => False) (Tch.of_below hb (Nat.le_refl _)) (fun h => h)) | (go_at_call 50; go_must (refine (skip_any b _ a n 0 _ h1 hn2 (by omega)).mono ?_); rintro e w2 ⟨rfl, h2, t2⟩))
  go_ret
  refine ⟨ret_str (tail_front S a n), ⟨?_, hn⟩, ((Tch.of_below hb (Nat.le_refl _)).trans' t2)⟩
  have h3 := h2
  rw [tail_skip] at h3
  exact h3
theorem RD.fail {w' : World} {b : Nat} {S : ByteArray} {a : Nat} {c : Int} (hle : a ≤ S.size) (h : RS w' b (S.extract a S.size) a c) : RD w' b S a c := ⟨h, hle⟩
theorem RD.skip {w' : World} {b : Nat} {S : ByteArray} {a n : Nat} {c : Int} (hle : a + n ≤ S.size) (h : RS w' b ((S.extract a S.size).extract n (S.extract a S.size).size) ((a + n : Nat) : Int) c) : RD w' b S (a + n) c := by
  rw [tail_skip] at h; exact ⟨h, hle⟩
theorem number_any (b : Nat) (S : ByteArray) (a : Nat) (e : Int) (last top : Nat) (w : World) (h : RD w b S a e) (hS : S.size ≤ 281474976710656) (hl : last ≤ 10) (hl0 : 0 < last) (ht : top ≤ 127) (h10 : last = 10 → top ≤ 1) :
    Calls Tryz.prog 114 #[.pointer (some ⟨b, 0, none⟩), .int .i64 last, .int .i64 top] w fun x w' => x = .returned (.int .u64 (numR last top S a e).1) ∧ RD w' b S (numR last top S a e).2.1 (numR last top S a e).2.2 ∧ Tch (fun i => i = b) w w' := by
  have c0 := h.st.c0; have c2 := h.st.c2
  have hl' : b < w.heap.size := cell_lt h.st.c0
  by_cases he : e = 0
  · subst he
    rw [errV_zero] at c2
    have hz : (S.extract a S.size).size ≤ maxLen := by rw [tail_size]; unfold maxLen; omega
    rcases hd : dgs last top (S.data.toList.drop a) 0 0 with ⟨n, k, c⟩
    have HD : Hid (dgs last top (S.extract a S.size).data.toList 0 0 = (n, k, c)) := by show _ = _; rw [tail_list]; exact hd
    have dig := digits_any (S.extract a S.size) last top w hz hl hl0 ht h10
    rw [HD.out] at dig
    by_cases hc : c = 0
    · subst hc
      have HR : Hid (numR last top S a 0 = (n, a + k, 0)) := numR_ok hd
      obtain ⟨hk, _⟩ := dgs_ok hl ht h10 _ _ _ _ _ (by decide) hl0 hd
      have hk2 : k ≤ S.size - a := by simpa using hk
      have hle := h.le
      have hk3 : k ≤ (S.extract a S.size).size := by rw [tail_size]; exact hk2
      clear hd hk
      go_enter Tryz.func114, Tryz.ntmps114
      go_wp2_with (first | (go_at_call 115; refine dig.mono ?_; rintro x w1 ⟨⟨n1, k1, c1, hh, rfl⟩, rfl⟩; simp only [Prod.mk.injEq] at hh; obtain ⟨rfl, rfl, rfl⟩ := hh) | (go_at_call 50; refine (skip_any b _ a _ 0 _ h.st hk3 (by omega)).mono ?_; rintro x w2 ⟨rfl, h2, t2⟩))
      go_ret
      rw [HR.out]
      exact ⟨rfl, RD.skip (by omega) h2, t2⟩
    · have HR : Hid (numR last top S a 0 = (0, a, c)) := numR_bad hd hc
      have hcb : (c != 0) = true := by simpa using hc
      have hle := h.le
      clear hd
      go_enter Tryz.func114, Tryz.ntmps114
      go_wp2_with (first | (go_at_call 115; refine dig.mono ?_; rintro x w1 ⟨⟨n1, k1, c1, hh, rfl⟩, rfl⟩; simp only [Prod.mk.injEq] at hh; obtain ⟨rfl, rfl, rfl⟩ := hh) | (go_at_call 49; refine (rfail_any b _ a _ _ h.st hc).mono ?_; rintro x w2 ⟨rfl, h2, t2⟩))
      go_ret
      rw [HR.out]
      exact ⟨rfl, RD.fail hle h2, t2⟩
  · rw [errV_ne he] at c2
    rw [numR_wrong he]
    go_enter Tryz.func114, Tryz.ntmps114
    go_wp2
    go_ret
    exact ⟨rfl, h, Tch.refl _ _⟩
theorem rvar_any (b : Nat) (S : ByteArray) (a : Nat) (e : Int) (w : World) (h : RD w b S a e) (hS : S.size ≤ 281474976710656) :
    Calls Tryz.prog 112 #[.pointer (some ⟨b, 0, none⟩)] w fun x w' => x = .returned (.int .i64 (numR 9 127 S a e).1) ∧ RD w' b S (numR 9 127 S a e).2.1 (numR 9 127 S a e).2.2 ∧ Tch (fun i => i = b) w w' := by
  obtain ⟨_, hlt⟩ := numR_lt (last := 9) (top := 127) (by omega) (by omega) (by omega) (by omega) S a e
  have hlt := hlt rfl
  have num := number_any b S a e 9 127 w h hS (by omega) (by omega) (by omega) (by omega)
  rcases hR : numR 9 127 S a e with ⟨n, a', e'⟩
  rw [hR] at num hlt
  clear hR
  simp only [] at num hlt
  have hn : (n : Int) ≤ 9223372036854775807 := by omega
  go_enter Tryz.func112, Tryz.ntmps112
  go_wp2_with (go_at_call 114; refine num.mono ?_; rintro x w1 ⟨rfl, h1, t1⟩)
  go_ret
  exact ⟨rfl, h1, t1⟩
theorem unfold_any (u : Nat) (w : World) (hu : u < 18446744073709551616) :
    Calls Tryz.prog 157 #[.int .u64 u] w fun x w' => x = .returned (.int .i64 (unf u)) ∧ w' = w := by
  have h1 : (u : Int) / 2 ≤ 9223372036854775807 := by omega
  have h2 : (0 : Int) ≤ u := by omega
  by_cases hp : u % 2 = 0
  · have hp2 : (u : Int) % 2 = 0 := by omega
    have HU : Hid (unf u = (u : Int) / 2) := by show _ = _; simp [unf, hp]
    go_enter Tryz.func157, Tryz.ntmps157
    go_wp2
    go_ret
    exact ⟨ret_int HU.out.symm, rfl⟩
  · have hp2 : ¬ (u : Int) % 2 = 0 := by omega
    have HU : Hid (unf u = -((u : Int) / 2) - 1) := by show _ = _; simp [unf, hp]
    go_enter Tryz.func157, Tryz.ntmps157
    go_wp2
    go_ret
    exact ⟨ret_int HU.out.symm, rfl⟩
theorem rbyte_any (b : Nat) (S : ByteArray) (a : Nat) (e : Int) (w : World) (h : RD w b S a e) (hS : S.size ≤ 281474976710656) :
    Calls Tryz.prog 27 #[.pointer (some ⟨b, 0, none⟩)] w fun x w' => x = .returned (.int .i64 (byteR S a e).1) ∧ RD w' b S (byteR S a e).2.1 (byteR S a e).2.2 ∧ Tch (fun i => i = b) w w' := by
  have c0 := h.st.c0; have c2 := h.st.c2
  have hle := h.le
  by_cases he : e = 0
  · subst he
    rw [errV_zero] at c2
    by_cases ha : a < S.size
    · have hne := nonempty_of_size (r := S.extract a S.size) (by rw [tail_size]; omega)
      have h1 : 1 ≤ (S.extract a S.size).size := by rw [tail_size]; omega
      have h1' : (0 : Int) < (S.extract a S.size).size := by omega
      have HR : Hid (byteR S a 0 = ((S.data.toList.getD a 0).toNat, a + 1, 0)) := by show _ = _; simp [byteR, ha]
      go_enter Tryz.func27, Tryz.ntmps27
      go_wp2_with (go_at_call 50; refine (skip_any b _ a 1 0 _ h.st h1 (by omega)).mono ?_; rintro x w2 ⟨rfl, h2, t2⟩)
      go_ret
      rw [HR.out]
      exact ⟨ret_int (tail_head S a ha _), RD.skip (by omega) h2, t2⟩
    · have hem := empty_of_size (r := S.extract a S.size) (by rw [tail_size]; omega)
      have HR : Hid (byteR S a 0 = (0, a, 11)) := by show _ = _; simp [byteR, ha]
      go_enter Tryz.func27, Tryz.ntmps27
      go_wp2_with (go_at_call 49; refine (rfail_any b _ a 11 _ h.st (by omega)).mono ?_; rintro x w2 ⟨rfl, h2, t2⟩)
      go_ret
      rw [HR.out]
      exact ⟨rfl, RD.fail hle h2, t2⟩
  · rw [errV_ne he] at c2
    have HR : Hid (byteR S a e = (0, a, e)) := by show _ = _; simp [byteR, he]
    go_enter Tryz.func27, Tryz.ntmps27
    go_wp2
    go_ret
    rw [HR.out]
    exact ⟨rfl, h, Tch.refl _ _⟩
theorem rtext_any (b : Nat) (S : ByteArray) (a : Nat) (e most : Int) (w : World) (h : RD w b S a e) (hS : S.size ≤ 281474976710656) :
    Calls Tryz.prog 135 #[.pointer (some ⟨b, 0, none⟩), .int .i64 most] w fun x w' => x = .returned (.string (textR most S a e).1) ∧ RD w' b S (textR most S a e).2.1 (textR most S a e).2.2 ∧ Tch (fun i => i = b) w w' := by
  have c0 := h.st.c0; have c2 := h.st.c2
  have hle := h.le
  by_cases he : e = 0
  · subst he
    rw [errV_zero] at c2
    by_cases hm : most < 0
    · have HR : Hid (textR most S a 0 = (⟨#[]⟩, a, 1)) := by show _ = _; simp [textR, hm]
      go_enter Tryz.func135, Tryz.ntmps135
      go_wp2_with (go_at_call 49; refine (rfail_any b _ a 1 _ h.st (by omega)).mono ?_; rintro x w2 ⟨rfl, h2, t2⟩)
      go_ret
      rw [HR.out]
      exact ⟨rfl, RD.fail hle h2, t2⟩
    · have hz : (S.extract a S.size).size ≤ maxLen := by rw [tail_size]; unfold maxLen; omega
      rcases hd : dgs 9 127 (S.data.toList.drop a) 0 0 with ⟨n, k, c⟩
      have HD : Hid (dgs 9 127 (S.extract a S.size).data.toList 0 0 = (n, k, c)) := by show _ = _; rw [tail_list]; exact hd
      have dig := digits_any (S.extract a S.size) 9 127 w hz (by omega) (by omega) (by omega) (by omega)
      rw [HD.out] at dig
      have HT : Hid (textR most S a 0 = if c ≠ 0 then (⟨#[]⟩, a, c) else if most < n then (⟨#[]⟩, a, 12) else if S.size - a - k < n then (⟨#[]⟩, a, 11) else (S.extract (a + k) (a + k + n), a + k + n, 0)) := by
        show _ = _; unfold textR; rw [if_neg (by simp), if_neg hm, hd]
      by_cases hc : c = 0
      · subst hc
        obtain ⟨hk, _, hk9, _, hn⟩ := dgs_ok (by omega) (by omega) (by omega) _ _ _ _ _ (by decide) (by omega) hd
        have hn63 : n < 9223372036854775808 := by
          have h2 := pow_le_of hk9
          have h3 : (128 : Nat) ^ 9 = 9223372036854775808 := by decide
          omega
        have hn3 : (n : Int) ≤ 9223372036854775807 := by omega
        have hk2 : k ≤ S.size - a := by simpa using hk
        have hk3 : k ≤ (S.extract a S.size).size := by rw [tail_size]; exact hk2
        clear hd hk hn hk9 hz hn63
        by_cases h12 : most < n
        · have HR : Hid (textR most S a 0 = (⟨#[]⟩, a, 12)) := by show _ = _; rw [HT.out, if_neg (by simp), if_pos h12]
          go_enter Tryz.func135, Tryz.ntmps135
          go_wp2_with (first | (go_at_call 115; refine dig.mono ?_; rintro x w1 ⟨⟨n1, k1, c1, hh, rfl⟩, rfl⟩; simp only [Prod.mk.injEq] at hh; obtain ⟨rfl, rfl, rfl⟩ := hh) | (go_at_call 49; refine (rfail_any b _ a 12 _ h.st (by omega)).mono ?_; rintro x w2 ⟨rfl, h2, t2⟩))
          go_ret
          rw [HR.out]
          exact ⟨rfl, RD.fail hle h2, t2⟩
        · by_cases h11 : S.size - a - k < n
          · have HR : Hid (textR most S a 0 = (⟨#[]⟩, a, 11)) := by show _ = _; rw [HT.out, if_neg (by simp), if_neg h12, if_pos h11]
            have h11' : ((S.size - a : Nat) : Int) - k < n := by omega
            go_enter Tryz.func135, Tryz.ntmps135
            go_wp2_with (first | (go_at_call 115; refine dig.mono ?_; rintro x w1 ⟨⟨n1, k1, c1, hh, rfl⟩, rfl⟩; simp only [Prod.mk.injEq] at hh; obtain ⟨rfl, rfl, rfl⟩ := hh) | (go_at_call 49; refine (rfail_any b _ a 11 _ h.st (by omega)).mono ?_; rintro x w2 ⟨rfl, h2, t2⟩))
            go_ret
            rw [HR.out]
            exact ⟨rfl, RD.fail hle h2, t2⟩
          · have HR : Hid (textR most S a 0 = (S.extract (a + k) (a + k + n), a + k + n, 0)) := by show _ = _; rw [HT.out, if_neg (by simp), if_neg h12, if_neg h11]
            have h11' : ¬ ((S.size - a : Nat) : Int) - k < n := by omega
            have hak : a + k + n ≤ S.size := by omega
            go_enter Tryz.func135, Tryz.ntmps135
            go_wp2_with (first | (go_at_call 115; refine dig.mono ?_; rintro x w1 ⟨⟨n1, k1, c1, hh, rfl⟩, rfl⟩; simp only [Prod.mk.injEq] at hh; obtain ⟨rfl, rfl, rfl⟩ := hh) | (go_at_call 50; refine (skip_any b _ a _ 0 _ h.st hk3 (by omega)).mono ?_; rintro x w2 ⟨rfl, h2, t2⟩; have h3 := RD.skip (by omega) h2) | (go_at_call 137; refine (take_any b S _ _ _ h3 hS hak).mono ?_; rintro x w3 ⟨rfl, h4, t3⟩))
            go_ret
            rw [HR.out]
            exact ⟨rfl, h4, t2.trans' t3⟩
      · have HR : Hid (textR most S a 0 = (⟨#[]⟩, a, c)) := by show _ = _; rw [HT.out, if_pos hc]
        have hcb : (c != 0) = true := by simpa using hc
        obtain ⟨rfl, rfl, _⟩ := dgs_zero _ _ _ _ _ _ hd hc
        clear hd hz
        go_enter Tryz.func135, Tryz.ntmps135
        go_wp2_with (first | (go_at_call 115; refine dig.mono ?_; rintro x w1 ⟨⟨n1, k1, c1, hh, rfl⟩, rfl⟩; simp only [Prod.mk.injEq] at hh; obtain ⟨rfl, rfl, rfl⟩ := hh) | (go_at_call 49; refine (rfail_any b _ a _ _ h.st hc).mono ?_; rintro x w2 ⟨rfl, h2, t2⟩))
        go_ret
        rw [HR.out]
        exact ⟨rfl, RD.fail hle h2, t2⟩
  · rw [errV_ne he] at c2
    have HR : Hid (textR most S a e = (⟨#[]⟩, a, e)) := by show _ = _; simp [textR, he]
    go_enter Tryz.func135, Tryz.ntmps135
    go_wp2
    go_ret
    rw [HR.out]
    exact ⟨rfl, h, Tch.refl _ _⟩
theorem rint_any (b : Nat) (S : ByteArray) (a : Nat) (e : Int) (w : World) (h : RD w b S a e) (hS : S.size ≤ 281474976710656) :
    Calls Tryz.prog 155 #[.pointer (some ⟨b, 0, none⟩)] w fun x w' => x = .returned (.int .i64 (unf (numR 10 1 S a e).1)) ∧ RD w' b S (numR 10 1 S a e).2.1 (numR 10 1 S a e).2.2 ∧ Tch (fun i => i = b) w w' := by
  obtain ⟨hlt, _⟩ := numR_lt (last := 10) (top := 1) (by omega) (by omega) (by omega) (by omega) S a e
  have num := number_any b S a e 10 1 w h hS (by omega) (by omega) (by omega) (by omega)
  rcases hR : numR 10 1 S a e with ⟨n, a', e'⟩
  rw [hR] at num hlt
  clear hR
  simp only [] at num hlt
  go_enter Tryz.func155, Tryz.ntmps155
  go_wp2_with (first | (go_at_call 114; refine num.mono ?_; rintro x w1 ⟨rfl, h1, t1⟩) | (go_at_call 157; refine (unfold_any _ _ hlt).mono ?_; rintro x w2 ⟨rfl, rfl⟩))
  go_ret
  exact ⟨rfl, h1, t1⟩
end Go.Proofs.YteaagnlhkopgdaaGreatDoor
namespace Go.Proofs.YteaagnlhkopgdaaGreatDoor
open Go.RowKit
structure WS (w : World) (b : Nat) (bs : List UInt8) (e : Int) : Prop where
  row : ∃ v, w.cell? ⟨b, 0, none⟩ = some v ∧ w.ownsRow (b + 1) 5 1 v bs.length (Lib.byteCells bs)
  c1 : w.cell? ⟨b, 1, none⟩ = some (errV e)
  f0 : w.frozen? ⟨b, 0, none⟩ = false
  f1 : w.frozen? ⟨b, 1, none⟩ = false
  bad : e ≠ 0 → bs = []
theorem ownsRow_tch {S : Nat → Prop} {w w' : World} {base : Nat} {t : TypeId} {n : Nat} {v : Value} {xs : List Value} (h : w.ownsRow base t 1 v n xs) (tc : Tch S w w') (hS : ∀ i, base ≤ i → i < w.heap.size → ¬ S i) : w'.ownsRow base t 1 v n xs := by
  obtain ⟨h1, h2⟩ := h
  refine ⟨h1, ?_⟩
  rcases h2 with h2 | ⟨g, cap, cur, hv, hg, hh, r⟩
  · exact Or.inl h2
  · have hlt : g < w.heap.size := by
      rcases Nat.lt_or_ge g w.heap.size with h | h
      · exact h
      · rw [Array.getElem?_eq_none h] at hh; cases hh
    exact Or.inr ⟨g, cap, cur, hv, hg, by rw [tc.block g hlt (hS g hg hlt)]; exact hh, r⟩
theorem WS.lt {w : World} {b : Nat} {bs : List UInt8} {e : Int} (h : WS w b bs e) : b < w.heap.size := cell_lt h.c1
theorem WS.tch {S : Nat → Prop} {w w' : World} {b : Nat} {bs : List UInt8} {e : Int} (h : WS w b bs e) (tc : Tch S w w') (hS : ∀ i, b ≤ i → i < w.heap.size → ¬ S i) : WS w' b bs e := by
  obtain ⟨v, c0, ho⟩ := h.row
  have hl := h.lt
  have hb := hS b (Nat.le_refl _) hl
  exact ⟨⟨v, (tc.cell (p := ⟨b, 0, none⟩) hl hb).trans c0, ownsRow_tch ho tc (fun i hi => hS i (by omega))⟩, (tc.cell (p := ⟨b, 1, none⟩) hl hb).trans h.c1,
    (tc.frozen (p := ⟨b, 0, none⟩) hl hb).trans h.f0, (tc.frozen (p := ⟨b, 1, none⟩) hl hb).trans h.f1, h.bad⟩
def WT (b : Nat) (w : World) : Nat → Prop := fun i => i = b ∨ (b < i ∧ ∃ cur fr, w.heap[i]? = some (.cells cur 5 fr))
theorem wt_trans {b : Nat} {w w1 w2 : World} (h : Tch (WT b w) w w1) (k : Tch (WT b w1) w1 w2) : Tch (WT b w) w w2 := by
  refine h.trans k (fun i hi ht => ?_)
  by_cases hn : WT b w i
  · exact hn
  · rcases ht with ht | ⟨ht, cur, fr, hh⟩
    · exact Or.inl ht
    · rw [h.block i hi hn] at hh
      exact Or.inr ⟨ht, cur, fr, hh⟩
theorem wt_le {b : Nat} {w w1 : World} (h : Tch (WT b w) w w1) : Tch (fun i => b ≤ i) w w1 := h.mono (fun i _ hi => by rcases hi with rfl | ⟨h, _⟩ <;> omega)
theorem wt_alloc {b : Nat} {w w1 : World} {o : Obj} (h : Tch (WT b (w.alloc o)) (w.alloc o) w1) : Tch (WT b w) w w1 := by
  refine (Tch.alloc (WT b w) w o).trans h (fun i hi ht => ?_)
  rcases ht with ht | ⟨ht, cur, fr, hh⟩
  · exact Or.inl ht
  · rw [Below.heap_alloc _ _ _ hi] at hh
    exact Or.inr ⟨ht, cur, fr, hh⟩
theorem info_byte' : ∃ i0, Tryz.prog.info? 5 = some i0 ∧ i0.zero = some (.int .u8 0) ∧ i0.size = 1 ∧ i0.bytes = 1 := by
  obtain ⟨i0, hi, hz0, hz1, hz2⟩ := info_parts info_byte
  exact ⟨i0, hi, hz0, hz1, hz2⟩
theorem ownBlock_ge {w : World} {base : Nat} {t : TypeId} {n : Nat} {v : Value} {xs : List Value} (h : w.ownsRow base t 1 v n xs) {k : Nat} (hk : some k = v.ownBlock) : base ≤ k := by
  rcases h.2 with ⟨rfl, _⟩ | ⟨g, cap, cur, rfl, hg, _⟩
  · cases hk
  · simp [Value.ownBlock] at hk; omega
theorem slice_of {w : World} {base : Nat} {t : TypeId} {n : Nat} {v : Value} {xs : List Value} (h : w.ownsRow base t 1 v n xs) : ∃ ao c, v = .slice ao n c := by
  rcases h.2 with ⟨rfl, rfl⟩ | ⟨g, cap, cur, rfl, hg, _⟩
  · exact ⟨_, _, rfl⟩
  · exact ⟨_, _, rfl⟩
theorem lay_ok (b : Nat) (bs l : List UInt8) (ad : Addr) (c : Nat) (w : World) (h : WS w b bs 0) (hcells : ∀ j u, (Lib.byteCells l)[j]? = some u → w.cell? (ad.add j) = some u) (hlen : bs.length + l.length ≤ 140737488355328) :
    Calls Tryz.prog 54 #[.pointer (some ⟨b, 0, none⟩), .slice (some ad) l.length c] w fun x w' => x = .returned (.tuple #[]) ∧ WS w' b (bs ++ l) 0 ∧ Tch (WT b w) w w' := by
  obtain ⟨v, c0, hown⟩ := h.row
  have c1 := h.c1; have f0 := h.f0
  rw [errV_zero] at c1
  have hl := h.lt
  obtain ⟨i0, hi, hz0, hz1, hz2⟩ := info_byte'
  obtain ⟨ao, cp, hv⟩ := slice_of hown
  subst hv
  have hbne : some b ≠ (Value.slice ao bs.length cp).ownBlock := fun hk => by have := ownBlock_ge hown hk; omega
  have HK : Hid (∀ w1, w.grownBy w1 (Value.slice ao bs.length cp).ownBlock → w1.cell? ⟨b, 0, none⟩ = some (.slice ao bs.length cp) ∧ w1.cell? ⟨b, 1, none⟩ = some .nilIface ∧ w1.frozen? ⟨b, 0, none⟩ = false ∧ w1.frozen? ⟨b, 1, none⟩ = false) := fun w1 hgr =>
    ⟨(World.cell?_of_block (w := w) (hgr.block b hl hbne)).trans c0, (World.cell?_of_block (w := w) (hgr.block b hl hbne)).trans c1, (World.frozen?_of_block (w := w) (hgr.block b hl hbne)).trans f0, (World.frozen?_of_block (w := w) (hgr.block b hl hbne)).trans h.f1⟩
  have HB : Hid (∀ g, (Value.slice ao bs.length cp).ownBlock = some g → WT b w g) := fun g hk => by
    have h1 := ownBlock_ge hown hk.symm
    rcases hown.2 with ⟨h2, _⟩ | ⟨g', cap, cur, h2, _, hh, _⟩
    · rw [h2] at hk; cases hk
    · rw [h2] at hk
      simp [Value.ownBlock] at hk
      subst hk
      exact Or.inr ⟨by omega, cur, _, hh⟩
  clear hbne
  go_enter Tryz.func54, Tryz.ntmps54
  go_wp2_with (at_builtin; refine wpList_append_own _ rfl _ _ 46 rfl (b + 1) 5 i0 (.int .u8 0) 1 1 Tryz.underlying46 hi hz0 hz1 hz2 rfl (by decide) (.slice ao bs.length cp) _ _ rfl hown ad l.length c (Lib.byteCells l) rfl (by rw [Lib.byteCells_length]; omega) hcells (Lib.byteCells_one l) (by unfold maxLen; omega) (by omega) (by omega) ?_; intro v' w1 hown' hgr hnil; obtain ⟨ao', cp', hv'⟩ := slice_of hown'; rw [hv']; obtain ⟨d0, d1, g0, g1⟩ := HK.out w1 hgr; clear c0 c1 f0)
  go_end0
  refine ⟨rfl, ?_, ?_⟩
  · rw [hv'] at hown'
    refine ⟨⟨.slice ao' (bs.length + l.length) cp', World.cell?_setCell_same _ _ _ d0, ?_⟩, ?_, by simpa using g0, by simpa using g1, fun h => absurd rfl h⟩
    · rw [Lib.byteCells_append, List.length_append]
      exact ownsRow_setCell_below hown' (by simp) _
    · rw [World.cell?_setCell_other (h := by simp), errV_zero]; exact d1
  · refine Tch.setCellR ⟨hgr.os, hgr.tape, hgr.output, hgr.size, fun k hk hn => hgr.block k hk (fun e => hn (HB.out k e.symm))⟩ _ _ (Or.inl rfl)
theorem lay_bad (b : Nat) (bs : List UInt8) (e : Int) (v : Value) (w : World) (h : WS w b bs e) (he : e ≠ 0) :
    Calls Tryz.prog 54 #[.pointer (some ⟨b, 0, none⟩), v] w fun x w' => x = .returned (.tuple #[]) ∧ w' = w := by
  have c1 := h.c1
  rw [errV_ne he] at c1
  go_enter Tryz.func54, Tryz.ntmps54
  go_wp2
  go_end0
  exact ⟨rfl, rfl⟩
def laidOn (bs l : List UInt8) (e : Int) : List UInt8 := if e = 0 then bs ++ l else bs
theorem lay_any (b : Nat) (bs l : List UInt8) (e : Int) (ad : Addr) (n c : Nat) (w : World) (h : WS w b bs e) (hn : l.length = n) (hcells : ∀ j u, (Lib.byteCells l)[j]? = some u → w.cell? (ad.add j) = some u) (hlen : bs.length + l.length ≤ 140737488355328) :
    Calls Tryz.prog 54 #[.pointer (some ⟨b, 0, none⟩), .slice (some ad) n c] w fun x w' => x = .returned (.tuple #[]) ∧ WS w' b (laidOn bs l e) e ∧ Tch (WT b w) w w' := by
  subst hn
  by_cases he : e = 0
  · subst he
    exact lay_ok b bs l ad c w h hcells hlen
  · refine (lay_bad b bs e _ w h he).mono ?_
    rintro x w' ⟨rfl, rfl⟩
    refine ⟨rfl, ?_, Tch.refl _ _⟩
    unfold laidOn; rw [if_neg he]; exact h
def failB (bs : List UInt8) (e : Int) : List UInt8 := if e = 0 then [] else bs
def failE (e c : Int) : Int := if e = 0 then c else e
theorem wfail_any (b : Nat) (bs : List UInt8) (e c : Int) (w : World) (h : WS w b bs e) (hc : c ≠ 0) :
    Calls Tryz.prog 53 #[.pointer (some ⟨b, 0, none⟩), .int .i64 c] w fun x w' => x = .returned (.tuple #[]) ∧ WS w' b (failB bs e) (failE e c) ∧ Tch (WT b w) w w' := by
  obtain ⟨v, c0, hown⟩ := h.row
  have c1 := h.c1; have f0 := h.f0; have f1 := h.f1
  by_cases he : e = 0
  · subst he
    rw [errV_zero] at c1
    obtain ⟨ao, cp, hv⟩ := slice_of hown
    subst hv
    go_enter Tryz.func53, Tryz.ntmps53
    go_wp2
    go_end0
    refine ⟨rfl, ?_, Tch.setCellR (Tch.setCell (WT b w) w ⟨b, 1, none⟩ _ (Or.inl rfl)) ⟨b, 0, none⟩ _ (Or.inl rfl)⟩
    have k0 : (w.setCell ⟨b, 1, none⟩ (.iface 128 (.agg #[.int .i64 c]))).cell? ⟨b, 0, none⟩ = some (.slice ao bs.length cp) := by
      rw [World.cell?_setCell_other (h := by simp)]; exact c0
    show WS _ b [] c
    refine ⟨⟨.slice none 0 0, World.cell?_setCell_same _ _ _ k0, rfl, Or.inl ⟨rfl, rfl⟩⟩, ?_, by simpa using f0, by simpa using f1, fun _ => rfl⟩
    rw [World.cell?_setCell_other (h := by simp), World.cell?_setCell_same (h := c1)]
    rw [errV_ne hc]
  · rw [errV_ne he] at c1
    have HW : Hid (WS w b (failB bs e) (failE e c)) := by show WS _ _ _ _; unfold failB failE; rw [if_neg he, if_neg he]; exact h
    go_enter Tryz.func53, Tryz.ntmps53
    go_wp2
    go_end0
    exact ⟨rfl, HW.out, Tch.refl _ _⟩
end Go.Proofs.YteaagnlhkopgdaaGreatDoor
