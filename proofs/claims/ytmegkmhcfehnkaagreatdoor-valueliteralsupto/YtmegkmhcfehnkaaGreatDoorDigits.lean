import Derived.Test.YtmegkmhcfehnkaaGreatDoorDone
import Derived.Test.YtmegkmhcfehnkaaGreatDoorPlain
import Derived.Laws.BitsAllLaws
import Derived.Laws.Bits64
namespace Go.Proofs.YtmegkmhcfehnkaaGreatDoor
open Go.RowKit

theorem or_step {v b k : Nat} (hv : v < 128 ^ k) (hfit : v + (b % 128) * 128 ^ k < 18446744073709551616) :
    bits .or .u64 (v : Int) (IntKind.u64.wrap ((b : Int) % 128 * 2 ^ (7 * k))) = ((v + (b % 128) * 128 ^ k : Nat) : Int) := by
  have e1 : ((b : Int) % 128 * 2 ^ (7 * k)) = (((b % 128) * 128 ^ k : Nat) : Int) := by
    rw [p128]; simp
  have hlt : (b % 128) * 128 ^ k < 18446744073709551616 := by omega
  rw [e1, IntKind.wrap_u64]
  have e2 : ((((b % 128) * 128 ^ k : Nat) : Int) % 18446744073709551616) = (((b % 128) * 128 ^ k : Nat) : Int) := by omega
  rw [e2, u64_or_nat _ _ (by omega) hlt, ← or_shl hv, Nat.shiftLeft_eq, p128]
theorem wrap64_byte (b : UInt8) : wrap64 (b.toNat : Int) = b.toNat := by
  have := b.toNat_lt; unfold wrap64; omega
theorem drop_cons (s : ByteArray) (k : Nat) (h : k < s.size) : s.data.toList.drop k = s[k] :: s.data.toList.drop (k + 1) := by
  rw [List.drop_eq_getElem_cons (by simpa using h)]; rfl

set_option maxHeartbeats 1000000 in
set_option maxRecDepth 100000 in
theorem digits_any (s : ByteArray) (last top : Nat) (w : World) (hs : s.size ≤ maxLen) (hl : last ≤ 10) (hl0 : 0 < last) (ht : top ≤ 127) (h10 : last = 10 → top ≤ 1) :
    Calls Tryz.prog 56 #[.string s, .int .i64 last, .int .i64 top] w fun x w' => (∃ n k : Nat, ∃ c : Int, dgs last top s.data.toList 0 0 = (n, k, c) ∧ x = .returned (.tuple #[.int .u64 n, .int .i64 k, .int .i64 c])) ∧ w' = w := by
  unfold maxLen at hs
  go_enter Tryz.func56, Tryz.ntmps56
  go_wp2
  go_loop [9, 14] (fun n i => ∃ k v : Nat, k ≤ s.size ∧ k < last ∧ i = .int .i64 k ∧ n = .int .u64 v ∧ v < 128 ^ k ∧ Hid (dgs last top (s.data.toList.drop k) k v = dgs last top s.data.toList 0 0)) (fun _ i => s.size - (intOf i).toNat)
  case atStart => exact ⟨0, 0, Nat.zero_le _, hl0, rfl, rfl, by decide, rfl⟩
  case round =>
    obtain ⟨k, v, hk, hkl, rfl, rfl, hv, HD⟩ := hrel
    by_cases hlt : k < s.size
    · have hw := wrap64_byte s[k]
      have hbn : (s[k].toNat : Int) ≤ 255 := by have := s[k].toNat_lt; omega
      have HD2 := HD.out
      rw [drop_cons s k hlt] at HD2
      have HE2 : Hid (dgs last top (s[k] :: List.drop (k + 1) s.data.toList) k v = dgs last top s.data.toList 0 0) := HD2
      clear HD HD2
      by_cases hA : k + 1 = last ∧ top < s[k].toNat
      · obtain ⟨hA1, hA2⟩ := hA
        have hA3 : (k : Int) + 1 = last := by omega
        have hA4 : (top : Int) < s[k].toNat := by omega
        go_wp2
        go_ret3
        exact ⟨⟨0, 0, 10, by rw [← HE2.out, dgs_range hA1 hA2], rfl⟩, rfl⟩
      · have hfit := Hid.out (p := _) (show Hid _ from digit_fits hv hl hkl ht h10 hA)
        have HO : Hid (bits .or .u64 (v : Int) (IntKind.u64.wrap ((s[k].toNat : Int) % 128 * 2 ^ (7 * k))) = ((v + (s[k].toNat % 128) * 128 ^ k : Nat) : Int)) := or_step hv hfit
        have HA : Hid (¬ (k + 1 = last ∧ top < s[k].toNat)) := hA
        by_cases hB : 128 ≤ s[k].toNat
        · have hB1 : (128 : Int) ≤ s[k].toNat := by omega
          have hB2 : ¬ ((k : Int) + 1 = last) := by omega
          have HS : Hid (v + (s[k].toNat % 128) * 128 ^ k < 128 ^ (k + 1)) := step_lt hv
          clear hA hfit
          go_wp2
          go_round
          case rel =>
            exact ⟨k + 1, v + (s[k].toNat % 128) * 128 ^ k, by omega, by omega, by go_num, by rw [HO.out], HS.out, by rw [← HE2.out, dgs_more HA.out hB]; rfl⟩
          case measure => simp [intOf]; omega
        · have hB1 : (s[k].toNat : Int) < 128 := by omega
          clear hA hfit
          by_cases hz : s[k].toNat = 0 ∧ 0 < k
          · obtain ⟨hz1, hz2⟩ := hz
            have hz3 : (s[k].toNat : Int) = 0 := by omega
            by_cases hA1 : (k : Int) + 1 = last
            · have hA4 : ¬ (top : Int) < s[k].toNat := by omega
              go_wp2
              go_ret3
              exact ⟨⟨0, 0, 14, by rw [← HE2.out, dgs_form HA.out hz1 hz2], rfl⟩, rfl⟩
            · go_wp2
              go_ret3
              exact ⟨⟨0, 0, 14, by rw [← HE2.out, dgs_form HA.out hz1 hz2], rfl⟩, rfl⟩
          · have HZ : Hid (dgs last top s.data.toList 0 0 = (v + (s[k].toNat % 128) * 128 ^ k, k + 1, 0)) := by
              have := HE2.out; rw [dgs_end HA.out (by omega) hz] at this; exact this.symm
            have HA5 : Hid ((k : Int) + 1 = last → ¬ (top : Int) < s[k].toNat) := by
              intro h1 h2; exact HA.out ⟨by omega, by omega⟩
            by_cases hzz : s[k].toNat = 0
            · obtain rfl : k = 0 := by omega
              obtain rfl : v = 0 := by simpa using hv
              have HZ0 : Hid (dgs last top s.data.toList 0 0 = (0, 1, 0)) := by have := HZ.out; show _ = _; simpa [hzz] using this
              have HO0 : Hid (bits .or .u64 0 0 = 0) := by show _ = _; decide
              have hz3 : (s[0].toNat : Int) = 0 := by omega
              by_cases hA1 : (0 : Int) + 1 = last
              · have hA4 : ¬ (top : Int) < s[0].toNat := HA5.out (by simpa using hA1)
                have HK : Hid ((last : Int) = (1 : Nat)) := by show _ = _; omega
                clear HA hz HO HZ
                go_wp2
                go_ret3
                exact ⟨⟨0, 1, 0, HZ0.out, by simp only [HO0.out, HK.out]; rfl⟩, rfl⟩
              · clear HA hz HO HZ
                go_wp2
                go_ret3
                exact ⟨⟨0, 1, 0, HZ0.out, by simp only [HO0.out]; rfl⟩, rfl⟩
            · have hz3 : ¬ (s[k].toNat : Int) = 0 := by omega
              by_cases hA1 : (k : Int) + 1 = last
              · have hA4 : ¬ (top : Int) < s[k].toNat := HA5.out hA1
                have HK : Hid ((last : Int) = (k + 1 : Nat)) := by show _ = _; omega
                clear HA hz
                go_wp2
                go_ret3
                exact ⟨⟨_, _, _, HZ.out, by rw [HO.out, HK.out]; rfl⟩, rfl⟩
              · clear HA hz
                go_wp2
                go_ret3
                exact ⟨⟨_, _, _, HZ.out, by rw [HO.out]; rfl⟩, rfl⟩
    · go_wp2
      go_ret3
      refine ⟨⟨0, 0, 11, ?_, rfl⟩, rfl⟩
      rw [← HD.out, List.drop_of_length_le (by simp; omega)]; rfl
end Go.Proofs.YtmegkmhcfehnkaaGreatDoor
