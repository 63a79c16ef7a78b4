import Derived.Test.YtdbaafigmfclcaaTKey
import Derived.Deep.LoopGhost
/- Floors, pick, numbered of the law. -/
namespace Go.Proofs.Ytdbaafigmfclcaa
open Go.RowKit Go

theorem pow_small (h : Nat) (hh : h ≤ 8) : 8 ^ h ≤ 16777216 ∧ 16 ^ h ≤ 4294967296 := by
  have h1 : 8 ^ h ≤ 8 ^ 8 := Nat.pow_le_pow_right (by omega) hh
  have h2 : 16 ^ h ≤ 16 ^ 8 := Nat.pow_le_pow_right (by omega) hh
  exact ⟨by simpa using h1, by simpa using h2⟩
set_option maxHeartbeats 2000000 in
set_option maxRecDepth 100000 in
theorem floors_any (n ht : Nat) (w : World) (hht : ht ≤ 8) (hn : n < 1000000000000) (hf : (n = 0 ∧ ht = 0) ∨ (1 ≤ n ∧ 1 ≤ ht ∧ 2 * 8 ^ (ht - 1) ≤ n + 1 ∧ n + 1 ≤ 16 ^ ht)) : Calls Try.prog 11 #[.int .i64 n, .int .i64 ht] w fun x w' => x = .returned (.bool true) ∧ w' = w := by
  rcases hf with ⟨rfl, rfl⟩ | ⟨h1, h2, h3, h4⟩
  · go_enter Try.func11, Try.ntmps11
    go_wp2
    go_ret
    exact ⟨rfl, rfl⟩
  · have a1 : ¬ (n : Int) = 0 := by omega
    have a2 : ¬ (ht : Int) < 1 := by omega
    have a3 : ¬ (20 : Int) < ht := by omega
    have H3 : Hid (2 * 8 ^ (ht - 1) ≤ n + 1 ∧ n + 1 ≤ 16 ^ ht) := ⟨h3, h4⟩
    have HB : Hid (1 ≤ n ∧ 1 ≤ ht ∧ ht ≤ 8 ∧ n < 1000000000000) := ⟨h1, h2, hht, hn⟩
    clear h1 h2 h3 h4 hn hht
    go_enter Try.func11, Try.ntmps11
    go_wp2_with fail
    obtain ⟨h1, h2, hht, hn⟩ := HB.out
    have hhti : (ht : Int) ≤ 8 := by omega
    have hnI : (n : Int) < 1000000000000 := by omega
    clear hn
    go_loopw [5, 6, 7] (fun s5 s6 s7 wr => ∃ (i le mo : Nat), s5 = .int .i64 le ∧ s6 = .int .i64 mo ∧ s7 = .int .i64 i ∧ 1 ≤ i ∧ i ≤ ht ∧ wr = w ∧ Hid (le = 2 * 8 ^ (i - 1) ∧ mo = 16 ^ i)) (fun _ _ s7 _ => ht - (intOf s7).toNat)
    case atStart => exact ⟨1, 2, 16, rfl, rfl, rfl, by omega, by omega, rfl, (⟨by decide, by decide⟩ : (2 = 2 * 8 ^ (1 - 1) ∧ 16 = 16 ^ 1))⟩
    case round =>
      obtain ⟨i, le, mo, rfl, rfl, rfl, hi, hk, rfl, HH⟩ := hrel
      have hle : le ≤ 33554432 := by rw [HH.out.1]; have := pow_small (i - 1) (by omega); omega
      have hmo : mo ≤ 4294967296 * 16 := by
        rw [HH.out.2]
        have := pow_small (i - 1) (by omega)
        obtain ⟨j, rfl⟩ : ∃ j, i = j + 1 := ⟨i - 1, by omega⟩
        rw [Nat.add_sub_cancel] at this
        rw [Nat.pow_succ]
        omega
      by_cases hlt : (i : Int) < ht
      · have hm40 : (mo : Int) < 1099511627776 := by omega
        have hli : (le : Int) ≤ 33554432 := by omega
        have hmi : (mo : Int) ≤ 68719476736 := by omega
        have HN : Hid (le * 8 = 2 * 8 ^ (i + 1 - 1) ∧ mo * 16 = 16 ^ (i + 1)) := by
          obtain ⟨e1, e2⟩ := HH.out
          obtain ⟨j, rfl⟩ : ∃ j, i = j + 1 := ⟨i - 1, by omega⟩
          rw [Nat.add_sub_cancel] at e1
          refine ⟨?_, ?_⟩
          · rw [e1, Nat.add_sub_cancel, Nat.pow_succ]; omega
          · rw [e2, Nat.pow_succ 16 (j + 1)]
        go_wp2_with fail
        go_roundw
        case measure => simp [intOf]; omega
        case rel => exact ⟨i + 1, le * 8, mo * 16, by go_num, by go_num, by go_num, by omega, by omega, trivial, HN⟩
      · obtain rfl : i = ht := by omega
        have b1 : (le : Int) - 1 ≤ n := by have := H3.out.1; have := HH.out.1; omega
        have b2 : (n : Int) ≤ mo - 1 := by have := H3.out.2; have := HH.out.2; omega
        have hli : (le : Int) ≤ 33554432 := by omega
        have hmi : (mo : Int) ≤ 68719476736 := by omega
        go_wp2_with fail
        go_ret
        exact ⟨by simp, rfl⟩
end Go.Proofs.Ytdbaafigmfclcaa
