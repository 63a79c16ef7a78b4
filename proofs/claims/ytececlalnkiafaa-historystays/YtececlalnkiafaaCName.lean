import Derived.Test.YtececlalnkiafaaVForm
/- Names, by the code and by the document. -/
namespace Go.Proofs.Ytececlalnkiafaa
open Go.RowKit
set_option maxRecDepth 100000

theorem letter_any (c : UInt8) (w : World) :
    Calls Try.prog 54 #[.int .u8 c.toNat] w fun x w' => x = .returned (.bool (ltr c)) ∧ w' = w := by
  have h0 := c.toNat_lt
  go_enter Try.func54, Try.ntmps54
  go_wp2
  all_goals (go_ret; refine ⟨vret_bool ?_, rfl⟩; rw [Bool.eq_iff_iff]; simp [ltr] at *; try omega)
theorem digit_any (c : UInt8) (w : World) :
    Calls Try.prog 55 #[.int .u8 c.toNat] w fun x w' => x = .returned (.bool (dgt c)) ∧ w' = w := by
  have h0 := c.toNat_lt
  go_enter Try.func55, Try.ntmps55
  go_wp2
  all_goals (go_ret; refine ⟨vret_bool ?_, rfl⟩; rw [Bool.eq_iff_iff]; simp [dgt] at *; try omega)
theorem nm_no {s : ByteArray} (h : ¬ ((1 ≤ s.size ∧ s.size ≤ 16) ∧ (∀ h : 0 < s.size, ltr s[0] = true) ∧ ∀ i (h : i < s.size), sgn s[i] = true)) : nmOk s = false := by
  rw [← Bool.not_eq_true, nmOk_iff]; exact h

set_option maxHeartbeats 1000000 in
theorem isName_any (s : ByteArray) (w : World) :
    Calls Try.prog 44 #[.string s] w fun x w' => x = .returned (.bool (nmOk s)) ∧ w' = w := by
  by_cases h0 : (s.size : Int) < 1
  · have HR : Hid (nmOk s = false) := nm_no (by omega)
    go_enter Try.func44, Try.ntmps44
    go_wp2
    go_ret
    exact ⟨by rw [HR.out]; rfl, rfl⟩
  by_cases h1 : 16 < (s.size : Int)
  · have HR : Hid (nmOk s = false) := nm_no (by omega)
    go_enter Try.func44, Try.ntmps44
    go_wp2
    go_ret
    exact ⟨by rw [HR.out]; rfl, rfl⟩
  have hp : 0 < s.size := by omega
  have hp' : (0 : Int) < s.size := by omega
  cases hl : ltr s[0]
  · have HR : Hid (nmOk s = false) := nm_no (fun h => by have := h.2.1 hp; simp [hl] at this)
    have hq := letter_any s[0] w
    rw [hl] at hq
    clear hl
    go_enter Try.func44, Try.ntmps44
    go_wp2_with (go_at_call 54; refine hq.mono ?_; rintro x w1 ⟨rfl, hw1⟩; obtain rfl := hw1.symm; clear hw1)
    go_ret
    exact ⟨by rw [HR.out]; rfl, rfl⟩
  have HL : Hid (ltr s[0] = true) := hl
  have hq := letter_any s[0] w
  rw [hl] at hq
  clear hl
  go_enter Try.func44, Try.ntmps44
  go_wp2_with (go_at_call 54; refine hq.mono ?_; rintro x w1 ⟨rfl, hw1⟩; obtain rfl := hw1.symm; clear hw1)
  clear hq
  go_loopw [20] (fun i wr => ∃ k : Nat, i = .int .i64 k ∧ k ≤ s.size ∧ wr = w ∧ Hid (∀ j (h : j < s.size), j < k → sgn s[j] = true)) (fun i _ => s.size - (intOf i).toNat)
  case atStart => exact ⟨0, rfl, by omega, rfl, fun _ _ h => by omega⟩
  case round =>
    obtain ⟨k, rfl, hk, rfl, hall⟩ := hrel
    by_cases hlt : k < s.size
    · have hlt' : (k : Int) < s.size := by omega
      have hc := (s[k]).toNat_lt
      have q1 := letter_any s[k] wr
      have q2 := digit_any s[k] wr
      have HQ : Hid (sgn s[k] = (ltr s[k] || dgt s[k] || decide ((s[k]).toNat = 95))) := by show _ = _; rfl
      have HB : Hid (sgn s[k] = false → nmOk s = false) := fun h => nm_no (fun h' => by have := h'.2.2 k hlt; rw [h] at this; simp at this)
      have HG : Hid (sgn s[k] = true → ∀ j (h : j < s.size), j < k + 1 → sgn s[j] = true) := fun h j hj hjk => by
        rcases Nat.lt_or_ge j k with h1 | h1
        · exact hall.out j hj h1
        · obtain rfl : j = k := by omega
          exact h
      cases hl : ltr s[k]
      · cases hd : dgt s[k]
        · rw [hl] at q1; rw [hd] at q2
          have HQ2 : Hid (sgn s[k] = decide ((s[k]).toNat = 95)) := by show _ = _; rw [HQ.out, hl, hd]; simp
          by_cases h95 : ((s[k]).toNat : Int) = 95
          · have HE : Hid _ := HG.out (by rw [HQ2.out]; simp; omega)
            rw [h95] at q1 q2
            clear hl hd
            go_wp2_with (first | (go_at_call 54; refine q1.mono ?_; rintro x w1 ⟨rfl, hw1⟩; obtain rfl := hw1.symm; clear hw1) | (go_at_call 55; refine q2.mono ?_; rintro x w1 ⟨rfl, hw1⟩; obtain rfl := hw1.symm; clear hw1))
            go_roundw
            case rel => exact ⟨k + 1, by go_num, by omega, by first | rfl | trivial, HE⟩
            case measure => simp [intOf]; omega
          · have HE : Hid _ := HB.out (by rw [HQ2.out]; simp; omega)
            clear hl hd
            go_wp2_with (first | (go_at_call 54; refine q1.mono ?_; rintro x w1 ⟨rfl, hw1⟩; obtain rfl := hw1.symm; clear hw1) | (go_at_call 55; refine q2.mono ?_; rintro x w1 ⟨rfl, hw1⟩; obtain rfl := hw1.symm; clear hw1))
            go_ret
            exact ⟨by rw [HE.out]; rfl, rfl⟩
        · rw [hl] at q1; rw [hd] at q2
          have HE : Hid _ := HG.out (by rw [HQ.out, hl, hd]; simp)
          clear hl hd
          go_wp2_with (first | (go_at_call 54; refine q1.mono ?_; rintro x w1 ⟨rfl, hw1⟩; obtain rfl := hw1.symm; clear hw1) | (go_at_call 55; refine q2.mono ?_; rintro x w1 ⟨rfl, hw1⟩; obtain rfl := hw1.symm; clear hw1))
          go_roundw
          case rel => exact ⟨k + 1, by go_num, by omega, by first | rfl | trivial, HE⟩
          case measure => simp [intOf]; omega
      · rw [hl] at q1
        have HE : Hid _ := HG.out (by rw [HQ.out, hl]; simp)
        clear hl
        go_wp2_with (go_at_call 54; refine q1.mono ?_; rintro x w1 ⟨rfl, hw1⟩; obtain rfl := hw1.symm; clear hw1)
        go_roundw
        case rel => exact ⟨k + 1, by go_num, by omega, by first | rfl | trivial, HE⟩
        case measure => simp [intOf]; omega
    · have hlt' : ¬ (k : Int) < s.size := by omega
      have HR : Hid (nmOk s = true) := by
        show _ = _
        rw [nmOk_iff]; exact ⟨by omega, fun _ => HL.out, fun i hi => hall.out i hi (by omega)⟩
      go_wp2
      go_ret
      exact ⟨by rw [HR.out]; rfl, rfl⟩

end Go.Proofs.Ytececlalnkiafaa
