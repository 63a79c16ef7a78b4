import Derived.Test.YtececlalnkiafaaCName
/- Names, by the document. -/
namespace Go.Proofs.Ytececlalnkiafaa
open Go.RowKit
set_option maxRecDepth 100000

set_option maxHeartbeats 1000000 in
theorem named_any (s : ByteArray) (w : World) :
    Calls Try.prog 61 #[.string s] w fun x w' => x = .returned (.bool (nmOk s)) ∧ w' = w := by
  by_cases h0 : s.size = 0
  · have HR : Hid (nmOk s = false) := nm_no (by omega)
    have h0b := empty_of_size h0
    clear h0
    go_enter Try.func61, Try.ntmps61
    go_wp2
    go_ret
    exact ⟨by rw [HR.out]; rfl, rfl⟩
  have h0b := nonempty_of_size (r := s) (by omega)
  by_cases h1 : 16 < (s.size : Int)
  · have HR : Hid (nmOk s = false) := nm_no (by omega)
    go_enter Try.func61, Try.ntmps61
    go_wp2
    go_ret
    exact ⟨by rw [HR.out]; rfl, rfl⟩
  have hp : 0 < s.size := by omega
  go_enter Try.func61, Try.ntmps61
  go_wp2_with fail
  go_loopw [3] (fun i wr => ∃ k : Nat, i = .int .i64 k ∧ k ≤ s.size ∧ wr = w ∧ Hid ((0 < k → ∀ h : 0 < s.size, ltr s[0] = true) ∧ ∀ j (h : j < s.size), j < k → sgn s[j] = true)) (fun i _ => s.size - (intOf i).toNat)
  case atStart => exact ⟨0, rfl, by omega, rfl, fun h => by omega, fun _ _ h => by omega⟩
  case round =>
    obtain ⟨k, rfl, hk, rfl, hall⟩ := hrel
    by_cases hlt : k < s.size
    · have hlt' : (k : Int) < s.size := by omega
      have hc := (s[k]).toNat_lt
      have HB : Hid ((sgn s[k] = false ∨ (k = 0 ∧ ltr s[k] = false)) → nmOk s = false) := fun h => nm_no (fun h' => by
        rcases h with h | ⟨rfl, h⟩
        · have := h'.2.2 k hlt; rw [h] at this; simp at this
        · have := h'.2.1 hlt; rw [h] at this; simp at this)
      have HG : Hid (sgn s[k] = true ∧ (k = 0 → ltr s[k] = true) → (0 < k + 1 → ∀ h : 0 < s.size, ltr s[0] = true) ∧ ∀ j (h : j < s.size), j < k + 1 → sgn s[j] = true) := fun h => by
        refine ⟨fun _ _ => ?_, fun j hj hjk => ?_⟩
        · rcases Nat.eq_zero_or_pos k with rfl | hk0
          · exact h.2 rfl
          · exact hall.out.1 hk0 hp
        · rcases Nat.lt_or_ge j k with h1 | h1
          · exact hall.out.2 j hj h1
          · obtain rfl : j = k := by omega
            exact h.1
      have HD : Hid ((sgn s[k] = true ↔ ((97 ≤ (s[k]).toNat ∧ (s[k]).toNat ≤ 122) ∨ (48 ≤ (s[k]).toNat ∧ (s[k]).toNat ≤ 57)) ∨ (s[k]).toNat = 95) ∧ (ltr s[k] = true ↔ 97 ≤ (s[k]).toNat ∧ (s[k]).toNat ≤ 122)) := by
        show _ ∧ _
        simp [sgn, ltr, dgt]
      clear hall
      have main : ∀ z : Int, z = (s[k]).toNat → (97 ≤ z ∧ z ≤ 122) ∨ (¬ 48 ≤ z ∧ ¬ 97 ≤ z ∧ z ≠ 95) ∨ (48 ≤ z ∧ z ≤ 57 ∧ ¬ 97 ≤ z) ∨ (¬ z ≤ 57 ∧ ¬ 97 ≤ z ∧ z = 95) ∨ (¬ z ≤ 57 ∧ ¬ 97 ≤ z ∧ z ≠ 95) ∨ (¬ z ≤ 122 ∧ ¬ z ≤ 57 ∧ z ≠ 95) := fun z hz => by omega
      have hh := main _ rfl
      clear main
      by_cases hk0 : k = 0
      · subst hk0
        rcases hh with ⟨e1, e2⟩ | ⟨e1, e2, e3⟩ | ⟨e1, e2, e3⟩ | ⟨e1, e2, e3⟩ | ⟨e1, e2, e3⟩ | ⟨e1, e2, e3⟩
        all_goals go_wp2_with fail
        all_goals first
          | (have HE : Hid _ := HG.out (by first | exact ⟨by rw [HD.out.1]; omega, fun h => by rw [HD.out.2]; omega⟩ | (rw [HD.out.1]; omega))
             go_roundw
             case rel => exact ⟨1, by go_num, by omega, by first | rfl | trivial, HE⟩
             case measure => simp [intOf]; omega)
          | (have HE : Hid (nmOk s = false) := HB.out (by first | (left; rw [← Bool.not_eq_true, HD.out.1]; omega) | (right; exact ⟨by first | rfl | trivial, by rw [← Bool.not_eq_true, HD.out.2]; omega⟩))
             go_ret
             exact ⟨by rw [HE.out]; rfl, rfl⟩)
      · have hk0' : ¬ (k : Int) = 0 := by omega
        rcases hh with ⟨e1, e2⟩ | ⟨e1, e2, e3⟩ | ⟨e1, e2, e3⟩ | ⟨e1, e2, e3⟩ | ⟨e1, e2, e3⟩ | ⟨e1, e2, e3⟩
        · have HE : Hid _ := HG.out ⟨by rw [HD.out.1]; omega, fun h => absurd h hk0⟩
          clear HG HB HD
          go_wp2_with fail
          go_roundw
          case rel => exact ⟨k + 1, by go_num, by omega, by first | rfl | trivial, HE⟩
          case measure => simp [intOf]; omega
        · have HE : Hid (nmOk s = false) := HB.out (by left; rw [← Bool.not_eq_true, HD.out.1]; omega)
          have e4 : (((s[k]).toNat : Int) == 95) = false := beq_eq_false_iff_ne.2 e3
          have e5 : ((k : Int) == 0) = false := beq_eq_false_iff_ne.2 hk0'
          clear HG HB HD e3
          go_wp2_with fail
          go_ret
          exact ⟨by rw [HE.out]; rfl, rfl⟩
        · have HE : Hid _ := HG.out ⟨by rw [HD.out.1]; omega, fun h => absurd h hk0⟩
          clear HG HB HD
          go_wp2_with fail
          go_roundw
          case rel => exact ⟨k + 1, by go_num, by omega, by first | rfl | trivial, HE⟩
          case measure => simp [intOf]; omega
        · have HE : Hid _ := HG.out ⟨by rw [HD.out.1]; omega, fun h => absurd h hk0⟩
          clear HG HB HD
          go_wp2_with fail
          go_roundw
          case rel => exact ⟨k + 1, by go_num, by omega, by first | rfl | trivial, HE⟩
          case measure => simp [intOf]; omega
        · have HE : Hid (nmOk s = false) := HB.out (by left; rw [← Bool.not_eq_true, HD.out.1]; omega)
          have e4 : (((s[k]).toNat : Int) == 95) = false := beq_eq_false_iff_ne.2 e3
          have e5 : ((k : Int) == 0) = false := beq_eq_false_iff_ne.2 hk0'
          clear HG HB HD e3
          go_wp2_with fail
          go_ret
          exact ⟨by rw [HE.out]; rfl, rfl⟩
        · have HE : Hid (nmOk s = false) := HB.out (by left; rw [← Bool.not_eq_true, HD.out.1]; omega)
          have e4 : (((s[k]).toNat : Int) == 95) = false := beq_eq_false_iff_ne.2 e3
          have e5 : ((k : Int) == 0) = false := beq_eq_false_iff_ne.2 hk0'
          clear HG HB HD e3
          go_wp2_with fail
          go_ret
          exact ⟨by rw [HE.out]; rfl, rfl⟩
    · have hlt' : ¬ (k : Int) < s.size := by omega
      have HR : Hid (nmOk s = true) := by
        show _ = _
        rw [nmOk_iff]; exact ⟨by omega, fun h => hall.out.1 (by omega) h, fun i hi => hall.out.2 i hi (by omega)⟩
      go_wp2
      go_ret
      exact ⟨by rw [HR.out]; rfl, rfl⟩
end Go.Proofs.Ytececlalnkiafaa
