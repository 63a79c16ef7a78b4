import Derived.Test.YtjambfbibeihiaaGreatDisk
/- Names; what a call is refused for; the file of a name. -/
namespace Go.Proofs.YtjambfbibeihiaaGreat
set_option maxRecDepth 100000
open Go.RowKit Go.ChangeMaps

theorem ret_bool {x y : Bool} (h : x = y) : Ending.returned (.bool x) = .returned (.bool y) := by rw [h]
theorem ret_int {k : IntKind} {x y : Int} (h : x = y) : Ending.returned (.int k x) = .returned (.int k y) := by rw [h]
theorem okB_rest {c : UInt8} (h : ¬ (97 ≤ c.toNat ∧ c.toNat ≤ 122)) (h' : ¬ (48 ≤ c.toNat ∧ c.toNat ≤ 57)) : ((c.toNat : Int) == 46 || (c.toNat : Int) == 95 || (c.toNat : Int) == 45) = okB c := by
  rw [Bool.eq_iff_iff]
  simp [okB]
  omega
theorem nameByte_any (c : UInt8) (w : World) :
    Calls Tryz.prog 73 #[.int .u8 c.toNat] w fun x w' => x = .returned (.bool (okB c)) ∧ w' = w := by
  have h0 := c.toNat_lt
  by_cases h1 : 97 ≤ (c.toNat : Int)
  · by_cases h2 : (c.toNat : Int) ≤ 122
    · have HR : Hid (okB c = true) := by show _ = _; simp [okB]; omega
      go_enter Tryz.func73, Tryz.ntmps73
      go_wp2
      go_ret
      exact ⟨by rw [HR.out]; rfl, rfl⟩
    · have HR : Hid (_) := okB_rest (c := c) (by omega) (by omega)
      have h3 : 48 ≤ (c.toNat : Int) := by omega
      have h4 : ¬ (c.toNat : Int) ≤ 57 := by omega
      go_enter Tryz.func73, Tryz.ntmps73
      go_wp2
      go_ret
      exact ⟨ret_bool HR.out, rfl⟩
  · by_cases h3 : 48 ≤ (c.toNat : Int)
    · by_cases h4 : (c.toNat : Int) ≤ 57
      · have HR : Hid (okB c = true) := by show _ = _; simp [okB]; omega
        go_enter Tryz.func73, Tryz.ntmps73
        go_wp2
        go_ret
        exact ⟨by rw [HR.out]; rfl, rfl⟩
      · have HR : Hid (_) := okB_rest (c := c) (by omega) (by omega)
        go_enter Tryz.func73, Tryz.ntmps73
        go_wp2
        all_goals go_ret
        all_goals refine ⟨?_, rfl⟩
        all_goals first | exact ret_bool HR.out | (refine ret_bool ?_; rw [← HR.out]; simp [*])
    · have HR : Hid (_) := okB_rest (c := c) (by omega) (by omega)
      go_enter Tryz.func73, Tryz.ntmps73
      go_wp2
      all_goals go_ret
      all_goals refine ⟨?_, rfl⟩
      all_goals first | exact ret_bool HR.out | (refine ret_bool ?_; rw [← HR.out]; simp [*])

theorem okN_iff (s : ByteArray) : okN s.data.toList = true ↔ (1 ≤ s.size ∧ s.size ≤ 40) ∧ ∀ i (h : i < s.size), okB s[i] = true := by
  have hl : s.data.toList.length = s.size := by simp
  unfold okN
  rw [hl]
  simp only [Bool.and_eq_true, decide_eq_true_eq, List.all_eq_true]
  constructor
  · rintro ⟨h1, h2⟩
    refine ⟨h1, fun i hi => h2 _ ?_⟩
    rw [show s[i] = s.data.toList[i]'(by simpa using hi) from rfl]
    exact List.getElem_mem _
  · rintro ⟨h1, h2⟩
    refine ⟨h1, fun x hx => ?_⟩
    obtain ⟨i, hi, rfl⟩ := List.getElem_of_mem hx
    exact h2 i (by simpa using hi)

theorem isName_any (s : ByteArray) (w : World) :
    Calls Tryz.prog 39 #[.string s] w fun x w' => x = .returned (.bool (okN s.data.toList)) ∧ w' = w := by
  by_cases h1 : (s.size : Int) < 1
  · have HR : Hid (okN s.data.toList = false) := by
      show _ = _
      rw [← Bool.not_eq_true, okN_iff]; omega
    go_enter Tryz.func39, Tryz.ntmps39
    go_wp2
    go_ret
    exact ⟨by rw [HR.out]; rfl, rfl⟩
  · by_cases h2 : 40 < (s.size : Int)
    · have HR : Hid (okN s.data.toList = false) := by
        show _ = _
        rw [← Bool.not_eq_true, okN_iff]; omega
      go_enter Tryz.func39, Tryz.ntmps39
      go_wp2
      go_ret
      exact ⟨by rw [HR.out]; rfl, rfl⟩
    · have h1' : 1 ≤ s.size := by omega
      have h2' : s.size ≤ 40 := by omega
      go_enter Tryz.func39, Tryz.ntmps39
      go_wp2_with fail
      go_loopw [14] (fun i wr => ∃ k : Nat, i = .int .i64 k ∧ k ≤ s.size ∧ wr = w ∧ Hid (∀ j (h : j < s.size), j < k → okB s[j] = true)) (fun i _ => s.size - (intOf i).toNat)
      case atStart => exact ⟨0, rfl, by omega, rfl, fun _ _ h => by omega⟩
      case round =>
        obtain ⟨k, rfl, hk, rfl, hall⟩ := hrel
        by_cases hlt : k < s.size
        · have hlt' : (k : Int) < s.size := by omega
          cases hob : okB s[k]
          · have HR : Hid (okN s.data.toList = false) := by
              show _ = _
              rw [← Bool.not_eq_true, okN_iff]
              intro h
              have := h.2 k hlt
              rw [hob] at this; cases this
            have hn := nameByte_any s[k] wr
            rw [hob] at hn
            go_wp2_with (go_at_call 73; refine hn.mono ?_; rintro e w1 ⟨rfl, hw1⟩; subst hw1)
            go_ret
            exact ⟨by rw [HR.out]; rfl, rfl⟩
          · have hn := nameByte_any s[k] wr
            rw [hob] at hn
            go_wp2_with (go_at_call 73; refine hn.mono ?_; rintro e w1 ⟨rfl, hw1⟩; subst hw1)
            go_roundw
            case rel =>
              refine ⟨k + 1, by go_num, by omega, trivial, fun j hj hjk => ?_⟩
              rcases Nat.lt_or_ge j k with h | h
              · exact hall.out j hj h
              · obtain rfl : j = k := by omega
                exact hob
            case measure => simp [intOf]; omega
        · have hlt' : ¬ (k : Int) < s.size := by omega
          have HR : Hid (okN s.data.toList = true) := by
            show _ = _
            rw [okN_iff]; exact ⟨⟨h1', h2'⟩, fun i hi => hall.out i hi (by omega)⟩
          go_wp2
          go_ret
          exact ⟨by rw [HR.out]; rfl, rfl⟩
end Go.Proofs.YtjambfbibeihiaaGreat
