import Derived.Test.YtmegkmhcfehnkaaGreatDoorVLa
import Derived.Lib.ItoaLen
import Derived.Lib.ItoaMem
/- Numbers, by the document: digits. -/
namespace Go.Proofs.YtmegkmhcfehnkaaGreatDoor
open Go.RowKit Go Go.Lib

theorem wrap_of {n : Int} (h1 : -9223372036854775808 ≤ n) (h2 : n ≤ 9223372036854775807) : IntKind.i64.wrap n = n := by
  simp [IntKind.wrap, IntKind.signed, IntKind.bits]; omega
theorem str_app (a b : List UInt8) : (⟨a.toArray⟩ : ByteArray) ++ (⟨b.toArray⟩ : ByteArray) = ⟨(a ++ b).toArray⟩ := by
  apply ByteArray.ext
  rw [ByteArray.data_append]
  simp
theorem dec_len (u : Nat) (h : u ≤ 9223372036854775808) : (decDigits u).length ≤ 21 := by
  by_cases h0 : u = 9223372036854775808
  · subst h0; decide +kernel
  · have := itoa_length_le (u : Int) (by omega) (by omega)
    rwa [itoa_nonneg] at this
theorem dig_slice (i : Nat) (h : i < 10) : (⟨#[48, 49, 50, 51, 52, 53, 54, 55, 56, 57]⟩ : ByteArray).extract i (i + 1) = ⟨(decDigits i).toArray⟩ := by
  have : ∀ j : Fin 10, ((⟨#[48, 49, 50, 51, 52, 53, 54, 55, 56, 57]⟩ : ByteArray).extract j.1 (j.1 + 1)).data = #[UInt8.ofNat (48 + j.1)] := by decide
  apply ByteArray.ext
  rw [this ⟨i, h⟩, decDigits_one h]
set_option maxHeartbeats 2000000 in
set_option maxRecDepth 100000 in
theorem digits_nat (u : Nat) (hu : u ≤ 9223372036854775807) : ∀ w : World, Calls Tryz.prog 19 #[.int .i64 (u : Int)] w fun x w' => x = .returned (.string ⟨(decDigits u).toArray⟩) ∧ w' = w := by
  induction u using Nat.strongRecOn with
  | ind u ih =>
    intro w
    by_cases h10 : u < 10
    · have h1 : (u : Int) < 10 := by omega
      have HS : Hid ((⟨#[48, 49, 50, 51, 52, 53, 54, 55, 56, 57]⟩ : ByteArray).extract u (u + 1) = ⟨(decDigits u).toArray⟩) := dig_slice u h10
      clear ih h10
      go_enter Tryz.func19, Tryz.ntmps19
      go_wp2
      go_ret
      exact ⟨by rw [← HS.out]; rfl, rfl⟩
    · have q1 := ih (u / 10) (by omega) (by omega) w
      have q2 := ih (u % 10) (by omega) (by omega) w
      have h1 : ¬ (u : Int) < 10 := by omega
      have e1 : ((u / 10 : Nat) : Int) = (u : Int) / 10 := by omega
      have e2 : ((u % 10 : Nat) : Int) = (u : Int).tmod 10 := by rw [Int.tmod_eq_emod_of_nonneg (by omega)]; omega
      obtain ⟨a, ha⟩ : ∃ a, a = decDigits (u / 10) := ⟨_, rfl⟩
      obtain ⟨b, hb⟩ : ∃ b, b = decDigits (u % 10) := ⟨_, rfl⟩
      have HR : Hid ((⟨a.toArray⟩ : ByteArray) ++ ⟨b.toArray⟩ = ⟨(decDigits u).toArray⟩) := by
        show _ = _
        rw [str_app, ha, hb, dd_rec h10, decDigits_one (i := u % 10) (by omega)]
      have hla : a.length ≤ 22 := by rw [ha]; first | exact Nat.le_trans (dec_len _ (by omega)) (by omega) | (rw [List.length_cons]; have := dec_len (u / 10) (by omega); omega)
      have hlb : b.length ≤ 22 := by rw [hb]; exact Nat.le_trans (dec_len _ (by omega)) (by omega)
      rw [← ha, e1] at q1
      rw [← hb, e2] at q2
      clear ih ha hb h10 e1 e2
      go_enter Tryz.func19, Tryz.ntmps19
      go_wp2_with fail
      refine q1.mono ?_
      rintro y w1 ⟨rfl, hw1⟩
      obtain rfl := hw1.symm
      clear hw1 q1
      go_wp2_with fail
      refine q2.mono ?_
      rintro y w1 ⟨rfl, hw1⟩
      obtain rfl := hw1.symm
      clear hw1 q2
      go_wp2_with fail
      go_ret
      exact ⟨by rw [← HR.out]; rfl, rfl⟩
set_option maxHeartbeats 2000000 in
set_option maxRecDepth 100000 in
theorem digits_neg (u : Nat) (hu : 1 ≤ u ∧ u ≤ 9223372036854775808) : ∀ w : World, Calls Tryz.prog 19 #[.int .i64 (-(u : Int))] w fun x w' => x = .returned (.string ⟨(45 :: decDigits u).toArray⟩) ∧ w' = w := by
  induction u using Nat.strongRecOn with
  | ind u ih =>
    intro w
    obtain ⟨n, hn⟩ : ∃ n : Int, n = -(u : Int) := ⟨_, rfl⟩
    have h0 : ¬ 0 ≤ n := by omega
    by_cases h10 : u < 10
    · have h1 : -10 < n := by omega
      have q1 := digits_nat u (by omega) w
      have e1 : (u : Int) = -n := by omega
      have e3 : IntKind.i64.wrap (-n) = -n := wrap_of (by omega) (by omega)
      obtain ⟨b, hb⟩ : ∃ b, b = decDigits u := ⟨_, rfl⟩
      have HR : Hid ((⟨#[45]⟩ : ByteArray) ++ ⟨b.toArray⟩ = ⟨(45 :: decDigits u).toArray⟩) := by
        show _ = _
        rw [hb]
        exact str_app [45] (decDigits u)
      have hlb : b.length ≤ 22 := by rw [hb]; exact Nat.le_trans (dec_len _ (by omega)) (by omega)
      rw [← hb, e1] at q1
      rw [← hn]
      clear ih h10 hn hb e1
      go_enter Tryz.func19, Tryz.ntmps19
      go_wp2_with fail
      refine q1.mono ?_
      rintro y w1 ⟨rfl, hw1⟩
      obtain rfl := hw1.symm
      clear hw1 q1
      go_wp2_with fail
      go_ret
      exact ⟨by rw [← HR.out]; rfl, rfl⟩
    · have h1 : ¬ -10 < n := by omega
      have q1 := ih (u / 10) (by omega) (by omega) w
      have q2 := digits_nat (u % 10) (by omega) w
      have e1 : -((u / 10 : Nat) : Int) = n.tdiv 10 := by rw [hn, Int.neg_tdiv, Int.tdiv_eq_ediv_of_nonneg (by omega)]; omega
      have e2 : ((u % 10 : Nat) : Int) = -(n.tmod 10) := by rw [hn, Int.neg_tmod, Int.tmod_eq_emod_of_nonneg (by omega)]; omega
      have e3 : IntKind.i64.wrap (-(n.tmod 10)) = -(n.tmod 10) := by rw [← e2]; exact wrap_of (by omega) (by omega)
      have e4 : IntKind.i64.wrap (n.tdiv 10) = n.tdiv 10 := by rw [← e1]; exact wrap_of (by omega) (by omega)
      obtain ⟨a, ha⟩ : ∃ a, a = 45 :: decDigits (u / 10) := ⟨_, rfl⟩
      obtain ⟨b, hb⟩ : ∃ b, b = decDigits (u % 10) := ⟨_, rfl⟩
      have HR : Hid ((⟨a.toArray⟩ : ByteArray) ++ ⟨b.toArray⟩ = ⟨(45 :: decDigits u).toArray⟩) := by
        show _ = _
        rw [str_app, ha, hb, dd_rec h10, decDigits_one (i := u % 10) (by omega)]
        rfl
      have hla : a.length ≤ 22 := by rw [ha]; first | exact Nat.le_trans (dec_len _ (by omega)) (by omega) | (rw [List.length_cons]; have := dec_len (u / 10) (by omega); omega)
      have hlb : b.length ≤ 22 := by rw [hb]; exact Nat.le_trans (dec_len _ (by omega)) (by omega)
      rw [← ha, e1] at q1
      rw [← hb, e2] at q2
      rw [← hn]
      clear ih ha hb h10 e1 e2 hn
      go_enter Tryz.func19, Tryz.ntmps19
      go_wp2_with fail
      refine q1.mono ?_
      rintro y w1 ⟨rfl, hw1⟩
      obtain rfl := hw1.symm
      clear hw1 q1
      go_wp2_with fail
      refine q2.mono ?_
      rintro y w1 ⟨rfl, hw1⟩
      obtain rfl := hw1.symm
      clear hw1 q2
      go_wp2_with fail
      go_ret
      exact ⟨by rw [← HR.out]; rfl, rfl⟩
theorem rdig_any (n : Int) (hn : i64v n) (w : World) : Calls Tryz.prog 19 #[.int .i64 n] w fun x w' => x = .returned (.string ⟨(itoa n).toArray⟩) ∧ w' = w := by
  obtain ⟨h1, h2⟩ := hn
  unfold itoa
  split
  · have h := digits_neg n.natAbs (by omega) w
    rwa [show -(n.natAbs : Int) = n by omega] at h
  · have h := digits_nat n.toNat (by omega) w
    rwa [show (n.toNat : Int) = n by omega] at h
end Go.Proofs.YtmegkmhcfehnkaaGreatDoor
