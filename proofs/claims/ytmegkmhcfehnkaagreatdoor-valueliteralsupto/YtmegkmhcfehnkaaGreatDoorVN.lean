import Derived.Lib.AtoiAll
import Derived.Lib.ItoaNum
/- Numbers as they are printed and read, as plain mathematics. -/
namespace Go.Proofs.YtmegkmhcfehnkaaGreatDoor
open Go.Lib

theorem dd_rec {u : Nat} (h : ¬ u < 10) : decDigits u = decDigits (u / 10) ++ [UInt8.ofNat (48 + u % 10)] := by rw [decDigits, dif_neg h]
theorem pu_append : ∀ (l r : List UInt8) (a : Nat), parseUint10 a (l ++ r) = match parseUint10 a l with
    | .ok b => parseUint10 b r
    | .syntax => .syntax
    | .range => .range
  | [], r, a => by simp [parseUint10]
  | c :: l, r, a => by
    simp only [List.cons_append, parseUint10]
    split
    · split
      · rfl
      · split
        · rfl
        · exact pu_append l r _
    · rfl
theorem dig_nat (d : Nat) (h : d < 10) : (UInt8.ofNat (48 + d)).toNat = 48 + d := by
  simp; omega
theorem pu_dec (u : Nat) (h : u < 18446744073709551616) : parseUint10 0 (decDigits u) = .ok u := by
  induction u using Nat.strongRecOn with
  | ind u ih =>
    by_cases h10 : u < 10
    · rw [decDigits_one h10]
      simp only [parseUint10]
      rw [if_pos (by rw [dig_nat u h10]; omega), if_neg (by omega), if_neg (by rw [dig_nat u h10]; omega), dig_nat u h10]
      congr 1; omega
    · rw [dd_rec h10, pu_append, ih (u / 10) (by omega) (by omega)]
      simp only [parseUint10]
      have hd := dig_nat (u % 10) (by omega)
      rw [if_pos (by rw [hd]; omega), if_neg (by omega), if_neg (by rw [hd]; omega), hd]
      congr 1; omega
theorem dec_head (u : Nat) : ∃ c r, decDigits u = c :: r ∧ 48 ≤ c.toNat ∧ c.toNat ≤ 57 := by
  induction u using Nat.strongRecOn with
  | ind u ih =>
    by_cases h10 : u < 10
    · exact ⟨_, [], decDigits_one h10, by rw [dig_nat u h10]; omega, by rw [dig_nat u h10]; omega⟩
    · obtain ⟨c, r, e, h1, h2⟩ := ih (u / 10) (by omega)
      exact ⟨c, r ++ [UInt8.ofNat (48 + u % 10)], by rw [dd_rec h10, e]; rfl, h1, h2⟩
theorem atoi_itoa (n : Int) (h1 : -9223372036854775808 ≤ n) (h2 : n ≤ 9223372036854775807) : atoiAll (itoa n) = .ok n := by
  unfold itoa
  split
  · rename_i h
    obtain ⟨c, r, e, _, _⟩ := dec_head n.natAbs
    have hp : parseMag (decDigits n.natAbs) = .ok n.natAbs := by
      unfold parseMag
      rw [if_neg (by rw [e]; simp), pu_dec _ (by omega)]
    unfold atoiAll
    simp only
    rw [if_pos (by right; decide), hp]
    simp only
    rw [if_neg (fun e => e.1 (by decide)), if_neg (by omega), if_pos (by decide)]
    congr 1; omega
  · rename_i h
    obtain ⟨c, r, e, h3, h4⟩ := dec_head n.toNat
    have hp : parseMag (decDigits n.toNat) = .ok n.toNat := by
      unfold parseMag
      rw [if_neg (by rw [e]; simp), pu_dec _ (by omega)]
    rw [e] at hp ⊢
    unfold atoiAll
    simp only
    rw [if_neg (by omega), hp]
    simp only
    rw [if_neg (by omega), if_neg (by omega), if_neg (by omega)]
    congr 1; omega
theorem itoa_inj {n m : Int} (h1 : -9223372036854775808 ≤ n) (h2 : n ≤ 9223372036854775807) (h3 : -9223372036854775808 ≤ m) (h4 : m ≤ 9223372036854775807) (h : itoa n = itoa m) : n = m := by
  have e1 := atoi_itoa n h1 h2
  have e2 := atoi_itoa m h3 h4
  rw [h, e2] at e1
  injection e1 with e1
  exact e1.symm
theorem itoa_head (n : Int) : ∃ c r, itoa n = c :: r ∧ (c.toNat = 45 ∨ 48 ≤ c.toNat ∧ c.toNat ≤ 57) := by
  unfold itoa
  split
  · exact ⟨45, _, rfl, Or.inl (by decide)⟩
  · obtain ⟨c, r, e, h1, h2⟩ := dec_head n.toNat
    exact ⟨c, r, e, Or.inr ⟨h1, h2⟩⟩
/-- What the document's loop comes to over digits, when nothing goes round. -/
def acc (l : List UInt8) : Int := l.foldl (fun n c => 10 * n - ((c.toNat : Int) - 48)) 0
theorem acc_snoc (l : List UInt8) (c : UInt8) : acc (l ++ [c]) = 10 * acc l - ((c.toNat : Int) - 48) := by simp [acc]
theorem acc_dec (u : Nat) : acc (decDigits u) = -(u : Int) := by
  induction u using Nat.strongRecOn with
  | ind u ih =>
    by_cases h10 : u < 10
    · rw [decDigits_one h10]
      simp only [acc, List.foldl_cons, List.foldl_nil]
      rw [dig_nat u h10]; omega
    · rw [dd_rec h10, acc_snoc, ih (u / 10) (by omega), dig_nat (u % 10) (by omega)]; omega
theorem dec_all (u : Nat) : ∀ c ∈ decDigits u, 48 ≤ c.toNat ∧ c.toNat ≤ 57 := by
  induction u using Nat.strongRecOn with
  | ind u ih =>
    by_cases h10 : u < 10
    · rw [decDigits_one h10]
      intro c hc
      rw [List.mem_singleton.1 hc, dig_nat u h10]; omega
    · rw [dd_rec h10]
      intro c hc
      rcases List.mem_append.1 hc with hc | hc
      · exact ih (u / 10) (by omega) c hc
      · rw [List.mem_singleton.1 hc, dig_nat (u % 10) (by omega)]; omega
end Go.Proofs.YtmegkmhcfehnkaaGreatDoor
