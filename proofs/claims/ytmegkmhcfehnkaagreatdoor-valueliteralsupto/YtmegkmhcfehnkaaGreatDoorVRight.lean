import Derived.Test.YtmegkmhcfehnkaaGreatDoorVCmp
import Derived.Test.YtmegkmhcfehnkaaGreatDoorVPrint
/- A raw value made right; rows of them, as the law makes them. -/
namespace Go.Proofs.YtmegkmhcfehnkaaGreatDoor
open Go.RowKit

/-- A kind of any number. -/
def kd4 (k : Int) : Int := (if k < 0 then -(k + 1) else k) % 4
def cutS (s : ByteArray) : ByteArray := if 200 < s.size then s.extract 0 200 else s
/-- A raw value made right. -/
def rt (v : Val) : Val := if kd4 v.k = 1 then ⟨1, v.n, ⟨#[]⟩⟩ else if kd4 v.k = 2 then ⟨2, 0, cutS v.s⟩ else if kd4 v.k = 3 then ⟨3, v.n % 2, ⟨#[]⟩⟩ else ⟨0, 0, ⟨#[]⟩⟩
theorem rt_ok (v : Val) (hi : v.i64) : frm (rt v) ∧ (rt v).s.size ≤ 200 ∧ (rt v).i64 := by
  obtain ⟨_, hn⟩ := hi
  unfold rt
  split
  · exact ⟨Or.inr (Or.inl ⟨rfl, rfl⟩), by show 0 ≤ 200; omega, ⟨by simp, hn⟩⟩
  · split
    · refine ⟨Or.inr (Or.inr (Or.inl ⟨rfl, rfl⟩)), ?_, ⟨by simp, by simp⟩⟩
      show (cutS v.s).size ≤ 200
      unfold cutS
      split
      · simp; omega
      · omega
    · split
      · exact ⟨Or.inr (Or.inr (Or.inr ⟨rfl, rfl, by show v.n % 2 = 0 ∨ v.n % 2 = 1; omega⟩)), by show 0 ≤ 200; omega, ⟨by simp, by show -9223372036854775808 ≤ v.n % 2 ∧ v.n % 2 ≤ 9223372036854775807; omega⟩⟩
      · exact ⟨Or.inl ⟨rfl, rfl, rfl⟩, by decide, ⟨by simp, by simp⟩⟩

theorem i64_and1 (n : Int) : bits .and .i64 n 1 = n % 2 := by
  have h127 : (BitVec.ofInt 64 1).toNat = 2 ^ 1 - 1 := by decide
  have key : (BitVec.ofInt 64 n &&& BitVec.ofInt 64 1).toNat = (n % ((2 ^ 64 : Nat) : Int)).toNat % 2 ^ 1 := by
    rw [BitVec.toNat_and, BitVec.toNat_ofInt, h127, Nat.and_two_pow_sub_one_eq_mod]
  show IntKind.i64.wrap ((BitVec.ofInt 64 n &&& BitVec.ofInt 64 1).toNat : Nat) = n % 2
  rw [key, IntKind.wrap_i64]
  omega
end Go.Proofs.YtmegkmhcfehnkaaGreatDoor
