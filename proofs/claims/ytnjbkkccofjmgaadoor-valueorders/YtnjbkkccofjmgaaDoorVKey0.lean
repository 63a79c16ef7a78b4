/- Keys: what the bytes are, plain mathematics. -/
import Derived.Test.YtnjbkkccofjmgaaDoorVPure
namespace Go.Proofs.YtnjbkkccofjmgaaDoor
open Go.Lib

def keyP (v : Val) : List UInt8 × Int := if wrg v = 0 then (key v, 0) else ([], wrg v)
/-- The number of eight bytes, the highest first. -/
def beV (l : List UInt8) : Nat := l.foldl (fun a b => a * 256 + b.toNat) 0
theorem beV_snoc (l : List UInt8) (b : UInt8) : beV (l ++ [b]) = beV l * 256 + b.toNat := by simp [beV]
theorem beV_lt : ∀ (n : Nat) (l : List UInt8), l.length = n → beV l < 256 ^ n := by
  intro n
  induction n with
  | zero => intro l h; rw [List.length_eq_zero_iff.1 h]; decide
  | succ n ih =>
    intro l h
    obtain ⟨l', b, rfl⟩ : ∃ l' b, l = l' ++ [b] := ⟨l.dropLast, l.getLast (by intro e; rw [e] at h; simp at h), (List.dropLast_concat_getLast _).symm⟩
    rw [List.length_append, List.length_singleton] at h
    have := ih l' (by omega)
    have hb := b.toNat_lt
    rw [beV_snoc, Nat.pow_succ]
    omega
theorem beN_succ' : ∀ (n u : Nat), beN (n + 1) u = beN n (u / 256) ++ [UInt8.ofNat (u % 256)] := by
  intro n
  induction n with
  | zero => intro u; simp [beN]
  | succ n ih =>
    intro u
    have e : beN (n + 2) u = UInt8.ofNat (u / 256 ^ (n + 1) % 256) :: beN (n + 1) u := rfl
    rw [e, ih]
    have e2 : beN (n + 1) (u / 256) = UInt8.ofNat (u / 256 / 256 ^ n % 256) :: beN n (u / 256) := rfl
    rw [e2, List.cons_append, Nat.div_div_eq_div_mul, Nat.pow_succ, Nat.mul_comm 256]
theorem beN_beV : ∀ (n : Nat) (l : List UInt8), l.length = n → beN n (beV l) = l := by
  intro n
  induction n with
  | zero => intro l h; rw [List.length_eq_zero_iff.1 h]; rfl
  | succ n ih =>
    intro l h
    obtain ⟨l', b, rfl⟩ : ∃ l' b, l = l' ++ [b] := ⟨l.dropLast, l.getLast (by intro e; rw [e] at h; simp at h), (List.dropLast_concat_getLast _).symm⟩
    rw [List.length_append, List.length_singleton] at h
    have hb := b.toNat_lt
    rw [beN_succ', beV_snoc]
    have e1 : (beV l' * 256 + b.toNat) / 256 = beV l' := by omega
    have e2 : (beV l' * 256 + b.toNat) % 256 = b.toNat := by omega
    rw [e1, e2, ih l' (by omega)]
    simp
theorem beN_get : ∀ (n u k : Nat), k < n → (beN n u)[k]? = some (UInt8.ofNat (u / 256 ^ (n - 1 - k) % 256)) := by
  intro n
  induction n with
  | zero => intro u k h; omega
  | succ n ih =>
    intro u k h
    have e : beN (n + 1) u = UInt8.ofNat (u / 256 ^ n % 256) :: beN n u := rfl
    rw [e]
    rcases k with _ | k
    · simp
    · rw [List.getElem?_cons_succ, ih u k (by omega)]
      congr 5; omega
theorem be8_take {u k : Nat} (h : k < 8) : (be8 u).take (k + 1) = (be8 u).take k ++ [UInt8.ofNat (u / 256 ^ (7 - k) % 256)] := by
  rw [List.take_add_one, show (be8 u)[k]? = _ from beN_get 8 u k h]
  rfl

/-- What Unkey answers. -/
def unk (S : ByteArray) : Val × Int :=
  match S.data.toList with
  | [] => (⟨0, 0, ⟨#[]⟩⟩, 43)
  | m :: r =>
    if m.toNat = 1 ∧ r = [] then (⟨0, 0, ⟨#[]⟩⟩, 0)
    else if m.toNat = 2 ∧ r.length = 1 ∧ (r.headD 0).toNat ≤ 1 then (⟨3, (r.headD 0).toNat, ⟨#[]⟩⟩, 0)
    else if m.toNat = 3 ∧ r.length = 8 then (⟨1, (beV r : Int) - 9223372036854775808, ⟨#[]⟩⟩, 0)
    else if m.toNat = 4 ∧ r.length ≤ 200 then (⟨2, 0, ⟨r.toArray⟩⟩, 0)
    else if m.toNat = 4 then (⟨0, 0, ⟨#[]⟩⟩, 42)
    else (⟨0, 0, ⟨#[]⟩⟩, 43)
end Go.Proofs.YtnjbkkccofjmgaaDoor
