
/- The digits of a number, read off a list of bytes: plain mathematics. -/
namespace Go.Proofs.YtmegkmhcfehnkaaGreatDoor

/-- The digits at the front of a list, of which i have been read and make n; the byte 'last' (from 1 on) may be at most top. -/
def dgs (last top : Nat) : List UInt8 → Nat → Nat → Nat × Nat × Int
  | [], _, _ => (0, 0, 11)
  | b :: r, i, n =>
    if i + 1 = last ∧ top < b.toNat then (0, 0, 10)
    else if 128 ≤ b.toNat then dgs last top r (i + 1) (n + (b.toNat % 128) * 128 ^ i)
    else if b.toNat = 0 ∧ 0 < i then (0, 0, 14)
    else (n + (b.toNat % 128) * 128 ^ i, i + 1, 0)

theorem dgs_nil (last top i n : Nat) : dgs last top [] i n = (0, 0, 11) := rfl
theorem dgs_range {last top i n : Nat} {b : UInt8} {r : List UInt8} (h : i + 1 = last) (h' : top < b.toNat) : dgs last top (b :: r) i n = (0, 0, 10) := by
  simp [dgs, h, h']
theorem dgs_more {last top i n : Nat} {b : UInt8} {r : List UInt8} (h : ¬ (i + 1 = last ∧ top < b.toNat)) (h' : 128 ≤ b.toNat) : dgs last top (b :: r) i n = dgs last top r (i + 1) (n + (b.toNat % 128) * 128 ^ i) := by
  simp only [dgs]; rw [if_neg h, if_pos h']
theorem dgs_form {last top i n : Nat} {b : UInt8} {r : List UInt8} (h : ¬ (i + 1 = last ∧ top < b.toNat)) (h' : b.toNat = 0) (h2 : 0 < i) : dgs last top (b :: r) i n = (0, 0, 14) := by
  simp only [dgs]; rw [if_neg h, if_neg (by omega), if_pos ⟨h', h2⟩]
theorem dgs_end {last top i n : Nat} {b : UInt8} {r : List UInt8} (h : ¬ (i + 1 = last ∧ top < b.toNat)) (h' : b.toNat < 128) (h2 : ¬ (b.toNat = 0 ∧ 0 < i)) : dgs last top (b :: r) i n = (n + (b.toNat % 128) * 128 ^ i, i + 1, 0) := by
  simp only [dgs]; rw [if_neg h, if_neg (by omega), if_neg h2]

theorem p128 (i : Nat) : (128 : Nat) ^ i = 2 ^ (7 * i) := by rw [show (128 : Nat) = 2 ^ 7 from rfl, ← Nat.pow_mul]

/-- n below 2^(7 i), a digit b: or is plus. -/
theorem or_shl {n b i : Nat} (hn : n < 128 ^ i) : n ||| (b <<< (7 * i)) = n + b * 128 ^ i := by
  rw [p128] at *
  rw [Nat.shiftLeft_eq, Nat.or_comm, Nat.mul_comm, ← Nat.two_pow_add_eq_or_of_lt hn]
  omega

theorem step_lt {n b i : Nat} (hn : n < 128 ^ i) : n + (b % 128) * 128 ^ i < 128 ^ (i + 1) := by
  have h : b % 128 < 128 := Nat.mod_lt _ (by decide)
  have h2 : (b % 128) * 128 ^ i ≤ 127 * 128 ^ i := Nat.mul_le_mul_right _ (by omega)
  rw [Nat.pow_succ]; omega

theorem pow_le_of {i j : Nat} (h : i ≤ j) : (128 : Nat) ^ i ≤ 128 ^ j := Nat.pow_le_pow_right (by decide) h

/-- The digits never run over: at a last byte that is below 128 (and, if it is the tenth, at most 1). -/
theorem digit_fits {n b i last top : Nat} (hn : n < 128 ^ i) (hl : last ≤ 10) (hi : i < last) (ht : top ≤ 127) (h10 : last = 10 → top ≤ 1) (hb : ¬ (i + 1 = last ∧ top < b)) : n + (b % 128) * 128 ^ i < 18446744073709551616 := by
  by_cases h9 : i = 9
  · subst h9
    have hl' : last = 10 := by omega
    have hb1 : b ≤ 1 := by
      have := h10 hl'; omega
    have h1 : (b % 128) * 128 ^ 9 ≤ 1 * 128 ^ 9 := Nat.mul_le_mul_right _ (by omega)
    have h2 : (128 : Nat) ^ 9 = 9223372036854775808 := by decide
    omega
  · have h1 := step_lt (b := b) hn
    have h2 := pow_le_of (show i + 1 ≤ 9 by omega)
    have h3 : (128 : Nat) ^ 9 = 9223372036854775808 := by decide
    omega
/-- What is read is within the list, and fits. -/
theorem dgs_ok {last top : Nat} (hl : last ≤ 10) (ht : top ≤ 127) (h10 : last = 10 → top ≤ 1) : ∀ (l : List UInt8) (i n m k : Nat), n < 128 ^ i → i < last → dgs last top l i n = (m, k, 0) → k ≤ i + l.length ∧ i < k ∧ k ≤ last ∧ m < 18446744073709551616 ∧ m < 128 ^ k := by
  intro l
  induction l with
  | nil => intro i n m k _ _ h; simp [dgs] at h
  | cons b r ih =>
    intro i n m k hn hi h
    by_cases hA : i + 1 = last ∧ top < b.toNat
    · rw [dgs_range hA.1 hA.2] at h; simp at h
    · by_cases hB : 128 ≤ b.toNat
      · rw [dgs_more hA hB] at h
        obtain ⟨h1, h2, h3, h4⟩ := ih _ _ _ _ (step_lt hn) (by omega) h
        refine ⟨?_, by omega, h3, h4⟩
        simp only [List.length_cons]; omega
      · by_cases hz : b.toNat = 0 ∧ 0 < i
        · rw [dgs_form hA hz.1 hz.2] at h; simp at h
        · rw [dgs_end hA (by omega) hz] at h
          simp only [Prod.mk.injEq] at h
          obtain ⟨rfl, rfl, _⟩ := h
          exact ⟨by simp only [List.length_cons]; omega, by omega, by omega, digit_fits hn hl hi ht h10 hA, step_lt hn⟩
theorem dgs_zero {last top : Nat} : ∀ (l : List UInt8) (i n m k : Nat) (c : Int), dgs last top l i n = (m, k, c) → c ≠ 0 → m = 0 ∧ k = 0 ∧ (c = 10 ∨ c = 11 ∨ c = 14) := by
  intro l
  induction l with
  | nil => intro i n m k c h _; simp only [dgs, Prod.mk.injEq] at h; omega
  | cons b r ih =>
    intro i n m k c h hc
    by_cases hA : i + 1 = last ∧ top < b.toNat
    · rw [dgs_range hA.1 hA.2] at h; simp only [Prod.mk.injEq] at h; omega
    · by_cases hB : 128 ≤ b.toNat
      · rw [dgs_more hA hB] at h; exact ih _ _ _ _ _ h hc
      · by_cases hz : b.toNat = 0 ∧ 0 < i
        · rw [dgs_form hA hz.1 hz.2] at h; simp only [Prod.mk.injEq] at h; omega
        · rw [dgs_end hA (by omega) hz] at h; simp only [Prod.mk.injEq] at h; omega

/-- The digits of a number, laid down. -/
def dgf : Nat → Nat → List UInt8
  | 0, _ => []
  | f + 1, n => if n < 128 then [UInt8.ofNat n] else UInt8.ofNat (n % 128 + 128) :: dgf f (n / 128)
def dg (n : Nat) : List UInt8 := dgf 10 n
theorem dgf_len : ∀ f n, (dgf f n).length ≤ f
  | 0, _ => by simp [dgf]
  | f + 1, n => by
    unfold dgf; split
    · simp
    · have := dgf_len f (n / 128); simp; omega
theorem dgf_last {f n : Nat} (h : n < 128) : dgf (f + 1) n = [UInt8.ofNat n] := by simp [dgf, h]
theorem dgf_more {f n : Nat} (h : ¬ n < 128) : dgf (f + 1) n = UInt8.ofNat (n % 128 + 128) :: dgf f (n / 128) := by rw [dgf, if_neg h]
/-- A number with its sign folded. -/
def fol (n : Int) : Nat := if 0 ≤ n then (2 * n).toNat else (2 * (-(n + 1)) + 1).toNat
/-- The bytes and the fault of a Writer behind a call that lays l down, or with which c is wrong. -/
def upd (bs : List UInt8) (e : Int) (l : List UInt8) (c : Int) : List UInt8 × Int := if e ≠ 0 then (bs, e) else if c ≠ 0 then ([], c) else (bs ++ l, 0)

/-- What a Reader at the place a of a text tells, where it is then, what is wrong then: of a number. -/
def numR (last top : Nat) (S : ByteArray) (a : Nat) (e : Int) : Nat × Nat × Int :=
  if e ≠ 0 then (0, a, e) else
  match dgs last top (S.data.toList.drop a) 0 0 with
  | (n, k, c) => if c = 0 then (n, a + k, 0) else (0, a, c)
theorem numR_wrong {last top : Nat} {S : ByteArray} {a : Nat} {e : Int} (h : e ≠ 0) : numR last top S a e = (0, a, e) := by simp [numR, h]
theorem numR_ok {last top : Nat} {S : ByteArray} {a n k : Nat} (h : dgs last top (S.data.toList.drop a) 0 0 = (n, k, 0)) : numR last top S a 0 = (n, a + k, 0) := by simp [numR, h]
theorem numR_bad {last top : Nat} {S : ByteArray} {a n k : Nat} {c : Int} (h : dgs last top (S.data.toList.drop a) 0 0 = (n, k, c)) (hc : c ≠ 0) : numR last top S a 0 = (0, a, c) := by simp [numR, h, hc]
theorem numR_lt {last top : Nat} (hl : last ≤ 10) (hl0 : 0 < last) (ht : top ≤ 127) (h10 : last = 10 → top ≤ 1) (S : ByteArray) (a : Nat) (e : Int) : (numR last top S a e).1 < 18446744073709551616 ∧ (last = 9 → (numR last top S a e).1 < 9223372036854775808) := by
  by_cases he : e = 0
  · subst he
    rcases hd : dgs last top (S.data.toList.drop a) 0 0 with ⟨n, k, c⟩
    by_cases hc : c = 0
    · subst hc
      rw [numR_ok hd]
      obtain ⟨_, _, h3, h4, h5⟩ := dgs_ok hl ht h10 _ _ _ _ _ (by decide) hl0 hd
      refine ⟨h4, fun h9 => ?_⟩
      have h2 := pow_le_of (show k ≤ 9 by omega)
      have h3 : (128 : Nat) ^ 9 = 9223372036854775808 := by decide
      show n < _
      omega
    · rw [numR_bad hd hc]; exact ⟨by simp, fun _ => by simp⟩
  · rw [numR_wrong he]; exact ⟨by simp, fun _ => by simp⟩
/-- A number with its sign unfolded. -/
def unf (u : Nat) : Int := if u % 2 = 0 then (u / 2 : Nat) else -((u / 2 : Nat) : Int) - 1
/-- Of a byte. -/
def byteR (S : ByteArray) (a : Nat) (e : Int) : Nat × Nat × Int :=
  if e ≠ 0 then (0, a, e) else if a < S.size then ((S.data.toList.getD a 0).toNat, a + 1, 0) else (0, a, 11)
/-- Of so many bytes. -/
def rawR (n : Int) (S : ByteArray) (a : Nat) (e : Int) : ByteArray × Nat × Int :=
  if e ≠ 0 then (⟨#[]⟩, a, e) else if n < 0 then (⟨#[]⟩, a, 1) else if ((S.size - a : Nat) : Int) < n then (⟨#[]⟩, a, 11) else (S.extract a (a + n.toNat), a + n.toNat, 0)
/-- Of a text. -/
def textR (most : Int) (S : ByteArray) (a : Nat) (e : Int) : ByteArray × Nat × Int :=
  if e ≠ 0 then (⟨#[]⟩, a, e) else if most < 0 then (⟨#[]⟩, a, 1) else
  match dgs 9 127 (S.data.toList.drop a) 0 0 with
  | (n, k, c) => if c ≠ 0 then (⟨#[]⟩, a, c) else if most < n then (⟨#[]⟩, a, 12) else if S.size - a - k < n then (⟨#[]⟩, a, 11) else (S.extract (a + k) (a + k + n), a + k + n, 0)
end Go.Proofs.YtmegkmhcfehnkaaGreatDoor
