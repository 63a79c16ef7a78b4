import Derived.Lib.Bytealg
import Derived.Lib.Small
/- Values, their order, their keys: plain mathematics. -/
namespace Go.Proofs.YtmegkmhcfehnkaaGreatDoor
open Go.Lib

/-- A value: its kind, its number, its text. -/
structure Val where
  k : Int
  n : Int
  s : ByteArray

/-- Has it a form? -/
def frm (v : Val) : Prop := (v.k = 0 ∧ v.n = 0 ∧ v.s.size = 0) ∨ (v.k = 1 ∧ v.s.size = 0) ∨ (v.k = 2 ∧ v.n = 0) ∨ (v.k = 3 ∧ v.s.size = 0 ∧ (v.n = 0 ∨ v.n = 1))
instance (v : Val) : Decidable (frm v) := by unfold frm; infer_instance
/-- What is wrong with it. -/
def wrg (v : Val) : Int := if frm v then (if v.s.size ≤ 200 then 0 else 42) else 43
def Val.i64 (v : Val) : Prop := (-9223372036854775808 ≤ v.k ∧ v.k ≤ 9223372036854775807) ∧ (-9223372036854775808 ≤ v.n ∧ v.n ≤ 9223372036854775807)

def rk (k : Int) : Int := if k = 0 then 0 else if k = 3 then 1 else if k = 1 then 2 else if k = 2 then 3 else 4
/-- The order. -/
def cmpV (a b : Val) : Int :=
  if rk a.k ≠ rk b.k then compareInt (rk a.k) (rk b.k)
  else if a.k ≠ b.k then compareInt a.k b.k
  else if a.n ≠ b.n then compareInt a.n b.n
  else compareBytes a.s.data.toList b.s.data.toList

theorem compareBytes_refl : ∀ l : List UInt8, compareBytes l l = 0
  | [] => rfl
  | a :: l => by
    unfold compareBytes
    rw [if_neg (UInt8.lt_irrefl a), if_neg (UInt8.lt_irrefl a)]
    exact compareBytes_refl l
theorem compareBytes_eq : ∀ {l m : List UInt8}, compareBytes l m = 0 → l = m
  | [], [], _ => rfl
  | [], _ :: _, h => by simp [compareBytes] at h
  | _ :: _, [], h => by simp [compareBytes] at h
  | a :: l, b :: m, h => by
    unfold compareBytes at h
    by_cases h1 : a < b
    · rw [if_pos h1] at h; simp at h
    · rw [if_neg h1] at h
      by_cases h2 : b < a
      · rw [if_pos h2] at h; simp at h
      · rw [if_neg h2] at h
        have : a = b := UInt8.le_antisymm (UInt8.not_lt.1 h2) (UInt8.not_lt.1 h1)
        rw [this, compareBytes_eq h]
theorem compareBytes_rng : ∀ (l m : List UInt8), compareBytes l m = -1 ∨ compareBytes l m = 0 ∨ compareBytes l m = 1
  | [], [] => by simp [compareBytes]
  | [], _ :: _ => by simp [compareBytes]
  | _ :: _, [] => by simp [compareBytes]
  | a :: l, b :: m => by
    unfold compareBytes
    split
    · simp
    · split
      · simp
      · exact compareBytes_rng l m
theorem compareBytes_neg : ∀ (l m : List UInt8), compareBytes l m = -compareBytes m l
  | [], [] => by simp [compareBytes]
  | [], _ :: _ => by simp [compareBytes]
  | _ :: _, [] => by simp [compareBytes]
  | a :: l, b :: m => by
    unfold compareBytes
    by_cases h1 : a < b
    · rw [if_pos h1, if_neg (UInt8.lt_asymm h1), if_pos h1]
    · rw [if_neg h1]
      by_cases h2 : b < a
      · rw [if_pos h2, if_pos h2]; simp
      · rw [if_neg h2, if_neg h2, if_neg h1]; exact compareBytes_neg l m
theorem compareBytes_trans : ∀ {l m n : List UInt8}, compareBytes l m ≤ 0 → compareBytes m n ≤ 0 → compareBytes l n ≤ 0
  | [], _, [], _, _ => by simp [compareBytes]
  | [], _, _ :: _, _, _ => by simp [compareBytes]
  | _ :: _, [], _, h, _ => by simp [compareBytes] at h
  | _ :: _, _ :: _, [], _, h => by simp [compareBytes] at h
  | a :: l, b :: m, c :: n, h, k => by
    unfold compareBytes at h k ⊢
    by_cases h1 : a < b
    · by_cases k1 : b < c
      · rw [if_pos (UInt8.lt_trans h1 k1)]; simp
      · rw [if_neg k1] at k
        by_cases k2 : c < b
        · rw [if_pos k2] at k; simp at k
        · have : b = c := UInt8.le_antisymm (UInt8.not_lt.1 k2) (UInt8.not_lt.1 k1)
          subst this
          rw [if_pos h1]; simp
    · rw [if_neg h1] at h
      by_cases h2 : b < a
      · rw [if_pos h2] at h; simp at h
      · rw [if_neg h2] at h
        have : a = b := UInt8.le_antisymm (UInt8.not_lt.1 h2) (UInt8.not_lt.1 h1)
        subst this
        by_cases k1 : a < c
        · rw [if_pos k1]; simp
        · rw [if_neg k1] at k ⊢
          by_cases k2 : c < a
          · rw [if_pos k2] at k; simp at k
          · rw [if_neg k2] at k ⊢
            exact compareBytes_trans h k
theorem compareBytes_cons (a : UInt8) (l m : List UInt8) : compareBytes (a :: l) (a :: m) = compareBytes l m := by
  conv => lhs; unfold compareBytes
  rw [if_neg (UInt8.lt_irrefl a), if_neg (UInt8.lt_irrefl a)]

/-- A number by eight bytes, the highest first. -/
def beN : Nat → Nat → List UInt8
  | 0, _ => []
  | k + 1, u => UInt8.ofNat (u / 256 ^ k % 256) :: beN k u
def be8 (u : Nat) : List UInt8 := beN 8 u
theorem beN_len : ∀ k u, (beN k u).length = k
  | 0, _ => rfl
  | k + 1, u => by simp [beN, beN_len k u]
theorem beN_mod : ∀ (k u : Nat), beN k (u % 256 ^ k) = beN k u ∧ ∀ j, j ≤ k → beN j (u % 256 ^ k) = beN j u := by
  intro k u
  have hj : ∀ j, j ≤ k → beN j (u % 256 ^ k) = beN j u := by
    intro j
    induction j with
    | zero => intro _; rfl
    | succ j ih =>
      intro hj
      unfold beN
      rw [ih (by omega)]
      have e : u % 256 ^ k / 256 ^ j % 256 = u / 256 ^ j % 256 := by
        have e1 : (256 : Nat) ^ k = 256 ^ j * 256 ^ (k - j) := by rw [← Nat.pow_add]; congr 1; omega
        rw [e1, Nat.mod_mul_right_div_self]
        have e2 : (256 : Nat) ^ (k - j) = 256 * 256 ^ (k - j - 1) := by rw [← Nat.pow_succ']; congr 1; omega
        rw [e2, Nat.mod_mul_right_mod]
      rw [e]
  exact ⟨hj k (Nat.le_refl _), hj⟩
theorem ofNat_lt {a b : Nat} (ha : a < 256) (hb : b < 256) : UInt8.ofNat a < UInt8.ofNat b ↔ a < b := by
  rw [UInt8.lt_iff_toNat_lt, UInt8.toNat_ofNat_of_lt' (by simpa using ha), UInt8.toNat_ofNat_of_lt' (by simpa using hb)]
theorem beN_cmp : ∀ (k u v : Nat), u < 256 ^ k → v < 256 ^ k → compareBytes (beN k u) (beN k v) = compareInt u v := by
  intro k
  induction k with
  | zero => intro u v hu hv; simp at hu hv; subst hu hv; simp [beN, compareBytes, compareInt]
  | succ k ih =>
    intro u v hu hv
    have hp : 0 < 256 ^ k := Nat.pow_pos (by decide)
    rw [Nat.pow_succ] at hu hv
    have hu1 : u / 256 ^ k < 256 := Nat.div_lt_of_lt_mul (by omega)
    have hv1 : v / 256 ^ k < 256 := Nat.div_lt_of_lt_mul (by omega)
    have hcm := ih (u % 256 ^ k) (v % 256 ^ k) (Nat.mod_lt _ hp) (Nat.mod_lt _ hp)
    rw [(beN_mod k u).1, (beN_mod k v).1] at hcm
    unfold beN compareBytes
    rw [Nat.mod_eq_of_lt hu1, Nat.mod_eq_of_lt hv1, hcm]
    have du := Nat.div_add_mod u (256 ^ k)
    have dv := Nat.div_add_mod v (256 ^ k)
    have mu := Nat.mod_lt u hp
    have mv := Nat.mod_lt v hp
    generalize hA : u / 256 ^ k = A at *
    generalize hB : v / 256 ^ k = B at *
    generalize hP : 256 ^ k = P at *
    generalize hU : u % P = U at *
    generalize hV : v % P = V at *
    unfold compareInt
    simp only [ofNat_lt hu1 hv1, ofNat_lt hv1 hu1]
    rcases Nat.lt_trichotomy A B with h | h | h
    · have : P * (A + 1) ≤ P * B := Nat.mul_le_mul_left _ h
      rw [Nat.mul_add] at this
      rw [if_pos h, if_pos (by omega)]
    · subst h
      rw [if_neg (by omega), if_neg (by omega)]
      have e1 : ((U : Int) < V) ↔ ((u : Int) < v) := by omega
      have e2 : ((U : Int) > V) ↔ ((u : Int) > v) := by omega
      simp only [e1, e2]
    · have : P * (B + 1) ≤ P * A := Nat.mul_le_mul_left _ h
      rw [Nat.mul_add] at this
      rw [if_neg (by omega), if_pos h, if_neg (by omega), if_pos (by omega)]

/-- The key of a right value. -/
def key (v : Val) : List UInt8 :=
  if v.k = 0 then [1] else if v.k = 3 then [2, UInt8.ofNat v.n.toNat] else if v.k = 1 then 3 :: be8 (v.n + 9223372036854775808).toNat else 4 :: v.s.data.toList

theorem size0 {s : ByteArray} (h : s.size = 0) : s.data.toList = [] := by
  have : s.data.toList.length = 0 := by simpa using h
  exact List.length_eq_zero_iff.1 this
theorem key_cmp {a b : Val} (ha : frm a) (hb : frm b) (ia : a.i64) (ib : b.i64) : compareBytes (key a) (key b) = cmpV a b := by
  obtain ⟨ak, an, as⟩ := a
  obtain ⟨bk, bn, bs⟩ := b
  unfold frm at ha hb
  unfold Val.i64 at ia ib
  simp only at ha hb ia ib
  rcases ha with ⟨rfl, rfl, hs⟩ | ⟨rfl, hs⟩ | ⟨rfl, rfl⟩ | ⟨rfl, hs, hn⟩ <;> rcases hb with ⟨rfl, rfl, ht⟩ | ⟨rfl, ht⟩ | ⟨rfl, rfl⟩ | ⟨rfl, ht, hm⟩ <;>
    simp [key, cmpV, rk, compareInt, compareBytes, be8, beN]
  · rw [size0 hs, size0 ht]; rfl
  · have h8 : (256 : Nat) ^ 8 = 18446744073709551616 := by decide
    have hu : (an + 9223372036854775808).toNat < 256 ^ 8 := by omega
    have hv : (bn + 9223372036854775808).toNat < 256 ^ 8 := by omega
    have := beN_cmp 8 _ _ hu hv
    simp only [beN] at this
    simp [compareBytes] at this
    rw [this]
    unfold compareInt
    by_cases he : an = bn
    · subst he
      rw [size0 hs, size0 ht]
      simp [compareBytes]
    · rw [if_neg he]
      (repeat' split) <;> omega
  · rcases hn with rfl | rfl <;> rcases hm with rfl | rfl <;> simp [size0 hs, size0 ht, compareBytes]
theorem compareInt_ne {a b : Int} (h : a ≠ b) : compareInt a b ≠ 0 := by unfold compareInt; (repeat' split) <;> omega
theorem cmpV_eq {a b : Val} (h : cmpV a b = 0) : a = b := by
  unfold cmpV at h
  by_cases h1 : rk a.k ≠ rk b.k
  · rw [if_pos h1] at h; exact absurd h (compareInt_ne h1)
  · rw [if_neg h1] at h
    by_cases h2 : a.k ≠ b.k
    · rw [if_pos h2] at h; exact absurd h (compareInt_ne h2)
    · rw [if_neg h2] at h
      by_cases h3 : a.n ≠ b.n
      · rw [if_pos h3] at h; exact absurd h (compareInt_ne h3)
      · rw [if_neg h3] at h
        have := compareBytes_eq h
        obtain ⟨ak, an, ⟨⟨as⟩⟩⟩ := a
        obtain ⟨bk, bn, ⟨⟨bs⟩⟩⟩ := b
        simp at h1 h2 h3 this
        simp [h2, h3, this]
theorem cmpV_refl (a : Val) : cmpV a a = 0 := by simp [cmpV, compareBytes_refl]
theorem cmpV_iff {a b : Val} : cmpV a b = 0 ↔ a = b := ⟨cmpV_eq, fun h => by subst h; exact cmpV_refl a⟩
theorem cmpV_rng {a b : Val} (ha : frm a) (hb : frm b) (ia : a.i64) (ib : b.i64) : cmpV a b = -1 ∨ cmpV a b = 0 ∨ cmpV a b = 1 := by
  rw [← key_cmp ha hb ia ib]; exact compareBytes_rng _ _
theorem cmpV_neg {a b : Val} (ha : frm a) (hb : frm b) (ia : a.i64) (ib : b.i64) : cmpV a b = -cmpV b a := by
  rw [← key_cmp ha hb ia ib, ← key_cmp hb ha ib ia]; exact compareBytes_neg _ _
theorem cmpV_trans {a b c : Val} (ha : frm a) (hb : frm b) (hc : frm c) (ia : a.i64) (ib : b.i64) (ic : c.i64) (h : cmpV a b ≤ 0) (k : cmpV b c ≤ 0) : cmpV a c ≤ 0 := by
  rw [← key_cmp ha hc ia ic]; rw [← key_cmp ha hb ia ib] at h; rw [← key_cmp hb hc ib ic] at k; exact compareBytes_trans h k
end Go.Proofs.YtmegkmhcfehnkaaGreatDoor
