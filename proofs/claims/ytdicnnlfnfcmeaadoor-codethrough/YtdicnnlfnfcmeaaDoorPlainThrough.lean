/- What is laid down is taken by the same calls; of a text that is one byte shorter something is missing: plain mathematics. -/
import Derived.Test.YtdicnnlfnfcmeaaDoorAgain
namespace Go.Proofs.YtdicnnlfnfcmeaaDoor

theorem dgf_ne {f q : Nat} (h : 0 < f) : dgf f q ≠ [] := by
  obtain ⟨f', rfl⟩ : ∃ f', f = f' + 1 := ⟨f - 1, by omega⟩
  unfold dgf; split <;> simp
theorem pow_split {last i : Nat} (h : i + 1 < last) : (128 : Nat) ^ (last - 1 - i) = 128 ^ (last - 1 - (i + 1)) * 128 := by
  rw [← Nat.pow_succ]; congr 1; omega
theorem div_bound {q t last i : Nat} (h : i + 1 < last) (hq : q < t * 128 ^ (last - 1 - i)) : q / 128 < t * 128 ^ (last - 1 - (i + 1)) := by
  rw [pow_split h, ← Nat.mul_assoc] at hq
  exact Nat.div_lt_of_lt_mul (by rw [Nat.mul_comm]; exact hq)
theorem fuel_div {q f : Nat} (h : q < 128 ^ (f + 1)) : q / 128 < 128 ^ f := by
  rw [Nat.pow_succ] at h
  exact Nat.div_lt_of_lt_mul (by rw [Nat.mul_comm]; exact h)

theorem fwd {last top : Nat} (ht : top ≤ 127) : ∀ (f q i m : Nat) (rest : List UInt8), q < 128 ^ f → 0 < f → (0 < i → 0 < q) → i < last → q < (top + 1) * 128 ^ (last - 1 - i) →
    dgs last top (dgf f q ++ rest) i m = (m + q * 128 ^ i, i + (dgf f q).length, 0) := by
  intro f
  induction f with
  | zero => intro q i m rest _ h; omega
  | succ f ih =>
    intro q i m rest hq _ hpos hi hb
    by_cases hlt : q < 128
    · have hmod : (UInt8.ofNat q).toNat = q := by simp; omega
      rw [dgf_last hlt]
      have hA : ¬ (i + 1 = last ∧ top < (UInt8.ofNat q).toNat) := by
        rintro ⟨h1, h2⟩
        rw [hmod] at h2
        have : last - 1 - i = 0 := by omega
        rw [this] at hb; simp at hb; omega
      have hz : ¬ ((UInt8.ofNat q).toNat = 0 ∧ 0 < i) := by
        rintro ⟨h1, h2⟩
        rw [hmod] at h1
        have := hpos h2; omega
      rw [List.cons_append, dgs_end hA (by rw [hmod]; omega) hz, hmod, Nat.mod_eq_of_lt hlt]
      simp
    · have hmod : (UInt8.ofNat (q % 128 + 128)).toNat = q % 128 + 128 := by simp; omega
      rw [dgf_more hlt]
      have hnl : i + 1 < last := by
        rcases Nat.lt_or_ge (i + 1) last with h | h
        · exact h
        · have : last - 1 - i = 0 := by omega
          rw [this] at hb; simp at hb; omega
      have hf : 0 < f := by
        rcases f with _ | f
        · simp at hq; omega
        · omega
      rw [List.cons_append, dgs_more (by omega) (by rw [hmod]; omega), hmod]
      rw [ih (q / 128) (i + 1) _ rest (fuel_div hq) hf (fun _ => by omega) hnl (div_bound hnl hb)]
      have e1 : (q % 128 + 128) % 128 = q % 128 := by omega
      rw [e1, Nat.pow_succ]
      have e2 : m + q % 128 * 128 ^ i + q / 128 * (128 ^ i * 128) = m + q * 128 ^ i := by
        have h1 : q / 128 * (128 ^ i * 128) = (q / 128 * 128) * 128 ^ i := by rw [Nat.mul_comm (128 ^ i) 128, ← Nat.mul_assoc]
        rw [h1, Nat.add_assoc, ← Nat.add_mul]
        have h2 : q % 128 + q / 128 * 128 = q := by omega
        rw [h2]
      rw [e2]
      simp only [List.length_cons]
      congr 2
      omega

theorem cutd {last top : Nat} (ht : top ≤ 127) : ∀ (f q i m : Nat), q < 128 ^ f → 0 < f → i < last → q < (top + 1) * 128 ^ (last - 1 - i) → dgs last top (dgf f q).dropLast i m = (0, 0, 11) := by
  intro f
  induction f with
  | zero => intro q i m _ h; omega
  | succ f ih =>
    intro q i m hq _ hi hb
    by_cases hlt : q < 128
    · rw [dgf_last hlt]; rfl
    · have hmod : (UInt8.ofNat (q % 128 + 128)).toNat = q % 128 + 128 := by simp; omega
      have hnl : i + 1 < last := by
        rcases Nat.lt_or_ge (i + 1) last with h | h
        · exact h
        · have : last - 1 - i = 0 := by omega
          rw [this] at hb; simp at hb; omega
      have hf : 0 < f := by
        rcases f with _ | f
        · simp at hq; omega
        · omega
      rw [dgf_more hlt, List.dropLast_cons_of_ne_nil (dgf_ne hf), dgs_more (by omega) (by rw [hmod]; omega)]
      exact ih _ _ _ (fuel_div hq) hf hnl (div_bound hnl hb)

theorem fwd9 {q : Nat} (h : q < 9223372036854775808) (rest : List UInt8) : dgs 9 127 (dg q ++ rest) 0 0 = (q, (dg q).length, 0) := by
  have := fwd (last := 9) (top := 127) (by omega) 10 q 0 0 rest (Nat.lt_of_lt_of_le h (by decide)) (by omega) (by omega) (by omega) (Nat.lt_of_lt_of_le h (by decide))
  simpa [dg] using this
theorem fwd10 {q : Nat} (h : q < 18446744073709551616) (rest : List UInt8) : dgs 10 1 (dg q ++ rest) 0 0 = (q, (dg q).length, 0) := by
  have := fwd (last := 10) (top := 1) (by omega) 10 q 0 0 rest (Nat.lt_of_lt_of_le h (by decide)) (by omega) (by omega) (by omega) (Nat.lt_of_lt_of_le h (by decide))
  simpa [dg] using this
theorem cut9 {q : Nat} (h : q < 9223372036854775808) : dgs 9 127 (dg q).dropLast 0 0 = (0, 0, 11) :=
  cutd (last := 9) (top := 127) (by omega) 10 q 0 0 (Nat.lt_of_lt_of_le h (by decide)) (by omega) (by omega) (Nat.lt_of_lt_of_le h (by decide))
theorem cut10 {q : Nat} (h : q < 18446744073709551616) : dgs 10 1 (dg q).dropLast 0 0 = (0, 0, 11) :=
  cutd (last := 10) (top := 1) (by omega) 10 q 0 0 (Nat.lt_of_lt_of_le h (by decide)) (by omega) (by omega) (Nat.lt_of_lt_of_le h (by decide))
theorem unf_fol {n : Int} (h1 : -9223372036854775808 ≤ n) (h2 : n ≤ 9223372036854775807) : unf (fol n) = n := by
  unfold unf fol
  by_cases h : 0 ≤ n
  · rw [if_pos h, if_pos (by omega)]; omega
  · rw [if_neg h, if_neg (by omega)]; omega

/-- A step, as the law takes it. -/
structure Stp where
  k : Int
  n : Int
  s : ByteArray
instance : Inhabited Stp := ⟨⟨0, 0, ⟨#[]⟩⟩⟩
def bnd (s : ByteArray) : ByteArray := if 300 < s.size then s.extract 0 300 else s
theorem bnd_le (s : ByteArray) : (bnd s).size ≤ 300 := by
  unfold bnd; split
  · rw [ByteArray.size_extract]; omega
  · omega
def v2 (n : Int) : Int := pk n 4611686018427387904
def enc (p : Stp) : List UInt8 :=
  if p.k = 1 then bytesL [pk p.n 256] else if p.k = 2 then dg (v2 p.n).toNat else if p.k = 3 then dg (fol p.n) else if p.k = 4 then textL (bnd p.s) else if p.k = 5 then (bnd p.s).data.toList else []
def encs (f : Nat → Stp) : Nat → List UInt8
  | 0 => []
  | m + 1 => encs f m ++ enc (f m)
theorem enc_len (p : Stp) : (enc p).length ≤ 310 := by
  have h10 : ∀ n, (dg n).length ≤ 10 := fun n => dgf_len 10 n
  have hb := bnd_le p.s
  have h4 := h10 (bnd p.s).size
  have h2 := h10 (v2 p.n).toNat
  have h3 := h10 (fol p.n)
  have h5 : (bnd p.s).data.toList.length = (bnd p.s).size := Array.length_toList
  unfold enc
  split
  · simp [bytesL]
  split
  · omega
  split
  · omega
  split
  · unfold textL; rw [List.length_append]; omega
  split
  · omega
  · simp
theorem encs_len (f : Nat → Stp) : ∀ m, (encs f m).length ≤ 310 * m
  | 0 => by simp [encs]
  | m + 1 => by
    have h1 := encs_len f m
    have h2 := enc_len (f m)
    unfold encs; rw [List.length_append]; omega
theorem encs_pre (f : Nat → Stp) (k : Nat) : ∀ m, k ≤ m → ∃ r, encs f m = encs f k ++ r := by
  intro m
  induction m with
  | zero => intro h; obtain rfl : k = 0 := by omega
            exact ⟨[], by simp⟩
  | succ m ih =>
    intro h
    by_cases he : k = m + 1
    · subst he; exact ⟨[], by simp⟩
    · obtain ⟨r, hr⟩ := ih (by omega)
      exact ⟨r ++ enc (f m), by rw [encs, hr, List.append_assoc]⟩

/-- Reading a step where it stands. -/
theorem rd1 {T : ByteArray} {a : Nat} {n : Int} {rest : List UInt8} (h : T.data.toList.drop a = bytesL [pk n 256] ++ rest) : byteR T a 0 = ((pk n 256).toNat, a + 1, 0) := by
  have hr := pk_rng n 256 (by omega)
  have hlen : a < T.data.toList.length := by
    rcases Nat.lt_or_ge a T.data.toList.length with h1 | h1
    · exact h1
    · rw [List.drop_of_length_le h1] at h; simp [bytesL] at h
  have hsz : a < T.size := by simpa using hlen
  have hg : T.data.toList.getD a 0 = UInt8.ofNat (pk n 256).toNat := by
    rw [List.drop_eq_getElem_cons hlen] at h
    simp only [bytesL, List.map_cons, List.map_nil, List.cons_append, List.nil_append, List.cons.injEq] at h
    rw [List.getD_eq_getElem?_getD, List.getElem?_eq_getElem hlen]
    exact h.1
  unfold byteR
  rw [if_neg (by simp), if_pos hsz, hg]
  have : (UInt8.ofNat (pk n 256).toNat).toNat = (pk n 256).toNat := by simp; omega
  rw [this]
theorem rd2 {T : ByteArray} {a : Nat} {q : Nat} {rest : List UInt8} (hq : q < 9223372036854775808) (h : T.data.toList.drop a = dg q ++ rest) : numR 9 127 T a 0 = (q, a + (dg q).length, 0) :=
  numR_ok (by rw [h]; exact fwd9 hq rest)
theorem rd3 {T : ByteArray} {a : Nat} {q : Nat} {rest : List UInt8} (hq : q < 18446744073709551616) (h : T.data.toList.drop a = dg q ++ rest) : numR 10 1 T a 0 = (q, a + (dg q).length, 0) :=
  numR_ok (by rw [h]; exact fwd10 hq rest)
theorem ext_of {T s : ByteArray} {a : Nat} {rest : List UInt8} (h : T.data.toList.drop a = s.data.toList ++ rest) : T.extract a (a + s.size) = s := by
  apply ByteArray.ext
  apply Array.toList_inj.1
  rw [ext_list, h]
  have : s.data.toList.length = s.size := Array.length_toList
  rw [← this]; simp
theorem drop_len {T : ByteArray} {a : Nat} {l : List UInt8} (h : T.data.toList.drop a = l) (hne : l ≠ []) : T.size = a + l.length := by
  have h1 : T.data.toList.length = T.size := Array.length_toList
  have h2 : (T.data.toList.drop a).length = T.data.toList.length - a := List.length_drop
  rw [h] at h2
  have h3 : 0 < l.length := List.length_pos_iff.2 hne
  omega
theorem drop_le {T : ByteArray} {a : Nat} {l rest : List UInt8} (ha : a ≤ T.size) (h : T.data.toList.drop a = l ++ rest) : l.length ≤ T.size - a := by
  have h1 : T.data.toList.length = T.size := Array.length_toList
  have h2 : (T.data.toList.drop a).length = T.data.toList.length - a := List.length_drop
  rw [h, List.length_append] at h2
  omega
theorem rd5 {T s : ByteArray} {a : Nat} {rest : List UInt8} (ha : a ≤ T.size) (h : T.data.toList.drop a = s.data.toList ++ rest) : rawR s.size T a 0 = (s, a + s.data.toList.length, 0) := by
  have h0 : s.data.toList.length = s.size := Array.length_toList
  have hl := drop_le ha h
  unfold rawR
  rw [if_neg (by simp), if_neg (by omega), if_neg (by omega)]
  simp only [Int.toNat_natCast]
  rw [ext_of h, h0]
theorem rd4 {T s : ByteArray} {a : Nat} {rest : List UInt8} (ha : a ≤ T.size) (hs : s.size ≤ 300) (h : T.data.toList.drop a = textL s ++ rest) : textR 300 T a 0 = (s, a + (textL s).length, 0) := by
  have h0 : s.data.toList.length = s.size := Array.length_toList
  have hl := drop_le ha h
  unfold textL at *
  rw [List.length_append] at hl
  rw [List.append_assoc] at h
  have hd : T.data.toList.drop (a + (dg s.size).length) = s.data.toList ++ rest := by
    rw [← List.drop_drop, h]; simp
  unfold textR
  rw [if_neg (by simp), if_neg (by omega), h, fwd9 (by omega)]
  simp only []
  rw [if_neg (by simp), if_neg (by omega), if_neg (by omega), ext_of hd, List.length_append, h0]
  congr 2
  omega

/-- .. and where its last byte is missing. -/
theorem sh1 {T : ByteArray} {a : Nat} (h : T.size ≤ a) : byteR T a 0 = (0, a, 11) := by
  unfold byteR; rw [if_neg (by simp), if_neg (by omega)]
theorem sh2 {T : ByteArray} {a q : Nat} (hq : q < 9223372036854775808) (h : T.data.toList.drop a = (dg q).dropLast) : numR 9 127 T a 0 = (0, a, 11) :=
  numR_bad (by rw [h]; exact cut9 hq) (by omega)
theorem sh3 {T : ByteArray} {a q : Nat} (hq : q < 18446744073709551616) (h : T.data.toList.drop a = (dg q).dropLast) : numR 10 1 T a 0 = (0, a, 11) :=
  numR_bad (by rw [h]; exact cut10 hq) (by omega)
theorem sh5 {T s : ByteArray} {a : Nat} (h : T.size - a < s.size) : rawR s.size T a 0 = (⟨#[]⟩, a, 11) := by
  unfold rawR
  rw [if_neg (by simp), if_neg (by omega), if_pos (by omega)]
theorem sh4 {T s : ByteArray} {a : Nat} (hs : s.size ≤ 300) (h : T.data.toList.drop a = (textL s).dropLast) : textR 300 T a 0 = (⟨#[]⟩, a, 11) := by
  have h0 : s.data.toList.length = s.size := Array.length_toList
  unfold textL at h
  unfold textR
  rw [if_neg (by simp), if_neg (by omega)]
  by_cases hz : s.data.toList = []
  · have hz2 : s.size = 0 := by rw [← h0, hz]; rfl
    rw [hz, List.append_nil] at h
    rw [h, cut9 (by omega)]
    rfl
  · rw [List.dropLast_append_of_ne_nil hz] at h
    have hl : (T.data.toList.drop a).length = T.data.toList.length - a := List.length_drop
    have h1 : T.data.toList.length = T.size := Array.length_toList
    rw [h, List.length_append, List.length_dropLast] at hl
    have hpos : 0 < s.data.toList.length := List.length_pos_iff.2 hz
    have hdl : 0 < (dg s.size).length := List.length_pos_iff.2 (dgf_ne (by omega))
    rw [h, fwd9 (by omega)]
    simp only []
    rw [if_neg (by simp), if_neg (by omega), if_pos (by omega)]
end Go.Proofs.YtdicnnlfnfcmeaaDoor
