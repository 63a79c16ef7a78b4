/- What was read, laid down again, is what was read: plain mathematics. -/
import Derived.Test.YtnjbkkccofjmgaaDoorWriter3
namespace Go.Proofs.YtnjbkkccofjmgaaDoor

theorem laidOn_zero (bs l : List UInt8) : laidOn bs l 0 = bs ++ l := by simp [laidOn]
theorem dgs_dg {last top : Nat} : ∀ (l : List UInt8) (i m n k f : Nat), dgs last top l i m = (n, k, 0) → m < 128 ^ i → k ≤ i + f → i < k ∧ ∃ q, n = m + q * 128 ^ i ∧ l.take (k - i) = dgf f q ∧ (0 < i → 0 < q) := by
  intro l
  induction l with
  | nil => intro i m n k f h; simp [dgs] at h
  | cons b r ih =>
    intro i m n k f h hm hk
    have hb := b.toNat_lt
    by_cases hA : i + 1 = last ∧ top < b.toNat
    · rw [dgs_range hA.1 hA.2] at h; simp at h
    · by_cases hB : 128 ≤ b.toNat
      · rw [dgs_more hA hB] at h
        obtain ⟨h1, q, h2, h3, h4⟩ := ih (i + 1) _ n k (f - 1) h (step_lt hm) (by omega)
        refine ⟨by omega, b.toNat % 128 + q * 128, ?_, ?_, fun _ => by have := h4 (by omega); omega⟩
        · rw [h2, Nat.pow_succ, Nat.add_mul, ← Nat.add_assoc]
          have e : q * 128 * 128 ^ i = q * (128 ^ i * 128) := by rw [Nat.mul_assoc, Nat.mul_comm 128]
          omega
        · obtain ⟨f', rfl⟩ : ∃ f', f = f' + 1 := ⟨f - 1, by omega⟩
          have hq := h4 (by omega)
          have hs : k - i = (k - (i + 1)) + 1 := by omega
          rw [hs, List.take_succ_cons, h3, dgf_more (by omega)]
          have e1 : (b.toNat % 128 + q * 128) / 128 = q := by omega
          have e2 : (b.toNat % 128 + q * 128) % 128 + 128 = b.toNat := by omega
          rw [e1, e2]
          simp
      · by_cases hz : b.toNat = 0 ∧ 0 < i
        · rw [dgs_form hA hz.1 hz.2] at h; simp at h
        · rw [dgs_end hA (by omega) hz] at h
          simp only [Prod.mk.injEq] at h
          obtain ⟨h1, h2, _⟩ := h
          subst h2
          obtain ⟨f', rfl⟩ : ∃ f', f = f' + 1 := ⟨f - 1, by omega⟩
          refine ⟨by omega, b.toNat, ?_, ?_, fun hi => by omega⟩
          · rw [← h1, Nat.mod_eq_of_lt (by omega)]
          · have hs : i + 1 - i = 0 + 1 := by omega
            rw [hs, List.take_succ_cons, dgf_last (by omega)]
            simp

theorem dgs_dg0 {last top : Nat} (hl : last ≤ 10) (ht : top ≤ 127) (h10 : last = 10 → top ≤ 1) (hl0 : 0 < last) {l : List UInt8} {n k : Nat} (h : dgs last top l 0 0 = (n, k, 0)) : l.take k = dg n := by
  obtain ⟨_, _, h3, _⟩ := dgs_ok hl ht h10 _ _ _ _ _ (by decide) hl0 h
  obtain ⟨_, q, h2, h4, _⟩ := dgs_dg l 0 0 n k 10 h (by decide) (by omega)
  have : n = q := by simpa using h2
  subst this
  simpa [dg] using h4

theorem take_add (l : List UInt8) (a k : Nat) : l.take a ++ (l.drop a).take k = l.take (a + k) := by rw [List.take_add]
theorem fol_unf (u : Nat) : fol (unf u) = u := by
  unfold fol unf
  by_cases h : u % 2 = 0
  · rw [if_pos h, if_pos (by omega)]; omega
  · rw [if_neg h, if_neg (by omega)]; omega
theorem unf_rng (u : Nat) (h : u < 18446744073709551616) : -9223372036854775808 ≤ unf u ∧ unf u ≤ 9223372036854775807 := by
  unfold unf; split <;> omega

theorem ag_byte {S : ByteArray} {a v a' : Nat} {e' : Int} (h : byteR S a 0 = (v, a', e')) : v ≤ 255 ∧ ((e' = 0 ∧ a ≤ a' ∧ a' ≤ S.size ∧ upd (S.data.toList.take a) 0 (bytesL [(v : Int)]) (bytesC [(v : Int)]) = (S.data.toList.take a', 0)) ∨ (e' ≠ 0 ∧ e' ≠ 13 ∧ a' = a)) := by
  unfold byteR at h
  rw [if_neg (by simp)] at h
  by_cases ha : a < S.size
  · rw [if_pos ha] at h
    simp only [Prod.mk.injEq] at h
    obtain ⟨h1, h2, h3⟩ := h
    have hv : v ≤ 255 := by have := (S.data.toList.getD a 0).toNat_lt; omega
    refine ⟨hv, Or.inl ⟨h3.symm, by omega, by omega, ?_⟩⟩
    have hc : bytesC [(v : Int)] = 0 := by unfold bytesC; rw [if_pos]; simp [byteOk]; omega
    rw [hc, upd_lay]
    have hal : a < S.data.toList.length := by simpa using ha
    rw [← h2, List.take_succ_eq_append_getElem hal]
    have hb : bytesL [(v : Int)] = [S.data.toList[a]] := by
      simp only [bytesL, List.map_cons, List.map_nil, Int.toNat_natCast]
      rw [← h1, List.getD_eq_getElem?_getD, List.getElem?_eq_getElem hal]
      simp
    rw [hb]
    simp [laidOn]
  · rw [if_neg ha] at h
    simp only [Prod.mk.injEq] at h
    exact ⟨by omega, Or.inr ⟨by omega, by omega, by omega⟩⟩

theorem ag_num {last top : Nat} (hl : last ≤ 10) (ht : top ≤ 127) (h10 : last = 10 → top ≤ 1) (hl0 : 0 < last) {S : ByteArray} {a n a' : Nat} {e' : Int} (hle : a ≤ S.size) (h : numR last top S a 0 = (n, a', e')) :
    (e' = 0 ∧ a ≤ a' ∧ a' ≤ S.size ∧ S.data.toList.take a ++ dg n = S.data.toList.take a') ∨ (e' ≠ 0 ∧ e' ≠ 13 ∧ a' = a ∧ n = 0) := by
  rcases hd : dgs last top (S.data.toList.drop a) 0 0 with ⟨m, k, c⟩
  by_cases hc : c = 0
  · subst hc
    rw [numR_ok hd] at h
    simp only [Prod.mk.injEq] at h
    obtain ⟨rfl, rfl, rfl⟩ := h
    obtain ⟨h1, _⟩ := dgs_ok hl ht h10 _ _ _ _ _ (by decide) hl0 hd
    have h2 : k ≤ S.size - a := by simpa using h1
    left
    refine ⟨rfl, by omega, by omega, ?_⟩
    rw [← dgs_dg0 hl ht h10 hl0 hd, take_add]
  · rw [numR_bad hd hc] at h
    simp only [Prod.mk.injEq] at h
    obtain ⟨rfl, rfl, rfl⟩ := h
    obtain ⟨_, _, h9⟩ := dgs_zero _ _ _ _ _ _ hd hc
    exact Or.inr ⟨hc, by omega, rfl, rfl⟩

theorem ag_var {S : ByteArray} {a n a' : Nat} {e' : Int} (hle : a ≤ S.size) (h : numR 9 127 S a 0 = (n, a', e')) : n ≤ 9223372036854775807 ∧ ((e' = 0 ∧ a ≤ a' ∧ a' ≤ S.size ∧ upd (S.data.toList.take a) 0 (varL n) (varC n) = (S.data.toList.take a', 0)) ∨ (e' ≠ 0 ∧ e' ≠ 13 ∧ a' = a)) := by
  have hlt := (numR_lt (last := 9) (top := 127) (by omega) (by omega) (by omega) (by omega) S a 0).2 rfl
  rw [h] at hlt
  refine ⟨by simp only [] at hlt; omega, ?_⟩
  rcases ag_num (by omega) (by omega) (by omega) (by omega) hle h with ⟨h1, h2, h3, h4⟩ | ⟨h1, h13, h2, _⟩
  · left
    refine ⟨h1, h2, h3, ?_⟩
    have hc : varC (n : Int) = 0 := by unfold varC; rw [if_neg (by omega)]
    rw [hc, upd_lay]
    simp [laidOn, varL, h4]
  · exact Or.inr ⟨h1, h13, h2⟩
theorem ag_int {S : ByteArray} {a n a' : Nat} {e' : Int} (hle : a ≤ S.size) (h : numR 10 1 S a 0 = (n, a', e')) : (-9223372036854775808 ≤ unf n ∧ unf n ≤ 9223372036854775807) ∧ ((e' = 0 ∧ a ≤ a' ∧ a' ≤ S.size ∧ laidOn (S.data.toList.take a) (dg (fol (unf n))) 0 = S.data.toList.take a') ∨ (e' ≠ 0 ∧ e' ≠ 13 ∧ a' = a)) := by
  have hlt := (numR_lt (last := 10) (top := 1) (by omega) (by omega) (by omega) (by omega) S a 0).1
  rw [h] at hlt
  refine ⟨unf_rng n hlt, ?_⟩
  rcases ag_num (by omega) (by omega) (by omega) (by omega) hle h with ⟨h1, h2, h3, h4⟩ | ⟨h1, h13, h2, _⟩
  · left
    refine ⟨h1, h2, h3, ?_⟩
    rw [fol_unf]
    simp [laidOn, h4]
  · exact Or.inr ⟨h1, h13, h2⟩

theorem ext_list (S : ByteArray) (a b : Nat) : (S.extract a (a + b)).data.toList = (S.data.toList.drop a).take b := by
  rw [Lib.extract_data]; congr 1; omega
theorem ag_raw {S : ByteArray} {a a' : Nat} {n e' : Int} {t : ByteArray} (hle : a ≤ S.size) (h : rawR n S a 0 = (t, a', e')) : a + t.size ≤ S.size ∧ ((e' = 0 ∧ a ≤ a' ∧ a' ≤ S.size ∧ laidOn (S.data.toList.take a) t.data.toList 0 = S.data.toList.take a') ∨ (e' ≠ 0 ∧ e' ≠ 13 ∧ a' = a)) := by
  unfold rawR at h
  rw [if_neg (by simp)] at h
  by_cases h1 : n < 0
  · rw [if_pos h1] at h
    simp only [Prod.mk.injEq] at h
    obtain ⟨rfl, rfl, rfl⟩ := h
    exact ⟨by show _ + 0 ≤ _; omega, Or.inr ⟨by omega, by omega, rfl⟩⟩
  · rw [if_neg h1] at h
    by_cases h2 : ((S.size - a : Nat) : Int) < n
    · rw [if_pos h2] at h
      simp only [Prod.mk.injEq] at h
      obtain ⟨rfl, rfl, rfl⟩ := h
      exact ⟨by show _ + 0 ≤ _; omega, Or.inr ⟨by omega, by omega, rfl⟩⟩
    · rw [if_neg h2] at h
      simp only [Prod.mk.injEq] at h
      obtain ⟨rfl, rfl, rfl⟩ := h
      refine ⟨by simp; omega, Or.inl ⟨rfl, by omega, by omega, ?_⟩⟩
      rw [ext_list]
      simp [laidOn, take_add]
theorem ag_text {S : ByteArray} {a a' : Nat} {m e' : Int} {t : ByteArray} (hle : a ≤ S.size) (hm : m ≤ 300) (h : textR m S a 0 = (t, a', e')) : a + t.size ≤ S.size ∧ ((e' = 0 ∧ a ≤ a' ∧ a' ≤ S.size ∧ upd (S.data.toList.take a) 0 (textL t) (textC t 300) = (S.data.toList.take a', 0)) ∨ (e' ≠ 0 ∧ e' ≠ 13 ∧ a' = a)) := by
  unfold textR at h
  rw [if_neg (by simp)] at h
  by_cases h1 : m < 0
  · rw [if_pos h1] at h
    simp only [Prod.mk.injEq] at h
    obtain ⟨rfl, rfl, rfl⟩ := h
    exact ⟨by show _ + 0 ≤ _; omega, Or.inr ⟨by omega, by omega, rfl⟩⟩
  · rw [if_neg h1] at h
    rcases hd : dgs 9 127 (S.data.toList.drop a) 0 0 with ⟨n, k, c⟩
    rw [hd] at h
    simp only [] at h
    by_cases hc : c = 0
    · subst hc
      obtain ⟨hk, _⟩ := dgs_ok (by omega) (by omega) (by omega) _ _ _ _ _ (by decide) (by omega) hd
      have hk2 : k ≤ S.size - a := by simpa using hk
      rw [if_neg (by simp)] at h
      by_cases h12 : m < n
      · rw [if_pos h12] at h
        simp only [Prod.mk.injEq] at h
        obtain ⟨rfl, rfl, rfl⟩ := h
        exact ⟨by show _ + 0 ≤ _; omega, Or.inr ⟨by omega, by omega, rfl⟩⟩
      · rw [if_neg h12] at h
        by_cases h11 : S.size - a - k < n
        · rw [if_pos h11] at h
          simp only [Prod.mk.injEq] at h
          obtain ⟨rfl, rfl, rfl⟩ := h
          exact ⟨by show _ + 0 ≤ _; omega, Or.inr ⟨by omega, by omega, rfl⟩⟩
        · rw [if_neg h11] at h
          simp only [Prod.mk.injEq] at h
          obtain ⟨rfl, rfl, rfl⟩ := h
          have hts : (S.extract (a + k) (a + k + n)).size = n := by simp; omega
          refine ⟨by rw [hts]; omega, Or.inl ⟨rfl, by omega, by omega, ?_⟩⟩
          have hcc : textC (S.extract (a + k) (a + k + n)) 300 = 0 := by unfold textC; rw [if_neg (by omega), if_neg (by rw [hts]; omega)]
          rw [hcc, upd_lay]
          have e1 : textL (S.extract (a + k) (a + k + n)) = (S.data.toList.drop a).take k ++ (S.data.toList.drop (a + k)).take n := by
            unfold textL
            rw [hts, ext_list, dgs_dg0 (by omega) (by omega) (by omega) (by omega) hd]
          rw [e1]
          rw [laidOn_zero, ← List.append_assoc, take_add, take_add]
    · rw [if_pos hc] at h
      simp only [Prod.mk.injEq] at h
      obtain ⟨rfl, rfl, rfl⟩ := h
      obtain ⟨_, _, h9⟩ := dgs_zero _ _ _ _ _ _ hd hc
      exact ⟨by show _ + 0 ≤ _; omega, Or.inr ⟨hc, by omega, rfl⟩⟩
end Go.Proofs.YtnjbkkccofjmgaaDoor
