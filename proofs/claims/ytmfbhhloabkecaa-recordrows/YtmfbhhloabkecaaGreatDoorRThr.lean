import Derived.Shelf.Strings.OnBuilder
import Derived.Shelf.LaysM
import Derived.Shelf.Strconv.Itoa3
import Derived.Test.YtmfbhhloabkecaaGreatDoorProg
import Derived.Test.YtmfbhhloabkecaaGreatDoorWriter3
import Derived.Test.YtmfbhhloabkecaaGreatDoorVDec2
namespace Go.Proofs
open Go.Shelf
end Go.Proofs
namespace Go.Proofs.YtmfbhhloabkecaaGreatDoor
theorem laidOn_zero (bs l : List UInt8) : laidOn bs l 0 = bs ++ l := by simp [laidOn]
theorem dgs_dg {last top : Nat} : ∀ (l : List UInt8) (i m n k f : Nat), dgs last top l i m = (n, k, 0) → m < 128 ^ i → k ≤ i + f → i < k ∧ ∃ q, n = m + q * 128 ^ i ∧ l.take (k - i) = dgf f q ∧ (0 < i → 0 < q) := by
  intro l
  induction l with
  | nil => intro i m n k f h; simp [dgs] at h
  | cons b r ih =>
    intro i m n k f h hm hk
    have hb := b.toNat_lt
    by_cases hA : i + 1 = last ∧ top < b.toNat
    · rw [dgs_range hA.1 hA.2] at h; simp at h
    · by_cases hB : 128 ≤ b.toNat
      · rw [dgs_more hA hB] at h
        obtain ⟨h1, q, h2, h3, h4⟩ := ih (i + 1) _ n k (f - 1) h (step_lt hm) (by omega)
        refine ⟨by omega, b.toNat % 128 + q * 128, ?_, ?_, fun _ => by have := h4 (by omega); omega⟩
        · rw [h2, Nat.pow_succ, Nat.add_mul, ← Nat.add_assoc]
          have e : q * 128 * 128 ^ i = q * (128 ^ i * 128) := by rw [Nat.mul_assoc, Nat.mul_comm 128]
          omega
        · obtain ⟨f', rfl⟩ : ∃ f', f = f' + 1 := ⟨f - 1, by omega⟩
          have hq := h4 (by omega)
          have hs : k - i = (k - (i + 1)) + 1 := by omega
          rw [hs, List.take_succ_cons, h3, dgf_more (by omega)]
          have e1 : (b.toNat % 128 + q * 128) / 128 = q := by omega
          have e2 : (b.toNat % 128 + q * 128) % 128 + 128 = b.toNat := by omega
          rw [e1, e2]
          simp
      · by_cases hz : b.toNat = 0 ∧ 0 < i
        · rw [dgs_form hA hz.1 hz.2] at h; simp at h
        · rw [dgs_end hA (by omega) hz] at h
          simp only [Prod.mk.injEq] at h
          obtain ⟨h1, h2, _⟩ := h
          subst h2
          obtain ⟨f', rfl⟩ : ∃ f', f = f' + 1 := ⟨f - 1, by omega⟩
          refine ⟨by omega, b.toNat, ?_, ?_, fun hi => by omega⟩
          · rw [← h1, Nat.mod_eq_of_lt (by omega)]
          · have hs : i + 1 - i = 0 + 1 := by omega
            rw [hs, List.take_succ_cons, dgf_last (by omega)]
            simp
theorem dgs_dg0 {last top : Nat} (hl : last ≤ 10) (ht : top ≤ 127) (h10 : last = 10 → top ≤ 1) (hl0 : 0 < last) {l : List UInt8} {n k : Nat} (h : dgs last top l 0 0 = (n, k, 0)) : l.take k = dg n := by
  obtain ⟨_, _, h3, _⟩ := dgs_ok hl ht h10 _ _ _ _ _ (by decide) hl0 h
  obtain ⟨_, q, h2, h4, _⟩ := dgs_dg l 0 0 n k 10 h (by decide) (by omega)
  have : n = q := by simpa using h2
  subst this
  simpa [dg] using h4
theorem take_add (l : List UInt8) (a k : Nat) : l.take a ++ (l.drop a).take k = l.take (a + k) := by rw [List.take_add]
theorem fol_unf (u : Nat) : fol (unf u) = u := by
  unfold fol unf
  by_cases h : u % 2 = 0
  · rw [if_pos h, if_pos (by omega)]; omega
  · rw [if_neg h, if_neg (by omega)]; omega
theorem unf_rng (u : Nat) (h : u < 18446744073709551616) : -9223372036854775808 ≤ unf u ∧ unf u ≤ 9223372036854775807 := by
  unfold unf; split <;> omega
theorem ag_byte {S : ByteArray} {a v a' : Nat} {e' : Int} (h : byteR S a 0 = (v, a', e')) : v ≤ 255 ∧ ((e' = 0 ∧ a ≤ a' ∧ a' ≤ S.size ∧ upd (S.data.toList.take a) 0 (bytesL [(v : Int)]) (bytesC [(v : Int)]) = (S.data.toList.take a', 0)) ∨ (e' ≠ 0 ∧ e' ≠ 13 ∧ a' = a)) := by
  unfold byteR at h
  rw [if_neg (by simp)] at h
  by_cases ha : a < S.size
  · rw [if_pos ha] at h
    simp only [Prod.mk.injEq] at h
    obtain ⟨h1, h2, h3⟩ := h
    have hv : v ≤ 255 := by have := (S.data.toList.getD a 0).toNat_lt; omega
    refine ⟨hv, Or.inl ⟨h3.symm, by omega, by omega, ?_⟩⟩
    have hc : bytesC [(v : Int)] = 0 := by unfold bytesC; rw [if_pos]; simp [byteOk]; omega
    rw [hc, upd_lay]
    have hal : a < S.data.toList.length := by simpa using ha
    rw [← h2, List.take_succ_eq_append_getElem hal]
    have hb : bytesL [(v : Int)] = [S.data.toList[a]] := by
      simp only [bytesL, List.map_cons, List.map_nil, Int.toNat_natCast]
      rw [← h1, List.getD_eq_getElem?_getD, List.getElem?_eq_getElem hal]
      simp
    rw [hb]
    simp [laidOn]
  · rw [if_neg ha] at h
    simp only [Prod.mk.injEq] at h
    exact ⟨by omega, Or.inr ⟨by omega, by omega, by omega⟩⟩
theorem ag_num {last top : Nat} (hl : last ≤ 10) (ht : top ≤ 127) (h10 : last = 10 → top ≤ 1) (hl0 : 0 < last) {S : ByteArray} {a n a' : Nat} {e' : Int} (hle : a ≤ S.size) (h : numR last top S a 0 = (n, a', e')) :
    (e' = 0 ∧ a ≤ a' ∧ a' ≤ S.size ∧ S.data.toList.take a ++ dg n = S.data.toList.take a') ∨ (e' ≠ 0 ∧ e' ≠ 13 ∧ a' = a ∧ n = 0) := by
  rcases hd : dgs last top (S.data.toList.drop a) 0 0 with ⟨m, k, c⟩
  by_cases hc : c = 0
  · subst hc
    rw [numR_ok hd] at h
    simp only [Prod.mk.injEq] at h
    obtain ⟨rfl, rfl, rfl⟩ := h
    obtain ⟨h1, _⟩ := dgs_ok hl ht h10 _ _ _ _ _ (by decide) hl0 hd
    have h2 : k ≤ S.size - a := by simpa using h1
    left
    refine ⟨rfl, by omega, by omega, ?_⟩
    rw [← dgs_dg0 hl ht h10 hl0 hd, take_add]
  · rw [numR_bad hd hc] at h
    simp only [Prod.mk.injEq] at h
    obtain ⟨rfl, rfl, rfl⟩ := h
    obtain ⟨_, _, h9⟩ := dgs_zero _ _ _ _ _ _ hd hc
    exact Or.inr ⟨hc, by omega, rfl, rfl⟩
theorem ag_int {S : ByteArray} {a n a' : Nat} {e' : Int} (hle : a ≤ S.size) (h : numR 10 1 S a 0 = (n, a', e')) : (-9223372036854775808 ≤ unf n ∧ unf n ≤ 9223372036854775807) ∧ ((e' = 0 ∧ a ≤ a' ∧ a' ≤ S.size ∧ laidOn (S.data.toList.take a) (dg (fol (unf n))) 0 = S.data.toList.take a') ∨ (e' ≠ 0 ∧ e' ≠ 13 ∧ a' = a)) := by
  have hlt := (numR_lt (last := 10) (top := 1) (by omega) (by omega) (by omega) (by omega) S a 0).1
  rw [h] at hlt
  refine ⟨unf_rng n hlt, ?_⟩
  rcases ag_num (by omega) (by omega) (by omega) (by omega) hle h with ⟨h1, h2, h3, h4⟩ | ⟨h1, h13, h2, _⟩
  · left
    refine ⟨h1, h2, h3, ?_⟩
    rw [fol_unf]
    simp [laidOn, h4]
  · exact Or.inr ⟨h1, h13, h2⟩
theorem ext_list (S : ByteArray) (a b : Nat) : (S.extract a (a + b)).data.toList = (S.data.toList.drop a).take b := by
  rw [Lib.extract_data]; congr 1; omega
theorem ag_text {S : ByteArray} {a a' : Nat} {m e' : Int} {t : ByteArray} (hle : a ≤ S.size) (hm : m ≤ 300) (h : textR m S a 0 = (t, a', e')) : a + t.size ≤ S.size ∧ ((e' = 0 ∧ a ≤ a' ∧ a' ≤ S.size ∧ upd (S.data.toList.take a) 0 (textL t) (textC t 300) = (S.data.toList.take a', 0)) ∨ (e' ≠ 0 ∧ e' ≠ 13 ∧ a' = a)) := by
  unfold textR at h
  rw [if_neg (by simp)] at h
  by_cases h1 : m < 0
  · rw [if_pos h1] at h
    simp only [Prod.mk.injEq] at h
    obtain ⟨rfl, rfl, rfl⟩ := h
    exact ⟨by show _ + 0 ≤ _; omega, Or.inr ⟨by omega, by omega, rfl⟩⟩
  · rw [if_neg h1] at h
    rcases hd : dgs 9 127 (S.data.toList.drop a) 0 0 with ⟨n, k, c⟩
    rw [hd] at h
    simp only [] at h
    by_cases hc : c = 0
    · subst hc
      obtain ⟨hk, _⟩ := dgs_ok (by omega) (by omega) (by omega) _ _ _ _ _ (by decide) (by omega) hd
      have hk2 : k ≤ S.size - a := by simpa using hk
      rw [if_neg (by simp)] at h
      by_cases h12 : m < n
      · rw [if_pos h12] at h
        simp only [Prod.mk.injEq] at h
        obtain ⟨rfl, rfl, rfl⟩ := h
        exact ⟨by show _ + 0 ≤ _; omega, Or.inr ⟨by omega, by omega, rfl⟩⟩
      · rw [if_neg h12] at h
        by_cases h11 : S.size - a - k < n
        · rw [if_pos h11] at h
          simp only [Prod.mk.injEq] at h
          obtain ⟨rfl, rfl, rfl⟩ := h
          exact ⟨by show _ + 0 ≤ _; omega, Or.inr ⟨by omega, by omega, rfl⟩⟩
        · rw [if_neg h11] at h
          simp only [Prod.mk.injEq] at h
          obtain ⟨rfl, rfl, rfl⟩ := h
          have hts : (S.extract (a + k) (a + k + n)).size = n := by simp; omega
          refine ⟨by rw [hts]; omega, Or.inl ⟨rfl, by omega, by omega, ?_⟩⟩
          have hcc : textC (S.extract (a + k) (a + k + n)) 300 = 0 := by unfold textC; rw [if_neg (by omega), if_neg (by rw [hts]; omega)]
          rw [hcc, upd_lay]
          have e1 : textL (S.extract (a + k) (a + k + n)) = (S.data.toList.drop a).take k ++ (S.data.toList.drop (a + k)).take n := by
            unfold textL
            rw [hts, ext_list, dgs_dg0 (by omega) (by omega) (by omega) (by omega) hd]
          rw [e1]
          rw [laidOn_zero, ← List.append_assoc, take_add, take_add]
    · rw [if_pos hc] at h
      simp only [Prod.mk.injEq] at h
      obtain ⟨rfl, rfl, rfl⟩ := h
      obtain ⟨_, _, h9⟩ := dgs_zero _ _ _ _ _ _ hd hc
      exact ⟨by show _ + 0 ≤ _; omega, Or.inr ⟨hc, by omega, rfl⟩⟩
end Go.Proofs.YtmfbhhloabkecaaGreatDoor
namespace Go.Proofs.YtmfbhhloabkecaaGreatDoor
open Go.RowKit
theorem byte_take {S : ByteArray} {a v a' : Nat} (h : byteR S a 0 = (v, a', 0)) : a' ≤ S.size ∧ S.data.toList.take a' = S.data.toList.take a ++ [UInt8.ofNat v] ∧ v ≤ 255 := by
  have hv := (ag_byte h).1
  unfold byteR at h
  rw [if_neg (by simp)] at h
  by_cases ha : a < S.size
  · rw [if_pos ha] at h
    simp only [Prod.mk.injEq] at h
    obtain ⟨rfl, rfl, _⟩ := h
    have hl : a < S.data.toList.length := by simpa using ha
    refine ⟨ha, ?_, hv⟩
    rw [List.take_succ_eq_append_getElem hl, List.getD_eq_getElem?_getD, List.getElem?_eq_getElem hl]
    simp
  · rw [if_neg ha] at h
    simp at h
theorem byteR_e {S : ByteArray} {a : Nat} {e : Int} (h : (byteR S a e).2.2 = 0) : e = 0 := by
  unfold byteR at h
  by_cases he : e = 0
  · exact he
  · rw [if_pos he] at h; exact absurd h he
theorem numR_e {last top : Nat} {S : ByteArray} {a : Nat} {e : Int} (h : (numR last top S a e).2.2 = 0) : e = 0 := by
  by_cases he : e = 0
  · exact he
  · rw [numR_wrong he] at h; exact h
theorem textR_e {m : Int} {S : ByteArray} {a : Nat} {e : Int} (h : (textR m S a e).2.2 = 0) : e = 0 := by
  unfold textR at h
  by_cases he : e = 0
  · exact he
  · rw [if_pos he] at h; exact absurd h he
theorem textR_size {S : ByteArray} {a a' : Nat} {t : ByteArray} (h : textR 200 S a 0 = (t, a', 0)) : t.size ≤ 200 := by
  unfold textR at h
  rw [if_neg (by simp), if_neg (by omega)] at h
  rcases hd : dgs 9 127 (S.data.toList.drop a) 0 0 with ⟨n, k, c⟩
  rw [hd] at h
  simp only at h
  split at h
  · rename_i hc; simp only [Prod.mk.injEq] at h; exact absurd h.2.2 hc
  · split at h
    · simp at h
    · split at h
      · simp at h
      · rename_i h1 h2 h3
        simp only [Prod.mk.injEq] at h
        rw [← h.1, ByteArray.size_extract]
        omega
theorem byteR_le {S : ByteArray} {a : Nat} {e : Int} (h : a ≤ S.size) : (byteR S a e).2.1 ≤ S.size := by
  unfold byteR
  split
  · exact h
  · split
    · assumption
    · exact h
theorem numR_le {S : ByteArray} {a : Nat} {e : Int} (h : a ≤ S.size) : (numR 10 1 S a e).2.1 ≤ S.size := by
  by_cases he : e = 0
  · subst he
    rcases hn : numR 10 1 S a 0 with ⟨n, a1, e1⟩
    rcases (ag_int h hn).2 with ⟨_, _, h5, _⟩ | ⟨_, _, rfl⟩
    · exact h5
    · exact h
  · rw [numR_wrong he]; exact h
theorem textR_le {S : ByteArray} {a : Nat} {e : Int} (h : a ≤ S.size) : (textR 200 S a e).2.1 ≤ S.size := by
  by_cases he : e = 0
  · subst he
    rcases hn : textR 200 S a 0 with ⟨n, a1, e1⟩
    rcases (ag_text h (by omega) hn).2 with ⟨_, _, h5, _⟩ | ⟨_, _, rfl⟩
    · exact h5
    · exact h
  · unfold textR; rw [if_pos he]; exact h
theorem rdV_le {S : ByteArray} {a a' : Nat} {e e' : Int} {p : Val × Bool} (hle : a ≤ S.size) (h : rdV S a e = (p, a', e')) : a' ≤ S.size := by
  have h0 : (rdV S a e).2.1 = a' := by rw [h]
  rw [← h0]
  have hb := byteR_le (e := e) hle
  unfold rdV
  split
  · exact hb
  · split
    · exact numR_le hb
    · split
      · exact textR_le hb
      · split
        · exact hb
        · exact hb
theorem rdV_again {S : ByteArray} {a a' : Nat} {e : Int} {v : Val} (h : rdV S a e = ((v, true), a', 0)) : e = 0 ∧ a' ≤ S.size ∧ S.data.toList.take a' = S.data.toList.take a ++ encV v ∧ wrg v = 0 ∧ v.i64 := by
  unfold rdV at h
  rcases hb : byteR S a e with ⟨m, b, f⟩
  rw [hb] at h
  simp only at h
  have hbe : f = 0 → e = 0 := fun hf => byteR_e (by rw [hb]; exact hf)
  split at h
  · rename_i h0
    simp only [Prod.mk.injEq] at h
    obtain ⟨⟨rfl, _⟩, rfl, rfl⟩ := h
    obtain rfl := hbe rfl
    subst h0
    obtain ⟨g1, g2, _⟩ := byte_take hb
    exact ⟨rfl, g1, g2, by decide, ⟨⟨by decide, by decide⟩, by decide, by decide⟩⟩
  · split at h
    · rename_i h0 h1
      subst h1
      simp only [Prod.mk.injEq] at h
      obtain ⟨⟨rfl, _⟩, h2⟩ := h
      have hf : f = 0 := numR_e (by rw [h2])
      subst hf
      obtain rfl := hbe rfl
      obtain ⟨g1, g2, _⟩ := byte_take hb
      rcases hn : numR 10 1 S b 0 with ⟨n, a1, e1⟩
      rw [hn] at h2
      simp only [Prod.mk.injEq] at h2
      obtain ⟨rfl, rfl⟩ := h2
      obtain ⟨hr, h3⟩ := ag_int g1 hn
      rcases h3 with ⟨_, _, h5, h6⟩ | ⟨h4, _⟩
      · rw [laidOn_zero] at h6
        refine ⟨rfl, h5, ?_, ?_, ⟨by simp, by simp⟩, ?_⟩
        · rw [← h6, g2, List.append_assoc]; rfl
        · unfold wrg; rw [if_pos (show frm _ from Or.inr (Or.inl ⟨rfl, rfl⟩)), if_pos (by show (0 : Nat) ≤ 200; omega)]
        · exact hr
      · exact absurd rfl h4
    · split at h
      · rename_i h0 h1 h2
        subst h2
        simp only [Prod.mk.injEq] at h
        obtain ⟨⟨rfl, _⟩, h2⟩ := h
        have hf : f = 0 := textR_e (m := 200) (by rw [h2])
        subst hf
        obtain rfl := hbe rfl
        obtain ⟨g1, g2, _⟩ := byte_take hb
        rcases hn : textR 200 S b 0 with ⟨t, a1, e1⟩
        rw [hn] at h2
        simp only [Prod.mk.injEq] at h2
        obtain ⟨rfl, rfl⟩ := h2
        have hts := textR_size hn
        obtain ⟨hr, h3⟩ := ag_text g1 (by omega) hn
        rcases h3 with ⟨_, _, h5, h6⟩ | ⟨h4, _⟩
        · have hc : textC t 300 = 0 := by unfold textC; rw [if_neg (by omega), if_neg (by omega)]
          have h7 : S.data.toList.take b ++ textL t = S.data.toList.take a1 := by
            rw [hc] at h6
            unfold upd at h6
            simp at h6
            exact h6
          refine ⟨rfl, h5, ?_, ?_, ⟨by simp, by simp⟩, by simp, by simp⟩
          · rw [← h7, g2, List.append_assoc]; rfl
          · unfold wrg frm; simp [hts]
        · exact absurd rfl h4
      · split at h
        · rename_i h0 h1 h2 h3
          simp only [Prod.mk.injEq] at h
          obtain ⟨⟨rfl, _⟩, rfl, rfl⟩ := h
          obtain rfl := hbe rfl
          obtain ⟨g1, g2, _⟩ := byte_take hb
          refine ⟨rfl, g1, ?_, ?_, ⟨by simp, by simp⟩, ?_⟩
          · rw [g2]
            rcases h3 with rfl | rfl <;> rfl
          · rcases h3 with rfl | rfl <;> decide
          · rcases h3 with rfl | rfl <;> exact ⟨by decide, by decide⟩
        · simp at h
theorem decGo_again {S : ByteArray} : ∀ (n a : Nat) (e : Int) (l vs : List Val), a ≤ S.size → decGo S n a e l = some vs → e = 0 ∧ ∃ vs', vs = l ++ vs' ∧ vs'.length = n ∧ (∀ v ∈ vs', wrg v = 0 ∧ v.i64) ∧ S.data.toList = S.data.toList.take a ++ vs'.flatMap encV
  | 0, a, e, l, vs, hle, h => by
    unfold decGo at h
    split at h
    · rename_i h0
      have he : e = 0 := by
        unfold doneE at h0
        by_cases h1 : e = 0
        · exact h1
        · rw [if_neg h1] at h0; exact h0
      subst he
      have ha : S.size - a = 0 := by
        unfold doneE at h0
        rw [if_pos rfl] at h0
        split at h0
        · assumption
        · simp at h0
      refine ⟨rfl, [], ?_, rfl, fun v hv => by simp at hv, ?_⟩
      · simpa using h.symm
      · simp
        exact (List.take_of_length_le (by simp; omega)).symm
    · simp at h
  | n + 1, a, e, l, vs, hle, h => by
    unfold decGo at h
    rcases hr : rdV S a e with ⟨⟨v, ok⟩, a', e'⟩
    rw [hr] at h
    simp only at h
    split at h
    · rename_i hok
      subst hok
      have ha' : a' ≤ S.size := rdV_le hle hr
      obtain ⟨rfl, vs', rfl, h2, h3, h4⟩ := decGo_again n a' e' (l ++ [v]) vs ha' h
      obtain ⟨rfl, h5, h6, h7, h8⟩ := rdV_again hr
      refine ⟨rfl, v :: vs', by simp, by simp [h2], fun u hu => ?_, ?_⟩
      · rcases List.mem_cons.1 hu with rfl | hu
        · exact ⟨h7, h8⟩
        · exact h3 u hu
      · rw [List.flatMap_cons, ← List.append_assoc, ← h6]; exact h4
    · simp at h
theorem encGo_all : ∀ (vs : List Val) (bs : List UInt8), (∀ v ∈ vs, wrg v = 0) → encGo vs bs = (bs ++ vs.flatMap encV, 0)
  | [], bs, _ => by simp [encGo]
  | v :: r, bs, h => by
    unfold encGo
    rw [if_pos (h v (by simp)), encGo_all r _ (fun u hu => h u (by simp [hu])), List.flatMap_cons, List.append_assoc]
theorem dec_enc {S : ByteArray} {vs : List Val} (h : decR S = some vs) : encR vs = (S.data.toList, 0) ∧ vs.length ≤ 8 ∧ ∀ v ∈ vs, wrg v = 0 ∧ v.i64 := by
  unfold decR at h
  rcases hb : byteR S 0 0 with ⟨m, b, f⟩
  rw [hb] at h
  simp only at h
  split at h
  · simp at h
  · rename_i h8
    have hb1 : b ≤ S.size := by have := byteR_le (S := S) (a := 0) (e := 0) (Nat.zero_le _); rw [hb] at this; exact this
    obtain ⟨rfl, vs', rfl, h2, h3, h4⟩ := decGo_again m b f [] vs hb1 h
    obtain ⟨g1, g2, _⟩ := byte_take hb
    refine ⟨?_, by omega, h3⟩
    unfold encR
    rw [if_neg (by omega), encGo_all _ _ (fun v hv => (h3 v hv).1), h2]
    refine Prod.ext ?_ rfl
    show _ ++ _ = _
    rw [g2] at h4
    simpa using h4.symm
end Go.Proofs.YtmfbhhloabkecaaGreatDoor
namespace Go.Proofs.YtmfbhhloabkecaaGreatDoor
theorem pow_split {last i : Nat} (h : i + 1 < last) : (128 : Nat) ^ (last - 1 - i) = 128 ^ (last - 1 - (i + 1)) * 128 := by
  rw [← Nat.pow_succ]; congr 1; omega
theorem div_bound {q t last i : Nat} (h : i + 1 < last) (hq : q < t * 128 ^ (last - 1 - i)) : q / 128 < t * 128 ^ (last - 1 - (i + 1)) := by
  rw [pow_split h, ← Nat.mul_assoc] at hq
  exact Nat.div_lt_of_lt_mul (by rw [Nat.mul_comm]; exact hq)
theorem fuel_div {q f : Nat} (h : q < 128 ^ (f + 1)) : q / 128 < 128 ^ f := by
  rw [Nat.pow_succ] at h
  exact Nat.div_lt_of_lt_mul (by rw [Nat.mul_comm]; exact h)
theorem fwd {last top : Nat} (ht : top ≤ 127) : ∀ (f q i m : Nat) (rest : List UInt8), q < 128 ^ f → 0 < f → (0 < i → 0 < q) → i < last → q < (top + 1) * 128 ^ (last - 1 - i) →
    dgs last top (dgf f q ++ rest) i m = (m + q * 128 ^ i, i + (dgf f q).length, 0) := by
  intro f
  induction f with
  | zero => intro q i m rest _ h; omega
  | succ f ih =>
    intro q i m rest hq _ hpos hi hb
    by_cases hlt : q < 128
    · have hmod : (UInt8.ofNat q).toNat = q := by simp; omega
      rw [dgf_last hlt]
      have hA : ¬ (i + 1 = last ∧ top < (UInt8.ofNat q).toNat) := by
        rintro ⟨h1, h2⟩
        rw [hmod] at h2
        have : last - 1 - i = 0 := by omega
        rw [this] at hb; simp at hb; omega
      have hz : ¬ ((UInt8.ofNat q).toNat = 0 ∧ 0 < i) := by
        rintro ⟨h1, h2⟩
        rw [hmod] at h1
        have := hpos h2; omega
      rw [List.cons_append, dgs_end hA (by rw [hmod]; omega) hz, hmod, Nat.mod_eq_of_lt hlt]
      simp
    · have hmod : (UInt8.ofNat (q % 128 + 128)).toNat = q % 128 + 128 := by simp; omega
      rw [dgf_more hlt]
      have hnl : i + 1 < last := by
        rcases Nat.lt_or_ge (i + 1) last with h | h
        · exact h
        · have : last - 1 - i = 0 := by omega
          rw [this] at hb; simp at hb; omega
      have hf : 0 < f := by
        rcases f with _ | f
        · simp at hq; omega
        · omega
      rw [List.cons_append, dgs_more (by omega) (by rw [hmod]; omega), hmod]
      rw [ih (q / 128) (i + 1) _ rest (fuel_div hq) hf (fun _ => by omega) hnl (div_bound hnl hb)]
      have e1 : (q % 128 + 128) % 128 = q % 128 := by omega
      rw [e1, Nat.pow_succ]
      have e2 : m + q % 128 * 128 ^ i + q / 128 * (128 ^ i * 128) = m + q * 128 ^ i := by
        have h1 : q / 128 * (128 ^ i * 128) = (q / 128 * 128) * 128 ^ i := by rw [Nat.mul_comm (128 ^ i) 128, ← Nat.mul_assoc]
        rw [h1, Nat.add_assoc, ← Nat.add_mul]
        have h2 : q % 128 + q / 128 * 128 = q := by omega
        rw [h2]
      rw [e2]
      simp only [List.length_cons]
      congr 2
      omega
theorem fwd9 {q : Nat} (h : q < 9223372036854775808) (rest : List UInt8) : dgs 9 127 (dg q ++ rest) 0 0 = (q, (dg q).length, 0) := by
  have := fwd (last := 9) (top := 127) (by omega) 10 q 0 0 rest (Nat.lt_of_lt_of_le h (by decide)) (by omega) (by omega) (by omega) (Nat.lt_of_lt_of_le h (by decide))
  simpa [dg] using this
theorem fwd10 {q : Nat} (h : q < 18446744073709551616) (rest : List UInt8) : dgs 10 1 (dg q ++ rest) 0 0 = (q, (dg q).length, 0) := by
  have := fwd (last := 10) (top := 1) (by omega) 10 q 0 0 rest (Nat.lt_of_lt_of_le h (by decide)) (by omega) (by omega) (by omega) (Nat.lt_of_lt_of_le h (by decide))
  simpa [dg] using this
theorem unf_fol {n : Int} (h1 : -9223372036854775808 ≤ n) (h2 : n ≤ 9223372036854775807) : unf (fol n) = n := by
  unfold unf fol
  by_cases h : 0 ≤ n
  · rw [if_pos h, if_pos (by omega)]; omega
  · rw [if_neg h, if_neg (by omega)]; omega
def Here (S : ByteArray) (a : Nat) (l : List UInt8) : Prop := S.data.toList.drop a = l ∧ a ≤ S.size
theorem Here.left {S : ByteArray} {a : Nat} {l : List UInt8} (h : Here S a l) : S.size - a = l.length := by
  have : S.data.toList.length = S.size := by simp
  rw [← h.1, List.length_drop, this]
theorem Here.next {S : ByteArray} {a : Nat} {l r : List UInt8} (h : Here S a (l ++ r)) : Here S (a + l.length) r := by
  have h1 := h.left
  refine ⟨?_, by rw [List.length_append] at h1; have := h.2; omega⟩
  rw [← List.drop_drop, h.1, List.drop_left]
theorem Here.one {S : ByteArray} {a : Nat} {b : UInt8} {r : List UInt8} (h : Here S a (b :: r)) : Here S (a + 1) r := Here.next (l := [b]) h
theorem here_zero (l : List UInt8) : Here ⟨l.toArray⟩ 0 l := ⟨rfl, Nat.zero_le _⟩
theorem thr_num {S : ByteArray} {a q : Nat} {r : List UInt8} (h : Here S a (dg q ++ r)) (hq : q < 9223372036854775808) : numR 9 127 S a 0 = (q, a + (dg q).length, 0) := by
  apply numR_ok
  rw [h.1]; exact fwd9 hq r
theorem thr_int {S : ByteArray} {a q : Nat} {r : List UInt8} (h : Here S a (dg q ++ r)) (hq : q < 18446744073709551616) : numR 10 1 S a 0 = (q, a + (dg q).length, 0) := by
  apply numR_ok
  rw [h.1]; exact fwd10 hq r
theorem thr_byte {S : ByteArray} {a : Nat} {b : UInt8} {r : List UInt8} (h : Here S a (b :: r)) : byteR S a 0 = (b.toNat, a + 1, 0) := by
  have hl := h.left
  have ha : a < S.size := by simp at hl; omega
  unfold byteR
  rw [if_neg (by simp), if_pos ha]
  have : S.data.toList.getD a 0 = b := by
    have h0 : (S.data.toList.drop a)[0]? = some b := by rw [h.1]; rfl
    rw [List.getElem?_drop] at h0
    rw [List.getD_eq_getElem?_getD, show a = a + 0 from rfl, h0]; rfl
  rw [this]
theorem thr_text {S : ByteArray} {a : Nat} {t : ByteArray} {r : List UInt8} {most : Int} (h : Here S a (textL t ++ r)) (hm : (t.size : Int) ≤ most) (ht : t.size < 9223372036854775808) : textR most S a 0 = (t, a + (textL t).length, 0) := by
  have hl := h.left
  have ha := h.2
  have hsz : t.data.toList.length = t.size := by simp
  unfold textL at h hl ⊢
  rw [List.append_assoc] at h hl
  simp only [List.length_append] at hl
  have hd : dgs 9 127 (S.data.toList.drop a) 0 0 = (t.size, (dg t.size).length, 0) := by rw [h.1]; exact fwd9 ht _
  unfold textR
  rw [if_neg (by simp), if_neg (by omega)]
  simp only [hd]
  rw [if_neg (by simp), if_neg (by omega), if_neg (by omega)]
  have h2 := h.next
  have : S.extract (a + (dg t.size).length) (a + (dg t.size).length + t.size) = t := by
    apply ByteArray.ext
    apply Array.toList_inj.1
    rw [ext_list, h2.1, List.take_left' hsz]
  rw [this, List.length_append, hsz]
  simp only [Prod.mk.injEq, true_and, and_true]
  omega
theorem thr_val {S : ByteArray} {a : Nat} {v : Val} {r : List UInt8} (h : Here S a (encV v ++ r)) (hv : wrg v = 0) (hi : v.i64) : rdV S a 0 = ((v, true), a + (encV v).length, 0) := by
  obtain ⟨hf, hs⟩ := wrg_zero hv
  obtain ⟨k, n, s⟩ := v
  have hem : ∀ s : ByteArray, s.size = 0 → s = ⟨#[]⟩ := fun s hs => by
    obtain ⟨⟨l⟩⟩ := s
    have : l.length = 0 := hs
    rw [List.length_eq_zero_iff.1 this]
  rcases hf with ⟨h1, h2, h3⟩ | ⟨h1, h3⟩ | ⟨h1, h2⟩ | ⟨h1, h3, h2⟩
  · simp only at h1 h2 h3
    subst h1 h2
    rw [hem s h3] at h ⊢
    have e : encV ⟨0, 0, ⟨#[]⟩⟩ = [0] := rfl
    rw [e] at h ⊢
    have hb := thr_byte (b := 0) (r := r) (by simpa using h)
    unfold rdV
    rw [hb]; simp
  · simp only at h1 h3
    subst h1
    rw [hem s h3] at h ⊢
    have e : encV ⟨1, n, ⟨#[]⟩⟩ = 1 :: dg (fol n) := rfl
    rw [e] at h ⊢
    rw [List.cons_append] at h
    have hb := thr_byte h
    have hn := thr_int h.one (fol_lt n hi.2.1 hi.2.2)
    unfold rdV
    rw [hb]
    have h1 : (1 : UInt8).toNat = 1 := rfl
    simp only [h1, hn]
    simp [unf_fol hi.2.1 hi.2.2]
    omega
  · simp only at h1 h2
    subst h1 h2
    have e : encV ⟨2, 0, s⟩ = 2 :: textL s := rfl
    rw [e] at h ⊢
    rw [List.cons_append] at h
    have hb := thr_byte h
    have hs' : s.size ≤ 200 := hs
    have hn := thr_text (most := 200) h.one (by omega) (by omega)
    unfold rdV
    rw [hb]
    have h1 : (2 : UInt8).toNat = 2 := rfl
    simp only [h1, hn]
    simp
    omega
  · simp only at h1 h2 h3
    subst h1
    rw [hem s h3] at h ⊢
    rcases h2 with h2 | h2
    · subst h2
      have e : encV ⟨3, 0, ⟨#[]⟩⟩ = [3] := rfl
      rw [e] at h ⊢
      have hb := thr_byte (b := 3) (r := r) (by simpa using h)
      unfold rdV
      rw [hb]; simp
    · subst h2
      have e : encV ⟨3, 1, ⟨#[]⟩⟩ = [4] := rfl
      rw [e] at h ⊢
      have hb := thr_byte (b := 4) (r := r) (by simpa using h)
      unfold rdV
      rw [hb]; simp
theorem thr_go {S : ByteArray} : ∀ (vs : List Val) (a : Nat) (l : List Val), Here S a (vs.flatMap encV) → (∀ v ∈ vs, wrg v = 0 ∧ v.i64) → decGo S vs.length a 0 l = some (l ++ vs)
  | [], a, l, h, _ => by
    have hl := h.left
    simp at hl
    show decGo S 0 a 0 l = _
    unfold decGo
    rw [if_pos (by simp [doneE]; omega)]; simp
  | v :: vs, a, l, h, hv => by
    rw [List.flatMap_cons] at h
    have h1 := thr_val h (hv v (by simp)).1 (hv v (by simp)).2
    show decGo S (vs.length + 1) a 0 l = _
    unfold decGo
    rw [h1]
    simp only [if_true]
    rw [thr_go vs _ _ h.next (fun u hu => hv u (by simp [hu]))]
    simp
theorem thr_row {vs : List Val} {l : List UInt8} (h : encR vs = (l, 0)) (hi : ∀ v ∈ vs, v.i64) : decR ⟨l.toArray⟩ = some vs ∧ vs.length ≤ 8 ∧ ∀ v ∈ vs, wrg v = 0 := by
  unfold encR at h
  split at h
  · simp at h
  · rename_i h8
    have hw : ∀ v ∈ vs, wrg v = 0 := by
      have : ∀ (vs : List Val) (bs l : List UInt8), encGo vs bs = (l, 0) → ∀ v ∈ vs, wrg v = 0 := by
        intro vs
        induction vs with
        | nil => intro _ _ _ v hv; simp at hv
        | cons u r ih =>
          intro bs l h v hv
          unfold encGo at h
          split at h
          · rename_i hu
            rcases List.mem_cons.1 hv with rfl | hv
            · exact hu
            · exact ih _ _ h v hv
          · rename_i hu
            simp only [Prod.mk.injEq] at h
            exact absurd h.2 hu
      exact this vs _ _ h
    rw [encGo_all _ _ hw] at h
    simp only [Prod.mk.injEq, and_true] at h
    subst h
    refine ⟨?_, by omega, hw⟩
    have h0 := here_zero ([UInt8.ofNat vs.length] ++ vs.flatMap encV)
    have hb := thr_byte (b := UInt8.ofNat vs.length) (r := vs.flatMap encV) h0
    have hm : (UInt8.ofNat vs.length).toNat = vs.length := by simp; omega
    unfold decR
    rw [hb, hm]
    simp only
    rw [if_neg (by omega), thr_go vs 1 [] (Here.one (b := UInt8.ofNat vs.length) h0) (fun v hv => ⟨hw v hv, hi v hv⟩)]
    rfl
end Go.Proofs.YtmfbhhloabkecaaGreatDoor
