/- What Decode takes, laid down again, is these bytes. -/
import Derived.Test.YtnjbkkccofjmgaaDoorPlainAgain
import Derived.Test.YtnjbkkccofjmgaaDoorVDec2
namespace Go.Proofs.YtnjbkkccofjmgaaDoor
open Go.RowKit

theorem byte_take {S : ByteArray} {a v a' : Nat} (h : byteR S a 0 = (v, a', 0)) : a' ≤ S.size ∧ S.data.toList.take a' = S.data.toList.take a ++ [UInt8.ofNat v] ∧ v ≤ 255 := by
  have hv := (ag_byte h).1
  unfold byteR at h
  rw [if_neg (by simp)] at h
  by_cases ha : a < S.size
  · rw [if_pos ha] at h
    simp only [Prod.mk.injEq] at h
    obtain ⟨rfl, rfl, _⟩ := h
    have hl : a < S.data.toList.length := by simpa using ha
    refine ⟨ha, ?_, hv⟩
    rw [List.take_succ_eq_append_getElem hl, List.getD_eq_getElem?_getD, List.getElem?_eq_getElem hl]
    simp
  · rw [if_neg ha] at h
    simp at h
theorem byteR_e {S : ByteArray} {a : Nat} {e : Int} (h : (byteR S a e).2.2 = 0) : e = 0 := by
  unfold byteR at h
  by_cases he : e = 0
  · exact he
  · rw [if_pos he] at h; exact absurd h he
theorem numR_e {last top : Nat} {S : ByteArray} {a : Nat} {e : Int} (h : (numR last top S a e).2.2 = 0) : e = 0 := by
  by_cases he : e = 0
  · exact he
  · rw [numR_wrong he] at h; exact h
theorem textR_e {m : Int} {S : ByteArray} {a : Nat} {e : Int} (h : (textR m S a e).2.2 = 0) : e = 0 := by
  unfold textR at h
  by_cases he : e = 0
  · exact he
  · rw [if_pos he] at h; exact absurd h he
theorem textR_size {S : ByteArray} {a a' : Nat} {t : ByteArray} (h : textR 200 S a 0 = (t, a', 0)) : t.size ≤ 200 := by
  unfold textR at h
  rw [if_neg (by simp), if_neg (by omega)] at h
  rcases hd : dgs 9 127 (S.data.toList.drop a) 0 0 with ⟨n, k, c⟩
  rw [hd] at h
  simp only at h
  split at h
  · rename_i hc; simp only [Prod.mk.injEq] at h; exact absurd h.2.2 hc
  · split at h
    · simp at h
    · split at h
      · simp at h
      · rename_i h1 h2 h3
        simp only [Prod.mk.injEq] at h
        rw [← h.1, ByteArray.size_extract]
        omega
theorem byteR_le {S : ByteArray} {a : Nat} {e : Int} (h : a ≤ S.size) : (byteR S a e).2.1 ≤ S.size := by
  unfold byteR
  split
  · exact h
  · split
    · assumption
    · exact h
theorem numR_le {S : ByteArray} {a : Nat} {e : Int} (h : a ≤ S.size) : (numR 10 1 S a e).2.1 ≤ S.size := by
  by_cases he : e = 0
  · subst he
    rcases hn : numR 10 1 S a 0 with ⟨n, a1, e1⟩
    rcases (ag_int h hn).2 with ⟨_, _, h5, _⟩ | ⟨_, _, rfl⟩
    · exact h5
    · exact h
  · rw [numR_wrong he]; exact h
theorem textR_le {S : ByteArray} {a : Nat} {e : Int} (h : a ≤ S.size) : (textR 200 S a e).2.1 ≤ S.size := by
  by_cases he : e = 0
  · subst he
    rcases hn : textR 200 S a 0 with ⟨n, a1, e1⟩
    rcases (ag_text h (by omega) hn).2 with ⟨_, _, h5, _⟩ | ⟨_, _, rfl⟩
    · exact h5
    · exact h
  · unfold textR; rw [if_pos he]; exact h
theorem rdV_le {S : ByteArray} {a a' : Nat} {e e' : Int} {p : Val × Bool} (hle : a ≤ S.size) (h : rdV S a e = (p, a', e')) : a' ≤ S.size := by
  have h0 : (rdV S a e).2.1 = a' := by rw [h]
  rw [← h0]
  have hb := byteR_le (e := e) hle
  unfold rdV
  split
  · exact hb
  · split
    · exact numR_le hb
    · split
      · exact textR_le hb
      · split
        · exact hb
        · exact hb
theorem rdV_again {S : ByteArray} {a a' : Nat} {e : Int} {v : Val} (h : rdV S a e = ((v, true), a', 0)) : e = 0 ∧ a' ≤ S.size ∧ S.data.toList.take a' = S.data.toList.take a ++ encV v ∧ wrg v = 0 ∧ v.i64 := by
  unfold rdV at h
  rcases hb : byteR S a e with ⟨m, b, f⟩
  rw [hb] at h
  simp only at h
  have hbe : f = 0 → e = 0 := fun hf => byteR_e (by rw [hb]; exact hf)
  split at h
  · rename_i h0
    simp only [Prod.mk.injEq] at h
    obtain ⟨⟨rfl, _⟩, rfl, rfl⟩ := h
    obtain rfl := hbe rfl
    subst h0
    obtain ⟨g1, g2, _⟩ := byte_take hb
    exact ⟨rfl, g1, g2, by decide, ⟨⟨by decide, by decide⟩, by decide, by decide⟩⟩
  · split at h
    · rename_i h0 h1
      subst h1
      simp only [Prod.mk.injEq] at h
      obtain ⟨⟨rfl, _⟩, h2⟩ := h
      have hf : f = 0 := numR_e (by rw [h2])
      subst hf
      obtain rfl := hbe rfl
      obtain ⟨g1, g2, _⟩ := byte_take hb
      rcases hn : numR 10 1 S b 0 with ⟨n, a1, e1⟩
      rw [hn] at h2
      simp only [Prod.mk.injEq] at h2
      obtain ⟨rfl, rfl⟩ := h2
      obtain ⟨hr, h3⟩ := ag_int g1 hn
      rcases h3 with ⟨_, _, h5, h6⟩ | ⟨h4, _⟩
      · rw [laidOn_zero] at h6
        refine ⟨rfl, h5, ?_, ?_, ⟨by simp, by simp⟩, ?_⟩
        · rw [← h6, g2, List.append_assoc]; rfl
        · unfold wrg; rw [if_pos (show frm _ from Or.inr (Or.inl ⟨rfl, rfl⟩)), if_pos (by show (0 : Nat) ≤ 200; omega)]
        · exact hr
      · exact absurd rfl h4
    · split at h
      · rename_i h0 h1 h2
        subst h2
        simp only [Prod.mk.injEq] at h
        obtain ⟨⟨rfl, _⟩, h2⟩ := h
        have hf : f = 0 := textR_e (m := 200) (by rw [h2])
        subst hf
        obtain rfl := hbe rfl
        obtain ⟨g1, g2, _⟩ := byte_take hb
        rcases hn : textR 200 S b 0 with ⟨t, a1, e1⟩
        rw [hn] at h2
        simp only [Prod.mk.injEq] at h2
        obtain ⟨rfl, rfl⟩ := h2
        have hts := textR_size hn
        obtain ⟨hr, h3⟩ := ag_text g1 (by omega) hn
        rcases h3 with ⟨_, _, h5, h6⟩ | ⟨h4, _⟩
        · have hc : textC t 300 = 0 := by unfold textC; rw [if_neg (by omega), if_neg (by omega)]
          have h7 : S.data.toList.take b ++ textL t = S.data.toList.take a1 := by
            rw [hc] at h6
            unfold upd at h6
            simp at h6
            exact h6
          refine ⟨rfl, h5, ?_, ?_, ⟨by simp, by simp⟩, by simp, by simp⟩
          · rw [← h7, g2, List.append_assoc]; rfl
          · unfold wrg frm; simp [hts]
        · exact absurd rfl h4
      · split at h
        · rename_i h0 h1 h2 h3
          simp only [Prod.mk.injEq] at h
          obtain ⟨⟨rfl, _⟩, rfl, rfl⟩ := h
          obtain rfl := hbe rfl
          obtain ⟨g1, g2, _⟩ := byte_take hb
          refine ⟨rfl, g1, ?_, ?_, ⟨by simp, by simp⟩, ?_⟩
          · rw [g2]
            rcases h3 with rfl | rfl <;> rfl
          · rcases h3 with rfl | rfl <;> decide
          · rcases h3 with rfl | rfl <;> exact ⟨by decide, by decide⟩
        · simp at h
theorem decGo_again {S : ByteArray} : ∀ (n a : Nat) (e : Int) (l vs : List Val), a ≤ S.size → decGo S n a e l = some vs → e = 0 ∧ ∃ vs', vs = l ++ vs' ∧ vs'.length = n ∧ (∀ v ∈ vs', wrg v = 0 ∧ v.i64) ∧ S.data.toList = S.data.toList.take a ++ vs'.flatMap encV
  | 0, a, e, l, vs, hle, h => by
    unfold decGo at h
    split at h
    · rename_i h0
      have he : e = 0 := by
        unfold doneE at h0
        by_cases h1 : e = 0
        · exact h1
        · rw [if_neg h1] at h0; exact h0
      subst he
      have ha : S.size - a = 0 := by
        unfold doneE at h0
        rw [if_pos rfl] at h0
        split at h0
        · assumption
        · simp at h0
      refine ⟨rfl, [], ?_, rfl, fun v hv => by simp at hv, ?_⟩
      · simpa using h.symm
      · simp
        exact (List.take_of_length_le (by simp; omega)).symm
    · simp at h
  | n + 1, a, e, l, vs, hle, h => by
    unfold decGo at h
    rcases hr : rdV S a e with ⟨⟨v, ok⟩, a', e'⟩
    rw [hr] at h
    simp only at h
    split at h
    · rename_i hok
      subst hok
      have ha' : a' ≤ S.size := rdV_le hle hr
      obtain ⟨rfl, vs', rfl, h2, h3, h4⟩ := decGo_again n a' e' (l ++ [v]) vs ha' h
      obtain ⟨rfl, h5, h6, h7, h8⟩ := rdV_again hr
      refine ⟨rfl, v :: vs', by simp, by simp [h2], fun u hu => ?_, ?_⟩
      · rcases List.mem_cons.1 hu with rfl | hu
        · exact ⟨h7, h8⟩
        · exact h3 u hu
      · rw [List.flatMap_cons, ← List.append_assoc, ← h6]; exact h4
    · simp at h
theorem encGo_all : ∀ (vs : List Val) (bs : List UInt8), (∀ v ∈ vs, wrg v = 0) → encGo vs bs = (bs ++ vs.flatMap encV, 0)
  | [], bs, _ => by simp [encGo]
  | v :: r, bs, h => by
    unfold encGo
    rw [if_pos (h v (by simp)), encGo_all r _ (fun u hu => h u (by simp [hu])), List.flatMap_cons, List.append_assoc]
theorem dec_enc {S : ByteArray} {vs : List Val} (h : decR S = some vs) : encR vs = (S.data.toList, 0) ∧ vs.length ≤ 8 ∧ ∀ v ∈ vs, wrg v = 0 ∧ v.i64 := by
  unfold decR at h
  rcases hb : byteR S 0 0 with ⟨m, b, f⟩
  rw [hb] at h
  simp only at h
  split at h
  · simp at h
  · rename_i h8
    have hb1 : b ≤ S.size := by have := byteR_le (S := S) (a := 0) (e := 0) (Nat.zero_le _); rw [hb] at this; exact this
    obtain ⟨rfl, vs', rfl, h2, h3, h4⟩ := decGo_again m b f [] vs hb1 h
    obtain ⟨g1, g2, _⟩ := byte_take hb
    refine ⟨?_, by omega, h3⟩
    unfold encR
    rw [if_neg (by omega), encGo_all _ _ (fun v hv => (h3 v hv).1), h2]
    refine Prod.ext ?_ rfl
    show _ ++ _ = _
    rw [g2] at h4
    simpa using h4.symm
end Go.Proofs.YtnjbkkccofjmgaaDoor
