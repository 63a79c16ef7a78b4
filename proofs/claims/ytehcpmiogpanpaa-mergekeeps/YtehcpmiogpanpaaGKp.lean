import Derived.Test.YtehcpmiogpanpaaGLs
/- MergeKeeps: the pure side. -/
namespace Go.Proofs.Ytehcpmiogpanpaa
open Go.RowKit Go

/-- Each row has its number, counts its places, and never falls. -/
def GL (ls : List (List Kc)) : Prop := ∀ (j : Nat) (r : List Kc), ls[j]? = some r → (∀ (k : Nat) (c : Kc), r[k]? = some c → c.x = j ∧ c.t = k) ∧ r.Pairwise (fun a b => a.l ≤ b.l)
structure V3 (ls rs : List (List Kc)) (nx : List Nat) (out : List Kc) (i : Nat) : Prop where
  nl : nx.length = ls.length
  rl : rs.length = ls.length
  dr : ∀ (j : Nat) (r : List Kc) (n : Nat), ls[j]? = some r → nx[j]? = some n → n ≤ r.length ∧ rs[j]? = some (r.drop n)
  mg : Mrg Kc.l rs (out.drop i)
  ord : ∀ p, 0 < i → out[i - 1]? = some p → ∀ (j : Nat) (d : Kc) (u : List Kc), rs[j]? = some (d :: u) → p.l < d.l ∨ p.l = d.l ∧ p.x ≤ j
theorem V3.begin {ls : List (List Kc)} {out : List Kc} (h : Mrg Kc.l ls out) : V3 ls ls (List.replicate ls.length 0) out 0 :=
  ⟨by simp, rfl, fun j r n hj hn => by
    have : n = 0 := by
      have := List.getElem?_replicate (n := ls.length) (a := 0) (i := j)
      rw [hn] at this
      split at this
      · simpa using this
      · cases this
    subst this
    exact ⟨Nat.zero_le _, by simpa using hj⟩, by simpa using h, fun p h => by omega⟩
theorem V3.step {ls rs : List (List Kc)} {nx : List Nat} {out : List Kc} {i : Nat} (h : V3 ls rs nx out i) (hg : GL ls) (hi : i < out.length) : ∃ (j : Nat) (r : List Kc) (n : Nat) (c : Kc), out[i]? = some c ∧ ls[j]? = some r ∧ nx[j]? = some n ∧ n < r.length ∧ r[n]? = some c ∧ c.x = j ∧ c.t = n ∧ (∀ p, 0 < i → out[i - 1]? = some p → p.l < c.l ∨ p.l = c.l ∧ p.x ≤ c.x) ∧ V3 ls (rs.set j (r.drop (n + 1))) (nx.set j (n + 1)) out (i + 1) := by
  have e : out.drop i = out[i] :: out.drop (i + 1) := List.drop_eq_getElem_cons hi
  have hm := h.mg
  rw [e] at hm
  obtain ⟨c, hc⟩ : ∃ c, c = out[i] := ⟨_, rfl⟩
  rw [← hc] at hm
  cases hm with
  | @cons _ j _ u _ p m =>
    have hjr : j < rs.length := (List.getElem?_eq_some_iff.1 p.1).1
    have hjl : j < ls.length := by rw [← h.rl]; exact hjr
    have hjn : j < nx.length := by rw [h.nl]; exact hjl
    obtain ⟨r, hr⟩ : ∃ r, ls[j]? = some r := ⟨_, List.getElem?_eq_getElem hjl⟩
    obtain ⟨n, hn⟩ : ∃ n, nx[j]? = some n := ⟨_, List.getElem?_eq_getElem hjn⟩
    obtain ⟨h1, h2⟩ := h.dr j r n hr hn
    have h3 : r.drop n = c :: u := by
      have := h2.symm.trans p.1
      simpa using this
    have hnl : n < r.length := by
      rcases Nat.lt_or_ge n r.length with h | h
      · exact h
      · rw [List.drop_eq_nil_of_le h] at h3; cases h3
    have h4 : r[n] = c ∧ r.drop (n + 1) = u := by
      rw [List.drop_eq_getElem_cons hnl] at h3
      simp only [List.cons.injEq] at h3
      exact h3
    have h5 : r[n]? = some c := by rw [List.getElem?_eq_getElem hnl, h4.1]
    have hx := (hg j r hr).1 n c h5
    refine ⟨j, r, n, c, by rw [List.getElem?_eq_getElem hi, hc], hr, hn, hnl, h5, hx.1, hx.2, fun q hq hp => ?_, ?_⟩
    · rw [hx.1]; exact h.ord q hq hp j c u p.1
    · refine ⟨by rw [List.length_set]; exact h.nl, by rw [List.length_set]; exact h.rl, ?_, by rw [h4.2]; exact m, ?_⟩
      · intro j' r' n' hr' hn'
        by_cases hjj : j' = j
        · subst hjj
          rw [List.getElem?_set_self hjn] at hn'
          obtain rfl : n + 1 = n' := by simpa using hn'
          rw [hr] at hr'
          obtain rfl : r = r' := by simpa using hr'
          exact ⟨hnl, List.getElem?_set_self hjr⟩
        · rw [List.getElem?_set_ne (Ne.symm hjj)] at hn' ⊢
          exact h.dr j' r' n' hr' hn'
      · intro q _ hq j' d v hd
        rw [Nat.add_sub_cancel, List.getElem?_eq_getElem hi, ← hc] at hq
        obtain rfl : c = q := by simpa using hq
        by_cases hjj : j' = j
        · subst hjj
          rw [List.getElem?_set_self hjr] at hd
          have hd' : r.drop (n + 1) = d :: v := by simpa using hd
          have hl1 : n + 1 < r.length := by
            rcases Nat.lt_or_ge (n + 1) r.length with h | h
            · exact h
            · rw [List.drop_eq_nil_of_le h] at hd'; cases hd'
          have h6 : r[n + 1] = d := by
            rw [List.drop_eq_getElem_cons hl1] at hd'
            simp only [List.cons.injEq] at hd'
            exact hd'.1
          have := List.pairwise_iff_getElem.1 (hg j' r hr).2 n (n + 1) hnl hl1 (by omega)
          rw [h4.1, h6] at this
          rw [hx.1]
          omega
        · rw [List.getElem?_set_ne (Ne.symm hjj)] at hd
          rcases p.2 j' d v hd with h | ⟨h, h'⟩
          · exact .inl h
          · exact .inr ⟨h, by rw [hx.1]; omega⟩
/-- A row in the making. -/
def GR (j : Int) (r : List Kc) (at' : Int) : Prop := (∀ (k : Nat) (c : Kc), r[k]? = some c → c.x = j ∧ c.t = k ∧ c.l ≤ at') ∧ r.Pairwise (fun a b => a.l ≤ b.l)
theorem GR.nil (j at' : Int) : GR j [] at' := ⟨fun k c h => by simp at h, List.Pairwise.nil⟩
theorem GR.snoc {j at' : Int} {r : List Kc} (h : GR j r at') {b : Int} (hb : at' ≤ b) : GR j (r ++ [⟨b, j, 0, r.length⟩]) b := by
  refine ⟨fun k c hk => ?_, ?_⟩
  · rcases Nat.lt_trichotomy k r.length with hl | hl | hl
    · rw [List.getElem?_append_left hl] at hk
      have := h.1 k c hk
      exact ⟨this.1, this.2.1, by omega⟩
    · subst hl
      rw [List.getElem?_append_right (Nat.le_refl _), Nat.sub_self] at hk
      obtain rfl : (⟨b, j, 0, r.length⟩ : Kc) = c := by simpa using hk
      exact ⟨rfl, rfl, Int.le_refl _⟩
    · rw [List.getElem?_eq_none (by simp; omega)] at hk; cases hk
  · rw [List.pairwise_append]
    refine ⟨h.2, by simp, fun a ha c hc => ?_⟩
    obtain ⟨k, hk⟩ := List.getElem?_of_mem ha
    have := (h.1 k a hk).2.2
    obtain rfl : c = ⟨b, j, 0, r.length⟩ := by simpa using hc
    show a.l ≤ b
    omega
theorem GL.snoc {ls : List (List Kc)} {r : List Kc} {at' : Int} (h : GL ls) (hr : GR (ls.length : Nat) r at') : GL (ls ++ [r]) := fun j r' hj => by
  rcases Nat.lt_trichotomy j ls.length with hl | hl | hl
  · rw [List.getElem?_append_left hl] at hj; exact h j r' hj
  · subst hl
    rw [List.getElem?_append_right (Nat.le_refl _), Nat.sub_self] at hj
    obtain rfl : r = r' := by simpa using hj
    exact ⟨fun k c hk => ⟨(hr.1 k c hk).1, (hr.1 k c hk).2.1⟩, hr.2⟩
  · rw [List.getElem?_eq_none (by simp; omega)] at hj; cases hj
theorem tot_snoc {α : Type} (ls : List (List α)) (r : List α) : tot (ls ++ [r]) = tot ls + r.length := by simp [tot]
end Go.Proofs.Ytehcpmiogpanpaa
