import Derived.Test.YtblhmjndegfofaaCWid0
/- What holds of a catalog between the deeds: plain mathematics. -/
namespace Go.Proofs.Ytblhmjndegfofaa
open Go.RowKit Go

theorem right_parts {t : Tbl} (h : rightE t = 0) : numOk t.id = true ∧ numOk t.ver = true ∧ nmOk t.nm = true ∧ colsE t.cols = 0 ∧ keyOk t.cols t.key = true := by
  unfold rightE at h
  split at h
  · simp at h
  · rename_i h1
    split at h
    · simp at h
    · rename_i h2
      split at h
      · rename_i h3; exact absurd h h3
      · rename_i h3
        split at h
        · simp at h
        · rename_i h4
          refine ⟨?_, ?_, by simpa using h2, Classical.byContradiction h3, by simpa using h4⟩
          · cases e : numOk t.id
            · exact absurd (Or.inl e) h1
            · rfl
          · cases e : numOk t.ver
            · exact absurd (Or.inr e) h1
            · rfl
theorem right_of {t : Tbl} (h1 : numOk t.id = true) (h2 : numOk t.ver = true) (h3 : nmOk t.nm = true) (h4 : colsE t.cols = 0) (h5 : keyOk t.cols t.key = true) : rightE t = 0 := by
  unfold rightE
  rw [if_neg (by simp [h1, h2]), if_neg (by simp [h3]), if_neg (by simp [h4]), if_neg (by simp [h5])]
theorem cols_le {l : List Col} (h : colsE l = 0) : l.length ≤ 8 := by
  unfold colsE at h
  split at h
  · simp at h
  · rename_i h1; omega
theorem num_of {n : Int} (h : numOk n = true) : 1 ≤ n ∧ n ≤ 2147483647 := by
  simpa [numOk] using h
/-- What holds of the tables L when gv was given last. -/
structure GI (L : List Tbl) (gv : Int) : Prop where
  len : L.length ≤ 16
  right : ∀ t ∈ L, rightE t = 0
  ids : ∀ t ∈ L, t.id ≤ gv
  rise : L.Pairwise (fun a b => a.id < b.id)
  nms : L.Pairwise (fun a b => a.nm ≠ b.nm)
  low : 0 ≤ gv
  high : gv ≤ 2147483647
theorem GI.nil : GI [] 0 := ⟨by simp, fun t h => by simp at h, fun t h => by simp at h, List.Pairwise.nil, List.Pairwise.nil, by omega, by omega⟩
theorem GI.create {L : List Tbl} {gv : Int} (h : GI L gv) {nm : ByteArray} {cols : List Col} {key : Int} (hr : rightE ⟨gv + 1, 1, nm, cols, key⟩ = 0) (hn : L.any (fun t => decide (t.nm = nm)) = false) (hl : L.length ≠ 16) (hg : gv ≠ 2147483647) : GI (L ++ [⟨gv + 1, 1, nm, cols, key⟩]) (gv + 1) := by
  have hlow := h.low
  have hhigh := h.high
  have hlen := h.len
  refine ⟨by rw [List.length_append]; simp; omega, fun t ht => ?_, fun t ht => ?_, ?_, ?_, by omega, by omega⟩
  · rcases List.mem_append.1 ht with ht | ht
    · exact h.right t ht
    · rw [List.mem_singleton.1 ht]; exact hr
  · rcases List.mem_append.1 ht with ht | ht
    · have := h.ids t ht; omega
    · rw [List.mem_singleton.1 ht]; show gv + 1 ≤ _; omega
  · rw [List.pairwise_append]
    refine ⟨h.rise, List.pairwise_singleton _ _, fun a ha b hb => ?_⟩
    rw [List.mem_singleton.1 hb]
    have := h.ids a ha
    show a.id < gv + 1; omega
  · rw [List.pairwise_append]
    refine ⟨h.nms, List.pairwise_singleton _ _, fun a ha b hb => ?_⟩
    rw [List.mem_singleton.1 hb]
    rw [List.any_eq_false] at hn
    simpa using hn a ha
theorem GI.erase {L : List Tbl} {gv : Int} (h : GI L gv) (k : Nat) : GI (L.eraseIdx k) gv :=
  ⟨Nat.le_trans (List.length_eraseIdx_le ..) h.len, fun t ht => h.right t (List.mem_of_mem_eraseIdx ht), fun t ht => h.ids t (List.mem_of_mem_eraseIdx ht), h.rise.sublist (List.eraseIdx_sublist ..), h.nms.sublist (List.eraseIdx_sublist ..), h.low, h.high⟩
theorem pair_set {R : Tbl → Tbl → Prop} : ∀ {L : List Tbl} (k : Nat) (hk : k < L.length) (t : Tbl), (∀ a, R a L[k] → R a t) → (∀ b, R L[k] b → R t b) → L.Pairwise R → (L.set k t).Pairwise R
  | [], k, hk, _, _, _, _ => by simp at hk
  | a :: L, 0, _, t, _, h2, h => by
    rw [List.set_cons_zero]
    rw [List.pairwise_cons] at h ⊢
    exact ⟨fun b hb => h2 b (h.1 b hb), h.2⟩
  | a :: L, k + 1, hk, t, h1, h2, h => by
    rw [List.set_cons_succ]
    rw [List.pairwise_cons] at h ⊢
    have hk' : k < L.length := by simpa using hk
    refine ⟨fun b hb => ?_, pair_set k hk' t h1 h2 h.2⟩
    rcases List.mem_or_eq_of_mem_set hb with hb | rfl
    · exact h.1 b hb
    · exact h1 a (h.1 _ (List.getElem_mem hk'))
theorem GI.widen {L : List Tbl} {gv : Int} (h : GI L gv) {k : Nat} (hk : k < L.length) {x : Col} (hw : widE L[k] x = 0) : GI (L.set k (widT L[k] x)) gv := by
  have hr := h.right L[k] (List.getElem_mem hk)
  obtain ⟨r1, r2, r3, r4, r5⟩ := right_parts hr
  unfold widE at hw
  split at hw
  · rename_i h1; exact absurd hw h1
  · rename_i h1
    split at hw
    · simp at hw
    · rename_i h2
      have hv := num_of r2
      have hrw : rightE (widT L[k] x) = 0 := by
        refine right_of r1 ?_ r3 (Classical.byContradiction h1) ?_
        · show numOk (L[k].ver + 1) = true
          have : L[k].ver ≠ 2147483647 := fun e => h2 (Or.inr e)
          simp [numOk]; omega
        · show keyOk (L[k].cols ++ [x]) L[k].key = true
          unfold keyOk at r5 ⊢
          cases e : L[k].cols[L[k].key.toNat]? with
          | none => rw [e] at r5; simp at r5
          | some c =>
            rw [e] at r5
            have hlt := (List.getElem?_eq_some_iff.1 e).1
            rw [List.getElem?_append_left hlt, e]
            exact r5
      refine ⟨by rw [List.length_set]; exact h.len, fun t ht => ?_, fun t ht => ?_, pair_set k hk _ (fun _ h => h) (fun _ h => h) h.rise, pair_set k hk _ (fun _ h => h) (fun _ h => h) h.nms, h.low, h.high⟩
      · rcases List.mem_or_eq_of_mem_set ht with ht | rfl
        · exact h.right t ht
        · exact hrw
      · rcases List.mem_or_eq_of_mem_set ht with ht | rfl
        · exact h.ids t ht
        · exact h.ids L[k] (List.getElem_mem hk)
end Go.Proofs.Ytblhmjndegfofaa
