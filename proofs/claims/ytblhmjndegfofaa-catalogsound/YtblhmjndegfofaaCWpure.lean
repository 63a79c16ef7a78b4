import Derived.Test.YtblhmjndegfofaaCWid2
/- CatalogWidens: plain mathematics. -/
namespace Go.Proofs.Ytblhmjndegfofaa
open Go.RowKit Go

def tB : ByteArray := ⟨#[116]⟩
def cols3 : List Col := [⟨⟨#[105, 100]⟩, 1, false⟩, ⟨⟨#[115]⟩, 2, true⟩, ⟨⟨#[111, 107]⟩, 3, true⟩]
/-- The table, with these columns more. -/
def tabR (rest : List Col) : Tbl := ⟨1, rest.length + 1, ⟨#[116]⟩, cols3 ++ rest, 0⟩
/-- What holds of them. -/
structure WI (rest : List Col) : Prop where
  col : ∀ c ∈ rest, c.k = 1 ∧ c.nl = true
  ok : colsE (cols3 ++ rest) = 0
theorem colsGo_append : ∀ (l m a : List Col), colsGo a (l ++ m) = if colsGo a l ≠ 0 then colsGo a l else colsGo (a ++ l) m
  | [], m, a => by simp [colsGo]
  | c :: l, m, a => by
    have e1 : colsGo a (c :: l) = if colE a c ≠ 0 then colE a c else colsGo (a ++ [c]) l := rfl
    have e2 : colsGo a (c :: l ++ m) = if colE a c ≠ 0 then colE a c else colsGo (a ++ [c]) (l ++ m) := rfl
    by_cases h : colE a c = 0
    · rw [if_neg (by simp [h])] at e1 e2
      rw [e1, e2, colsGo_append l m (a ++ [c])]
      simp
    · rw [if_pos h] at e1 e2
      rw [e1, e2, if_pos h]
theorem WI.len {rest : List Col} (h : WI rest) : rest.length ≤ 5 := by
  have h1 := h.ok
  unfold colsE at h1
  split at h1
  · simp at h1
  · rename_i h2
    simp [cols3] at h2
    omega
theorem WI.nil : WI [] := ⟨fun c h => by simp at h, by decide⟩
theorem WI.right {rest : List Col} (h : WI rest) : rightE (tabR rest) = 0 := by
  have h5 := h.len
  have e1 : numOk (tabR rest).ver = true := by
    show numOk ((rest.length : Int) + 1) = true
    simp [numOk]; omega
  have e2 : colsE (tabR rest).cols = 0 := h.ok
  have e3 : keyOk (tabR rest).cols (tabR rest).key = true := by
    show keyOk (cols3 ++ rest) 0 = true
    unfold keyOk cols3
    simp
  have e0 : numOk (tabR rest).id = true := rfl
  have e4 : nmOk (tabR rest).nm = true := by show nmOk ⟨#[116]⟩ = true; decide
  unfold rightE
  rw [if_neg (by rw [e0, e1]; simp), if_neg (by rw [e4]; simp), if_neg (by rw [e2]; simp), if_neg (by rw [e3]; simp)]
theorem WI.snoc {rest : List Col} (h : WI rest) (n : ByteArray) (hn : nmOk n = true) : (widE (tabR rest) ⟨n, 1, true⟩ = 0 → WI (rest ++ [⟨n, 1, true⟩])) ∧ (widE (tabR rest) ⟨n, 1, true⟩ = 0 ∨ widE (tabR rest) ⟨n, 1, true⟩ = 54 ∨ widE (tabR rest) ⟨n, 1, true⟩ = 55) := by
  have h5 := h.len
  have key : colsE ((cols3 ++ rest) ++ [⟨n, 1, true⟩]) = 0 ∨ colsE ((cols3 ++ rest) ++ [⟨n, 1, true⟩]) = 54 ∨ colsE ((cols3 ++ rest) ++ [⟨n, 1, true⟩]) = 55 := by
    unfold colsE
    split
    · exact Or.inr (Or.inr rfl)
    · have h1 := h.ok
      unfold colsE at h1
      split at h1
      · simp at h1
      · rw [colsGo_append, h1, if_neg (by simp), List.nil_append]
        have e5 : colsGo (cols3 ++ rest) [⟨n, 1, true⟩] = if colE (cols3 ++ rest) ⟨n, 1, true⟩ ≠ 0 then colE (cols3 ++ rest) ⟨n, 1, true⟩ else 0 := rfl
        have e6 : colE (cols3 ++ rest) ⟨n, 1, true⟩ = if (cols3 ++ rest).any (fun a => decide (a.nm = n)) then 54 else 0 := by
          unfold colE
          rw [if_neg (by rw [hn]; simp), if_neg (c := kdOk 1 = false) (by decide)]
        rw [e5, e6]
        cases (cols3 ++ rest).any (fun a => decide (a.nm = n))
        · exact Or.inl (by simp)
        · exact Or.inr (Or.inl (by simp))
  have hw : widE (tabR rest) ⟨n, 1, true⟩ = colsE ((cols3 ++ rest) ++ [⟨n, 1, true⟩]) := by
    unfold widE
    have e2 : (tabR rest).cols = cols3 ++ rest := rfl
    rw [e2]
    by_cases h0 : colsE ((cols3 ++ rest) ++ [⟨n, 1, true⟩]) = 0
    · rw [h0, if_neg (by simp), if_neg]
      intro hh
      rcases hh with hh | hh
      · simp at hh
      · have e3 : (tabR rest).ver = (rest.length : Int) + 1 := rfl
        rw [e3] at hh; omega
    · rw [if_pos h0]
  rw [hw]
  refine ⟨fun e => ⟨fun c hc => ?_, by rw [← List.append_assoc]; exact e⟩, key⟩
  rw [List.mem_append, List.mem_singleton] at hc
  rcases hc with hc | rfl
  · exact h.col c hc
  · exact ⟨rfl, rfl⟩
theorem widT_tabR (rest : List Col) (x : Col) : widT (tabR rest) x = tabR (rest ++ [x]) := by
  unfold widT tabR
  simp
theorem fitsAll_append : ∀ (l m : List Col) (v u : List Val), l.length = v.length → fitsAll (l ++ m) (v ++ u) = (fitsAll l v && fitsAll m u)
  | [], m, [], u, _ => by simp [fitsAll]
  | [], _, _ :: _, _, h => by simp at h
  | _ :: _, _, [], _, h => by simp at h
  | c :: l, m, v :: vs, u, h => by
    simp only [List.cons_append, fitsAll]
    rw [fitsAll_append l m vs u (by simpa using h), Bool.and_assoc]
theorem fitsAll_null : ∀ (rest : List Col), (∀ c ∈ rest, c.k = 1 ∧ c.nl = true) → fitsAll rest (List.replicate rest.length nullV) = true
  | [], _ => rfl
  | c :: l, h => by
    simp only [List.length_cons, List.replicate_succ, fitsAll, Bool.and_eq_true, decide_eq_true_eq]
    refine ⟨?_, fitsAll_null l (fun c hc => h c (by simp [hc]))⟩
    have h1 := (h c (by simp)).2
    unfold fitE
    rw [show wrg nullV = 0 by decide]
    simp [h1, nullV]
theorem fit_more {rest : List Col} (h : WI rest) (r : List Val) : (r.length ≤ 3 → ((fitR (tabR rest) r).2 = 0 ↔ (fitR (tabR []) r).2 = 0)) ∧ ((fitR (tabR []) r).2 = 0 → r.length ≤ 3 ∧ (fitR (tabR []) r).1.length = 3 ∧ (fitR (tabR rest) r).2 = 0 ∧ (fitR (tabR rest) r).1 = (fitR (tabR []) r).1 ++ List.replicate rest.length nullV) := by
  have hr := h.right
  have hr0 := WI.nil.right
  have hc : (tabR rest).cols = cols3 ++ rest := rfl
  have hc0 : (tabR []).cols = cols3 := by simp [tabR]
  have h3 : cols3.length = 3 := rfl
  have hfull : r.length ≤ 3 → fullR (tabR rest) r = fullR (tabR []) r ++ List.replicate rest.length nullV := fun hl => by
    unfold fullR
    rw [hc, hc0, List.length_append, h3, List.append_assoc, List.replicate_append_replicate]
    congr 2
    omega
  have hl0 : r.length ≤ 3 → (fullR (tabR []) r).length = 3 := fun hl => by rw [fullR_len (by rw [hc0, h3]; exact hl), hc0]; rfl
  have hfa : r.length ≤ 3 → fitsAll (tabR rest).cols (fullR (tabR rest) r) = fitsAll (tabR []).cols (fullR (tabR []) r) := fun hl => by
    rw [hfull hl, hc, hc0, fitsAll_append _ _ _ _ (by rw [hl0 hl]; rfl), fitsAll_null rest h.col, Bool.and_true]
  have e1 : ∀ hl : r.length ≤ 3, fitR (tabR rest) r = if fitsAll (tabR []).cols (fullR (tabR []) r) = false then ([], 57) else (fullR (tabR []) r ++ List.replicate rest.length nullV, 0) := fun hl => by
    unfold fitR
    rw [if_neg (by simp [hr]), if_neg (by rw [hc, List.length_append, h3]; omega), hfa hl, hfull hl]
  have e0 : ∀ hl : r.length ≤ 3, fitR (tabR []) r = if fitsAll (tabR []).cols (fullR (tabR []) r) = false then ([], 57) else (fullR (tabR []) r, 0) := fun hl => by
    unfold fitR
    rw [if_neg (by simp [hr0]), if_neg (by rw [hc0, h3]; omega)]
  refine ⟨fun hl => ?_, fun e => ?_⟩
  · rw [e1 hl, e0 hl]
    split <;> simp
  · have hl : r.length ≤ 3 := by
      by_cases hl : r.length ≤ 3
      · exact hl
      · unfold fitR at e
        rw [if_neg (by simp [hr0]), if_pos (by rw [hc0, h3]; omega)] at e
        simp at e
    rw [e0 hl] at e
    split at e
    · simp at e
    · rename_i hf
      rw [e1 hl, e0 hl, if_neg hf, if_neg hf]
      exact ⟨hl, hl0 hl, rfl, rfl⟩
/-- One of few names. -/
def nmS (k : Nat) : ByteArray := ⟨#[UInt8.ofNat (97 + k)]⟩
theorem nmS_ok {k : Nat} (h : k < 6) : nmOk (nmS k) = true := by
  rcases (by omega : k = 0 ∨ k = 1 ∨ k = 2 ∨ k = 3 ∨ k = 4 ∨ k = 5) with rfl | rfl | rfl | rfl | rfl | rfl <;> decide
theorem creE0 : creE [] 0 ⟨#[116]⟩ cols3 0 = 0 := by decide
theorem creT0 : creT 0 ⟨#[116]⟩ cols3 0 = tabR [] := by simp [creT, tabR]
theorem fit5 : fitR (tabR []) [⟨1, 5, ⟨#[]⟩⟩] = ([⟨1, 5, ⟨#[]⟩⟩, nullV, nullV], 0) := by rfl
end Go.Proofs.Ytblhmjndegfofaa
