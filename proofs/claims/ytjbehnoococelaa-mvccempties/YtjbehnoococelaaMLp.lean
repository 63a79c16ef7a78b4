import Derived.Test.YtjbehnoococelaaMSt
/- What the law expects, as plain mathematics. -/
namespace Go.Proofs.Ytjbehnoococelaa
open Go.RowKit Go Go.Sort Go.Maps

abbrev mgA : Mg := ⟨3, [1, 2], [⟨1, 1, []⟩, ⟨2, 1, []⟩]⟩
abbrev mgB : Mg := ⟨4, [1, 2], [⟨1, 1, [⟨3, -1, 0⟩]⟩, ⟨2, 1, []⟩]⟩
abbrev mgC : Mg := ⟨4, [1, 2], [⟨1, 1, [⟨3, -1, 2⟩]⟩, ⟨2, 1, []⟩]⟩
abbrev mgD : Mg := ⟨3, [2], [⟨1, 3, []⟩, ⟨2, 1, []⟩]⟩
abbrev mgE : Mg := ⟨4, [2], [⟨1, 3, [⟨3, -1, 2⟩]⟩, ⟨2, 1, []⟩]⟩
/-- The manager while rows are put in; behind Back; behind Commit. -/
def m1 (part : Bool) : Mg := if part then mgB else mgA
def m2 (part : Bool) : Mg := if part then mgC else mgA
def m3 (part : Bool) : Mg := if part then mgE else mgD
def byN (part : Bool) : Int := if part then 3 else 1
def kb (k : Nat) : List UInt8 := (keyB k).data.toList
theorem kb_inj {a b : Nat} (ha : a < 6) (hb : b < 6) (h : kb a = kb b) : a = b := by
  rcases (by omega : a = 0 ∨ a = 1 ∨ a = 2 ∨ a = 3 ∨ a = 4 ∨ a = 5) with rfl | rfl | rfl | rfl | rfl | rfl <;> rcases (by omega : b = 0 ∨ b = 1 ∨ b = 2 ∨ b = 3 ∨ b = 4 ∨ b = 5) with rfl | rfl | rfl | rfl | rfl | rfl <;> first | rfl | (exfalso; revert h; decide)
abbrev v1 (part : Bool) (k : Nat) : Ver := ⟨byN part, true, 1, rowC k⟩
abbrev v2 (k : Nat) : Ver := ⟨1, true, 1, rowC k⟩
def L2 (want : List Nat) : HL := want.map (fun k => ((2, kb k), [v2 k]))
def LH (part : Bool) (want : List Nat) : HL := want.flatMap (fun k => [((1, kb k), [v1 part k]), ((2, kb k), [v2 k])])
def add1 (want : List Nat) (k : Nat) : List Nat := if k ∈ want then want else want ++ [k]
def wantF (ks : List Int) : List Nat := ks.foldl (fun a c => add1 a (pkN c 6)) []
theorem wantF_snoc (ks : List Int) (c : Int) : wantF (ks ++ [c]) = add1 (wantF ks) (pkN c 6) := by simp [wantF]
theorem want_lt (ks : List Int) : ∀ k ∈ wantF ks, k < 6 := by
  unfold wantF
  have : ∀ (ks : List Int) (a : List Nat), (∀ k ∈ a, k < 6) → ∀ k ∈ ks.foldl (fun a c => add1 a (pkN c 6)) a, k < 6 := by
    intro ks
    induction ks with
    | nil => exact fun a h => h
    | cons c r ih =>
      intro a h
      refine ih _ (fun k hk => ?_)
      have hk : k ∈ add1 a (pkN c 6) := hk
      unfold add1 at hk
      split at hk
      · exact h k hk
      · rcases List.mem_append.1 hk with hk | hk
        · exact h k hk
        · rw [List.mem_singleton.1 hk]; exact pkN_lt c (by omega)
  exact this ks [] (fun k hk => by cases hk)
theorem want_len (ks : List Int) : (wantF ks).length ≤ ks.length := by
  unfold wantF
  have : ∀ (ks : List Int) (a : List Nat), (ks.foldl (fun a c => add1 a (pkN c 6)) a).length ≤ a.length + ks.length := by
    intro ks
    induction ks with
    | nil => simp
    | cons c r ih =>
      intro a
      have h1 := ih (add1 a (pkN c 6))
      have h2 : (add1 a (pkN c 6)).length ≤ a.length + 1 := by unfold add1; split <;> simp
      simp only [List.foldl_cons, List.length_cons]
      omega
  simpa using this ks []
theorem find_LH (part : Bool) (t : Int) (k : Nat) (hk : k < 6) : ∀ want : List Nat, (∀ x ∈ want, x < 6) → (LH part want).find? (fun (p : (Int × List UInt8) × List Ver) => decide (p.1 = (t, kb k))) = if k ∈ want then (if t = 1 then some ((1, kb k), [v1 part k]) else if t = 2 then some ((2, kb k), [v2 k]) else none) else none
  | [], _ => rfl
  | x :: r, h => by
    have ih := find_LH part t k hk r (fun y hy => h y (List.mem_cons_of_mem _ hy))
    have hx := h x List.mem_cons_self
    unfold LH at ih ⊢
    simp only [List.flatMap_cons, List.cons_append, List.nil_append, List.find?_cons]
    by_cases hxk : x = k
    · subst hxk
      by_cases h1 : t = 1
      · subst h1; simp
      · by_cases h2 : t = 2
        · subst h2; simp
        · have e1 : ¬ (1 = t) := fun e => h1 e.symm
          have e2 : ¬ (2 = t) := fun e => h2 e.symm
          simp only [Prod.mk.injEq, e1, e2, false_and, decide_false]
          rw [ih]
          simp [h1, h2]
    · have hne : ¬ (kb x = kb k) := fun e => hxk (kb_inj hx hk e)
      have hkx : ¬ (k = x) := fun e => hxk e.symm
      simp only [Prod.mk.injEq, hne, and_false, decide_false]
      rw [ih]
      simp [hkx]
theorem chL_LH (part : Bool) (t : Int) (k : Nat) (hk : k < 6) (want : List Nat) (h : ∀ x ∈ want, x < 6) : chL (LH part want) t (kb k) = if k ∈ want then (if t = 1 then [v1 part k] else if t = 2 then [v2 k] else []) else [] := by
  unfold chL
  rw [find_LH part t k hk want h]
  by_cases h0 : k ∈ want
  · by_cases h1 : t = 1
    · simp [h0, h1]
    · by_cases h2 : t = 2
      · simp [h0, h2]
      · simp [h0, h1, h2]
  · simp [h0]
theorem any_find {L : HL} {p : (Int × List UInt8) × List Ver → Bool} : L.any p = (L.find? p).isSome := by
  rw [Bool.eq_iff_iff, List.find?_isSome]; simp
theorem app1 (part : Bool) (k : Nat) (hk : k < 6) (want : List Nat) (h : ∀ x ∈ want, x < 6) (hn : k ∉ want) : appL (LH part want) 1 (kb k) (v1 part k) = LH part want ++ [((1, kb k), [v1 part k])] := by
  unfold appL
  rw [any_find, find_LH part 1 k hk want h, if_neg hn]
  simp
theorem app2 (part : Bool) (k : Nat) (hk : k < 6) (want : List Nat) (h : ∀ x ∈ want, x < 6) (hn : k ∉ want) : chL (LH part want ++ [((1, kb k), [v1 part k])]) 2 (kb k) = [] ∧ appL (LH part want ++ [((1, kb k), [v1 part k])]) 2 (kb k) (v2 k) = LH part (want ++ [k]) := by
  have hf : (LH part want ++ [((1, kb k), [v1 part k])]).find? (fun (p : (Int × List UInt8) × List Ver) => decide (p.1 = (2, kb k))) = none := by
    rw [List.find?_append, find_LH part 2 k hk want h, if_neg hn]
    simp
  refine ⟨by unfold chL; rw [hf], ?_⟩
  unfold appL
  rw [any_find, hf]
  simp [LH]
theorem insN (part : Bool) (own : Int) : insE (m1 part) 1 1 [] own [] = 0 := rfl
theorem ins1 (part : Bool) (k : Nat) : insE (m1 part) 1 1 [] (byN part) [v1 part k] = 91 := by cases part <;> rfl
theorem ins2 (part : Bool) (k : Nat) : insE (m1 part) 1 1 [] 1 [v2 k] = 91 := by cases part <;> rfl
theorem sum_LH (part : Bool) : ∀ want : List Nat, ((LH part want).map (fun p => p.2.length)).sum = 2 * want.length
  | [] => rfl
  | x :: r => by
    have ih := sum_LH part r
    unfold LH at ih ⊢
    simp only [List.flatMap_cons, List.cons_append, List.nil_append, List.map_cons, List.sum_cons, List.length_cons, List.length_nil]
    omega
theorem sum_L2 : ∀ want : List Nat, ((L2 want).map (fun p => p.2.length)).sum = want.length
  | [] => rfl
  | x :: r => by
    have ih := sum_L2 r
    unfold L2 at ih ⊢
    simp only [List.map_cons, List.sum_cons, List.length_cons, List.length_nil]
    omega
theorem filt_LH (part : Bool) : ∀ want : List Nat, (LH part want).filter (fun p => decide (p.1.1 ≠ 1)) = L2 want
  | [] => rfl
  | x :: r => by
    have ih := filt_LH part r
    unfold LH L2 at ih ⊢
    simp only [List.flatMap_cons, List.cons_append, List.nil_append, List.map_cons]
    rw [List.filter_cons, List.filter_cons, ih]
    simp
theorem chL_L2 (t : Int) (k : Nat) (hk : k < 6) : ∀ want : List Nat, (∀ x ∈ want, x < 6) → chL (L2 want) t (kb k) = if k ∈ want ∧ t = 2 then [v2 k] else []
  | [], _ => by simp [chL, L2]
  | x :: r, h => by
    have ih := chL_L2 t k hk r (fun y hy => h y (List.mem_cons_of_mem _ hy))
    have hx := h x List.mem_cons_self
    unfold chL L2 at ih ⊢
    simp only [List.map_cons, List.find?_cons]
    by_cases h1 : x = k ∧ t = 2
    · obtain ⟨rfl, rfl⟩ := h1
      simp
    · have hne : ¬ ((2, kb x) = (t, kb k)) := fun e => h1 ⟨kb_inj hx hk (by injection e), by injection e with e _; exact e.symm⟩
      simp only [decide_eq_false hne]
      rw [ih]
      by_cases ht : t = 2
      · have hkx : ¬ (k = x) := fun e => h1 ⟨e.symm, ht⟩
        simp [hkx]
      · simp [ht]
theorem get1 (part : Bool) : getV (m2 part) 1 1 [] 1 [] = none := rfl
theorem get2 (part : Bool) (k : Nat) : getV (m2 part) 1 1 [] 1 [v2 k] = some (v2 k) := by cases part <;> rfl
theorem wrt_LH (m : Mg) (part : Bool) (k xid : Int) (b1 b2 : Bool) (h1 : ∀ x, (decide ((1 : Int) = k) && wrt m xid (v1 part x)) = b1) (h2 : ∀ x, (decide ((2 : Int) = k) && wrt m xid (v2 x)) = b2) : ∀ want : List Nat, wrtL m (LH part want) k xid = (!want.isEmpty && (b1 || b2))
  | [] => rfl
  | x :: r => by
    have ih := wrt_LH m part k xid b1 b2 h1 h2 r
    unfold wrtL LH at ih ⊢
    simp only [List.flatMap_cons, List.cons_append, List.nil_append, List.any_cons, List.any_nil, Bool.or_false]
    rw [ih]
    have a := h1 x
    have b := h2 x
    simp only [a, b]
    cases b1 <;> cases b2 <;> simp
theorem wrt_L2 (m : Mg) (k xid : Int) (h2 : ∀ x, (decide ((2 : Int) = k) && wrt m xid (v2 x)) = false) : ∀ want : List Nat, wrtL m (L2 want) k xid = false
  | [] => rfl
  | x :: r => by
    have ih := wrt_L2 m k xid h2 r
    unfold wrtL L2 at ih ⊢
    simp only [List.map_cons, List.any_cons, List.any_nil, Bool.or_false]
    rw [ih, h2 x]; rfl
theorem w12 (part : Bool) (want : List Nat) : wrtL (m1 part) (LH part want) 1 2 = !want.isEmpty := by rw [wrt_LH _ part 1 2 true false (fun x => by cases part <;> rfl) (fun x => rfl)]; simp
theorem w10 (part : Bool) (want : List Nat) : wrtL (m1 part) (LH part want) 1 0 = !want.isEmpty := by rw [wrt_LH _ part 1 0 true false (fun x => by cases part <;> rfl) (fun x => rfl)]; simp
theorem w11 (part : Bool) (want : List Nat) : wrtL (m1 part) (LH part want) 1 1 = false := by rw [wrt_LH _ part 1 1 false false (fun x => by cases part <;> rfl) (fun x => rfl)]; simp
theorem w32 (part : Bool) (want : List Nat) : wrtL (m1 part) (LH part want) 3 2 = false := by rw [wrt_LH _ part 3 2 false false (fun x => rfl) (fun x => rfl)]; simp
theorem wb2 (want : List Nat) : wrtL mgC (LH true want) 1 2 = false := by rw [wrt_LH _ true 1 2 false false (fun x => rfl) (fun x => rfl)]; simp
theorem wc2 (part : Bool) (want : List Nat) : wrtL (m3 part) (L2 want) 2 2 = false := wrt_L2 _ 2 2 (fun x => by cases part <;> rfl) want
theorem wc0 (part : Bool) (want : List Nat) : wrtL (m3 part) (L2 want) 2 0 = false := wrt_L2 _ 2 0 (fun x => by cases part <;> rfl) want
end Go.Proofs.Ytjbehnoococelaa
