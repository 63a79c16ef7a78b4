import Derived.Handy
/- Heaps and rows as one, pure. -/
namespace Go.Proofs.Ytmnhkgibplnnnaa
structure It where
  r : Int
  t : Int
  p : Nat
  deriving DecidableEq, Inhabited

def It.lt (a b : It) : Prop := a.r < b.r ∨ a.r = b.r ∧ a.t < b.t
instance (a b : It) : Decidable (It.lt a b) := by unfold It.lt; exact inferInstance
theorem It.lt.asym {a b : It} (h : a.lt b) : ¬ b.lt a := by unfold It.lt at *; omega
theorem It.nlt_trans {a b c : It} (h : ¬ a.lt b) (k : ¬ b.lt c) : ¬ a.lt c := by unfold It.lt at *; omega
theorem It.lt_nlt {a b c : It} (h : a.lt b) (k : ¬ c.lt b) : a.lt c := by unfold It.lt at *; omega
/-- The item at a place. -/
def hat (l : List It) (i : Nat) : It := l.getD i default
theorem hat_get {l : List It} {i : Nat} (h : i < l.length) : hat l i = l[i] := by unfold hat; simp [List.getD, List.getElem?_eq_getElem h]
theorem hat_set {l : List It} {i k : Nat} {x : It} (h : i < l.length) : hat (l.set i x) k = if k = i then x else hat l k := by
  unfold hat
  simp only [List.getD, List.getElem?_set]
  by_cases e : k = i
  · subst e; simp [h]
  · simp [Ne.symm e, e]
theorem hat_mem {l : List It} {i : Nat} (h : i < l.length) : hat l i ∈ l := by rw [hat_get h]; exact List.getElem_mem h
def swp (l : List It) (i j : Nat) : List It := (l.set i (hat l j)).set j (hat l i)
theorem swp_len (l : List It) (i j : Nat) : (swp l i j).length = l.length := by simp [swp]
theorem swp_at {l : List It} {i j k : Nat} (hi : i < l.length) (hj : j < l.length) : hat (swp l i j) k = if k = j then hat l i else if k = i then hat l j else hat l k := by
  unfold swp
  rw [hat_set (by simpa using hj), hat_set hi]
theorem swp_perm {l : List It} {i j : Nat} (hi : i < l.length) (hj : j < l.length) : (swp l i j).Perm l := by
  unfold swp
  rw [hat_get hi, hat_get hj]
  exact List.set_set_perm hi hj
/-- A heap: none comes ahead of the one above it. -/
def Heap (l : List It) : Prop := ∀ i, 0 < i → i < l.length → ¬ (hat l i).lt (hat l ((i - 1) / 2))
theorem Heap.least {l : List It} (h : Heap l) : ∀ i, i < l.length → ¬ (hat l i).lt (hat l 0) := by
  intro i
  induction i using Nat.strongRecOn with
  | ind i ih =>
    intro hi
    by_cases h0 : i = 0
    · subst h0; unfold It.lt; omega
    · exact It.nlt_trans (h i (by omega) hi) (ih ((i - 1) / 2) (by omega) (by omega))
/-- A heap but for the place a, from which something goes up. -/
def Rs (l : List It) (a : Nat) : Prop := a < l.length ∧ (∀ i, 0 < i → i < l.length → i ≠ a → ¬ (hat l i).lt (hat l ((i - 1) / 2))) ∧ ∀ i, 0 < i → i < l.length → (i - 1) / 2 = a → 0 < a → ¬ (hat l i).lt (hat l ((a - 1) / 2))
theorem Rs.done0 {l : List It} (h : Rs l 0) : Heap l := fun i h0 hi => h.2.1 i h0 hi (by omega)
theorem Rs.done {l : List It} {a : Nat} (h : Rs l a) (hl : (hat l ((a - 1) / 2)).lt (hat l a)) : Heap l := fun i h0 hi => by
  by_cases e : i = a
  · subst e; exact hl.asym
  · exact h.2.1 i h0 hi e
theorem Rs.up {l : List It} {a : Nat} (h : Rs l a) (ha : 0 < a) (hl : ¬ (hat l ((a - 1) / 2)).lt (hat l a)) : Rs (swp l a ((a - 1) / 2)) ((a - 1) / 2) := by
  obtain ⟨h1, h2, h3⟩ := h
  have hu : (a - 1) / 2 < l.length := by omega
  refine ⟨by rw [swp_len]; exact hu, fun i h0 hi hne => ?_, fun i h0 hi he hp => ?_⟩
  · rw [swp_len] at hi
    rw [swp_at h1 hu, swp_at h1 hu, if_neg hne]
    by_cases ia : i = a
    · subst ia; rw [if_pos rfl, if_pos rfl]; exact hl
    · rw [if_neg ia]
      by_cases e1 : (i - 1) / 2 = (a - 1) / 2
      · rw [if_pos e1]
        have := h2 i h0 hi ia
        rw [e1] at this
        exact It.nlt_trans this hl
      · rw [if_neg e1]
        by_cases e2 : (i - 1) / 2 = a
        · rw [if_pos e2]; exact h3 i h0 hi e2 ha
        · rw [if_neg e2]; exact h2 i h0 hi ia
  · rw [swp_len] at hi
    have hu2 : ((a - 1) / 2 - 1) / 2 ≠ (a - 1) / 2 := by omega
    have hu3 : ((a - 1) / 2 - 1) / 2 ≠ a := by omega
    have hq := h2 ((a - 1) / 2) hp hu (by omega)
    rw [swp_at h1 hu, swp_at h1 hu, if_neg hu2, if_neg hu3, if_neg (show i ≠ (a - 1) / 2 by omega)]
    by_cases ia : i = a
    · rw [if_pos ia]; exact hq
    · rw [if_neg ia]
      have := h2 i h0 hi ia
      rw [he] at this
      exact It.nlt_trans this hq
theorem Heap.push {l : List It} (h : Heap l) (x : It) : Rs (l ++ [x]) l.length := by
  have e : ∀ i, i < l.length → hat (l ++ [x]) i = hat l i := fun i hi => by
    unfold hat; simp [List.getD, List.getElem?_append_left hi]
  refine ⟨by simp, fun i h0 hi hne => ?_, fun i h0 hi he hp => ?_⟩
  · simp at hi
    rw [e i (by omega), e _ (by omega)]; exact h i h0 (by omega)
  · simp at hi; omega
/-- A heap but for the place a, from which something goes down. -/
def Sn (l : List It) (a : Nat) : Prop := (∀ i, 0 < i → i < l.length → (i - 1) / 2 ≠ a → ¬ (hat l i).lt (hat l ((i - 1) / 2))) ∧ ∀ i, 0 < i → i < l.length → (i - 1) / 2 = a → 0 < a → ¬ (hat l i).lt (hat l ((a - 1) / 2))
/-- The least of a place and of those below it up to k. -/
def Fst (l : List It) (a k f : Nat) : Prop := (f = a ∨ 2 * a + 1 ≤ f ∧ f < k ∧ f < l.length ∧ (hat l f).lt (hat l a)) ∧ ∀ i, 2 * a + 1 ≤ i → i < k → i < l.length → ¬ (hat l i).lt (hat l f)
theorem Fst.begin (l : List It) (a : Nat) : Fst l a (2 * a + 1) a := ⟨.inl rfl, fun i _ _ => by omega⟩
theorem Fst.no {l : List It} {a k f : Nat} (h : Fst l a k f) (hk : ¬ (hat l k).lt (hat l f)) : Fst l a (k + 1) f := by
  refine ⟨h.1.imp id (fun h => ⟨h.1, by omega, h.2.2⟩), fun i h1 h2 h3 => ?_⟩
  by_cases e : i = k
  · subst e; exact hk
  · exact h.2 i h1 (by omega) h3
theorem Fst.yes {l : List It} {a k f : Nat} (h : Fst l a k f) (h1 : 2 * a + 1 ≤ k) (hl : k < l.length) (hk : (hat l k).lt (hat l f)) : Fst l a (k + 1) k := by
  refine ⟨.inr ⟨h1, by omega, hl, ?_⟩, fun i h1 h2 h3 => ?_⟩
  · rcases h.1 with rfl | h
    · exact hk
    · exact It.lt_nlt hk h.2.2.2.asym
  · by_cases e : i = k
    · subst e; unfold It.lt; omega
    · exact It.nlt_trans (h.2 i h1 (by omega) h3) hk.asym
theorem Sn.done {l : List It} {a k : Nat} (h : Sn l a) (hf : Fst l a k a) (hk : 2 * a + 3 ≤ k ∨ l.length ≤ k) : Heap l := fun i h0 hi => by
  by_cases e : (i - 1) / 2 = a
  · rw [e]; exact hf.2 i (by omega) (by omega) hi
  · exact h.1 i h0 hi e
theorem Sn.down {l : List It} {a k f : Nat} (h : Sn l a) (ha : a < l.length) (hf : Fst l a k f) (hk : 2 * a + 3 ≤ k ∨ l.length ≤ k) (hk3 : k ≤ 2 * a + 3) (hne : f ≠ a) : Sn (swp l a f) f := by
  rcases hf with ⟨hf | ⟨f1, f2, f3, f4⟩, f5⟩
  · exact absurd hf hne
  have hp : (f - 1) / 2 = a := by omega
  refine ⟨fun i h0 hi hni => ?_, fun i h0 hi he hf0 => ?_⟩
  · rw [swp_len] at hi
    rw [swp_at ha f3, swp_at ha f3, if_neg hni]
    by_cases e1 : i = f
    · subst e1; rw [if_pos rfl, if_pos hp]; exact f4.asym
    · rw [if_neg e1]
      by_cases e2 : i = a
      · rw [if_pos e2, if_neg (show (i - 1) / 2 ≠ a by omega)]
        subst e2
        exact h.2 f (by omega) f3 hp h0
      · rw [if_neg e2]
        by_cases e3 : (i - 1) / 2 = a
        · rw [if_pos e3]; exact f5 i (by omega) (by omega) hi
        · rw [if_neg e3]; exact h.1 i h0 hi e3
  · rw [swp_len] at hi
    rw [swp_at ha f3, swp_at ha f3, hp, if_neg (show a ≠ f by omega), if_pos rfl, if_neg (show i ≠ f by omega), if_neg (show i ≠ a by omega)]
    have := h.1 i h0 hi (by omega)
    rw [he] at this
    exact this
/-- What is left of a heap behind the first one: the last one stands in its place. -/
def popL (l : List It) : List It := (l.set 0 (hat l (l.length - 1))).take (l.length - 1)
theorem popL_len (l : List It) : (popL l).length = l.length - 1 := by simp [popL]
theorem popL_at {l : List It} {i : Nat} (hi : i < l.length - 1) : hat (popL l) i = if i = 0 then hat l (l.length - 1) else hat l i := by
  have : hat (popL l) i = hat (l.set 0 (hat l (l.length - 1))) i := by
    unfold popL; rw [show ∀ m : List It, hat (m.take (l.length - 1)) i = hat m i from fun m => by unfold hat; simp [List.getD, hi]]
  rw [this, hat_set (by omega)]
theorem Heap.pop {l : List It} (h : Heap l) : Sn (popL l) 0 := by
  refine ⟨fun i h0 hi hne => ?_, fun i h0 hi he hp => by omega⟩
  rw [popL_len] at hi
  rw [popL_at hi, popL_at (by omega), if_neg (by omega), if_neg hne]
  exact h i h0 (by omega)
theorem popL_perm {l : List It} (h : l ≠ []) : (hat l 0 :: popL l).Perm l := by
  match l, h with
  | [a], _ => simp [popL, hat]
  | a :: b :: m, _ =>
    have e : popL (a :: b :: m) = (b :: m).getLast (by simp) :: (b :: m).dropLast := by
      unfold popL
      have h1 : hat (a :: b :: m) ((a :: b :: m).length - 1) = (b :: m).getLast (by simp) := by
        rw [hat_get (by simp), List.getLast_eq_getElem]; simp
      rw [h1]
      simp [List.dropLast_eq_take]
    rw [e]
    show (a :: _).Perm _
    refine List.Perm.cons a ?_
    have := List.dropLast_concat_getLast (l := b :: m) (by simp)
    have p := List.perm_append_comm (l₁ := (b :: m).dropLast) (l₂ := [(b :: m).getLast (by simp)])
    rw [this] at p
    exact p.symm
/-- The row j tells the least of what the rows hold: c, and then u. -/
def Pk {α : Type} (k : α → Int) (rs : List (List α)) (j : Nat) (c : α) (u : List α) : Prop := rs[j]? = some (c :: u) ∧ ∀ (i : Nat) (d : α) (v : List α), rs[i]? = some (d :: v) → k c < k d ∨ k c = k d ∧ j ≤ i
theorem Pk.uniq {α : Type} {k : α → Int} {rs : List (List α)} {j j' : Nat} {c c' : α} {u u' : List α} (h : Pk k rs j c u) (h' : Pk k rs j' c' u') : j = j' ∧ c = c' ∧ u = u' := by
  have a := h.2 _ _ _ h'.1
  have b := h'.2 _ _ _ h.1
  have e : j = j' := by omega
  subst e
  have := h.1.symm.trans h'.1
  simp only [Option.some.injEq, List.cons.injEq] at this
  exact ⟨rfl, this⟩
/-- Rows as one. -/
inductive Mrg {α : Type} (k : α → Int) : List (List α) → List α → Prop where
  | nil {rs : List (List α)} : (∀ (i : Nat) (d : α) (v : List α), rs[i]? ≠ some (d :: v)) → Mrg k rs []
  | cons {rs : List (List α)} {j : Nat} {c : α} {u out : List α} : Pk k rs j c u → Mrg k (rs.set j u) out → Mrg k rs (c :: out)
theorem Mrg.uniq {α : Type} {k : α → Int} {rs : List (List α)} {a b : List α} (h : Mrg k rs a) (h' : Mrg k rs b) : a = b := by
  induction h generalizing b with
  | nil h =>
    cases h' with
    | nil _ => rfl
    | cons p _ => exact absurd p.1 (h _ _ _)
  | cons p _ ih =>
    cases h' with
    | nil h => exact absurd p.1 (h _ _ _)
    | cons p' m' =>
      obtain ⟨rfl, rfl, rfl⟩ := p.uniq p'
      rw [ih m']
/-- How many changes the rows have. -/
def tot {α : Type} (rs : List (List α)) : Nat := (rs.map List.length).sum
theorem tot_set {α : Type} {rs : List (List α)} {j : Nat} {c : α} {u : List α} (h : rs[j]? = some (c :: u)) : tot rs = tot (rs.set j u) + 1 := by
  induction rs generalizing j with
  | nil => simp at h
  | cons r rs ih =>
    cases j with
    | zero => simp at h; subst h; simp [tot]; omega
    | succ j => simp at h; have := ih h; simp [tot] at *; omega
theorem tot_zero {α : Type} {rs : List (List α)} (h : ∀ (i : Nat) (d : α) (v : List α), rs[i]? ≠ some (d :: v)) : tot rs = 0 := by
  induction rs with
  | nil => rfl
  | cons r rs ih =>
    have h0 : r = [] := by
      cases r with
      | nil => rfl
      | cons d v => exact absurd rfl (h 0 d v)
    subst h0
    have := ih (fun i d v => h (i + 1) d v)
    simp [tot] at *; exact this
theorem Mrg.len {α : Type} {k : α → Int} {rs : List (List α)} {a : List α} (h : Mrg k rs a) : a.length = tot rs := by
  induction h with
  | nil h => rw [tot_zero h]; rfl
  | cons p _ ih => rw [tot_set p.1, ← ih]; rfl
/-- The items of a heap: of each row that holds something one. -/
structure Its {α : Type} (k : α → Int) (rs : List (List α)) (tn : Nat → Int) (P : Nat → Nat) (L : List It) : Prop where
  nd : (L.map It.t).Nodup
  mem : ∀ x, x ∈ L ↔ ∃ j c u, rs[j]? = some (c :: u) ∧ x = ⟨k c, tn j, P j⟩
theorem Its.perm {α : Type} {k : α → Int} {rs : List (List α)} {tn : Nat → Int} {P : Nat → Nat} {L L' : List It} (h : Its k rs tn P L) (p : L'.Perm L) : Its k rs tn P L' :=
  ⟨(p.map It.t).nodup_iff.2 h.nd, fun x => p.mem_iff.trans (h.mem x)⟩
/-- The numbers rise. -/
def Tn (tn : Nat → Int) (n : Nat) : Prop := ∀ i j, i < j → j < n → tn i < tn j
theorem Its.least {α : Type} {k : α → Int} {rs : List (List α)} {tn : Nat → Int} {P : Nat → Nat} {L : List It} (h : Its k rs tn P L) (hh : Heap L) (ht : Tn tn rs.length) (hL : L ≠ []) : ∃ j c u, Pk k rs j c u ∧ hat L 0 = ⟨k c, tn j, P j⟩ := by
  have h0 : 0 < L.length := List.length_pos_iff.2 hL
  obtain ⟨j, c, u, e1, e2⟩ := (h.mem _).1 (hat_mem h0)
  refine ⟨j, c, u, ⟨e1, fun i d v hi => ?_⟩, e2⟩
  have hm : (⟨k d, tn i, P i⟩ : It) ∈ L := (h.mem _).2 ⟨i, d, v, hi, rfl⟩
  obtain ⟨m, hm1, hm2⟩ := List.getElem_of_mem hm
  have := hh.least m hm1
  rw [hat_get hm1, hm2, e2] at this
  unfold It.lt at this
  simp only at this
  have hij : i < j → tn i < tn j := fun hij => ht i j hij (List.getElem?_eq_some_iff.1 e1).1
  omega
theorem Its.none {α : Type} {k : α → Int} {rs : List (List α)} {tn : Nat → Int} {P : Nat → Nat} (h : Its k rs tn P []) : ∀ (i : Nat) (d : α) (v : List α), rs[i]? ≠ some (d :: v) := fun i d v e => by
  have := (h.mem ⟨k d, tn i, P i⟩).2 ⟨i, d, v, e, rfl⟩
  simp at this
theorem tn_inj {tn : Nat → Int} {n i j : Nat} (ht : Tn tn n) (hi : i < n) (hj : j < n) (e : tn i = tn j) : i = j := by
  rcases Nat.lt_trichotomy i j with h | h | h
  · have := ht i j h hj; omega
  · exact h
  · have := ht j i h hi; omega
/-- The first one is taken off: its row holds nothing. -/
theorem Its.pop {α : Type} {k : α → Int} {rs : List (List α)} {tn : Nat → Int} {P : Nat → Nat} {L L' : List It} {x : It} {j : Nat} {c : α} {u : List α} (h : Its k rs tn P (x :: L)) (ht : Tn tn rs.length) (hj : rs[j]? = some (c :: u)) (hx : x = ⟨k c, tn j, P j⟩) (p : L'.Perm L) : Its k (rs.set j []) tn P L' := by
  have hjl : j < rs.length := (List.getElem?_eq_some_iff.1 hj).1
  refine Its.perm (L := L) ⟨(List.nodup_cons.1 h.nd).2, fun y => ?_⟩ p
  have hn := (List.nodup_cons.1 h.nd).1
  constructor
  · intro hy
    obtain ⟨i, d, v, e1, e2⟩ := (h.mem y).1 (List.mem_cons_of_mem _ hy)
    have : i ≠ j := fun e => by
      subst e
      refine hn (List.mem_map.2 ⟨y, hy, ?_⟩)
      rw [e2, hx]
    exact ⟨i, d, v, by rw [List.getElem?_set_ne (Ne.symm this)]; exact e1, e2⟩
  · rintro ⟨i, d, v, e1, e2⟩
    have : i ≠ j := fun e => by
      subst e
      rw [List.getElem?_set_self hjl] at e1
      simp at e1
    rw [List.getElem?_set_ne (Ne.symm this)] at e1
    have := (h.mem y).2 ⟨i, d, v, e1, e2⟩
    rcases List.mem_cons.1 this with e | e
    · exfalso
      rw [e, hx] at e2
      injection e2 with _ e3 _
      have := tn_inj ht hjl (List.getElem?_eq_some_iff.1 e1).1 e3
      omega
    · exact e
/-- A row that held nothing holds something. -/
theorem Its.push {α : Type} {k : α → Int} {rs : List (List α)} {tn : Nat → Int} {P : Nat → Nat} {L : List It} {j : Nat} (h : Its k rs tn P L) (ht : Tn tn rs.length) (hj : rs[j]? = some []) (d : α) (v : List α) : Its k (rs.set j (d :: v)) tn P (L ++ [⟨k d, tn j, P j⟩]) := by
  have hjl : j < rs.length := (List.getElem?_eq_some_iff.1 hj).1
  constructor
  · rw [List.map_append, List.nodup_append]
    refine ⟨h.nd, by simp, fun a ha b hb e => ?_⟩
    simp at hb
    obtain ⟨y, hy, e1⟩ := List.mem_map.1 ha
    obtain ⟨i, c, u, e2, e3⟩ := (h.mem y).1 hy
    have : tn i = tn j := by rw [← hb, ← e, ← e1, e3]
    have := tn_inj ht (List.getElem?_eq_some_iff.1 e2).1 hjl this
    subst this
    rw [hj] at e2
    simp at e2
  · intro x
    rw [List.mem_append]
    constructor
    · rintro (hx | hx)
      · obtain ⟨i, c, u, e2, e3⟩ := (h.mem x).1 hx
        have : i ≠ j := fun e => by subst e; rw [hj] at e2; simp at e2
        exact ⟨i, c, u, by rw [List.getElem?_set_ne (Ne.symm this)]; exact e2, e3⟩
      · simp at hx
        exact ⟨j, d, v, by rw [List.getElem?_set_self hjl], hx⟩
    · rintro ⟨i, c, u, e1, e2⟩
      by_cases e : i = j
      · subst e
        rw [List.getElem?_set_self hjl] at e1
        simp at e1
        right; simp [e2, e1.1]
      · rw [List.getElem?_set_ne (Ne.symm e)] at e1
        exact .inl ((h.mem x).2 ⟨i, c, u, e1, e2⟩)
/-- A row more, that holds nothing. -/
theorem Its.more {α : Type} {k : α → Int} {rs : List (List α)} {tn : Nat → Int} {P : Nat → Nat} {L : List It} (h : Its k rs tn P L) : Its k (rs ++ [[]]) tn P L := by
  refine ⟨h.nd, fun x => (h.mem x).trans ?_⟩
  constructor
  · rintro ⟨j, c, u, e1, e2⟩
    exact ⟨j, c, u, by rw [List.getElem?_append_left (List.getElem?_eq_some_iff.1 e1).1]; exact e1, e2⟩
  · rintro ⟨j, c, u, e1, e2⟩
    by_cases hj : j < rs.length
    · rw [List.getElem?_append_left hj] at e1; exact ⟨j, c, u, e1, e2⟩
    · rw [List.getElem?_append_right (by omega)] at e1
      exfalso
      by_cases h0 : j - rs.length = 0
      · rw [h0] at e1; simp at e1
      · rw [List.getElem?_eq_none (by simp; omega)] at e1; cases e1
theorem its_nil {α : Type} (k : α → Int) (tn : Nat → Int) (P : Nat → Nat) : Its k ([] : List (List α)) tn P [] := ⟨by simp, fun x => by simp⟩
/-- Numbers and rows of rows that hold something alone are looked at. -/
theorem Its.ext {α : Type} {k : α → Int} {rs : List (List α)} {tn tn' : Nat → Int} {P P' : Nat → Nat} {L : List It} (h : Its k rs tn P L) (h1 : ∀ j, j < rs.length → tn j = tn' j) (h2 : ∀ j, j < rs.length → P j = P' j) : Its k rs tn' P' L := by
  refine ⟨h.nd, fun x => (h.mem x).trans ?_⟩
  constructor
  · rintro ⟨j, c, u, e1, e2⟩
    have := (List.getElem?_eq_some_iff.1 e1).1
    exact ⟨j, c, u, e1, by rw [← h1 j this, ← h2 j this]; exact e2⟩
  · rintro ⟨j, c, u, e1, e2⟩
    have := (List.getElem?_eq_some_iff.1 e1).1
    exact ⟨j, c, u, e1, by rw [h1 j this, h2 j this]; exact e2⟩
end Go.Proofs.Ytmnhkgibplnnnaa
