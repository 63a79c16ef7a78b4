import Derived.Test.YtececlalnkiafaaCPure
/- A history as mathematics: of each number its notes. -/
namespace Go.Proofs.Ytececlalnkiafaa
open Go

/-- A note: from where on, is the table there, the table, where its columns lie. -/
structure Nt where
  l : Int
  th : Bool
  t : Tbl
  ao : Option Addr
  c : Nat
def ntZ : Nt := ⟨0, false, ⟨0, 0, ⟨#[]⟩, [], 0⟩, none, 0⟩
/-- How many notes are not above a position, gone through from the newest one. -/
def upL : List Nt → Int → Nat
  | [], _ => 0
  | n :: r, x => if upL r x = 0 then (if n.l ≤ x then 1 else 0) else upL r x + 1
def wasL (K : List Nt) (x : Int) : Nt := if upL K x = 0 then ntZ else (K[upL K x - 1]?).getD ntZ
theorem upL_le : ∀ (K : List Nt) (x : Int), upL K x ≤ K.length
  | [], _ => Nat.le_refl _
  | n :: r, x => by
    have := upL_le r x
    unfold upL
    split
    · split <;> simp
    · simp; omega
theorem upL_spec : ∀ (K : List Nt) (x : Int), (∀ j n, K[j]? = some n → upL K x ≤ j → x < n.l) ∧ (∀ j n, K[j]? = some n → upL K x = j + 1 → n.l ≤ x)
  | [], _ => ⟨fun j n h => by simp at h, fun j n h => by simp at h⟩
  | m :: r, x => by
    obtain ⟨h1, h2⟩ := upL_spec r x
    have e : upL (m :: r) x = if upL r x = 0 then (if m.l ≤ x then 1 else 0) else upL r x + 1 := rfl
    rw [e]
    by_cases hu : upL r x = 0
    · rw [if_pos hu]
      by_cases hm : m.l ≤ x
      · rw [if_pos hm]
        refine ⟨fun j n hn hj => ?_, fun j n hn hj => ?_⟩
        · obtain ⟨j', rfl⟩ : ∃ j', j = j' + 1 := ⟨j - 1, by omega⟩
          exact h1 j' n (by simpa using hn) (by omega)
        · obtain rfl : j = 0 := by omega
          simp at hn; subst hn; exact hm
      · rw [if_neg hm]
        refine ⟨fun j n hn hj => ?_, fun j n hn hj => by omega⟩
        cases j with
        | zero => simp at hn; subst hn; omega
        | succ j' => exact h1 j' n (by simpa using hn) (by omega)
    · rw [if_neg hu]
      refine ⟨fun j n hn hj => ?_, fun j n hn hj => ?_⟩
      · obtain ⟨j', rfl⟩ : ∃ j', j = j' + 1 := ⟨j - 1, by omega⟩
        exact h1 j' n (by simpa using hn) (by omega)
      · obtain ⟨j', rfl⟩ : ∃ j', j = j' + 1 := ⟨j - 1, by omega⟩
        exact h2 j' n (by simpa using hn) (by omega)
theorem upL_eq {K : List Nt} {x : Int} {u : Nat} (hu : u ≤ K.length) (h1 : ∀ j n, K[j]? = some n → u ≤ j → x < n.l) (h2 : ∀ j n, K[j]? = some n → u = j + 1 → n.l ≤ x) : upL K x = u := by
  obtain ⟨s1, s2⟩ := upL_spec K x
  have hle := upL_le K x
  rcases Nat.lt_trichotomy (upL K x) u with h | h | h
  · obtain ⟨n, hn⟩ : ∃ n, K[u - 1]? = some n := ⟨_, List.getElem?_eq_getElem (by omega)⟩
    have a := s1 (u - 1) n hn (by omega)
    have b := h2 (u - 1) n hn (by omega)
    omega
  · exact h
  · obtain ⟨n, hn⟩ : ∃ n, K[upL K x - 1]? = some n := ⟨_, List.getElem?_eq_getElem (by omega)⟩
    have a := h1 (upL K x - 1) n hn (by omega)
    have b := s2 (upL K x - 1) n hn (by omega)
    omega
theorem wasL_mem {K : List Nt} {x : Int} (h : upL K x ≠ 0) : wasL K x ∈ K := by
  unfold wasL
  rw [if_neg h]
  have hle := upL_le K x
  rw [List.getElem?_eq_getElem (by omega : upL K x - 1 < K.length)]
  exact List.getElem_mem _
theorem wasL_th {K : List Nt} {x : Int} (h : (wasL K x).th = true) : upL K x ≠ 0 ∧ wasL K x ∈ K := by
  have h0 : upL K x ≠ 0 := fun e => by
    unfold wasL at h
    rw [if_pos e] at h
    cases h
  exact ⟨h0, wasL_mem h0⟩
theorem wasL_nil (x : Int) : wasL [] x = ntZ := rfl

/-- A history: its beginning, the last position, of each number its notes and the place of the first, how many notes there are, how many there ever were. -/
structure Hs where
  b : Int
  l : Int
  K : Int → List Nt
  f : Int → Nat
  sz : Nat
  T : Nat
def updK {α : Type} (K : Int → α) (i : Int) (a : α) : Int → α := fun j => if j = i then a else K j
theorem updK_same {α : Type} (K : Int → α) (i : Int) (a : α) : updK K i a i = a := if_pos rfl
theorem updK_ne {α : Type} (K : Int → α) {i j : Int} (a : α) (h : j ≠ i) : updK K i a j = K j := if_neg h
/-- Behind one more note. -/
def Hs.add (h : Hs) (i : Int) (n : Nt) : Hs := ⟨h.b, n.l, updK h.K i (h.K i ++ [n]), h.f, h.sz + 1, h.T + 1⟩
/-- How many notes of a number a Trim forgets. -/
def fgN (K : List Nt) (x : Int) : Nat := if (wasL K x).th = true then upL K x - 1 else upL K x
theorem fgN_le (K : List Nt) (x : Int) : fgN K x ≤ K.length := by
  have := upL_le K x
  unfold fgN
  split <;> omega
/-- Behind the forgetting of one number. -/
def fgF (h : Hs) (i : Int) : Nat := if (h.K i).length = fgN (h.K i) h.b then 0 else h.f i + fgN (h.K i) h.b
def Hs.fg (h : Hs) (i : Int) : Hs := ⟨h.b, h.l, updK h.K i ((h.K i).drop (fgN (h.K i) h.b)), updK h.f i (fgF h i), h.sz - fgN (h.K i) h.b, h.T⟩
/-- How many notes numbers have together. -/
def sumL (K : Int → List Nt) (ids : List Int) : Nat := (ids.map (fun i => (K i).length)).sum
theorem sumL_cons (K : Int → List Nt) (a : Int) (r : List Int) : sumL K (a :: r) = (K a).length + sumL K r := by simp [sumL]
theorem sumL_other (K : Int → List Nt) (i : Int) (l : List Nt) : ∀ ids : List Int, i ∉ ids → sumL (updK K i l) ids = sumL K ids
  | [], _ => rfl
  | a :: r, h => by
    rw [sumL_cons, sumL_cons, sumL_other K i l r (fun e => h (.tail _ e)), updK_ne _ _ (fun e => h (by rw [e]; exact .head _))]
theorem sumL_upd (K : Int → List Nt) (i : Int) (l : List Nt) : ∀ ids : List Int, ids.Nodup → i ∈ ids → sumL (updK K i l) ids + (K i).length = sumL K ids + l.length
  | [], _, h => by cases h
  | a :: r, hn, h => by
    obtain ⟨h1, h2⟩ := List.nodup_cons.1 hn
    rw [sumL_cons, sumL_cons]
    rcases List.mem_cons.1 h with e | e
    · subst e
      rw [sumL_other K i l r h1, updK_same]
      omega
    · have hne : a ≠ i := fun e2 => h1 (by rw [e2]; exact e)
      have := sumL_upd K i l r h2 e
      rw [updK_ne _ _ hne]
      omega
def Tot (K : Int → List Nt) (sz : Nat) : Prop := ∀ ids : List Int, ids.Nodup → sumL K ids ≤ sz
theorem Tot.add {K : Int → List Nt} {sz : Nat} (h : Tot K sz) (i : Int) (n : Nt) : Tot (updK K i (K i ++ [n])) (sz + 1) := fun ids hn => by
  by_cases hi : i ∈ ids
  · have h1 := sumL_upd K i (K i ++ [n]) ids hn hi
    have h2 := h ids hn
    rw [List.length_append, List.length_singleton] at h1
    omega
  · rw [sumL_other K i _ ids hi]
    have := h ids hn
    omega
theorem Tot.fg {K : Int → List Nt} {sz : Nat} (h : Tot K sz) (i : Int) (u : Nat) (hu : u ≤ (K i).length) : Tot (updK K i ((K i).drop u)) (sz - u) := fun ids hn => by
  by_cases hi : i ∈ ids
  · have h1 := sumL_upd K i ((K i).drop u) ids hn hi
    have h2 := h ids hn
    rw [List.length_drop] at h1
    omega
  · rw [sumL_other K i _ ids hi]
    have := h (i :: ids) (List.nodup_cons.2 ⟨hi, hn⟩)
    rw [sumL_cons] at this
    omega
end Go.Proofs.Ytececlalnkiafaa
