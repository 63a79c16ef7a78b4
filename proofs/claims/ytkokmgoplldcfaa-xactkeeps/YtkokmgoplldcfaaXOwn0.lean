/- XactOwn: what it is about, as mathematics. -/
import Derived.Test.YtkokmgoplldcfaaXFin2
namespace Go.Proofs.Ytkokmgoplldcfaa
open Go.RowKit Go Go.Sort

/-- The manager of the law. -/
def owS (s : Nat) (on : List Nat) (ps : List Pt) : Mg := ⟨3 + ps.length, on, [⟨1, s, ps⟩, ⟨2, 1, []⟩]⟩
def Num (ps : List Pt) : Prop := ∀ (i : Nat) p, ps[i]? = some p → p.x = i + 3
theorem Num.nil : Num [] := fun i p h => by simp at h
theorem Num.snoc {ps : List Pt} (h : Num ps) (i : Int) (f : Nat) : Num (ps ++ [⟨3 + ps.length, i, f⟩]) := fun j p hp => by
  rcases Nat.lt_trichotomy j ps.length with h1 | h1 | h1
  · rw [List.getElem?_append_left h1] at hp; exact h j p hp
  · rw [h1, List.getElem?_append_right (Nat.le_refl _)] at hp
    simp at hp
    subst hp
    simp only; omega
  · rw [List.getElem?_append_right (by omega), List.getElem?_eq_none (by simp; omega)] at hp
    cases hp
theorem Num.endPs {ps : List Pt} (h : Num ps) (o : Int) (f : Nat) : Num (endPs ps o f) := fun j p hp => by
  simp only [Go.Proofs.Ytkokmgoplldcfaa.endPs, List.getElem?_mapIdx] at hp
  cases hq : ps[j]? with
  | none => rw [hq] at hp; cases hp
  | some q =>
    rw [hq] at hp
    simp only [Option.map_some, Option.some.injEq] at hp
    have := h j q hq
    subst hp
    split <;> exact this
theorem idx_num : ∀ (ps : List Pt) (o i : Nat) (p : Pt), (∀ (i : Nat) p, ps[i]? = some p → p.x = i + o) → ps[i]? = some p → idx ps ((i + o : Nat) : Int) = some i
  | [], o, i, p, _, h => by simp at h
  | a :: r, o, 0, p, hN, h => by
    have := hN 0 a rfl
    simp only [idx]
    rw [if_pos (by omega)]
  | a :: r, o, i + 1, p, hN, h => by
    have h0 := hN 0 a rfl
    have ih := idx_num r (o + 1) i p (fun j q hq => by have := hN (j + 1) q (by simpa using hq); omega) (by simpa using h)
    simp only [idx]
    rw [if_neg (by omega)]
    have e : ((i + 1 + o : Nat) : Int) = ((i + (o + 1) : Nat) : Int) := by omega
    rw [e, ih]; rfl
section
variable {ps : List Pt} (s : Nat) (on : List Nat)
theorem ow_1 : fnd (owS s on ps).tx 1 = some (⟨1, s, ps⟩, -1) := by simp [owS, fnd]
theorem ow_2 (h : Num ps) : fnd (owS s on ps).tx 2 = some (⟨2, 1, []⟩, -1) := by
  have : idx ps 2 = none := idx_no (fun p hp => by
    obtain ⟨i, hi⟩ := List.mem_iff_getElem?.1 hp
    have := h i p hi
    omega)
  simp [owS, fnd, this]
theorem ow_p (h : Num ps) {i : Nat} {p : Pt} (hp : ps[i]? = some p) : fnd (owS s on ps).tx ((i + 3 : Nat) : Int) = some (⟨1, s, ps⟩, (i : Int)) := by
  have := idx_num ps 3 i p h hp
  simp only [owS, fnd]
  rw [if_neg (by omega), this]
end
theorem mem_surv {ps : List Pt} (h : Num ps) {i : Nat} {p : Pt} (hp : ps[i]? = some p) : i + 3 ∈ survL 1 ps ↔ p.ft ≠ 2 := by
  unfold survL
  rw [List.mem_map]
  constructor
  · rintro ⟨q, hq, e⟩
    obtain ⟨hq1, hq2⟩ := List.mem_filter.1 hq
    obtain ⟨j, hj⟩ := List.mem_iff_getElem?.1 hq1
    have := h j q hj
    have : j = i := by omega
    subst this
    rw [hj] at hp
    injection hp with hp
    subst hp
    intro e
    simp [e] at hq2
  · intro hf
    exact ⟨p, List.mem_filter.2 ⟨List.mem_of_getElem? hp, by simp [hf]⟩, h i p hp⟩
theorem surv_at {ps : List Pt} (h : Num ps) {x : Nat} (hx : x ∈ survL 1 ps) : ∃ i p, x = i + 3 ∧ ps[i]? = some p ∧ p.ft ≠ 2 := by
  unfold survL at hx
  obtain ⟨q, hq, e⟩ := List.mem_map.1 hx
  obtain ⟨hq1, hq2⟩ := List.mem_filter.1 hq
  obtain ⟨j, hj⟩ := List.mem_iff_getElem?.1 hq1
  have := h j q hj
  refine ⟨j, q, by omega, hj, fun e => ?_⟩
  simp [e] at hq2
/-- Is it one of those that are seen? -/
def inE (ps : List Pt) (j : Nat) : Bool := decide (j = 1 ∨ j ∈ survL 1 ps)
theorem ow_in {ps : List Pt} (h : Num ps) {j : Nat} (s : Nat) (on : List Nat) (h1 : 1 ≤ j) (h2 : j < 3 + ps.length) (hj : j ≠ 2) : ∃ i, fnd (owS s on ps).tx (j : Int) = some (⟨1, s, ps⟩, i) ∧ stE (some (⟨1, s, ps⟩, i)) = if inE ps j then s else 4 := by
  by_cases hj1 : j = 1
  · subst hj1
    exact ⟨-1, ow_1 s on, by simp [stE, fate, inE]⟩
  · obtain ⟨i, rfl⟩ : ∃ i, j = i + 3 := ⟨j - 3, by omega⟩
    obtain ⟨p, hp⟩ : ∃ p, ps[i]? = some p := ⟨_, List.getElem?_eq_getElem (by omega)⟩
    refine ⟨i, ow_p s on h hp, ?_⟩
    have hm := mem_surv h hp
    by_cases hf : p.ft = 2
    · have e : inE ps (i + 3) = false := decide_eq_false (fun e => e.elim (by omega) (fun e => hm.1 e hf))
      rw [e]
      simp [stE, fate, hp, hf]
    · have e : inE ps (i + 3) = true := decide_eq_true (Or.inr (hm.2 hf))
      rw [e]
      simp [stE, fate, hp, hf]
theorem ow_own {ps : List Pt} (h : Num ps) {x : Nat} (s : Nat) (on : List Nat) (hx : x = 1 ∨ x ∈ survL 1 ps) : ∃ i, fnd (owS s on ps).tx (x : Int) = some (⟨1, s, ps⟩, i) := by
  rcases hx with rfl | hx
  · exact ⟨-1, ow_1 s on⟩
  · obtain ⟨i, p, rfl, hp, _⟩ := surv_at h hx
    exact ⟨i, ow_p s on h hp⟩
/-- Its own see it. -/
theorem ow_sees_own {ps : List Pt} (h : Num ps) {j x : Nat} {s : Nat} (on : List Nat) (mn mx : Int) (l : List Int) (hs : s ≠ 4) (h1 : 1 ≤ j) (h2 : j < 3 + ps.length) (hj : j ≠ 2) (hx : x = 1 ∨ x ∈ survL 1 ps) : (owS s on ps).sees mn mx l x j = inE ps j := by
  obtain ⟨i, e1, e2⟩ := ow_in h s on h1 h2 hj
  obtain ⟨i', e3⟩ := ow_own h s on hx
  simp only [Mg.sees, e1, e2, e3, sameTx]
  cases inE ps j <;> simp [hs]
/-- Another one sees it, if it is committed, by the snapshot. -/
theorem ow_sees_two {ps : List Pt} (h : Num ps) {j : Nat} {s : Nat} (on : List Nat) (mn mx : Int) (l : List Int) (h1 : 1 ≤ j) (h2 : j < 3 + ps.length) (hj : j ≠ 2) : (owS s on ps).sees mn mx l 2 j = (inE ps j && (decide (s = 3) && (decide ((1 : Int) < mx) && !decide ((1 : Int) ∈ l)))) := by
  obtain ⟨i, e1, e2⟩ := ow_in h s on h1 h2 hj
  simp only [Mg.sees, e1, e2, ow_2 s on h, sameTx]
  cases inE ps j <;> simp
/-- What the law does with it. -/
theorem ow_part {ps : List Pt} (i : Int) : (owS 1 [1, 2] ps).part ⟨1, 1, ps⟩ i = owS 1 [1, 2] (ps ++ [⟨3 + ps.length, i, 0⟩]) := by
  simp [owS, Mg.part, upd, addP]; omega
theorem ow_endp {ps : List Pt} (o : Int) (f : Nat) : (owS 1 [1, 2] ps).endp 1 o f = owS 1 [1, 2] (endPs ps o f) := by
  simp [owS, Mg.endp, upd, endPs_len]
theorem ow_prep {ps : List Pt} : (owS 1 [1, 2] ps).prep 1 = owS 2 [1, 2] ps := by
  simp [owS, Mg.prep, upd, setS]
theorem ow_fin {ps : List Pt} (s s' : Nat) : (owS s [1, 2] ps).fin 1 s' = owS s' [2] ps := by
  simp [owS, Mg.fin, upd, setS]
theorem ow_begin : (⟨1, [], []⟩ : Mg).begin.begin = owS 1 [1, 2] [] := by simp [owS, Mg.begin]
end Go.Proofs.Ytkokmgoplldcfaa
