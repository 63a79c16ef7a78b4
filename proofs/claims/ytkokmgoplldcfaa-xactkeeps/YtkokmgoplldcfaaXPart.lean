/- Part. -/
import Derived.Test.YtkokmgoplldcfaaXWith
namespace Go.Proofs.Ytkokmgoplldcfaa
open Go.RowKit Go Go.Sort

def addP (p : Pt) (t : Tx) : Tx := { t with ps := t.ps ++ [p] }
def Mg.part (m : Mg) (t : Tx) (i : Int) : Mg := ⟨m.nx + 1, m.on, upd m.tx t.x (addP ⟨m.nx, i, 0⟩)⟩
theorem mem_upd {L : List Tx} {x : Nat} {f : Tx → Tx} {u : Tx} (h : u ∈ upd L x f) : ∃ t ∈ L, u = if t.x = x then f t else t := by
  obtain ⟨t, ht, e⟩ := List.mem_map.1 h
  exact ⟨t, ht, e.symm⟩
theorem upd_filter (L : List Tx) (x : Nat) (f : Tx → Tx) (hx : ∀ t, (f t).x = t.x) (hs : ∀ t, (f t).st = t.st) : ((upd L x f).filter (fun t => t.st < 3)).map (·.x) = (L.filter (fun t => t.st < 3)).map (·.x) := by
  induction L with
  | nil => rfl
  | cons t r ih =>
    simp only [upd, List.map_cons, List.filter_cons] at ih ⊢
    by_cases h : t.x = x
    · simp only [if_pos h, hs]
      by_cases h2 : t.st < 3
      · simp [h2, hx, ih]
      · simp [h2, ih]
    · simp only [if_neg h]
      by_cases h2 : t.st < 3
      · simp [h2, ih]
      · simp [h2, ih]
/-- The transactions' numbers are apart. -/
theorem Wf.uniq {m : Mg} (h : Wf m) : ∀ t ∈ m.tx, ∀ u ∈ m.tx, t.x = u.x → t = u := by
  have key : ∀ L : List Tx, L.Pairwise (fun t u => t.x < u.x) → ∀ t ∈ L, ∀ u ∈ L, t.x = u.x → t = u := by
    intro L
    induction L with
    | nil => intro _ t ht; cases ht
    | cons a r ih =>
      intro hp t ht u hu e
      obtain ⟨h1, h2⟩ := List.pairwise_cons.1 hp
      rcases List.mem_cons.1 ht with e1 | ht' <;> rcases List.mem_cons.1 hu with e2 | hu'
      · rw [e1, e2]
      · have := h1 u hu'; rw [← e1] at this; omega
      · have := h1 t ht'; rw [← e2] at this; omega
      · exact ih h2 t ht' u hu' e
  exact key m.tx h.up
theorem Wf.part {m : Mg} (h : Wf m) {t : Tx} (ht : t ∈ m.tx) {i : Int} (hi : -1 ≤ i ∧ i < t.ps.length) (hn : m.nx ≤ 2147483647) (hl : t.ps.length < 64) : Wf (m.part t i) := by
  have n1 := h.n1
  have hm : ∀ u ∈ (m.part t i).tx, ∃ u0 ∈ m.tx, (u = u0 ∧ u0.x ≠ t.x) ∨ (u0 = t ∧ u = addP ⟨m.nx, i, 0⟩ t) := fun u hu => by
    obtain ⟨u0, hu0, e⟩ := mem_upd hu
    refine ⟨u0, hu0, ?_⟩
    by_cases hx : u0.x = t.x
    · rw [if_pos hx] at e
      have := h.uniq u0 hu0 t ht hx
      subst this
      exact Or.inr ⟨rfl, e⟩
    · rw [if_neg hx] at e
      exact Or.inl ⟨e, hx⟩
  refine ⟨by show 1 ≤ m.nx + 1; omega, by show m.nx + 1 ≤ _; omega, ?_, ?_, ?_, ?_, ?_, ?_, ?_, ?_, ?_⟩
  · intro u hu
    obtain ⟨u0, hu0, ⟨rfl, _⟩ | ⟨rfl, rfl⟩⟩ := hm u hu
    · have := h.lo u hu0; exact ⟨this.1, by show _ < m.nx + 1; omega⟩
    · have := h.lo u0 hu0; exact ⟨this.1, by show u0.x < m.nx + 1; omega⟩
  · intro u hu p hp
    obtain ⟨u0, hu0, ⟨rfl, _⟩ | ⟨rfl, rfl⟩⟩ := hm u hu
    · have := h.pl u hu0 p hp; exact ⟨this.1, by show _ < m.nx + 1; omega⟩
    · rcases List.mem_append.1 hp with hp | hp
      · have := h.pl u0 hu0 p hp; exact ⟨this.1, by show _ < m.nx + 1; omega⟩
      · obtain rfl := List.mem_singleton.1 hp
        exact ⟨(h.lo u0 hu0).2, Nat.lt_succ_self _⟩
  · intro u hu
    obtain ⟨u0, hu0, ⟨rfl, _⟩ | ⟨rfl, rfl⟩⟩ := hm u hu
    · exact h.st u hu0
    · exact h.st u0 hu0
  · intro u hu
    obtain ⟨u0, hu0, ⟨rfl, _⟩ | ⟨rfl, rfl⟩⟩ := hm u hu
    · exact h.ln u hu0
    · simp only [addP, List.length_append, List.length_cons, List.length_nil]; omega
  · intro u hu j p hp
    obtain ⟨u0, hu0, ⟨rfl, _⟩ | ⟨rfl, rfl⟩⟩ := hm u hu
    · exact h.ar u hu0 j p hp
    · simp only [addP] at hp
      rcases Nat.lt_trichotomy j u0.ps.length with h1 | h1 | h1
      · rw [List.getElem?_append_left h1] at hp
        exact h.ar u0 hu0 j p hp
      · rw [h1, List.getElem?_append_right (Nat.le_refl _)] at hp
        simp at hp
        subst hp
        exact ⟨hi.1, by simp only; omega, by simp⟩
      · rw [List.getElem?_append_right (by omega), List.getElem?_eq_none (by simp; omega)] at hp
        cases hp
  · show (upd m.tx t.x (addP ⟨m.nx, i, 0⟩)).Pairwise _
    rw [upd, List.pairwise_map]
    refine h.up.imp (fun {a b} hab => ?_)
    have e : ∀ u : Tx, (if u.x = t.x then addP ⟨m.nx, i, 0⟩ u else u).x = u.x := fun u => by split <;> rfl
    rw [e, e]; exact hab
  · show (upd m.tx t.x (addP ⟨m.nx, i, 0⟩)).Pairwise _
    rw [upd, List.pairwise_map]
    have hap := h.ap.and h.up
    refine (hap.imp_of_mem (fun {a b} ha hb hab => ?_))
    obtain ⟨hab, hlt⟩ := hab
    have e : ∀ u : Tx, (if u.x = t.x then addP ⟨m.nx, i, 0⟩ u else u).x = u.x := fun u => by split <;> rfl
    have hps : ∀ u : Tx, ∀ p ∈ (if u.x = t.x then addP ⟨m.nx, i, 0⟩ u else u).ps, p ∈ u.ps ∨ (u.x = t.x ∧ p.x = m.nx) := fun u p hp => by
      split at hp
      · rename_i hx
        rcases List.mem_append.1 hp with hp | hp
        · exact Or.inl hp
        · obtain rfl := List.mem_singleton.1 hp; exact Or.inr ⟨hx, rfl⟩
      · exact Or.inl hp
    intro p hp
    rw [e]
    have lb := h.lo b hb
    rcases hps a p hp with hp | ⟨hax, hp⟩
    · refine ⟨(hab p hp).1, fun q hq => ?_⟩
      have := h.pl a ha p hp
      rcases hps b q hq with hq | ⟨_, hq⟩
      · exact (hab p hp).2 q hq
      · omega
    · refine ⟨by omega, fun q hq => ?_⟩
      rcases hps b q hq with hq | ⟨hbx, hq⟩
      · have := h.pl b hb q hq; omega
      · omega
  · intro u hu
    obtain ⟨u0, hu0, ⟨rfl, _⟩ | ⟨rfl, rfl⟩⟩ := hm u hu
    · exact h.pu u hu0
    · simp only [addP]
      rw [List.pairwise_append]
      refine ⟨h.pu u0 hu0, by simp, fun p hp q hq => ?_⟩
      obtain rfl := List.mem_singleton.1 hq
      exact (h.pl u0 hu0 p hp).2
  · show m.on = _
    rw [h.on]
    exact (upd_filter m.tx t.x (addP ⟨m.nx, i, 0⟩) (fun _ => rfl) (fun _ => rfl)).symm

theorem fnd_updi (x : Nat) (f : Tx → Tx) (n : Int) (hf : ∀ t, (f t).x = t.x ∧ idx (f t).ps n = idx t.ps n) : ∀ L : List Tx, fnd (upd L x f) n = (fnd L n).map (fun p => (if p.1.x = x then f p.1 else p.1, p.2))
  | [] => rfl
  | t :: r => by
    have ih := fnd_updi x f n hf r
    simp only [upd, List.map_cons, fnd] at ih ⊢
    have e1 : (if t.x = x then f t else t).x = t.x := by split; exact (hf t).1; rfl
    have e2 : idx (if t.x = x then f t else t).ps n = idx t.ps n := by
      split
      · exact (hf t).2
      · rfl
    rw [e1, e2]
    split
    · rfl
    · cases idx t.ps n with
      | some k => rfl
      | none => exact ih
theorem fnd_part_new {m : Mg} (h : Wf m) {t : Tx} (ht : t ∈ m.tx) (i : Int) : fnd (m.part t i).tx m.nx = some (addP ⟨m.nx, i, 0⟩ t, (t.ps.length : Int)) := by
  show fnd (upd m.tx t.x (addP ⟨m.nx, i, 0⟩)) m.nx = _
  have key : ∀ L : List Tx, (∀ u ∈ L, u ∈ m.tx) → t ∈ L → fnd (upd L t.x (addP ⟨m.nx, i, 0⟩)) m.nx = some (addP ⟨m.nx, i, 0⟩ t, (t.ps.length : Int)) := by
    intro L
    induction L with
    | nil => intro _ h; cases h
    | cons u r ih =>
      intro hL hm
      have hu := hL u (by simp)
      have hul := h.lo u hu
      have hun : idx u.ps m.nx = none := idx_no (fun p hp => by have := (h.pl u hu p hp).2; omega)
      simp only [upd, List.map_cons, fnd] at ih ⊢
      have e1 : (if u.x = t.x then addP ⟨m.nx, i, 0⟩ u else u).x = u.x := by split <;> rfl
      rw [e1, if_neg (by omega)]
      by_cases hx : u.x = t.x
      · have e := h.uniq u hu t ht hx
        subst e
        rw [if_pos rfl]
        simp only [addP, idx_snoc, hun]
        simp
      · rw [if_neg hx]
        simp only [hun]
        refine ih (fun v hv => hL v (by simp [hv])) ?_
        rcases List.mem_cons.1 hm with e | hm
        · exact absurd (by rw [e]) hx
        · exact hm
  exact key m.tx (fun _ h => h) ht
theorem fnd_part_old {m : Mg} {t : Tx} (i : Int) {k : Int} (hk : k ≠ m.nx) : fnd (m.part t i).tx k = (fnd m.tx k).map (fun p => (if p.1.x = t.x then addP ⟨m.nx, i, 0⟩ p.1 else p.1, p.2)) := by
  refine fnd_updi t.x (addP ⟨m.nx, i, 0⟩) k (fun u => ⟨rfl, ?_⟩) m.tx
  simp only [addP, idx_snoc]
  cases idx u.ps k with
  | some j => rfl
  | none => simp only; rw [if_neg (fun e => hk e.symm)]
end Go.Proofs.Ytkokmgoplldcfaa
