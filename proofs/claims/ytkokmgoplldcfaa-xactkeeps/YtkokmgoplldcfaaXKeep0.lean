/- XactKeeps: what it is about, as mathematics. -/
import Derived.Test.YtkokmgoplldcfaaXForg3
namespace Go.Proofs.Ytkokmgoplldcfaa
open Go.RowKit Go Go.Sort

/-- A snapshot that is kept. -/
structure Ent where
  mn : Nat
  nx : Nat
  on : List Nat
  se : List Bool
def ints (l : List Nat) : List Int := l.map (fun x : Nat => (x : Int))
theorem mem_ints {l : List Nat} {x : Nat} : ((x : Int) ∈ ints l) ↔ x ∈ l := by
  unfold ints
  rw [List.mem_map]
  exact ⟨fun ⟨y, hy, e⟩ => by have : y = x := by omega
                              rw [← this]; exact hy, fun h => ⟨x, h, rfl⟩⟩
def All (m : Mg) : Prop := ∀ j : Nat, 1 ≤ j → j < m.nx → fnd m.tx (j : Int) ≠ none
theorem no_zero {m : Mg} (h : Wf m) : fnd m.tx 0 = none := fnd_no (fun t ht => ⟨by have := (h.lo t ht).1; omega, fun p hp => by have := (h.pl t ht p hp).1; omega⟩)
/-- What 0 sees. -/
theorem sees_zero {m : Mg} (h : Wf m) (e : Ent) (mn : Int) {j : Int} {t : Tx} {i : Int} (hf : fnd m.tx j = some (t, i)) : m.sees mn e.nx (ints e.on) 0 j = (decide (stE (some (t, i)) = 3) && (decide (t.x < e.nx) && !decide (t.x ∈ e.on))) := by
  simp only [Mg.sees, hf, no_zero h, sameTx]
  have e1 : decide ((t.x : Int) < (e.nx : Int)) = decide (t.x < e.nx) := decide_eq_decide.2 (by omega)
  have e2 : decide ((t.x : Int) ∈ ints e.on) = decide (t.x ∈ e.on) := decide_eq_decide.2 mem_ints
  rw [e1, e2]
  simp
structure EntOK (m : Mg) (e : Ent) : Prop where
  le : e.nx ≤ m.nx
  len : e.se.length = e.nx
  mn : e.mn ≤ e.nx
  mo : ∀ x ∈ e.on, e.mn ≤ x
  ov : ∀ t ∈ m.tx, t.x < e.nx → t.x ∉ e.on → 3 ≤ t.st
  se : ∀ j : Nat, 1 ≤ j → j < m.nx → m.sees e.mn e.nx (ints e.on) 0 j = (decide (j < e.nx) && e.se.getD j false)

/-- A step. -/
structure St (m m' : Mg) : Prop where
  nx : m.nx ≤ m'.nx
  old : ∀ (j : Nat) t i, j < m.nx → fnd m.tx (j : Int) = some (t, i) → ∃ t', fnd m'.tx (j : Int) = some (t', i) ∧ t'.x = t.x ∧ (3 ≤ t.st → t' = t) ∧ (stE (some (t, i)) = 4 → stE (some (t', i)) = 4)
  new : ∀ j : Nat, m.nx ≤ j → j < m'.nx → ∃ t' i, fnd m'.tx (j : Int) = some (t', i) ∧ stE (some (t', i)) ≠ 3
  tx : ∀ t' ∈ m'.tx, (∃ t ∈ m.tx, t.x = t'.x ∧ (3 ≤ t.st → 3 ≤ t'.st)) ∨ m.nx ≤ t'.x
theorem St.refl (m : Mg) : St m m := ⟨Nat.le_refl _, fun j t i _ h => ⟨t, h, rfl, fun _ => rfl, fun h => h⟩, fun j h1 h2 => by omega, fun t ht => Or.inl ⟨t, ht, rfl, fun h => h⟩⟩
theorem St.all {m m' : Mg} (s : St m m') (h : All m) : All m' := fun j h1 h2 => by
  by_cases hj : j < m.nx
  · cases hf : fnd m.tx (j : Int) with
    | none => exact absurd hf (h j h1 hj)
    | some a =>
      obtain ⟨t', e, _⟩ := s.old j a.1 a.2 hj hf
      rw [e]; exact fun e => by cases e
  · obtain ⟨t', i, e, _⟩ := s.new j (by omega) h2
    rw [e]; exact fun e => by cases e
theorem St.ent {m m' : Mg} (s : St m m') (h : Wf m) (h' : Wf m') (ha : All m) {e : Ent} (he : EntOK m e) : EntOK m' e := by
  refine ⟨Nat.le_trans he.le s.nx, he.len, he.mn, he.mo, fun t' ht' hx hn => ?_, fun j h1 h2 => ?_⟩
  · rcases s.tx t' ht' with ⟨t, ht, ex, h3⟩ | hge
    · exact h3 (he.ov t ht (by omega) (by rw [ex]; exact hn))
    · have := he.le; omega
  · by_cases hj : j < m.nx
    · cases hf : fnd m.tx (j : Int) with
      | none => exact absurd hf (ha j h1 hj)
      | some a =>
        obtain ⟨t, i⟩ := a
        obtain ⟨t', e1, ex, e3, _⟩ := s.old j t i hj hf
        rw [← he.se j h1 hj, sees_zero h e _ hf, sees_zero h' e _ e1, ex]
        by_cases hc : t.x < e.nx ∧ t.x ∉ e.on
        · rw [e3 (he.ov t (fnd_mem hf).1 hc.1 hc.2)]
        · have : (decide (t.x < e.nx) && !decide (t.x ∈ e.on)) = false := by
            by_cases c1 : t.x < e.nx
            · have : t.x ∈ e.on := by
                by_cases c2 : t.x ∈ e.on
                · exact c2
                · exact absurd ⟨c1, c2⟩ hc
              simp [this]
            · simp [c1]
          rw [this]; simp
    · obtain ⟨t', i, e1, e2⟩ := s.new j (by omega) h2
      rw [sees_zero h' e _ e1, decide_eq_false e2, decide_eq_false (p := j < e.nx) (by have := he.le; omega)]
      rfl
theorem St.gone {m m' : Mg} (s : St m m') (ha : All m) {j : Nat} (h1 : 1 ≤ j) (hj : j < m.nx) (hs : m.state j = 4) : m'.state j = 4 := by
  cases hf : fnd m.tx (j : Int) with
  | none => exact absurd hf (ha j h1 hj)
  | some a =>
    obtain ⟨t', e, _, _, e4⟩ := s.old j a.1 a.2 hj hf
    have : stE (some (a.1, a.2)) = 4 := by simpa [Mg.state, hf] using hs
    simp [Mg.state, e, e4 this]
theorem stE_four {t : Tx} (h : t.st < 3) (i : Int) : stE (some (t, i)) = 4 ↔ fate t i = 2 := by
  simp only [stE]
  split
  · simp [*]
  · simp [*]; omega
theorem st_begin {m : Mg} (h : Wf m) : St m m.begin := by
  refine ⟨Nat.le_succ _, fun j t i hj hf => ⟨t, ?_, rfl, fun _ => rfl, fun h => h⟩, fun j h1 h2 => ?_, fun t' ht' => ?_⟩
  · rw [fnd_begin h, if_neg (by omega)]; exact hf
  · have : j = m.nx := by have : j < m.nx + 1 := h2; omega
    subst this
    exact ⟨_, _, by rw [fnd_begin h, if_pos rfl], by simp [stE, fate]⟩
  · rcases List.mem_append.1 ht' with ht' | ht'
    · exact Or.inl ⟨t', ht', rfl, fun h => h⟩
    · obtain rfl := List.mem_singleton.1 ht'
      exact Or.inr (Nat.le_refl _)
theorem st_upd {m m' : Mg} (h : Wf m) {t : Tx} (ht : t ∈ m.tx) (hst : t.st < 3) (f : Tx → Tx) (hf : ∀ u, (f u).x = u.x ∧ (f u).ps.map (·.x) = u.ps.map (·.x)) (hfa : ∀ i, fate t i = 2 → fate (f t) i = 2) (hn : m'.nx = m.nx) (hm : m'.tx = upd m.tx t.x f) : St m m' := by
  refine ⟨by omega, fun j u i hj hfu => ?_, fun j h1 h2 => by omega, fun u' hu' => ?_⟩
  · rw [hm, fnd_upd t.x f hf (j : Int) m.tx, hfu]
    simp only [Option.map_some]
    by_cases hx : u.x = t.x
    · have e := h.uniq u (fnd_mem hfu).1 t ht hx
      subst e
      rw [if_pos rfl]
      refine ⟨_, rfl, (hf u).1, fun h3 => by omega, fun h4 => ?_⟩
      have := hfa i ((stE_four hst i).1 h4)
      simp [stE, this]
    · rw [if_neg hx]
      exact ⟨_, rfl, rfl, fun _ => rfl, fun h => h⟩
  · rw [hm] at hu'
    obtain ⟨u, hu, e⟩ := mem_upd hu'
    by_cases hx : u.x = t.x
    · rw [if_pos hx] at e
      have e2 := h.uniq u hu t ht hx
      subst e2
      exact Or.inl ⟨u, hu, by rw [e, (hf u).1], fun h3 => by omega⟩
    · rw [if_neg hx] at e
      exact Or.inl ⟨u, hu, by rw [e], fun h3 => by rw [e]; exact h3⟩
theorem st_endp {m : Mg} (h : Wf m) {t : Tx} (ht : t ∈ m.tx) (hst : t.st < 3) (o : Int) {f : Nat} (hf2 : f ≤ 2) : St m (m.endp t.x o f) := by
  refine st_upd h ht hst (fun t => { t with ps := endPs t.ps o f }) (fun u => ⟨rfl, endPs_x u.ps o f⟩) (fun i hi => ?_) rfl rfl
  unfold fate at hi ⊢
  split at hi
  · rename_i h0
    rw [if_pos h0]
    simp only [endPs, List.getElem?_mapIdx]
    cases hp : t.ps[i.toNat]? with
    | none => rw [hp] at hi; cases hi
    | some p =>
      rw [hp] at hi
      simp only [Option.map_some]
      simp only at hi
      split
      · simp only; omega
      · exact hi
  · cases hi
theorem st_setS {m m' : Mg} (h : Wf m) {t : Tx} (ht : t ∈ m.tx) (hst : t.st < 3) (s : Nat) (hn : m'.nx = m.nx) (hm : m'.tx = upd m.tx t.x (setS s)) : St m m' :=
  st_upd h ht hst (setS s) (fun _ => ⟨rfl, rfl⟩) (fun _ hi => hi) hn hm
theorem st_part {m : Mg} (h : Wf m) {t : Tx} (ht : t ∈ m.tx) (hst : t.st = 1) (i0 : Int) : St m (m.part t i0) := by
  refine ⟨Nat.le_succ _, fun j u i hj hfu => ?_, fun j h1 h2 => ?_, fun u' hu' => ?_⟩
  · rw [fnd_part_old i0 (by omega), hfu]
    simp only [Option.map_some]
    by_cases hx : u.x = t.x
    · have e := h.uniq u (fnd_mem hfu).1 t ht hx
      subst e
      rw [if_pos rfl]
      refine ⟨_, rfl, rfl, fun h3 => by omega, fun h4 => ?_⟩
      have h5 := (stE_four (by omega) i).1 h4
      have h6 : fate (addP ⟨m.nx, i0, 0⟩ u) i = 2 := by
        unfold fate at h5 ⊢
        split at h5
        · rename_i h0
          rw [if_pos h0]
          simp only [addP]
          cases hp : u.ps[i.toNat]? with
          | none => rw [hp] at h5; cases h5
          | some p =>
            rw [List.getElem?_append_left (List.getElem?_eq_some_iff.1 hp).1, hp]
            rw [hp] at h5
            exact h5
        · cases h5
      simp [stE, h6]
    · rw [if_neg hx]
      exact ⟨_, rfl, rfl, fun _ => rfl, fun h => h⟩
  · have : j = m.nx := by have : j < m.nx + 1 := h2; omega
    subst this
    refine ⟨_, _, fnd_part_new h ht i0, ?_⟩
    have : fate (addP ⟨m.nx, i0, 0⟩ t) (t.ps.length : Int) = 0 := by simp [fate, addP]
    simp only [stE, this]
    rw [if_neg (by omega)]
    show t.st ≠ 3
    omega
  · obtain ⟨u, hu, e⟩ := mem_upd hu'
    by_cases hx : u.x = t.x
    · rw [if_pos hx] at e
      have e2 := h.uniq u hu t ht hx
      subst e2
      exact Or.inl ⟨u, hu, by rw [e]; rfl, fun h3 => by omega⟩
    · rw [if_neg hx] at e
      exact Or.inl ⟨u, hu, by rw [e], fun h3 => by rw [e]; exact h3⟩
/-- A new snapshot. -/
theorem ent_new {m : Mg} (h : Wf m) {se : List Bool} (hl : se.length = m.nx) (hs : ∀ j : Nat, j < m.nx → se[j]? = some (m.sees (m.on.headD m.nx : Nat) m.nx (ints m.on) 0 j)) : EntOK m ⟨m.on.headD m.nx, m.nx, m.on, se⟩ := by
  have hup := on_up h
  refine ⟨Nat.le_refl _, hl, ?_, ?_, fun t ht _ hn => ?_, fun j h1 h2 => ?_⟩
  · cases ho : m.on with
    | nil => exact Nat.le_refl _
    | cons a r =>
      have ha : a ∈ m.on := by rw [ho]; simp
      rw [h.on] at ha
      obtain ⟨t, ht, e⟩ := List.mem_map.1 ha
      have := (h.lo t (List.mem_filter.1 ht).1).2
      show a ≤ m.nx
      omega
  · intro x hx
    cases ho : m.on with
    | nil => rw [ho] at hx; cases hx
    | cons a r =>
      rw [ho] at hx hup
      show a ≤ x
      rcases List.mem_cons.1 hx with rfl | hx
      · exact Nat.le_refl _
      · exact Nat.le_of_lt ((List.pairwise_cons.1 hup).1 x hx)
  · by_cases h3 : t.st < 3
    · exfalso
      apply hn
      show t.x ∈ m.on
      rw [h.on]
      exact List.mem_map.2 ⟨t, List.mem_filter.2 ⟨ht, by simp [h3]⟩, rfl⟩
    · omega
  · simp only
    rw [decide_eq_true h2]
    simp [List.getD, hs j h2]
/-- Forgotten, or as it was. -/
theorem forget_fnd {m : Mg} (h : Wf m) (below : Int) (j : Nat) : fnd (m.forget below).tx (j : Int) = if goneN m below j then none else fnd m.tx (j : Int) := by
  simp only [Mg.forget, fnd_filter h]
  cases hf : fnd m.tx (j : Int) with
  | none => simp
  | some a =>
    obtain ⟨t, i⟩ := a
    have e : goneN m below j = goneT t below := by simp [goneN, hf]
    rw [e]
    simp only
    cases goneT t below <;> simp
theorem last_ge {m : Mg} (h : Wf m) {j : Nat} {t : Tx} {i : Int} (hf : fnd m.tx (j : Int) = some (t, i)) : j ≤ lastX t ∧ t.x ≤ j := by
  obtain ⟨htm, ⟨_, e⟩ | ⟨k, p, _, _, hp, e, _⟩⟩ := fnd_mem hf
  · refine ⟨?_, by omega⟩
    unfold lastX
    cases hl : t.ps.getLast? with
    | none => simp only; omega
    | some p => have := (h.pl t htm p (List.mem_of_getLast? hl)).1; simp only; omega
  · have hpm := List.mem_of_getElem? hp
    refine ⟨?_, by have := (h.pl t htm p hpm).1; omega⟩
    unfold lastX
    cases hl : t.ps.getLast? with
    | none =>
      rw [List.getLast?_eq_none_iff] at hl
      rw [hl] at hpm; cases hpm
    | some q =>
      simp only
      have hpu := h.pu t htm
      have hk := (List.getElem?_eq_some_iff.1 hp)
      rw [List.getLast?_eq_getElem?] at hl
      have hq := (List.getElem?_eq_some_iff.1 hl)
      obtain ⟨k1, k2⟩ := hk
      obtain ⟨q1, q2⟩ := hq
      rcases Nat.lt_or_ge k (t.ps.length - 1) with h1 | h1
      · have := List.pairwise_iff_getElem.1 hpu k (t.ps.length - 1) k1 q1 h1
        rw [k2, q2] at this
        omega
      · have : k = t.ps.length - 1 := by omega
        subst this
        rw [k2] at q2
        subst q2
        omega
end Go.Proofs.Ytkokmgoplldcfaa
