/- endPart, Release, Back. -/
import Derived.Test.YtkokmgoplldcfaaXEnd
namespace Go.Proofs.Ytkokmgoplldcfaa
open Go.RowKit Go Go.Sort

def endTo (ps : List Pt) (o : Int) (f k : Nat) : List Pt := ps.mapIdx (fun j p => if j < k ∧ within ps o ps.length j = true then { p with ft := max p.ft f } else p)
theorem endTo_zero (ps : List Pt) (o : Int) (f : Nat) : endTo ps o f 0 = ps := by
  apply List.ext_getElem?
  intro j
  simp only [endTo, List.getElem?_mapIdx]
  cases ps[j]? with
  | none => rfl
  | some p => simp
theorem endTo_all (ps : List Pt) (o : Int) (f : Nat) : endTo ps o f ps.length = endPs ps o f := by
  apply List.ext_getElem?
  intro j
  simp only [endTo, endPs, List.getElem?_mapIdx]
  cases hp : ps[j]? with
  | none => rfl
  | some p =>
    have := (List.getElem?_eq_some_iff.1 hp).1
    simp [this]
theorem endTo_len (ps : List Pt) (o : Int) (f k : Nat) : (endTo ps o f k).length = ps.length := by simp [endTo]
theorem endTo_ar (ps : List Pt) (o : Int) (f k : Nat) : (endTo ps o f k).map (·.ar) = ps.map (·.ar) := by
  apply List.ext_getElem?
  intro j
  simp only [endTo, List.getElem?_map, List.getElem?_mapIdx]
  cases ps[j]? with
  | none => rfl
  | some p => simp only [Option.map_some]; split <;> rfl
theorem endTo_at {ps : List Pt} {k : Nat} {p : Pt} (o : Int) (f : Nat) (hp : ps[k]? = some p) : (endTo ps o f k)[k]? = some p := by
  simp only [endTo, List.getElem?_mapIdx, hp, Option.map_some]
  simp
theorem endTo_skip {ps : List Pt} {k : Nat} {o : Int} (f : Nat) (h : within ps o ps.length k = false) : endTo ps o f (k + 1) = endTo ps o f k := by
  apply List.ext_getElem?
  intro j
  simp only [endTo, List.getElem?_mapIdx]
  cases ps[j]? with
  | none => rfl
  | some p =>
    simp only [Option.map_some]
    by_cases hj : j = k
    · subst hj; simp [h]
    · have : j < k + 1 ↔ j < k := by omega
      simp only [this]
theorem endTo_set {ps : List Pt} {k : Nat} {o : Int} {p : Pt} (f : Nat) (hp : ps[k]? = some p) (h : within ps o ps.length k = true) : endTo ps o f (k + 1) = (endTo ps o f k).set k { p with ft := max p.ft f } := by
  apply List.ext_getElem?
  intro j
  have hk := (List.getElem?_eq_some_iff.1 hp).1
  by_cases hj : j = k
  · subst hj
    rw [List.getElem?_set_self (by rw [endTo_len]; exact hk)]
    simp only [endTo, List.getElem?_mapIdx, hp, Option.map_some]
    simp [h]
  · rw [List.getElem?_set_ne (fun e => hj e.symm)]
    simp only [endTo, List.getElem?_mapIdx]
    have : j < k + 1 ↔ j < k := by omega
    simp only [this]
theorem pcl_set : ∀ (l : List Pt) (k : Nat) (p : Pt) (f : Nat), l[k]? = some p → pcl (l.set k { p with ft := f }) = (pcl l).set (k * 3 + 2) (.int .i64 f)
  | [], k, p, f, hk => by simp at hk
  | a :: l, 0, p, f, hk => by
    simp only [List.getElem?_cons_zero, Option.some.injEq] at hk
    subst hk
    simp [pcl]
  | a :: l, k + 1, p, f, hk => by
    have ih := pcl_set l k p f (by simpa using hk)
    unfold pcl at ih ⊢
    simp only [List.set_cons_succ, List.flatMap_cons]
    rw [ih, show (k + 1) * 3 + 2 = (k * 3 + 2) + 3 by omega]
    simp
theorem own_set {w : World} {base sz n : Nat} {t : TypeId} {v : Value} {xs : List Value} (h : w.ownsRow base t sz v n xs) {g j : Nat} (hg : v.ownBlock = some g) (u : Value) : (w.setCell ⟨g, j, none⟩ u).ownsRow base t sz v n (xs.set j u) := by
  refine ⟨by rw [List.length_set]; exact h.1, ?_⟩
  rcases h.2 with ⟨rfl, _⟩ | ⟨g', cap, cur, rfl, hb, hh, h1, h2, h3, h4⟩
  · cases hg
  · have e : g' = g := by simpa [Value.ownBlock] using hg
    subst e
    refine Or.inr ⟨g', cap, _, rfl, hb, blk_set hh u, h1, h2, by rw [Array.size_setIfInBounds]; exact h3, ?_⟩
    rw [Array.toList_setIfInBounds, List.take_set, h4]

def Mg.endp (m : Mg) (x : Nat) (o : Int) (f : Nat) : Mg := ⟨m.nx, m.on, upd m.tx x (fun t => { t with ps := endPs t.ps o f })⟩
theorem Wf.endp {m : Mg} (h : Wf m) (x : Nat) (o : Int) {f : Nat} (hf : f ≤ 2) : Wf (m.endp x o f) := by
  have hm : ∀ u ∈ (m.endp x o f).tx, ∃ u0 ∈ m.tx, u = u0 ∨ u = { u0 with ps := endPs u0.ps o f } := fun u hu => by
    obtain ⟨u0, hu0, e⟩ := mem_upd hu
    refine ⟨u0, hu0, ?_⟩
    split at e
    · exact Or.inr e
    · exact Or.inl e
  have hps : ∀ (u0 : Tx) (j : Nat) p, (endPs u0.ps o f)[j]? = some p → ∃ q, u0.ps[j]? = some q ∧ p.x = q.x ∧ p.ar = q.ar ∧ p.ft ≤ max q.ft f := fun u0 j p hp => by
    simp only [endPs, List.getElem?_mapIdx] at hp
    cases hq : u0.ps[j]? with
    | none => rw [hq] at hp; cases hp
    | some q =>
      rw [hq] at hp
      simp only [Option.map_some, Option.some.injEq] at hp
      refine ⟨q, rfl, ?_⟩
      subst hp
      split
      · exact ⟨rfl, rfl, Nat.le_refl _⟩
      · exact ⟨rfl, rfl, Nat.le_max_left _ _⟩
  have hmp : ∀ (u0 : Tx) p, p ∈ endPs u0.ps o f → ∃ q ∈ u0.ps, p.x = q.x := fun u0 p hp => by
    obtain ⟨j, hj⟩ := List.mem_iff_getElem?.1 hp
    obtain ⟨q, h1, h2, _⟩ := hps u0 j p hj
    exact ⟨q, List.mem_of_getElem? h1, h2⟩
  refine ⟨h.n1, h.n2, ?_, ?_, ?_, ?_, ?_, ?_, ?_, ?_, ?_⟩
  · intro u hu
    obtain ⟨u0, hu0, rfl | rfl⟩ := hm u hu
    · exact h.lo u hu0
    · exact h.lo u0 hu0
  · intro u hu p hp
    obtain ⟨u0, hu0, rfl | rfl⟩ := hm u hu
    · exact h.pl u hu0 p hp
    · obtain ⟨q, hq, e⟩ := hmp u0 p hp
      rw [e]; exact h.pl u0 hu0 q hq
  · intro u hu
    obtain ⟨u0, hu0, rfl | rfl⟩ := hm u hu
    · exact h.st u hu0
    · exact h.st u0 hu0
  · intro u hu
    obtain ⟨u0, hu0, rfl | rfl⟩ := hm u hu
    · exact h.ln u hu0
    · simp only [endPs_len]; exact h.ln u0 hu0
  · intro u hu j p hp
    obtain ⟨u0, hu0, rfl | rfl⟩ := hm u hu
    · exact h.ar u hu0 j p hp
    · obtain ⟨q, h1, _, h2, h3⟩ := hps u0 j p hp
      have := h.ar u0 hu0 j q h1
      rw [h2]
      exact ⟨this.1, this.2.1, by omega⟩
  · show (upd m.tx x _).Pairwise _
    rw [upd, List.pairwise_map]
    refine h.up.imp (fun {a b} hab => ?_)
    have e : ∀ u : Tx, (if u.x = x then { u with ps := endPs u.ps o f } else u).x = u.x := fun u => by split <;> rfl
    rw [e, e]; exact hab
  · show (upd m.tx x _).Pairwise _
    rw [upd, List.pairwise_map]
    refine h.ap.imp (fun {a b} hab => ?_)
    have e : ∀ u : Tx, (if u.x = x then { u with ps := endPs u.ps o f } else u).x = u.x := fun u => by split <;> rfl
    have e2 : ∀ u : Tx, ∀ p ∈ (if u.x = x then { u with ps := endPs u.ps o f } else u).ps, ∃ q ∈ u.ps, p.x = q.x := fun u p hp => by
      split at hp
      · exact hmp u p hp
      · exact ⟨p, hp, rfl⟩
    intro p hp
    obtain ⟨p', hp', ep⟩ := e2 a p hp
    rw [e, ep]
    refine ⟨(hab p' hp').1, fun q hq => ?_⟩
    obtain ⟨q', hq', eq⟩ := e2 b q hq
    rw [eq]; exact (hab p' hp').2 q' hq'
  · intro u hu
    obtain ⟨u0, hu0, rfl | rfl⟩ := hm u hu
    · exact h.pu u hu0
    · have h1 := h.pu u0 hu0
      have h2 : (u0.ps.map (·.x)).Pairwise (· < ·) := by rw [List.pairwise_map]; exact h1
      rw [← endPs_x u0.ps o f, List.pairwise_map] at h2
      exact h2
  · show m.on = _
    rw [h.on]
    exact (upd_filter m.tx x (fun t => { t with ps := endPs t.ps o f }) (fun _ => rfl) (fun _ => rfl)).symm
end Go.Proofs.Ytkokmgoplldcfaa
