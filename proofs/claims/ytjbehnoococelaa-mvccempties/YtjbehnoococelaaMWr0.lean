import Derived.Test.YtjbehnoococelaaMUnd
import Derived.Test.YtjbehnoococelaaMLayA
import Derived.Test.YtjbehnoococelaaMLayB
import Derived.Test.YtjbehnoococelaaMLayC
import Derived.Defers
/- A heap's chains as plain mathematics. -/
namespace Go.Proofs.Ytjbehnoococelaa
open Go.RowKit Go Go.Sort Go.Maps

/-- The chains, with their tables and keys. -/
abbrev HL := List ((Int × List UInt8) × List Ver)
def labs (E : List En) (C : Nat → Ch) : HL := E.map (fun e => ((e.k, e.s), (C e.b).2.2.map (·.1)))
def chL (L : HL) (k : Int) (s : List UInt8) : List Ver := match L.find? (fun p => decide (p.1 = (k, s))) with
  | some p => p.2
  | none => []
def appL (L : HL) (k : Int) (s : List UInt8) (v : Ver) : HL := if L.any (fun p => decide (p.1 = (k, s))) then L.map (fun p => if p.1 = (k, s) then (p.1, p.2 ++ [v]) else p) else L ++ [((k, s), [v])]
theorem find_labs (E : List En) (C : Nat → Ch) (k : Int) (s : List UInt8) : (labs E C).find? (fun p => decide (p.1 = (k, s))) = (E.find? (fun e => decide (e.k = k ∧ e.s = s))).map (fun e => ((e.k, e.s), (C e.b).2.2.map (·.1))) := by
  unfold labs
  rw [List.find?_map]
  congr 1
  refine congrArg (fun p => List.find? p E) (funext fun e => ?_)
  simp [Prod.ext_iff]
theorem chL_labs (E : List En) (C : Nat → Ch) (k : Int) (s : List UInt8) : chL (labs E C) k s = match lkE E k s with | some b => (C b).2.2.map (·.1) | none => [] := by
  unfold chL lkE
  rw [find_labs]
  cases E.find? (fun e => decide (e.k = k ∧ e.s = s)) with
  | none => rfl
  | some e => rfl
theorem any_labs (E : List En) (C : Nat → Ch) (k : Int) (s : List UInt8) : (labs E C).any (fun p => decide (p.1 = (k, s))) = (lkE E k s).isSome := by
  unfold lkE
  unfold labs
  rw [Option.isSome_map, List.any_map, Bool.eq_iff_iff, List.find?_isSome]
  simp [Prod.ext_iff]
/-- The newest version that stands tells whether a row may be put in. -/
def insE (m : Mg) (mn mx : Int) (l : List Int) (own : Int) (c : List Ver) : Nat := match c.reverse.find? (fun v => ((m.state v.wr : Int) != 4)) with
  | none => 0
  | some v => if m.sees mn mx l own v.wr then (if v.th then 91 else 0) else 92
theorem find_last {zs : List VV} {p : VV → Bool} {k : Nat} {z : VV} (hz : zs[k]? = some z) (hp : p z = true) (hl : ∀ (j : Nat) (u : VV), k < j → zs[j]? = some u → p u = false) : zs.reverse.find? p = some z := by
  have hk : k < zs.length := (List.getElem?_eq_some_iff.1 hz).1
  have e : zs = zs.take k ++ z :: zs.drop (k + 1) := by
    have : zs[k] = z := (List.getElem?_eq_some_iff.1 hz).2
    rw [← this, ← List.drop_eq_getElem_cons hk, List.take_append_drop]
  rw [e]
  simp only [List.reverse_append, List.reverse_cons, List.append_assoc]
  rw [List.find?_append]
  have : (zs.drop (k + 1)).reverse.find? p = none := by
    rw [List.find?_eq_none]
    intro u hu
    rw [List.mem_reverse] at hu
    obtain ⟨i, hi⟩ := List.mem_iff_getElem?.1 hu
    rw [List.getElem?_drop] at hi
    rw [hl _ _ (by omega) hi]; exact fun h => by cases h
  rw [this]
  simp [hp]
theorem find_map (zs : List VV) (f : Ver → Bool) : (zs.map (·.1)).reverse.find? f = (zs.reverse.find? (fun z => f z.1)).map (·.1) := by
  rw [← List.map_reverse, List.find?_map]; rfl
theorem insE_none {m : Mg} {mn mx : Int} {l : List Int} {own : Int} {zs : List VV} (h : ∀ z ∈ zs, ((m.state z.1.wr : Int) != 4) = false) : insE m mn mx l own (zs.map (·.1)) = 0 := by
  unfold insE
  rw [find_map]
  have : zs.reverse.find? (fun z => ((m.state z.1.wr : Int) != 4)) = none := by
    rw [List.find?_eq_none]
    intro z hz
    rw [h z (List.mem_reverse.1 hz)]; exact fun h => by cases h
  rw [this]; rfl
theorem insE_some {m : Mg} {mn mx : Int} {l : List Int} {own : Int} {zs : List VV} {k : Nat} {z : VV} (hz : zs[k]? = some z) (hp : ((m.state z.1.wr : Int) != 4) = true) (hl : ∀ (j : Nat) (u : VV), k < j → zs[j]? = some u → ((m.state u.1.wr : Int) != 4) = false) : insE m mn mx l own (zs.map (·.1)) = if m.sees mn mx l own z.1.wr then (if z.1.th then 91 else 0) else 92 := by
  unfold insE
  rw [find_map, find_last (p := fun z => ((m.state z.1.wr : Int) != 4)) hz hp hl]; rfl

section
variable {E E' : List En} {C C' : Nat → Ch} {k : Int} {s : List UInt8} {cb : Nat} {co : Option Addr} {cc : Nat} {zs : List VV} {z : VV}
theorem labs_app (hek : E.Pairwise (fun e f => ¬ (e.k = f.k ∧ e.s = f.s))) (heb : E.Pairwise (fun e f => e.b ≠ f.b)) (hC : C' cb = (co, cc, zs ++ [z])) (hold : (E' = E ∧ lkE E k s = some cb ∧ (C cb).2.2 = zs) ∨ (E' = E ++ [⟨k, s, cb⟩] ∧ lkE E k s = none ∧ zs = [])) (hoth : ∀ e ∈ E, e.b ≠ cb → C' e.b = C e.b) (hn : lkE E k s = none → ∀ e ∈ E, e.b ≠ cb) :
    labs E' C' = appL (labs E C) k s z.1 ∧ chL (labs E C) k s = zs.map (·.1) := by
  rcases hold with ⟨rfl, h1, h2⟩ | ⟨rfl, h1, rfl⟩
  · refine ⟨?_, by rw [chL_labs, h1, ← h2]⟩
    unfold appL
    rw [any_labs, h1, if_pos (by rfl)]
    unfold labs
    rw [List.map_map]
    refine List.map_congr_left fun e he => ?_
    simp only [Function.comp]
    by_cases hb : e.b = cb
    · have hme := lkE_mem h1
      have := pw_inj (fun e : En => e.b) heb he hme hb
      rw [this]
      simp [hC, h2]
    · have hne : ¬ ((e.k, e.s) = (k, s)) := fun e0 => by
        have h3 : e.k = k ∧ e.s = s := by simpa [Prod.ext_iff] using e0
        have := lkE_of_mem hek he
        rw [h3.1, h3.2, h1] at this
        injection this with this
        exact hb this.symm
      rw [if_neg hne, hoth e he hb]
  · refine ⟨?_, by rw [chL_labs, h1]; rfl⟩
    unfold appL
    rw [any_labs, h1, if_neg (by simp)]
    unfold labs
    rw [List.map_append]
    congr 1
    · exact List.map_congr_left fun e he => by rw [hoth e he (hn h1 e he)]
    · simp [hC]
theorem labs_undo (hek : E.Pairwise (fun e f => ¬ (e.k = f.k ∧ e.s = f.s))) (heb : E.Pairwise (fun e f => e.b ≠ f.b)) {wo : Option Addr} {wc : Nat} (hold : (E' = E ∧ lkE E k s = some cb ∧ (C cb).2.2 = zs) ∨ (E' = E ++ [⟨k, s, cb⟩] ∧ lkE E k s = none ∧ zs = [])) (hoth : ∀ e ∈ E, e.b ≠ cb → C' e.b = C e.b) (hn : lkE E k s = none → ∀ e ∈ E, e.b ≠ cb) (hne : ∀ e ∈ E, (C e.b).2.2 ≠ []) :
    labs (tidE E' k s zs) (upB C' cb (wo, wc, zs)) = labs E C := by
  rcases hold with ⟨rfl, h1, h2⟩ | ⟨rfl, h1, rfl⟩
  · have hz : zs ≠ [] := by rw [← h2]; exact hne _ (lkE_mem h1)
    unfold tidE
    rw [if_neg hz]
    unfold labs
    refine List.map_congr_left fun e he => ?_
    by_cases hb : e.b = cb
    · rw [hb, upB_same, h2]
    · rw [upB_other _ _ hb, hoth e he hb]
  · unfold tidE
    rw [if_pos rfl]
    have e1 : (E ++ [(⟨k, s, cb⟩ : En)]).filter (fun e => decide (¬ (e.k = k ∧ e.s = s))) = E := by
      rw [List.filter_append]
      have : E.filter (fun e => decide (¬ (e.k = k ∧ e.s = s))) = E := List.filter_eq_self.2 (fun e he => decide_eq_true (lkE_none h1 e he))
      rw [this]
      simp
    rw [e1]
    unfold labs
    refine List.map_congr_left fun e he => ?_
    rw [upB_other _ _ (hn h1 e he), hoth e he (hn h1 e he)]
end
/-- The manager beside the heap. -/
theorem MF.beside {w w' : World} {mb : Nat} {m : Mg} {F : Nat → Prop} {σ σ' : Nat → Option Nat} (h : MF w mb m (fun i => F i ∨ σ i ≠ none)) (t : Tch (fun i => σ i ≠ none) w w') (hsn : ∀ i, i < w.heap.size → σ i = none → σ' i = none) (hd : ∀ i, σ' i ≠ none → i < w'.heap.size) : MF w' mb m (fun i => F i ∨ σ' i ≠ none) := by
  obtain ⟨τ, b1, b2, hg, hF⟩ := h
  refine ⟨τ, b1, b2, hg.tch t (fun i _ hs => (hF i (Or.inr hs)).1), fun i hi => ?_⟩
  rcases hi with hi | hi
  · exact ⟨(hF i (Or.inl hi)).1, Nat.lt_of_lt_of_le (hF i (Or.inl hi)).2 t.size⟩
  · refine ⟨?_, hd i hi⟩
    rcases Nat.lt_or_ge i w.heap.size with hlt | hge
    · exact (hF i (Or.inr (fun h0 => hi (hsn i hlt h0)))).1
    · cases hs : τ i with
      | none => rfl
      | some a => have := hg.lt i (by rw [hs]; exact fun h => by cases h); omega
end Go.Proofs.Ytjbehnoococelaa
