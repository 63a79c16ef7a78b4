import Derived.Test.YtokgihmigkplaaaGreatMWr3
import Derived.Test.YtokgihmigkplaaaGreatMUpd
import Derived.Test.YtokgihmigkplaaaGreatFS1
namespace Go.Proofs.YtokgihmigkplaaaGreat.F
open Go.RowKit Go Go.Sort
def ver (v : Vn) : Ver := ⟨v.wr, !v.gone, if v.gone then 0 else 1, if v.gone then [] else rowC v.n⟩
def HK (L : HL) (K : Nat → List Vn) : Prop := (∀ κ, κ < 6 → chL L 1 (keyB κ).data.toList = (K κ).map ver) ∧ ∀ p ∈ L, ∃ κ, κ < 6 ∧ p.1 = ((1 : Int), (keyB κ).data.toList)
theorem keyB_inj {a b : Nat} (ha : a < 6) (hb : b < 6) (h : (keyB a).data.toList = (keyB b).data.toList) : a = b := by
  rcases (by omega : a = 0 ∨ a = 1 ∨ a = 2 ∨ a = 3 ∨ a = 4 ∨ a = 5) with rfl | rfl | rfl | rfl | rfl | rfl <;> rcases (by omega : b = 0 ∨ b = 1 ∨ b = 2 ∨ b = 3 ∨ b = 4 ∨ b = 5) with rfl | rfl | rfl | rfl | rfl | rfl <;> first | rfl | (exact absurd h (by decide))
theorem find_upd {L : HL} {k : Int} {s : List UInt8} (f : List Ver → List Ver) (k' : Int) (s' : List UInt8) : (L.map (fun p => if p.1 = (k, s) then (p.1, f p.2) else p)).find? (fun p => decide (p.1 = (k', s'))) = (L.find? (fun p => decide (p.1 = (k', s')))).map (fun p => if p.1 = (k, s) then (p.1, f p.2) else p) := by
  induction L with
  | nil => rfl
  | cons a L ih =>
    rw [List.map_cons, List.find?_cons, List.find?_cons]
    have e : (if a.1 = (k, s) then (a.1, f a.2) else a).1 = a.1 := by split <;> rfl
    rw [e]
    cases h : decide (a.1 = (k', s')) with
    | true => rfl
    | false => exact ih
theorem chL_app (L : HL) (k k' : Int) (s s' : List UInt8) (v : Ver) : chL (appL L k s v) k' s' = if (k', s') = (k, s) then chL L k s ++ [v] else chL L k' s' := by
  unfold appL
  split
  · rename_i hany
    unfold chL
    rw [find_upd (fun c => c ++ [v])]
    by_cases e : (k', s') = (k, s)
    · rw [if_pos e]
      injection e with e1 e2
      subst e1 e2
      cases hf : L.find? (fun p => decide (p.1 = (k', s'))) with
      | none =>
        rw [List.any_eq_true] at hany
        obtain ⟨p, hp, hpe⟩ := hany
        exact absurd hpe (by simpa using List.find?_eq_none.1 hf p hp)
      | some p =>
        have hp : p.1 = (k', s') := by simpa using List.find?_some hf
        simp only [Option.map_some, hp, if_true]
    · rw [if_neg e]
      cases hf : L.find? (fun p => decide (p.1 = (k', s'))) with
      | none => rfl
      | some p =>
        have hp : p.1 = (k', s') := by simpa using List.find?_some hf
        have : ¬ p.1 = (k, s) := fun e2 => e (hp.symm.trans e2)
        simp only [Option.map_some, if_neg this]
  · rename_i hany
    unfold chL
    rw [List.find?_append]
    by_cases e : (k', s') = (k, s)
    · rw [if_pos e]
      injection e with e1 e2
      subst e1 e2
      have hn : L.find? (fun p => decide (p.1 = (k', s'))) = none := by
        rw [List.find?_eq_none]
        intro p hp hpe
        exact hany (List.any_eq_true.2 ⟨p, hp, hpe⟩)
      rw [hn]
      simp
    · rw [if_neg e]
      have : List.find? (fun p : (Int × List UInt8) × List Ver => decide (p.1 = (k', s'))) [((k, s), [v])] = none := by
        rw [List.find?_eq_none]
        intro p hp
        rw [List.mem_singleton.1 hp]
        simp only [decide_eq_true_eq]
        exact fun e2 => e e2.symm
      rw [this, Option.or_none]
theorem appL_mem {L : HL} {k : Int} {s : List UInt8} {v : Ver} {p : (Int × List UInt8) × List Ver} (h : p ∈ appL L k s v) : p.1 = (k, s) ∨ ∃ a ∈ L, p.1 = a.1 := by
  unfold appL at h
  split at h
  · obtain ⟨a, ha, e⟩ := List.mem_map.1 h
    refine .inr ⟨a, ha, ?_⟩
    rw [← e]; split <;> rfl
  · rcases List.mem_append.1 h with h | h
    · exact .inr ⟨p, h, rfl⟩
    · rw [List.mem_singleton.1 h]; exact .inl rfl
theorem HK.app {L : HL} {K : Nat → List Vn} (h : HK L K) {κ : Nat} (hκ : κ < 6) (v : Vn) : HK (appL L 1 (keyB κ).data.toList (ver v)) (fun j => if j = κ then K κ ++ [v] else K j) := by
  refine ⟨fun κ' hκ' => ?_, fun p hp => ?_⟩
  · rw [chL_app]
    by_cases e : κ' = κ
    · subst e
      show _ = List.map ver (if κ' = κ' then K κ' ++ [v] else K κ')
      rw [if_pos rfl, if_pos rfl, h.1 κ' hκ', List.map_append]; rfl
    · have : ¬ ((1 : Int), (keyB κ').data.toList) = (1, (keyB κ).data.toList) := fun e2 => by
        injection e2 with _ e2
        exact e (keyB_inj hκ' hκ e2)
      show _ = List.map ver (if κ' = κ then K κ ++ [v] else K κ')
      rw [if_neg this, if_neg e, h.1 κ' hκ']
  · rcases appL_mem hp with e | ⟨a, ha, e⟩
    · exact ⟨κ, hκ, e⟩
    · obtain ⟨κ', h1, h2⟩ := h.2 a ha
      exact ⟨κ', h1, e.trans h2⟩
theorem find_last9 {α β : Type} (l : List α) (f : α → β) (p : β → Bool) : (l.map f).reverse.find? p = ((l.filter (fun a => p (f a))).getLast?).map f := by
  rw [← List.map_reverse, List.find?_map, List.getLast?_eq_head?_reverse, ← List.filter_reverse, List.head?_filter]
  rfl
theorem state_ne (m : Mg) (v : Vn) : ((m.state (ver v).wr : Int) != 4) = (m.state v.wr != 4) := by
  show ((m.state (v.wr : Int) : Int) != 4) = (m.state v.wr != 4)
  by_cases e : m.state v.wr = 4
  · rw [e]; rfl
  · have h1 : ((m.state (v.wr : Int) : Int) != 4) = true := by
      simp only [bne_iff_ne, ne_eq]; omega
    have h2 : (m.state (v.wr : Int) != 4) = true := by
      simp only [bne_iff_ne, ne_eq]; exact e
    rw [h1, h2]
section
variable {m : Mg} {q : Mo} {K : Nat → List Vn} {σ : Nat → Nat} {k : Nat} {s : Se} {t : Tx}
theorem get_eq (hI : Inv m q K σ) (hs : q.l[k]? = some s) (ho : s.op = true) (ht : SesTx m s t) {x i : Int} (hx : fnd m.tx x = some (t, i)) {κ : Nat} (hκ : κ < 6) :
    (getV m s.mn s.mx (onI s) x ((K κ).map ver) = none ∧ seesS s κ = 0) ∨ ∃ (n : Nat) (wr : Int), getV m s.mn s.mx (onI s) x ((K κ).map ver) = some ⟨wr, true, 1, rowC n⟩ ∧ seesS s κ = n + 1 := by
  obtain ⟨cm, o, hk⟩ := hI.key κ hκ
  have h1 := seen_eq hI hs ho ht hx hk
  have h2 := seesS_eq hk hs ho
  rw [← h1] at h2
  have h3 : ((K κ).map ver).reverse.find? (fun v => m.sees s.mn s.mx (onI s) x v.wr) = (((K κ).filter (fun v => m.sees s.mn s.mx (onI s) x v.wr)).getLast?).map ver := find_last9 (K κ) ver (fun v => m.sees s.mn s.mx (onI s) x v.wr)
  unfold getV
  rw [h3]
  unfold lastV at h2
  cases hl : ((K κ).filter (fun v => m.sees s.mn s.mx (onI s) x v.wr)).getLast? with
  | none => rw [hl] at h2; exact Or.inl ⟨rfl, h2.symm⟩
  | some v =>
    rw [hl] at h2
    have h2 : v.val = seesS s κ := h2
    unfold Vn.val at h2
    simp only [Option.map_some, ver]
    cases hg : v.gone with
    | true =>
      rw [hg] at h2
      exact Or.inl ⟨rfl, h2.symm⟩
    | false =>
      rw [hg] at h2
      exact Or.inr ⟨v.n, v.wr, rfl, h2.symm⟩
def wantE (q : Mo) (k : Nat) (s : Se) (κ : Nat) (ins : Bool) : Nat := if confB q k s κ then 92 else if ins then (if seesS s κ = 0 then 0 else 91) else (if seesS s κ = 0 then 90 else 0)
theorem std_eq (c : List Vn) : (c.map ver).reverse.find? (fun v => ((m.state v.wr : Int) != 4)) = ((c.filter (fun v => m.state v.wr != 4)).getLast?).map ver := by
  rw [find_last9 c ver (fun v => ((m.state v.wr : Int) != 4))]
  congr 2
  exact List.filter_congr (fun v _ => state_ne m v)
theorem ins_eq (hI : Inv m q K σ) (hs : q.l[k]? = some s) (ho : s.op = true) (ht : SesTx m s t) {x i : Int} (hx : fnd m.tx x = some (t, i)) {κ : Nat} (hκ : κ < 6) : insE m s.mn s.mx (onI s) x ((K κ).map ver) = wantE q k s κ true := by
  obtain ⟨h1, h2⟩ := write_dec hI hs ho ht hx hκ
  have hc := confB_iff q hI.ln k s κ
  unfold insE wantE
  rw [std_eq]
  by_cases hC : ConfP q k s κ
  · rw [hc.2 hC]
    obtain ⟨v, e1, e2⟩ := h1 hC
    rw [e1]
    show (if m.sees s.mn s.mx (onI s) x (v.wr : Int) then _ else _) = _
    rw [e2]; rfl
  · have hcf : confB q k s κ = false := by
      cases e : confB q k s κ with
      | false => rfl
      | true => exact absurd (hc.1 e) hC
    rw [hcf]
    rcases h2 hC with ⟨e1, e2⟩ | ⟨v, e1, e2, e3⟩
    · rw [e1, e2]; rfl
    · rw [e1]
      show (if m.sees s.mn s.mx (onI s) x (v.wr : Int) then (if (ver v).th then 91 else 0) else _) = _
      rw [e2, ← e3]
      unfold Vn.val ver
      cases v.gone <;> rfl
theorem rep_eq (hI : Inv m q K σ) (hs : q.l[k]? = some s) (ho : s.op = true) (ht : SesTx m s t) {x i : Int} (hx : fnd m.tx x = some (t, i)) {κ : Nat} (hκ : κ < 6) : repE m s.mn s.mx (onI s) x ((K κ).map ver) = wantE q k s κ false ∧ (wantE q k s κ false = 0 → ∃ (n : Nat) (wr : Int), stdV m ((K κ).map ver) = some ⟨wr, true, 1, rowC n⟩ ∧ seesS s κ = n + 1) := by
  obtain ⟨h1, h2⟩ := write_dec hI hs ho ht hx hκ
  have hc := confB_iff q hI.ln k s κ
  unfold repE wantE stdV
  rw [std_eq]
  by_cases hC : ConfP q k s κ
  · rw [hc.2 hC]
    obtain ⟨v, e1, e2⟩ := h1 hC
    rw [e1]
    refine ⟨?_, fun e => by cases e⟩
    show (if m.sees s.mn s.mx (onI s) x (v.wr : Int) then _ else _) = _
    rw [e2]; rfl
  · have hcf : confB q k s κ = false := by
      cases e : confB q k s κ with
      | false => rfl
      | true => exact absurd (hc.1 e) hC
    rw [hcf]
    rcases h2 hC with ⟨e1, e2⟩ | ⟨v, e1, e2, e3⟩
    · rw [e1, e2]
      exact ⟨rfl, fun e => by cases e⟩
    · rw [e1]
      rw [← e3]
      unfold Vn.val
      cases hg : v.gone with
      | true =>
        refine ⟨?_, fun e => by cases e⟩
        show (if m.sees s.mn s.mx (onI s) x (v.wr : Int) then (if (ver v).th then 0 else 90) else _) = _
        rw [e2]
        have : (ver v).th = false := by unfold ver; rw [hg]; rfl
        rw [this]; rfl
      | false =>
        refine ⟨?_, fun _ => ⟨v.n, v.wr, ?_, rfl⟩⟩
        · show (if m.sees s.mn s.mx (onI s) x (v.wr : Int) then (if (ver v).th then 0 else 90) else _) = _
          rw [e2]
          have : (ver v).th = true := by unfold ver; rw [hg]; rfl
          rw [this]; rfl
        · show some (ver v) = _
          unfold ver
          rw [hg]; rfl
end
end Go.Proofs.YtokgihmigkplaaaGreat.F
namespace Go.Proofs.YtokgihmigkplaaaGreat
open Go.RowKit Go Go.Sort Go.Maps
abbrev mgA : Mg := ⟨3, [1, 2], [⟨1, 1, []⟩, ⟨2, 1, []⟩]⟩
abbrev mgB : Mg := ⟨4, [1, 2], [⟨1, 1, [⟨3, -1, 0⟩]⟩, ⟨2, 1, []⟩]⟩
abbrev mgC : Mg := ⟨4, [1, 2], [⟨1, 1, [⟨3, -1, 2⟩]⟩, ⟨2, 1, []⟩]⟩
def m1 (part : Bool) : Mg := if part then mgB else mgA
def m2 (part : Bool) : Mg := if part then mgC else mgA
def byN (part : Bool) : Int := if part then 3 else 1
abbrev v1 (part : Bool) (k : Nat) : Ver := ⟨byN part, true, 1, rowC k⟩
abbrev v2 (k : Nat) : Ver := ⟨1, true, 1, rowC k⟩
end Go.Proofs.YtokgihmigkplaaaGreat
namespace Go.Proofs.YtokgihmigkplaaaGreat
open Go.RowKit Go Go.Sort Go.Maps
theorem MF.freshT {w w' : World} {b : Nat} {m : Mg} {F S : Nat → Prop} (h : MF w b m F) (t : Tch S w w') (hS : ∀ i, i < w.heap.size → S i → F i) : MF w' b m (fun i => F i ∨ w.heap.size ≤ i ∧ i < w'.heap.size) := by
  obtain ⟨σ, mb, bl, h, hF⟩ := h
  refine ⟨σ, mb, bl, h.tch t (fun i hi hs => (hF i (hS i hi hs)).1), fun i hi => ?_⟩
  rcases hi with hi | ⟨h1, h2⟩
  · exact ⟨(hF i hi).1, Nat.lt_of_lt_of_le (hF i hi).2 t.size⟩
  · refine ⟨?_, h2⟩
    cases hs : σ i with
    | none => rfl
    | some a => have := h.lt i (by rw [hs]; exact fun h => by cases h); omega
theorem HS.freshS {w w' : World} {hb mb : Nat} {m : Mg} {L : HL} {F S : Nat → Prop} {q : Nat} (h : HS w hb mb m L F q) (t : Tch S w w') (hS : ∀ i, i < w.heap.size → S i → F i) : HS w' hb mb m L (fun i => F i ∨ w.heap.size ≤ i ∧ i < w'.heap.size) q := by
  obtain ⟨tb, T, E, C, σ, h1, h2, h3, h4, h5⟩ := h
  refine ⟨tb, T, E, C, σ, h1.tch t (fun i hi hs => (h5 i (hS i hi hs)).1), h2, h3, (h4.freshT t (fun i hi hs => .inl (hS i hi hs))).mono (fun i hi => ?_), fun i hi => ?_⟩
  · rcases hi with (hi | hi) | hi
    · exact .inl (.inl hi)
    · exact .inr hi
    · exact .inl (.inr hi)
  · rcases hi with hi | hi
    · exact ⟨(h5 i hi).1, Nat.lt_of_lt_of_le (h5 i hi).2 t.size⟩
    · refine ⟨?_, hi.2⟩
      cases hs : σ i with
      | none => rfl
      | some a => exact absurd (h1.dom i (by rw [hs]; exact fun h => by cases h)) (by omega)
section
variable {w0 w : World} {base hb mb : Nat} {m : Mg} {L : HL} {q : Nat} {bx : List (Nat × Obj)} {v : Value} {l : List Nat}
end
end Go.Proofs.YtokgihmigkplaaaGreat
