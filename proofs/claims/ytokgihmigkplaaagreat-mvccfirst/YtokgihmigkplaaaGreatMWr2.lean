import Derived.Test.YtokgihmigkplaaaGreatMLayA
import Derived.Test.YtokgihmigkplaaaGreatMLayC
import Derived.Defers
import Derived.Laws.EntriesVeiled
set_option maxHeartbeats 4000000
set_option maxRecDepth 100000
namespace Go.Proofs.YtokgihmigkplaaaGreat
open Go.RowKit Go Go.Sort Go.Maps
abbrev HL := List ((Int × List UInt8) × List Ver)
def labs (E : List En) (C : Nat → Ch) : HL := E.map (fun e => ((e.k, e.s), (C e.b).2.2.map (·.1)))
def chL (L : HL) (k : Int) (s : List UInt8) : List Ver := match L.find? (fun p => decide (p.1 = (k, s))) with
  | some p => p.2
  | none => []
def appL (L : HL) (k : Int) (s : List UInt8) (v : Ver) : HL := if L.any (fun p => decide (p.1 = (k, s))) then L.map (fun p => if p.1 = (k, s) then (p.1, p.2 ++ [v]) else p) else L ++ [((k, s), [v])]
theorem find_labs (E : List En) (C : Nat → Ch) (k : Int) (s : List UInt8) : (labs E C).find? (fun p => decide (p.1 = (k, s))) = (E.find? (fun e => decide (e.k = k ∧ e.s = s))).map (fun e => ((e.k, e.s), (C e.b).2.2.map (·.1))) := by
  unfold labs
  rw [List.find?_map]
  congr 1
  refine congrArg (fun p => List.find? p E) (funext fun e => ?_)
  simp [Prod.ext_iff]
theorem chL_labs (E : List En) (C : Nat → Ch) (k : Int) (s : List UInt8) : chL (labs E C) k s = match lkE E k s with | some b => (C b).2.2.map (·.1) | none => [] := by
  unfold chL lkE
  rw [find_labs]
  cases E.find? (fun e => decide (e.k = k ∧ e.s = s)) with
  | none => rfl
  | some e => rfl
theorem any_labs (E : List En) (C : Nat → Ch) (k : Int) (s : List UInt8) : (labs E C).any (fun p => decide (p.1 = (k, s))) = (lkE E k s).isSome := by
  unfold lkE
  unfold labs
  rw [Option.isSome_map, List.any_map, Bool.eq_iff_iff, List.find?_isSome]
  simp [Prod.ext_iff]
def insE (m : Mg) (mn mx : Int) (l : List Int) (own : Int) (c : List Ver) : Nat := match c.reverse.find? (fun v => ((m.state v.wr : Int) != 4)) with
  | none => 0
  | some v => if m.sees mn mx l own v.wr then (if v.th then 91 else 0) else 92
theorem find_last {zs : List VV} {p : VV → Bool} {k : Nat} {z : VV} (hz : zs[k]? = some z) (hp : p z = true) (hl : ∀ (j : Nat) (u : VV), k < j → zs[j]? = some u → p u = false) : zs.reverse.find? p = some z := by
  have hk : k < zs.length := (List.getElem?_eq_some_iff.1 hz).1
  have e : zs = zs.take k ++ z :: zs.drop (k + 1) := by
    have : zs[k] = z := (List.getElem?_eq_some_iff.1 hz).2
    rw [← this, ← List.drop_eq_getElem_cons hk, List.take_append_drop]
  rw [e]
  simp only [List.reverse_append, List.reverse_cons, List.append_assoc]
  rw [List.find?_append]
  have : (zs.drop (k + 1)).reverse.find? p = none := by
    rw [List.find?_eq_none]
    intro u hu
    rw [List.mem_reverse] at hu
    obtain ⟨i, hi⟩ := List.mem_iff_getElem?.1 hu
    rw [List.getElem?_drop] at hi
    rw [hl _ _ (by omega) hi]; exact fun h => by cases h
  rw [this]
  simp [hp]
theorem find_map (zs : List VV) (f : Ver → Bool) : (zs.map (·.1)).reverse.find? f = (zs.reverse.find? (fun z => f z.1)).map (·.1) := by
  rw [← List.map_reverse, List.find?_map]; rfl
theorem insE_none {m : Mg} {mn mx : Int} {l : List Int} {own : Int} {zs : List VV} (h : ∀ z ∈ zs, ((m.state z.1.wr : Int) != 4) = false) : insE m mn mx l own (zs.map (·.1)) = 0 := by
  unfold insE
  rw [find_map]
  have : zs.reverse.find? (fun z => ((m.state z.1.wr : Int) != 4)) = none := by
    rw [List.find?_eq_none]
    intro z hz
    rw [h z (List.mem_reverse.1 hz)]; exact fun h => by cases h
  rw [this]; rfl
theorem insE_some {m : Mg} {mn mx : Int} {l : List Int} {own : Int} {zs : List VV} {k : Nat} {z : VV} (hz : zs[k]? = some z) (hp : ((m.state z.1.wr : Int) != 4) = true) (hl : ∀ (j : Nat) (u : VV), k < j → zs[j]? = some u → ((m.state u.1.wr : Int) != 4) = false) : insE m mn mx l own (zs.map (·.1)) = if m.sees mn mx l own z.1.wr then (if z.1.th then 91 else 0) else 92 := by
  unfold insE
  rw [find_map, find_last (p := fun z => ((m.state z.1.wr : Int) != 4)) hz hp hl]; rfl
section
variable {E E' : List En} {C C' : Nat → Ch} {k : Int} {s : List UInt8} {cb : Nat} {co : Option Addr} {cc : Nat} {zs : List VV} {z : VV}
theorem labs_app (hek : E.Pairwise (fun e f => ¬ (e.k = f.k ∧ e.s = f.s))) (heb : E.Pairwise (fun e f => e.b ≠ f.b)) (hC : C' cb = (co, cc, zs ++ [z])) (hold : (E' = E ∧ lkE E k s = some cb ∧ (C cb).2.2 = zs) ∨ (E' = E ++ [⟨k, s, cb⟩] ∧ lkE E k s = none ∧ zs = [])) (hoth : ∀ e ∈ E, e.b ≠ cb → C' e.b = C e.b) (hn : lkE E k s = none → ∀ e ∈ E, e.b ≠ cb) :
    labs E' C' = appL (labs E C) k s z.1 ∧ chL (labs E C) k s = zs.map (·.1) := by
  rcases hold with ⟨rfl, h1, h2⟩ | ⟨rfl, h1, rfl⟩
  · refine ⟨?_, by rw [chL_labs, h1, ← h2]⟩
    unfold appL
    rw [any_labs, h1, if_pos (by rfl)]
    unfold labs
    rw [List.map_map]
    refine List.map_congr_left fun e he => ?_
    simp only [Function.comp]
    by_cases hb : e.b = cb
    · have hme := lkE_mem h1
      have := pw_inj (fun e : En => e.b) heb he hme hb
      rw [this]
      simp [hC, h2]
    · have hne : ¬ ((e.k, e.s) = (k, s)) := fun e0 => by
        have h3 : e.k = k ∧ e.s = s := by simpa [Prod.ext_iff] using e0
        have := lkE_of_mem hek he
        rw [h3.1, h3.2, h1] at this
        injection this with this
        exact hb this.symm
      rw [if_neg hne, hoth e he hb]
  · refine ⟨?_, by rw [chL_labs, h1]; rfl⟩
    unfold appL
    rw [any_labs, h1, if_neg (by simp)]
    unfold labs
    rw [List.map_append]
    congr 1
    · exact List.map_congr_left fun e he => by rw [hoth e he (hn h1 e he)]
    · simp [hC]
theorem labs_undo (hek : E.Pairwise (fun e f => ¬ (e.k = f.k ∧ e.s = f.s))) (heb : E.Pairwise (fun e f => e.b ≠ f.b)) {wo : Option Addr} {wc : Nat} (hold : (E' = E ∧ lkE E k s = some cb ∧ (C cb).2.2 = zs) ∨ (E' = E ++ [⟨k, s, cb⟩] ∧ lkE E k s = none ∧ zs = [])) (hoth : ∀ e ∈ E, e.b ≠ cb → C' e.b = C e.b) (hn : lkE E k s = none → ∀ e ∈ E, e.b ≠ cb) (hne : ∀ e ∈ E, (C e.b).2.2 ≠ []) :
    labs (tidE E' k s zs) (upB C' cb (wo, wc, zs)) = labs E C := by
  rcases hold with ⟨rfl, h1, h2⟩ | ⟨rfl, h1, rfl⟩
  · have hz : zs ≠ [] := by rw [← h2]; exact hne _ (lkE_mem h1)
    unfold tidE
    rw [if_neg hz]
    unfold labs
    refine List.map_congr_left fun e he => ?_
    by_cases hb : e.b = cb
    · rw [hb, upB_same, h2]
    · rw [upB_other _ _ hb, hoth e he hb]
  · unfold tidE
    rw [if_pos rfl]
    have e1 : (E ++ [(⟨k, s, cb⟩ : En)]).filter (fun e => decide (¬ (e.k = k ∧ e.s = s))) = E := by
      rw [List.filter_append]
      have : E.filter (fun e => decide (¬ (e.k = k ∧ e.s = s))) = E := List.filter_eq_self.2 (fun e he => decide_eq_true (lkE_none h1 e he))
      rw [this]
      simp
    rw [e1]
    unfold labs
    refine List.map_congr_left fun e he => ?_
    rw [upB_other _ _ (hn h1 e he), hoth e he (hn h1 e he)]
end
theorem MF.beside {w w' : World} {mb : Nat} {m : Mg} {F : Nat → Prop} {σ σ' : Nat → Option Nat} (h : MF w mb m (fun i => F i ∨ σ i ≠ none)) (t : Tch (fun i => σ i ≠ none) w w') (hsn : ∀ i, i < w.heap.size → σ i = none → σ' i = none) (hd : ∀ i, σ' i ≠ none → i < w'.heap.size) : MF w' mb m (fun i => F i ∨ σ' i ≠ none) := by
  obtain ⟨τ, b1, b2, hg, hF⟩ := h
  refine ⟨τ, b1, b2, hg.tch t (fun i _ hs => (hF i (Or.inr hs)).1), fun i hi => ?_⟩
  rcases hi with hi | hi
  · exact ⟨(hF i (Or.inl hi)).1, Nat.lt_of_lt_of_le (hF i (Or.inl hi)).2 t.size⟩
  · refine ⟨?_, hd i hi⟩
    rcases Nat.lt_or_ge i w.heap.size with hlt | hge
    · exact (hF i (Or.inr (fun h0 => hi (hsn i hlt h0)))).1
    · cases hs : τ i with
      | none => rfl
      | some a => have := hg.lt i (by rw [hs]; exact fun h => by cases h); omega
end Go.Proofs.YtokgihmigkplaaaGreat
namespace Go.Proofs.YtokgihmigkplaaaGreat
open Go.RowKit Go Go.Sort Go.Maps
theorem lay_any (w : World) (hb mb tb : Nat) (T : List (Int × Nat)) (E : List En) (C : Nat → Ch) (σ : Nat → Option Nat) (q : Nat) (h : HW w hb mb tb T E C σ q) (hq : q ≤ 1000) (k : Int) (h1 : -9223372036854775808 ≤ k) (h2 : k ≤ 9223372036854775807) (S : ByteArray) (hS : S.size ≤ maxLen) (z : VV) (hz : VOK w σ z) :
    Calls Tryz.prog 62 #[.pointer (some ⟨hb, 0, none⟩), .int .i64 k, .string S, .agg #[.int .i64 z.1.wr, .bool z.1.th, .slice z.2.1 z.1.n z.2.2]] w fun x w' => LayOut w hb mb tb E C σ q k S z x w' := by
  cases hl : lkT T k with
  | none => exact lay_C w hb mb tb T E C σ q h hq k h1 h2 S hS z hz hl
  | some l =>
    cases he : lkE E k S.data.toList with
    | none => exact lay_B w hb mb tb T E C σ q h hq k h1 h2 S hS z hz l hl he
    | some cb => exact lay_A w hb mb tb T E C σ q h hq k h1 h2 S hS z hz l hl cb he
theorem wdone_d (bd bu : Nat) (u : FrameMode) (w : World) (h : w.cell? ⟨bd, 0, none⟩ = some (.bool true)) :
    CallsD Tryz.prog 63 #[.pointer (some ⟨bd, 0, none⟩), .pointer (some ⟨bu, 0, none⟩)] u w fun e u' w' => u' = u ∧ e = .returned (.tuple #[]) ∧ w' = w := by
  go_enter_d Tryz.func63, Tryz.ntmps63
  go_wp2
  go_end0
  exact ⟨rfl, rfl⟩
theorem wundo_d (bd bu : Nat) (u : FrameMode) (w : World) (R : World → Prop) (h : w.cell? ⟨bd, 0, none⟩ = some (.bool false)) (c1 c2 c3 c4 c5 : Value) (hu : w.cell? ⟨bu, 0, none⟩ = some (.func (.func 90) #[] #[c1, c2, c3, c4, c5]))
    (hc : Calls Tryz.prog 90 #[c1, c2, c3, c4, c5] w fun x w' => x = .returned (.tuple #[]) ∧ R w') :
    CallsD Tryz.prog 63 #[.pointer (some ⟨bd, 0, none⟩), .pointer (some ⟨bu, 0, none⟩)] u w fun e u' w' => u' = u ∧ e = .returned (.tuple #[]) ∧ R w' := by
  go_enter_d Tryz.func63, Tryz.ntmps63
  go_wp2_with fail
  refine hc.mono ?_
  rintro x w1 ⟨rfl, h1⟩
  go_wp2
  go_end0
  exact ⟨rfl, h1⟩
end Go.Proofs.YtokgihmigkplaaaGreat
namespace Go.Proofs.YtokgihmigkplaaaGreat
open Go.RowKit Go Go.Sort Go.Maps
theorem SB.keep {w w' : World} {σ : Nat → Option Nat} {hb bh bs bx : Nat} {mn mx : Int} {l : List Int} {so : Option Addr} {sc : Nat} {own : Int} (k : SB w hb bh bs bx mn mx l so sc own) (t : Tch (fun i => σ i ≠ none) w w') (l1 : σ bh = none) (l2 : σ bs = none) (l3 : σ bx = none) (l4 : ∀ a, so = some a → σ a.block = none) : SB w' hb bh bs bx mn mx l so sc own := by
  refine ⟨by rw [t.block bh (blk_lt k.h) (fun h => h l1)]; exact k.h, by rw [t.block bs (blk_lt k.s) (fun h => h l2)]; exact k.s, by rw [t.block bx (blk_lt k.x) (fun h => h l3)]; exact k.x, fun i n hi => ?_⟩
  obtain ⟨g, o, e, hc⟩ := k.ir i n hi
  exact ⟨g, o, e, by rw [t.cell (p := ⟨g, o + i, none⟩) (cell_lt hc) (fun h => h (l4 ⟨g, o, none⟩ e))]; exact hc⟩
def WrOut (w : World) (hb mb tb : Nat) (E : List En) (C : Nat → Ch) (σ : Nat → Option Nat) (q : Nat) (k : Int) (s : List UInt8) (v : Ver) (ee : Nat) (x : Ending) (w' : World) : Prop :=
  ∃ ro rn rc T' E' C' σ', x = .returned (.tuple #[.slice ro rn rc, .int .i64 (ee : Nat)]) ∧ HW w' hb mb tb T' E' C' σ' (q + 3) ∧ labs E' C' = (if ee = 0 then appL (labs E C) k s v else labs E C) ∧ (∀ i, σ i ≠ none → σ' i = σ i) ∧ (∀ i, i < w.heap.size → σ i = none → σ' i = none) ∧ Tch (fun i => σ i ≠ none) w w'
theorem enters_stands : ∀ args w, (callFunc 64 args).run Tryz.prog w = .ok (.enter 64 args) w := enters_of Tryz.func64 (by kernel_rfl) rfl
theorem write_any (w : World) (hb mb tb : Nat) (T : List (Int × Nat)) (E : List En) (C : Nat → Ch) (σ : Nat → Option Nat) (q : Nat) (h : HW w hb mb tb T E C σ q) (hne : ∀ e ∈ E, (C e.b).2.2 ≠ []) (hq : q ≤ 1000) (m : Mg) (F : Nat → Prop) (hM : MF w mb m (fun i => F i ∨ σ i ≠ none)) (k : Int) (h1 : -9223372036854775808 ≤ k) (h2 : k ≤ 9223372036854775807) (S : ByteArray) (hS : S.size ≤ maxLen) (z : VV) (hz : VOK w σ z)
    (bh bs bx : Nat) (mn mx : Int) (l : List Int) (so : Option Addr) (sc : Nat) (own : Int) (h3 : -9223372036854775808 ≤ own) (h4 : own ≤ 9223372036854775807) (hl : l.length ≤ 9223372036854775807) (sb : SB w hb bh bs bx mn mx l so sc own) (l1 : σ bh = none) (l2 : σ bs = none) (l3 : σ bx = none) (l4 : ∀ a, so = some a → σ a.block = none) :
    Calls Tryz.prog 39 #[.pointer (some ⟨hb, 0, none⟩), .int .i64 k, .string S, .agg #[.int .i64 z.1.wr, .bool z.1.th, .slice z.2.1 z.1.n z.2.2], .func (.func 59) #[] #[.pointer (some ⟨bh, 0, none⟩), .pointer (some ⟨bs, 0, none⟩), .pointer (some ⟨bx, 0, none⟩)], .func (.func 41) #[] #[]] w fun x w' => WrOut w hb mb tb E C σ q k S.data.toList z.1 (insE m mn mx l own (chL (labs E C) k S.data.toList)) x w' := by
  obtain ⟨w0, hw0⟩ : ∃ w0, w0 = w.alloc (.cells #[.int .i64 z.1.wr, .bool z.1.th, .slice z.2.1 z.1.n z.2.2] 79) := ⟨_, rfl⟩
  have t0 : Tch (fun _ => False) w w0 := by rw [hw0]; exact Tch.alloc _ _ _
  have qL := lay_any w0 hb mb tb T E C σ q (h.no t0) hq k h1 h2 S hS z (hz.tch t0 (fun _ _ h => h.elim) (fun _ _ _ => rfl))
  obtain ⟨EE, hEE⟩ : ∃ EE, EE = insE m mn mx l own (chL (labs E C) k S.data.toList) := ⟨_, rfl⟩
  rw [← hEE]
  have HEE : Hid _ := hEE
  obtain ⟨wr, hwr⟩ : ∃ wr, wr = z.1.wr := ⟨_, rfl⟩
  obtain ⟨th, hth⟩ : ∃ th, th = z.1.th := ⟨_, rfl⟩
  obtain ⟨rv, hrv⟩ : ∃ rv, rv = z.2.1 := ⟨_, rfl⟩
  obtain ⟨rn, hrn⟩ : ∃ rn, rn = z.1.n := ⟨_, rfl⟩
  obtain ⟨rc, hrc⟩ : ∃ rc, rc = z.2.2 := ⟨_, rfl⟩
  have e0 : w0.heap[w.heap.size]? = some (.cells #[.int .i64 wr, .bool th, .slice rv rn rc] 79 (0, 0)) := by rw [hw0, hwr, hth, hrv, hrn, hrc]; exact alloc_new _ _
  rw [← hwr, ← hth, ← hrv, ← hrn, ← hrc] at hw0 qL ⊢
  have T0 : Hid _ := t0
  have HH : Hid (∀ w1 (σ' : Nat → Option Nat), Tch (fun i => σ i ≠ none) w0 w1 → (∀ i, i < w0.heap.size → σ i = none → σ' i = none) → (∀ i, σ' i ≠ none → i < w1.heap.size) → MF w1 mb m (fun i => F i ∨ σ' i ≠ none) ∧ SB w1 hb bh bs bx mn mx l so sc own ∧ Tch (fun i => σ i ≠ none) w w1) := fun w1 σ' t hsn hd => ⟨(hM.no t0).beside t hsn hd, (sb.no t0).keep t l1 l2 l3 l4, (t0.mono (fun _ _ h => h.elim)).trans' t⟩
  have HB : Hid (E.Pairwise (fun e f => ¬ (e.k = f.k ∧ e.s = f.s)) ∧ E.Pairwise (fun e f => e.b ≠ f.b) ∧ (∀ e ∈ E, (C e.b).2.2 ≠ []) ∧ q ≤ 1000) := ⟨h.ek, h.eb, hne, hq⟩
  have HK : Hid (-9223372036854775808 ≤ k ∧ k ≤ 9223372036854775807 ∧ S.size ≤ maxLen ∧ -9223372036854775808 ≤ own ∧ own ≤ 9223372036854775807 ∧ l.length ≤ 9223372036854775807 ∧ w0.heap.size = w.heap.size + 1) := ⟨h1, h2, hS, h3, h4, hl, by rw [hw0]; simp⟩
  have Hw0 : Hid _ := hw0
  have hmf : ∀ (fn : Fn) (first cap : Array Value) (w : World), (Instr.makeFunc fn first cap).run Tryz.prog w = .ok (.func fn first cap) w := fun _ _ _ _ => rfl
  have k0 : w0.cell? ⟨w.heap.size, 0, none⟩ = some (.int .i64 wr) := by rw [blk_cell e0]; rfl
  have k1 : w0.cell? ⟨w.heap.size, 1, none⟩ = some (.bool th) := by rw [blk_cell e0]; rfl
  have k2 : w0.cell? ⟨w.heap.size, 2, none⟩ = some (.slice rv rn rc) := by rw [blk_cell e0]; rfl
  rw [hw0] at qL
  clear h hne hq hM h1 h2 hS hz h3 h4 hl sb l1 l2 l3 l4 t0 hEE hwr hth hrv hrn hrc e0 hw0 k0 k1 k2
  go_enter_defers Tryz.func39, Tryz.ntmps39
  go_wp2_with fail
  refine qL.mono ?_
  clear qL
  rw [← Hw0.out]
  rintro x w1 ⟨T', E', C', σ', cb, co, cc, zs, bc, bw, bh', bt, bk, wo, wc, rfl, hw1, u1, me, hC, hold, hoth, hsg, hsn, t1⟩
  obtain ⟨hM1, sb1, T1⟩ := HH.out w1 σ' t1 hsn hw1.dom
  obtain ⟨hek, heb, hne, hq⟩ := HB.out
  obtain ⟨h1, h2, hS, h3, h4, hl, hs0⟩ := HK.out
  have hn : lkE E k S.data.toList = none → ∀ e ∈ E, e.b ≠ cb := fun h0 e he => by
    rcases hold with ⟨_, e1, _⟩ | ⟨rfl, _, _⟩
    · rw [h0] at e1; cases e1
    · have := hw1.eb
      rw [List.pairwise_append] at this
      exact this.2.2 e he _ (List.mem_singleton.2 rfl)
  obtain ⟨hlab, hchl⟩ := labs_app hek heb hC hold hoth hn
  have hlabU := fun wo wc => labs_undo (wo := wo) (wc := wc) hek heb hold hoth hn hne
  have hEE : EE = insE m mn mx l own (zs.map (·.1)) := by rw [HEE.out, hchl]
  have hlz : zs.length ≤ 1000000 := by
    have := (hw1.chs _ me).2
    rw [hC] at this
    simp at this
    omega
  have hsn' : ∀ i, i < w.heap.size → σ i = none → σ' i = none := fun i hi h0 => hsn i (by omega) h0
  have HO : Hid (∀ w9 (ee : Nat) (ro : Option Addr) (rn rc : Nat), ee = EE → EE = 0 → Tch (fun _ => False) w1 w9 → WrOut w hb mb tb E C σ q k S.data.toList z.1 EE (.returned (.tuple #[.slice ro rn rc, .int .i64 (ee : Nat)])) w9) := fun w9 ee ro rn rc he h0 t => by
    subst he
    exact ⟨ro, rn, rc, T', E', C', σ', rfl, hw1.no t, by rw [if_pos h0]; exact hlab, hsg, hsn', T1.trans t (fun _ _ h => h.elim)⟩
  have HU : Hid (∀ w9 (R : World → Prop), Tch (fun _ => False) w1 w9 → EE ≠ 0 → (∀ w8, WrOut w hb mb tb E C σ q k S.data.toList z.1 EE (.returned (.tuple #[.slice none 0 0, .int .i64 (EE : Nat)])) w8 → R w8) → Calls Tryz.prog 90 #[.pointer (some ⟨bc, 0, none⟩), .pointer (some ⟨bw, 0, none⟩), .pointer (some ⟨bh', 0, none⟩), .pointer (some ⟨bt, 0, none⟩), .pointer (some ⟨bk, 0, none⟩)] w9 fun x w' => x = .returned (.tuple #[]) ∧ R w') := fun w9 R t hne0 hR => by
    refine (undo_any w9 hb mb tb T' E' C' σ' (q + 3) (hw1.no t) k h1 h2 S hS cb wo wc zs bc bw bh' bt bk (u1.no t) me co cc z hC (by omega)).mono ?_
    rintro x w8 ⟨rfl, ⟨T8, hw8⟩, t8⟩
    refine ⟨rfl, hR w8 ⟨none, 0, 0, T8, _, _, σ', rfl, hw8, by rw [if_neg hne0]; exact hlabU wo wc, hsg, hsn', (T1.trans t (fun _ _ h => h.elim)).trans t8 (fun i hi hs h0 => hs (hsn' i hi h0))⟩⟩
  obtain ⟨W2, hW2⟩ : ∃ W2, W2 = (w1.alloc (.cells #[.func (.func 90) #[] #[.pointer (some ⟨bc, 0, none⟩), .pointer (some ⟨bw, 0, none⟩), .pointer (some ⟨bh', 0, none⟩), .pointer (some ⟨bt, 0, none⟩), .pointer (some ⟨bk, 0, none⟩)]] 1)).alloc (.cells #[.bool false] 4) := ⟨_, rfl⟩
  have t2 : Tch (fun _ => False) w1 W2 := by rw [hW2]; exact (Tch.alloc _ _ _).allocR _
  have b15 : W2.heap[w1.heap.size]? = some (.cells #[.func (.func 90) #[] #[.pointer (some ⟨bc, 0, none⟩), .pointer (some ⟨bw, 0, none⟩), .pointer (some ⟨bh', 0, none⟩), .pointer (some ⟨bt, 0, none⟩), .pointer (some ⟨bk, 0, none⟩)]] 1 (0, 0)) := by
    rw [hW2, (Tch.alloc (fun _ => False) (w1.alloc (.cells #[.func (.func 90) #[] #[.pointer (some ⟨bc, 0, none⟩), .pointer (some ⟨bw, 0, none⟩), .pointer (some ⟨bh', 0, none⟩), .pointer (some ⟨bt, 0, none⟩), .pointer (some ⟨bk, 0, none⟩)]] 1)) _).block _ (by simp) (fun h => h)]; exact alloc_new _ _
  have b16 : W2.heap[w1.heap.size + 1]? = some (.cells #[.bool false] 4 (0, 0)) := by
    rw [hW2]
    have := alloc_new (w1.alloc (.cells #[.func (.func 90) #[] #[.pointer (some ⟨bc, 0, none⟩), .pointer (some ⟨bw, 0, none⟩), .pointer (some ⟨bh', 0, none⟩), .pointer (some ⟨bt, 0, none⟩), .pointer (some ⟨bk, 0, none⟩)]] 1)) (.cells #[.bool false] 4)
    rwa [World.size_alloc] at this
  have hc0 := hw1.c0
  have hok := u1.ok
  have qN := newest_any wo wc zs hlz W2 ((vrd_of u1.row).tch t2) (fun z => ((m.state z.1.wr : Int) != 4)) 64 #[.pointer (some ⟨hb, 0, none⟩)] #[] ⟨enters_stands, fun z' W hz' tW => by
    have tt := t2.trans' tW
    exact stands_any hb mb m W _ (hM1.no tt) (by rw [tt.cell (p := ⟨hb, 0, none⟩) (cell_lt hc0) (fun h => h)]; exact hc0) z'.1.wr (hok z' hz').lo (hok z' hz').hi z'.1.th z'.2.1 z'.1.n z'.2.2⟩
  have HQ : Hid (∀ W (z' : VV), z' ∈ zs → Tch (fun _ => False) w1 W → Calls Tryz.prog 59 #[.agg #[.int .i64 z'.1.wr, .bool z'.1.th, .slice z'.2.1 z'.1.n z'.2.2], .pointer (some ⟨bh, 0, none⟩), .pointer (some ⟨bs, 0, none⟩), .pointer (some ⟨bx, 0, none⟩)] W fun x w' => x = .returned (.bool (m.sees mn mx l own z'.1.wr)) ∧ Tch (fun _ => False) W w') := fun W z' hz' tt =>
    seen1_any hb mb m W _ (hM1.no tt) (by rw [tt.cell (p := ⟨hb, 0, none⟩) (cell_lt hc0) (fun h => h)]; exact hc0) z'.1.wr (hok z' hz').lo (hok z' hz').hi z'.1.th z'.2.1 z'.1.n z'.2.2 bh bs bx mn mx l so sc own h3 h4 hl (sb1.no tt)
  have HR : Hid (∀ W (z' : VV), z' ∈ zs → Tch (fun _ => False) w1 W → RdR W z'.2.1 z'.1.n z'.2.2 z'.1.cs) := fun W z' hz' tt => (RdR.of_own (hok z' hz').own (hok z' hz').one (hok z' hz').sm).no tt
  obtain ⟨ln, hln⟩ : ∃ ln, ln = zs.length := ⟨_, rfl⟩
  rw [← hln] at qN ⊢
  have HE : Hid _ := hEE
  have T2 : Hid _ := t2
  have HW2 : Hid _ := hW2
  have B15 : Hid _ := b15
  have B16 : Hid _ := b16
  clear HH HB HK hM1 sb1 T1 hek heb hne hq h1 h2 hS h3 h4 hl hs0 hn hlab hchl hlabU hEE hlz hsn' hc0 hok hold hoth hsg hsn t1 hC me u1 hw1 t2 b15 b16 hln
  rw [hW2] at qN
  clear hW2
  go_wp2_with fail
  refine qN.mono ?_
  clear qN
  rw [← HW2.out]
  rintro x w3 ⟨hnw, t3⟩
  have T3 : Hid (Tch (fun _ => False) w1 w3) := T2.out.trans' t3
  have c15 : Hid (∀ W, Tch (fun _ => False) w3 W → W.heap[w1.heap.size]? = some (.cells #[.func (.func 90) #[] #[.pointer (some ⟨bc, 0, none⟩), .pointer (some ⟨bw, 0, none⟩), .pointer (some ⟨bh', 0, none⟩), .pointer (some ⟨bt, 0, none⟩), .pointer (some ⟨bk, 0, none⟩)]] 1 (0, 0)) ∧ W.heap[w1.heap.size + 1]? = some (.cells #[.bool false] 4 (0, 0))) := fun W t =>
    ⟨by rw [(t3.trans' t).block _ (blk_lt B15.out) (fun h => h)]; exact B15.out, by rw [(t3.trans' t).block _ (blk_lt B16.out) (fun h => h)]; exact B16.out⟩
  clear t3
  rcases hnw with ⟨hall, rfl⟩ | ⟨i, z0, hz0, hp0, hla, rfl⟩
  · have hE0 : EE = 0 := by rw [HE.out]; exact insE_none hall
    obtain ⟨w4, hw4⟩ : ∃ w4, w4 = w3.alloc (.cells #[.int .i64 0, .bool false, .slice none 0 0] 79) := ⟨_, rfl⟩
    have t4 : Tch (fun _ => False) w3 w4 := by rw [hw4]; exact Tch.alloc _ _ _
    have OB : Hid (w4.heap[w3.heap.size]? = some (.cells #[.int .i64 0, .bool false, .slice none 0 0] 79 (0, 0))) := by
      show _ = _
      rw [hw4]; exact alloc_new _ _
    have qM := mayInsert_any 0 false none 0 0 w4
    simp only [Bool.false_eq_true, if_false] at qM
    rw [hw4] at qM
    clear hall
    go_wp2_with fail
    refine qM.mono ?_
    rw [← hw4]
    rintro x w5 ⟨rfl, t5⟩
    clear qM
    obtain ⟨b15, b16⟩ := c15.out w5 (t4.trans' t5)
    have bo : w5.heap[w3.heap.size]? = some (.cells #[.int .i64 0, .bool false, .slice none 0 0] 79 (0, 0)) := by rw [t5.block _ (blk_lt OB.out) (fun h => h)]; exact OB.out
    have a16 : w5.cell? ⟨w1.heap.size + 1, 0, none⟩ = some (.bool false) := by rw [blk_cell b16]; rfl
    have f16 := blk_frozen b16 0
    have b16' := blk_set (i := 0) b16 (.bool true)
    have tS : Tch (fun i => i = w1.heap.size + 1) w5 (w5.setCell ⟨w1.heap.size + 1, 0, none⟩ (.bool true)) := Tch.setCell (fun i => i = w1.heap.size + 1) w5 ⟨w1.heap.size + 1, 0, none⟩ _ rfl
    have T5 : Tch (fun _ => False) w1 w5 := (T3.out.trans' t4).trans' t5
    have T6 : Tch (fun _ => False) w1 (w5.setCell ⟨w1.heap.size + 1, 0, none⟩ (.bool true)) := tch_new T5 (Nat.le_succ _) tS
    have hob : w3.heap.size ≠ w1.heap.size + 1 := fun e => by rw [e, b16] at bo; cases bo
    have bo' : (w5.setCell ⟨w1.heap.size + 1, 0, none⟩ (.bool true)).heap[w3.heap.size]? = some (.cells #[.int .i64 0, .bool false, .slice none 0 0] 79 (0, 0)) := by rw [tS.block _ (blk_lt bo) hob]; exact bo
    have ao : (w5.setCell ⟨w1.heap.size + 1, 0, none⟩ (.bool true)).cell? ⟨w3.heap.size, 2, none⟩ = some (.slice none 0 0) := by rw [blk_cell bo']; rfl
    have qC := rclone_any none 0 0 [] (w5.setCell ⟨w1.heap.size + 1, 0, none⟩ (.bool true)) ⟨rfl, (fun u hu => by cases hu), by omega, .inl ⟨rfl, rfl, rfl⟩⟩
    have HB16 : Hid _ := b16'
    have HT6 : Hid _ := T6
    clear b15 b16 b16' bo bo' tS T5 T6 hob t5
    go_wp2_with fail
    refine qC.mono ?_
    rintro x w7 ⟨⟨ro7, rc7, rfl, _⟩, t7⟩
    clear qC
    have d7 : w7.cell? ⟨w1.heap.size + 1, 0, none⟩ = some (.bool true) := by rw [t7.cell (p := ⟨w1.heap.size + 1, 0, none⟩) (blk_lt HB16.out) (fun h => h), blk_cell HB16.out]; rfl
    have T7 : Tch (fun _ => False) w1 w7 := HT6.out.trans' t7
    clear t7 ao a16 f16
    go_wp2_with fail
    refine leaves_cons (f := 63) (args := #[.pointer (some ⟨w1.heap.size + 1, 0, none⟩), .pointer (some ⟨w1.heap.size, 0, none⟩)]) (by simp) (by simp [go_sem]) ?_
    refine (wdone_d _ _ .returning _ d7).mono ?_
    rintro e u' w'' ⟨rfl, rfl, rfl⟩
    refine ⟨_, results_tmp2 rfl _ _ _, ?_⟩
    exact HO.out _ 0 _ _ _ hE0.symm hE0 T7
  · have hEs := HE.out.trans (insE_some hz0 hp0 hla)
    have hm0 : z0 ∈ zs := List.mem_of_getElem? hz0
    obtain ⟨w4, hw4⟩ : ∃ w4, w4 = w3.alloc (.cells #[.int .i64 z0.1.wr, .bool z0.1.th, .slice z0.2.1 z0.1.n z0.2.2] 79) := ⟨_, rfl⟩
    have t4 : Tch (fun _ => False) w3 w4 := by rw [hw4]; exact Tch.alloc _ _ _
    have OB : Hid (w4.heap[w3.heap.size]? = some (.cells #[.int .i64 z0.1.wr, .bool z0.1.th, .slice z0.2.1 z0.1.n z0.2.2] 79 (0, 0))) := by
      show _ = _
      rw [hw4]; exact alloc_new _ _
    have qS := HQ.out w4 z0 hm0 (T3.out.trans' t4)
    rw [hw4] at qS
    clear hz0 hp0 hla
    cases hse : m.sees mn mx l own z0.1.wr
    · rw [hse] at qS
      have hE0 : EE = 92 := by rw [hEs, hse]; rfl
      clear hEs hse
      go_wp2_with fail
      refine qS.mono ?_
      rw [← hw4]
      rintro x w5 ⟨rfl, t5⟩
      clear qS
      have T5 : Tch (fun _ => False) w1 w5 := (T3.out.trans' t4).trans' t5
      obtain ⟨b15, b16⟩ := c15.out w5 (t4.trans' t5)
      have d5 : w5.cell? ⟨w1.heap.size + 1, 0, none⟩ = some (.bool false) := by rw [blk_cell b16]; rfl
      have d6 : w5.cell? ⟨w1.heap.size, 0, none⟩ = some (.func (.func 90) #[] #[.pointer (some ⟨bc, 0, none⟩), .pointer (some ⟨bw, 0, none⟩), .pointer (some ⟨bh', 0, none⟩), .pointer (some ⟨bt, 0, none⟩), .pointer (some ⟨bk, 0, none⟩)]) := by rw [blk_cell b15]; rfl
      clear b15 b16 t5
      go_wp2_with fail
      refine leaves_cons (f := 63) (args := #[.pointer (some ⟨w1.heap.size + 1, 0, none⟩), .pointer (some ⟨w1.heap.size, 0, none⟩)]) (by simp) (by simp [go_sem]) ?_
      refine (wundo_d _ _ .returning _ _ d5 _ _ _ _ _ d6 (HU.out _ _ T5 (by rw [hE0]; decide) (fun _ h => h))).mono ?_
      rintro e u' w'' ⟨rfl, rfl, hw⟩
      refine ⟨_, results_tmp2 rfl _ _ _, ?_⟩
      rw [hE0] at hw
      rw [hE0]
      exact hw
    · rw [hse] at qS
      cases hth0 : z0.1.th
      · have hE0 : EE = 0 := by rw [hEs, hse, hth0]; rfl
        rw [hth0] at qS hw4
        have hrd := HR.out
        clear hEs hse
        go_wp2_with fail
        refine qS.mono ?_
        rw [← hw4]
        rintro x w5s ⟨rfl, t5s⟩
        clear qS
        have OB1 : Hid (w5s.heap[w3.heap.size]? = some (.cells #[.int .i64 z0.1.wr, .bool false, .slice z0.2.1 z0.1.n z0.2.2] 79 (0, 0))) := by
          have := OB.out
          rw [hth0] at this
          show _ = _
          rw [t5s.block _ (blk_lt this) (fun h => h)]; exact this
        have o0 : w5s.cell? ⟨w3.heap.size, 0, none⟩ = some (.int .i64 z0.1.wr) := by rw [blk_cell OB1.out]; rfl
        have o1 : w5s.cell? ⟨w3.heap.size, 1, none⟩ = some (.bool false) := by rw [blk_cell OB1.out]; rfl
        have o2 : w5s.cell? ⟨w3.heap.size, 2, none⟩ = some (.slice z0.2.1 z0.1.n z0.2.2) := by rw [blk_cell OB1.out]; rfl
        have t45 := t4.trans' t5s
        have qM := mayInsert_any z0.1.wr false z0.2.1 z0.1.n z0.2.2 w5s
        simp only [Bool.false_eq_true, if_false] at qM
        clear OB hth0 t5s t4 hw4
        go_wp2_with fail
        refine qM.mono ?_
        rintro x w5 ⟨rfl, t5⟩
        clear qM o0 o1 o2
        obtain ⟨b15, b16⟩ := c15.out w5 (t45.trans' t5)
        have bo : w5.heap[w3.heap.size]? = some (.cells #[.int .i64 z0.1.wr, .bool false, .slice z0.2.1 z0.1.n z0.2.2] 79 (0, 0)) := by rw [t5.block _ (blk_lt OB1.out) (fun h => h)]; exact OB1.out
        have a16 : w5.cell? ⟨w1.heap.size + 1, 0, none⟩ = some (.bool false) := by rw [blk_cell b16]; rfl
        have f16 := blk_frozen b16 0
        have b16' := blk_set (i := 0) b16 (.bool true)
        have tS : Tch (fun i => i = w1.heap.size + 1) w5 (w5.setCell ⟨w1.heap.size + 1, 0, none⟩ (.bool true)) := Tch.setCell (fun i => i = w1.heap.size + 1) w5 ⟨w1.heap.size + 1, 0, none⟩ _ rfl
        have T5 : Tch (fun _ => False) w1 w5 := (T3.out.trans' t45).trans' t5
        have T6 : Tch (fun _ => False) w1 (w5.setCell ⟨w1.heap.size + 1, 0, none⟩ (.bool true)) := tch_new T5 (Nat.le_succ _) tS
        have hob : w3.heap.size ≠ w1.heap.size + 1 := fun e => by rw [e, b16] at bo; cases bo
        have bo' : (w5.setCell ⟨w1.heap.size + 1, 0, none⟩ (.bool true)).heap[w3.heap.size]? = some (.cells #[.int .i64 z0.1.wr, .bool false, .slice z0.2.1 z0.1.n z0.2.2] 79 (0, 0)) := by rw [tS.block _ (blk_lt bo) hob]; exact bo
        have ao : (w5.setCell ⟨w1.heap.size + 1, 0, none⟩ (.bool true)).cell? ⟨w3.heap.size, 2, none⟩ = some (.slice z0.2.1 z0.1.n z0.2.2) := by rw [blk_cell bo']; rfl
        have qC := rclone_any z0.2.1 z0.1.n z0.2.2 z0.1.cs (w5.setCell ⟨w1.heap.size + 1, 0, none⟩ (.bool true)) (hrd _ z0 hm0 T6)
        have HB16 : Hid _ := b16'
        have HT6 : Hid _ := T6
        clear b15 b16 b16' bo bo' tS T5 T6 hob t5
        go_wp2_with fail
        refine qC.mono ?_
        rintro x w7 ⟨⟨ro7, rc7, rfl, _⟩, t7⟩
        clear qC
        have d7 : w7.cell? ⟨w1.heap.size + 1, 0, none⟩ = some (.bool true) := by rw [t7.cell (p := ⟨w1.heap.size + 1, 0, none⟩) (blk_lt HB16.out) (fun h => h), blk_cell HB16.out]; rfl
        have T7 : Tch (fun _ => False) w1 w7 := HT6.out.trans' t7
        clear t7 ao a16 f16
        go_wp2_with fail
        refine leaves_cons (f := 63) (args := #[.pointer (some ⟨w1.heap.size + 1, 0, none⟩), .pointer (some ⟨w1.heap.size, 0, none⟩)]) (by simp) (by simp [go_sem]) ?_
        refine (wdone_d _ _ .returning _ d7).mono ?_
        rintro e u' w'' ⟨rfl, rfl, rfl⟩
        refine ⟨_, results_tmp2 rfl _ _ _, ?_⟩
        exact HO.out _ 0 _ _ _ hE0.symm hE0 T7
      · have hE0 : EE = 91 := by rw [hEs, hse, hth0]; rfl
        rw [hth0] at qS hw4
        clear hEs hse
        go_wp2_with fail
        refine qS.mono ?_
        rw [← hw4]
        rintro x w5s ⟨rfl, t5s⟩
        clear qS
        have OB1 : Hid (w5s.heap[w3.heap.size]? = some (.cells #[.int .i64 z0.1.wr, .bool true, .slice z0.2.1 z0.1.n z0.2.2] 79 (0, 0))) := by
          have := OB.out
          rw [hth0] at this
          show _ = _
          rw [t5s.block _ (blk_lt this) (fun h => h)]; exact this
        have o0 : w5s.cell? ⟨w3.heap.size, 0, none⟩ = some (.int .i64 z0.1.wr) := by rw [blk_cell OB1.out]; rfl
        have o1 : w5s.cell? ⟨w3.heap.size, 1, none⟩ = some (.bool true) := by rw [blk_cell OB1.out]; rfl
        have o2 : w5s.cell? ⟨w3.heap.size, 2, none⟩ = some (.slice z0.2.1 z0.1.n z0.2.2) := by rw [blk_cell OB1.out]; rfl
        have t45 := t4.trans' t5s
        have qM := mayInsert_any z0.1.wr true z0.2.1 z0.1.n z0.2.2 w5s
        simp only [if_true] at qM
        clear OB hth0 t5s t4 hw4
        go_wp2_with fail
        refine qM.mono ?_
        rintro x w5 ⟨rfl, t5⟩
        clear qM o0 o1 o2
        have T5 : Tch (fun _ => False) w1 w5 := (T3.out.trans' t45).trans' t5
        obtain ⟨b15, b16⟩ := c15.out w5 (t45.trans' t5)
        have d5 : w5.cell? ⟨w1.heap.size + 1, 0, none⟩ = some (.bool false) := by rw [blk_cell b16]; rfl
        have d6 : w5.cell? ⟨w1.heap.size, 0, none⟩ = some (.func (.func 90) #[] #[.pointer (some ⟨bc, 0, none⟩), .pointer (some ⟨bw, 0, none⟩), .pointer (some ⟨bh', 0, none⟩), .pointer (some ⟨bt, 0, none⟩), .pointer (some ⟨bk, 0, none⟩)]) := by rw [blk_cell b15]; rfl
        clear b15 b16 t5
        go_wp2_with fail
        refine leaves_cons (f := 63) (args := #[.pointer (some ⟨w1.heap.size + 1, 0, none⟩), .pointer (some ⟨w1.heap.size, 0, none⟩)]) (by simp) (by simp [go_sem]) ?_
        refine (wundo_d _ _ .returning _ _ d5 _ _ _ _ _ d6 (HU.out _ _ T5 (by rw [hE0]; decide) (fun _ h => h))).mono ?_
        rintro e u' w'' ⟨rfl, rfl, hw⟩
        refine ⟨_, results_tmp2 rfl _ _ _, ?_⟩
        rw [hE0] at hw
        rw [hE0]
        exact hw
end Go.Proofs.YtokgihmigkplaaaGreat
