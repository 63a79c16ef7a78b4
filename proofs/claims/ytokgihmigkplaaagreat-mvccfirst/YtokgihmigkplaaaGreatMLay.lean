import Derived.Test.YtokgihmigkplaaaGreatMHp
namespace Go.Proofs.YtokgihmigkplaaaGreat
open Go.RowKit Go Go.Maps
abbrev Ch := Option Addr × Nat × List VV
theorem law_str : Keyed Tryz.prog 9 := Maps.string_keyed Tryz.underlying9
theorem zero_map (w : World) : (zeroValue 116).run Tryz.prog w = .ok (.map none) w := by kernel_rfl
theorem zero_ptr (w : World) : (zeroValue 117).run Tryz.prog w = .ok (.pointer none) w := by kernel_rfl
structure HW (w : World) (hb mb tb : Nat) (T : List (Int × Nat)) (E : List En) (C : Nat → Ch) (σ : Nat → Option Nat) (q : Nat) : Prop where
  blk : w.heap[hb]? = some (.cells #[.pointer (some ⟨mb, 0, none⟩), .map (some tb)] 98 (0, 0))
  lb : σ hb = some (2 * hb + 1)
  lt : σ tb = some (2 * hb + 1)
  mp : ∃ D, w.ownsMap Tryz.prog 3 mapElem tb q D ∧ ∀ k zd, D.atKey (.int .i64 k) zd = atB (lkT T k) zd
  inn : ∀ p ∈ T, σ p.2 = some (2 * p.2 + 1) ∧ ∃ D, w.ownsMap Tryz.prog 9 ptrElem p.2 q D ∧ ∀ s zd, D.atKey (.string s) zd = atB (lkE E p.1 s) zd
  chs : ∀ e ∈ E, CB w σ e.b (C e.b).1 (C e.b).2.1 (C e.b).2.2 ∧ (C e.b).2.2.length ≤ q
  tk : T.Pairwise (fun p r => p.1 ≠ r.1)
  tl : T.Pairwise (fun p r => p.2 ≠ r.2)
  ek : E.Pairwise (fun e f => ¬ (e.k = f.k ∧ e.s = f.s))
  eb : E.Pairwise (fun e f => e.b ≠ f.b)
  et : ∀ e ∈ E, ∃ l, (e.k, l) ∈ T
  dom : ∀ i, σ i ≠ none → i < w.heap.size
section
variable {w : World} {hb mb tb : Nat} {T : List (Int × Nat)} {E : List En} {C : Nat → Ch} {σ : Nat → Option Nat} {q : Nat}
theorem HW.c0 (h : HW w hb mb tb T E C σ q) : w.cell? ⟨hb, 0, none⟩ = some (.pointer (some ⟨mb, 0, none⟩)) := by rw [blk_cell h.blk]; rfl
theorem HW.c1 (h : HW w hb mb tb T E C σ q) : w.cell? ⟨hb, 1, none⟩ = some (.map (some tb)) := by rw [blk_cell h.blk]; rfl
theorem HW.tch {S : Nat → Prop} {w' : World} (h : HW w hb mb tb T E C σ q) (t : Tch S w w') (hS : ∀ i, i < w.heap.size → S i → σ i = none) : HW w' hb mb tb T E C σ q := by
  obtain ⟨D, hD, hk⟩ := h.mp
  refine ⟨?_, h.lb, h.lt, ⟨D, ownsMap_tch hD t (fun hs => ?_), hk⟩, fun p hp => ?_, fun e he => ?_, h.tk, h.tl, h.ek, h.eb, h.et, fun i hi => Nat.lt_of_lt_of_le (h.dom i hi) t.size⟩
  · have hl := blk_lt h.blk
    rw [t.block hb hl (fun hs => by have := hS hb hl hs; rw [h.lb] at this; cases this)]; exact h.blk
  · have := hS tb hD.lt hs; rw [h.lt] at this; cases this
  · obtain ⟨h1, D, hD, hk⟩ := h.inn p hp
    exact ⟨h1, D, ownsMap_tch hD t (fun hs => by have := hS _ hD.lt hs; rw [h1] at this; cases this), hk⟩
  · obtain ⟨h1, h2⟩ := h.chs e he
    exact ⟨h1.tch t (fun g hg hs => by rw [hS g hg hs]; exact ⟨(fun h => by cases h), fun j h => by cases h⟩) (fun _ _ _ => rfl), h2⟩
theorem HW.no {w' : World} (h : HW w hb mb tb T E C σ q) (t : Tch (fun _ => False) w w') : HW w' hb mb tb T E C σ q := h.tch t (fun _ _ h => h.elim)
theorem HW.relab (h : HW w hb mb tb T E C σ q) {σ' : Nat → Option Nat} (hσ : ∀ i, σ i ≠ none → σ' i = σ i) (hd : ∀ i, σ' i ≠ none → i < w.heap.size) : HW w hb mb tb T E C σ' q := by
  refine ⟨h.blk, (hσ hb (by rw [h.lb]; exact fun h => by cases h)).trans h.lb, (hσ tb (by rw [h.lt]; exact fun h => by cases h)).trans h.lt, h.mp, fun p hp => ?_, fun e he => ?_, h.tk, h.tl, h.ek, h.eb, h.et, hd⟩
  · obtain ⟨h1, h2⟩ := h.inn p hp
    exact ⟨(hσ _ (by rw [h1]; exact fun h => by cases h)).trans h1, h2⟩
  · obtain ⟨h1, h2⟩ := h.chs e he
    exact ⟨h1.tch (Tch.refl (fun _ => False) w) (fun _ _ h => h.elim) (fun i _ hi => hσ i hi), h2⟩
theorem HW.more (h : HW w hb mb tb T E C σ q) {q' : Nat} (hq : q ≤ q') : HW w hb mb tb T E C σ q' := by
  obtain ⟨D, hD, hk⟩ := h.mp
  refine ⟨h.blk, h.lb, h.lt, ⟨D, hD.mono hq, hk⟩, fun p hp => ?_, fun e he => ⟨(h.chs e he).1, Nat.le_trans (h.chs e he).2 hq⟩, h.tk, h.tl, h.ek, h.eb, h.et, h.dom⟩
  obtain ⟨h1, D, hD, hk⟩ := h.inn p hp
  exact ⟨h1, D, hD.mono hq, hk⟩
theorem HW.look (h : HW w hb mb tb T E C σ q) {k : Int} (h1 : -9223372036854775808 ≤ k) (h2 : k ≤ 9223372036854775807) :
    (Instr.lookup 96 (.map (some tb)) (.int .i64 k) false).run Tryz.prog w = .ok (mapV (lkT T k)) w := by
  obtain ⟨D, hD, hk⟩ := h.mp
  obtain ⟨v, ps, hrun, hv⟩ := hD.lookup law_int Tryz.underlying96 (zero_map w) (zd := .lit (.int .i64 (-1))) (zp := []) rfl (Maps.keyOf_int_mk Tryz.underlying3 (int_wf h1 h2))
  rw [hrun, mapElem_inv hv (hk k _)]
theorem HW.look2 (h : HW w hb mb tb T E C σ q) {p : Int × Nat} (hp : p ∈ T) {S : ByteArray} (hS : S.size ≤ maxLen) :
    (Instr.lookup 116 (.map (some p.2)) (.string S) false).run Tryz.prog w = .ok (ptrV (lkE E p.1 S.data.toList)) w := by
  obtain ⟨_, D, hD, hk⟩ := h.inn p hp
  obtain ⟨v, ps, hrun, hv⟩ := hD.lookup law_str Tryz.underlying116 (zero_ptr w) (zd := .lit (.int .i64 (-1))) (zp := []) rfl (WideMaps.keyOf_string_mk Tryz.underlying9 hS)
  rw [hrun, ptrElem_inv hv (hk _ _)]
theorem look_nil (w : World) {S : ByteArray} (hS : S.size ≤ maxLen) : (Instr.lookup 116 (.map none) (.string S) false).run Tryz.prog w = .ok (.pointer none) w := by
  rw [Maps.look_nil false law_str Tryz.underlying116 (zero_ptr w) (WideMaps.keyOf_string_mk Tryz.underlying9 hS)]; rfl
theorem HW.noT (h : HW w hb mb tb T E C σ q) {k : Int} (hk : lkT T k = none) (s : List UInt8) : lkE E k s = none := lkE_no (fun e he ⟨h1, _⟩ => by
  obtain ⟨l, hl⟩ := h.et e he
  exact lkT_none hk _ hl h1)
theorem map_ne {P : Program} {k : TypeId} {R : Value → Option (DataW Unit × List MemPlace)} {b n c : Nat} {D : DataW Unit} {cs : Array Value} {t : TypeId} (h : w.ownsMap P k R b n D) (hc : w.heap[c]? = some (.cells cs t (0, 0))) : b ≠ c := by
  rintro rfl
  obtain ⟨es, cl, hh, _⟩ := h
  rw [hh] at hc; cases hc
theorem HW.tne (h : HW w hb mb tb T E C σ q) : tb ≠ hb := by
  obtain ⟨D, hD, _⟩ := h.mp
  exact map_ne hD h.blk
theorem HW.ene (h : HW w hb mb tb T E C σ q) {e : En} (he : e ∈ E) : e.b ≠ hb := by
  rintro e0
  have h1 := (h.chs e he).1.blk
  rw [e0, h.blk] at h1
  cases h1
theorem HW.lne (h : HW w hb mb tb T E C σ q) {p : Int × Nat} (hp : p ∈ T) : p.2 ≠ hb ∧ p.2 ≠ tb ∧ ∀ e ∈ E, p.2 ≠ e.b := by
  obtain ⟨h1, D, hD, _⟩ := h.inn p hp
  refine ⟨map_ne hD h.blk, fun e => ?_, fun e he => map_ne hD (h.chs e he).1.blk⟩
  rw [e, h.lt] at h1
  have h2 : hb = tb := by injection h1 with h1; omega
  exact h.tne h2.symm
end
end Go.Proofs.YtokgihmigkplaaaGreat
namespace Go.Proofs.YtokgihmigkplaaaGreat
open Go.RowKit Go Go.Maps
def upB {α : Type} (f : Nat → α) (b : Nat) (v : α) : Nat → α := fun i => if i = b then v else f i
theorem upB_same {α : Type} (f : Nat → α) (b : Nat) (v : α) : upB f b v b = v := if_pos rfl
theorem upB_other {α : Type} (f : Nat → α) {b i : Nat} (v : α) (h : i ≠ b) : upB f b v i = f i := if_neg h
theorem pw_inj {α β : Type} (f : α → β) : ∀ {l : List α}, l.Pairwise (fun a b => f a ≠ f b) → ∀ {x y : α}, x ∈ l → y ∈ l → f x = f y → x = y
  | [], _, _, _, hx, _, _ => by cases hx
  | a :: r, h, x, y, hx, hy, e => by
    obtain ⟨h1, h2⟩ := List.pairwise_cons.1 h
    rcases List.mem_cons.1 hx with hx' | hx'
    · rcases List.mem_cons.1 hy with hy' | hy'
      · rw [hx', hy']
      · exact absurd (hx' ▸ e) (h1 y hy')
    · rcases List.mem_cons.1 hy with hy' | hy'
      · exact absurd (hy' ▸ e.symm) (h1 x hx')
      · exact pw_inj f h2 hx' hy' e
theorem key_str (s : List UInt8) : WideAt.IsKeyLit (.string s) := by simp [WideAt.IsKeyLit]
section
variable {w : World} {hb mb tb : Nat} {T : List (Int × Nat)} {E : List En} {C : Nat → Ch} {σ : Nat → Option Nat} {q : Nat}
theorem HW.addT (h : HW w hb mb tb T E C σ q) {k : Int} (h1 : -9223372036854775808 ≤ k) (h2 : k ≤ 9223372036854775807) (hk : lkT T k = none) (hq : q ≤ 2147483648) {l : Nat} (hl : w.ownsMap Tryz.prog 9 ptrElem l 0 (.map [])) (hσ : σ l = none) :
    ∃ w', (Instr.mapUpdate 96 (.map (some tb)) (.int .i64 k) (.map (some l))).run Tryz.prog w = .ok () w' ∧ HW w' hb mb tb ((k, l) :: T) E C (upB σ l (some (2 * l + 1))) (q + 1) ∧ Tch (fun i => i = tb) w w' := by
  obtain ⟨D, hD, hat⟩ := h.mp
  obtain ⟨w', hrun, hD', ht⟩ := hD.store law_int Tryz.underlying96 (by unfold maxLen; omega) (Maps.keyOf_int_mk Tryz.underlying3 (int_wf h1 h2)) (mapElem_some l)
  have t : Tch (fun i => i = tb) w w' := Tch.of_grown ht.grown (fun g hg => by cases hg; rfl)
  have hlt : l ≠ tb := by rintro rfl; rw [h.lt] at hσ; cases hσ
  have hup : ∀ i, σ i ≠ none → upB σ l (some (2 * l + 1)) i = σ i := fun i hi => upB_other _ _ (by rintro rfl; exact hi hσ)
  refine ⟨w', hrun, ⟨?_, (hup hb (by rw [h.lb]; exact fun h => by cases h)).trans h.lb, (hup tb (by rw [h.lt]; exact fun h => by cases h)).trans h.lt, ⟨_, hD', fun j zd => ?_⟩, fun p hp => ?_, fun e he => ?_, ?_, ?_, h.ek, h.eb, fun e he => ?_, fun i hi => ?_⟩, t⟩
  · rw [t.block hb (blk_lt h.blk) (fun e => h.tne e.symm)]; exact h.blk
  · rw [lkT_cons]
    by_cases hj : k = j
    · subst hj
      rw [atKey_put_same hD.isMap (key_int k), if_pos rfl]; rfl
    · rw [atKey_put_other (by intro e; injection e with _ e; exact hj e.symm), if_neg hj]; exact hat j zd
  · rcases List.mem_cons.1 hp with rfl | hp
    · refine ⟨upB_same _ _ _, _, (ownsMap_tch hl t hlt).mono (Nat.zero_le _), fun s zd => ?_⟩
      simp only
      rw [h.noT hk]; rfl
    · obtain ⟨g1, D1, hD1, hk1⟩ := h.inn p hp
      exact ⟨(hup _ (by rw [g1]; exact fun h => by cases h)).trans g1, D1, (ownsMap_tch hD1 t (h.lne hp).2.1).mono (Nat.le_succ _), hk1⟩
  · obtain ⟨g1, g2⟩ := h.chs e he
    refine ⟨g1.tch t (fun g hg hs => ?_) (fun i _ hi => hup i hi), Nat.le_succ_of_le g2⟩
    subst hs
    rw [h.lt]
    exact ⟨(fun e' => by injection e' with e'; exact h.ene he (by omega)), fun j e' => by injection e' with e'; omega⟩
  · exact List.pairwise_cons.2 ⟨fun p hp e => lkT_none hk p hp e.symm, h.tk⟩
  · exact List.pairwise_cons.2 ⟨(fun p hp e => by have := (h.inn p hp).1; rw [← e] at this; simp only at this; rw [hσ] at this; cases this), h.tl⟩
  · obtain ⟨l', hl'⟩ := h.et e he
    exact ⟨l', List.mem_cons_of_mem _ hl'⟩
  · by_cases e : i = l
    · rw [e]; exact Nat.lt_of_lt_of_le hl.lt t.size
    · rw [upB_other _ _ e] at hi; exact Nat.lt_of_lt_of_le (h.dom i hi) t.size
theorem HW.addE (h : HW w hb mb tb T E C σ q) {k : Int} {l : Nat} (hl : (k, l) ∈ T) {S : ByteArray} (hS : S.size ≤ maxLen) (hk : lkE E k S.data.toList = none) (hq : q ≤ 2147483648) {cb : Nat} (hc : w.heap[cb]? = some (.cells #[.slice none 0 0] 82 (0, 0))) (hσ : σ cb = none) :
    ∃ w', (Instr.mapUpdate 116 (.map (some l)) (.string S) (.pointer (some ⟨cb, 0, none⟩))).run Tryz.prog w = .ok () w' ∧ HW w' hb mb tb T (E ++ [⟨k, S.data.toList, cb⟩]) (upB C cb (none, 0, [])) (upB σ cb (some (2 * cb + 1))) (q + 1) ∧ Tch (fun i => i = l) w w' := by
  obtain ⟨g1, D, hD, hat⟩ := h.inn (k, l) hl
  simp only at g1 hD hat
  obtain ⟨w', hrun, hD', ht⟩ := hD.store law_str Tryz.underlying116 (by unfold maxLen; omega) (WideMaps.keyOf_string_mk Tryz.underlying9 hS) (ptrElem_some cb)
  have t : Tch (fun i => i = l) w w' := Tch.of_grown ht.grown (fun g hg => by cases hg; rfl)
  have hup : ∀ i, σ i ≠ none → upB σ cb (some (2 * cb + 1)) i = σ i := fun i hi => upB_other _ _ (by rintro rfl; exact hi hσ)
  have hlc : cb ≠ l := fun e => map_ne hD hc e.symm
  have hlne := h.lne hl
  obtain ⟨D0, hD0, hat0⟩ := h.mp
  refine ⟨w', hrun, ⟨?_, (hup hb (by rw [h.lb]; exact fun h => by cases h)).trans h.lb, (hup tb (by rw [h.lt]; exact fun h => by cases h)).trans h.lt, ⟨D0, (ownsMap_tch hD0 t (fun e => hlne.2.1 e.symm)).mono (Nat.le_succ _), hat0⟩, fun p hp => ?_, fun e he => ?_, h.tk, h.tl, ?_, ?_, fun e he => ?_, fun i hi => ?_⟩, t⟩
  · rw [t.block hb (blk_lt h.blk) (fun e => hlne.1 e.symm)]; exact h.blk
  · obtain ⟨p1, D1, hD1, hk1⟩ := h.inn p hp
    refine ⟨(hup _ (by rw [p1]; exact fun h => by cases h)).trans p1, ?_⟩
    by_cases e : p.2 = l
    · have hpk : p.1 = k := by rw [pw_inj (fun p : Int × Nat => p.2) h.tl hp hl e]
      refine ⟨D.put (.string S.data.toList) (encB cb), by rw [e]; exact hD', fun s zd => ?_⟩
      rw [lkE_snoc, hpk]
      by_cases hs : S.data.toList = s
      · subst hs
        rw [atKey_put_same hD.isMap (key_str _), hk]; simp [atB]
      · rw [atKey_put_other (by intro e; injection e with e; exact hs e.symm), hat]
        cases lkE E k s with
        | some b => rfl
        | none => simp [hs, atB]
    · refine ⟨D1, (ownsMap_tch hD1 t e).mono (Nat.le_succ _), fun s zd => ?_⟩
      rw [hk1, lkE_snoc]
      have hpk : ¬ (k = p.1) := fun ek => e (by rw [pw_inj (fun p : Int × Nat => p.1) h.tk hp hl ek.symm])
      cases lkE E p.1 s with
      | some b => rfl
      | none => simp [hpk]
  · rcases List.mem_append.1 he with he | he
    · obtain ⟨g1', g2⟩ := h.chs e he
      have hne : e.b ≠ cb := by rintro e0; rw [← e0, g1'.lab] at hσ; cases hσ
      rw [upB_other _ _ hne]
      refine ⟨g1'.tch t (fun g hg hs => ?_) (fun i _ hi => hup i hi), Nat.le_succ_of_le g2⟩
      subst hs
      rw [g1]
      exact ⟨(fun e' => by injection e' with e'; exact hlne.2.2 e he (by omega)), fun j e' => by injection e' with e'; omega⟩
    · obtain rfl := List.mem_singleton.1 he
      simp only
      rw [upB_same]
      refine ⟨⟨upB_same _ _ _, by rw [t.block cb (blk_lt hc) hlc]; exact hc, ⟨rfl, Or.inl ⟨rfl, rfl⟩⟩, (fun g hg => by cases hg), (fun z hz => by cases hz)⟩, Nat.zero_le _⟩
  · rw [List.pairwise_append]
    refine ⟨h.ek, by simp, fun e he f hf => ?_⟩
    obtain rfl := List.mem_singleton.1 hf
    exact lkE_none hk e he
  · rw [List.pairwise_append]
    refine ⟨h.eb, by simp, fun e he f hf => ?_⟩
    obtain rfl := List.mem_singleton.1 hf
    rintro e0
    have := (h.chs e he).1.lab
    rw [e0] at this; simp only at this; rw [hσ] at this; cases this
  · rcases List.mem_append.1 he with he | he
    · exact h.et e he
    · obtain rfl := List.mem_singleton.1 he; exact ⟨l, hl⟩
  · by_cases e : i = cb
    · rw [e]; exact Nat.lt_of_lt_of_le (blk_lt hc) t.size
    · rw [upB_other _ _ e] at hi; exact Nat.lt_of_lt_of_le (h.dom i hi) t.size
theorem HW.setC (h : HW w hb mb tb T E C σ q) {w' : World} {cb : Nat} {co : Option Addr} {cc : Nat} {zs : List VV} {σ' : Nat → Option Nat} {q' : Nat} (t : Tch (fun i => σ i = some (2 * cb + 1)) w w') (hne : cb ≠ hb) (hnl : ∀ p ∈ T, p.2 ≠ cb) (hσ : ∀ i, σ i ≠ none → σ' i = σ i) (hd : ∀ i, σ' i ≠ none → i < w'.heap.size) (hq : q ≤ q') (hz : zs.length ≤ q') (hC : CB w' σ' cb co cc zs) : HW w' hb mb tb T E (upB C cb (co, cc, zs)) σ' q' := by
  obtain ⟨D0, hD0, hat0⟩ := h.mp
  have hlb : ∀ i x, σ i = some x → σ' i = some x := fun i x hi => (hσ i (by rw [hi]; exact fun h => by cases h)).trans hi
  refine ⟨?_, hlb _ _ h.lb, hlb _ _ h.lt, ⟨D0, (ownsMap_tch hD0 t (fun e => ?_)).mono hq, hat0⟩, fun p hp => ?_, fun e he => ?_, h.tk, h.tl, h.ek, h.eb, h.et, hd⟩
  · rw [t.block hb (blk_lt h.blk) (fun e => by rw [h.lb] at e; injection e with e; omega)]; exact h.blk
  · rw [h.lt] at e; injection e with e; omega
  · obtain ⟨g1, D, hD, hk⟩ := h.inn p hp
    refine ⟨hlb _ _ g1, D, (ownsMap_tch hD t (fun e => ?_)).mono hq, hk⟩
    rw [g1] at e; injection e with e; exact hnl p hp (by omega)
  · by_cases e0 : e.b = cb
    · rw [e0, upB_same]
      exact ⟨hC, hz⟩
    · rw [upB_other _ _ e0]
      obtain ⟨g1, g2⟩ := h.chs e he
      refine ⟨g1.tch t (fun g hg hs => ?_) (fun i _ hi => hσ i hi), Nat.le_trans g2 hq⟩
      rw [hs]
      exact ⟨(fun e' => by injection e' with e'; omega), fun j e' => by injection e' with e'; omega⟩
end
end Go.Proofs.YtokgihmigkplaaaGreat
namespace Go.Proofs.YtokgihmigkplaaaGreat
open Go.RowKit Go Go.Maps
theorem lkE_del (E : List En) (k : Int) (s : List UInt8) (k' : Int) (s' : List UInt8) : lkE (E.filter (fun e => decide (¬ (e.k = k ∧ e.s = s)))) k' s' = if k' = k ∧ s' = s then none else lkE E k' s' := by
  by_cases h : k' = k ∧ s' = s
  · rw [if_pos h]
    refine lkE_no (fun e he hs => ?_)
    have := (List.mem_filter.1 he).2
    simp only [decide_eq_true_eq] at this
    exact this ⟨hs.1.trans h.1, hs.2.trans h.2⟩
  · rw [if_neg h]
    unfold lkE
    rw [find_filter_keep]
    intro e he
    simp only [decide_eq_true_eq] at he ⊢
    exact fun hs => h ⟨he.1.symm.trans hs.1, he.2.symm.trans hs.2⟩
theorem lkE_drop (E : List En) (k k' : Int) (s' : List UInt8) (h : k' ≠ k) : lkE (E.filter (fun e => decide (e.k ≠ k))) k' s' = lkE E k' s' := by
  unfold lkE
  rw [find_filter_keep]
  intro e he
  simp only [decide_eq_true_eq] at he ⊢
  rw [he.1]; exact h
theorem lkT_drop (T : List (Int × Nat)) (k k' : Int) : lkT (T.filter (fun p => decide (p.1 ≠ k))) k' = if k' = k then none else lkT T k' := by
  by_cases h : k' = k
  · rw [if_pos h]
    unfold lkT
    simp only [Option.map_eq_none_iff, List.find?_eq_none, decide_eq_true_eq]
    intro p hp e
    have := (List.mem_filter.1 hp).2
    simp only [decide_eq_true_eq] at this
    exact this (e.trans h)
  · rw [if_neg h]
    unfold lkT
    rw [find_filter_keep]
    intro p hp
    simp only [decide_eq_true_eq] at hp ⊢
    rw [hp]; exact h
section
variable {w : World} {hb mb tb : Nat} {T : List (Int × Nat)} {E : List En} {C : Nat → Ch} {σ : Nat → Option Nat} {q : Nat}
theorem HW.delE (h : HW w hb mb tb T E C σ q) {k : Int} {l : Nat} (hl : (k, l) ∈ T) {S : ByteArray} (hS : S.size ≤ maxLen) (ty : TypeId) :
    ∃ w', (Builtin.delete_ #[116, 9] ty #[.map (some l), .string S]).run Tryz.prog w = .ok (.tuple #[]) w' ∧ HW w' hb mb tb T (E.filter (fun e => decide (¬ (e.k = k ∧ e.s = S.data.toList)))) C σ q ∧ Tch (fun i => i = l) w w' := by
  obtain ⟨g1, D, hD, hat⟩ := h.inn (k, l) hl
  simp only at g1 hD hat
  obtain ⟨w', hrun, hD', ht⟩ := hD.drop law_str Tryz.underlying116 (WideMaps.keyOf_string_mk Tryz.underlying9 hS) ty
  have t : Tch (fun i => i = l) w w' := Tch.of_grown ht.grown (fun g hg => by cases hg; rfl)
  have hlne := h.lne hl
  obtain ⟨D0, hD0, hat0⟩ := h.mp
  refine ⟨w', hrun, ⟨?_, h.lb, h.lt, ⟨D0, ownsMap_tch hD0 t (fun e => hlne.2.1 e.symm), hat0⟩, fun p hp => ?_, fun e he => ?_, h.tk, h.tl, h.ek.filter _, h.eb.filter _, fun e he => h.et e (List.mem_filter.1 he).1, fun i hi => Nat.lt_of_lt_of_le (h.dom i hi) t.size⟩, t⟩
  · rw [t.block hb (blk_lt h.blk) (fun e => hlne.1 e.symm)]; exact h.blk
  · obtain ⟨p1, D1, hD1, hk1⟩ := h.inn p hp
    refine ⟨p1, ?_⟩
    by_cases e : p.2 = l
    · have hpk : p = (k, l) := pw_inj (fun p : Int × Nat => p.2) h.tl hp hl e
      subst hpk
      refine ⟨D.del (.string S.data.toList), hD', fun s zd => ?_⟩
      simp only
      rw [lkE_del]
      by_cases hs : s = S.data.toList
      · rw [if_pos ⟨rfl, hs⟩, hs, atKey_del_same]; rfl
      · rw [if_neg (fun h => hs h.2), atKey_del_other (by intro e; injection e with e; exact hs e), hat]
    · refine ⟨D1, ownsMap_tch hD1 t e, fun s zd => ?_⟩
      rw [hk1, lkE_del, if_neg]
      rintro ⟨ek, _⟩
      exact e (by rw [pw_inj (fun p : Int × Nat => p.1) h.tk hp hl ek])
  · have he' := (List.mem_filter.1 he).1
    obtain ⟨g1', g2⟩ := h.chs e he'
    refine ⟨g1'.tch t (fun g hg hs => ?_) (fun i _ hi => rfl), g2⟩
    subst hs
    rw [g1]
    exact ⟨(fun e' => by injection e' with e'; exact hlne.2.2 e he' (by omega)), fun j e' => by injection e' with e'; omega⟩
theorem HW.dropT (h : HW w hb mb tb T E C σ q) {k : Int} (h1 : -9223372036854775808 ≤ k) (h2 : k ≤ 9223372036854775807) (ty : TypeId) :
    ∃ w', (Builtin.delete_ #[96, 3] ty #[.map (some tb), .int .i64 k]).run Tryz.prog w = .ok (.tuple #[]) w' ∧ HW w' hb mb tb (T.filter (fun p => decide (p.1 ≠ k))) (E.filter (fun e => decide (e.k ≠ k))) C σ q ∧ Tch (fun i => i = tb) w w' := by
  obtain ⟨D0, hD0, hat0⟩ := h.mp
  obtain ⟨w', hrun, hD', ht⟩ := hD0.drop law_int Tryz.underlying96 (Maps.keyOf_int_mk Tryz.underlying3 (int_wf h1 h2)) ty
  have t : Tch (fun i => i = tb) w w' := Tch.of_grown ht.grown (fun g hg => by cases hg; rfl)
  refine ⟨w', hrun, ⟨?_, h.lb, h.lt, ⟨_, hD', fun j zd => ?_⟩, fun p hp => ?_, fun e he => ?_, h.tk.filter _, h.tl.filter _, h.ek.filter _, h.eb.filter _, fun e he => ?_, fun i hi => Nat.lt_of_lt_of_le (h.dom i hi) t.size⟩, t⟩
  · rw [t.block hb (blk_lt h.blk) (fun e => h.tne e.symm)]; exact h.blk
  · rw [lkT_drop]
    by_cases hj : j = k
    · rw [if_pos hj, hj, atKey_del_same]; rfl
    · rw [if_neg hj, atKey_del_other (by intro e; injection e with _ e; exact hj e)]; exact hat0 j zd
  · obtain ⟨hp, hpk⟩ := List.mem_filter.1 hp
    simp only [decide_eq_true_eq] at hpk
    obtain ⟨p1, D1, hD1, hk1⟩ := h.inn p hp
    exact ⟨p1, D1, ownsMap_tch hD1 t (h.lne hp).2.1, fun s zd => by rw [hk1, lkE_drop _ _ _ _ hpk]⟩
  · have he' := (List.mem_filter.1 he).1
    obtain ⟨g1', g2⟩ := h.chs e he'
    refine ⟨g1'.tch t (fun g hg hs => ?_) (fun i _ hi => rfl), g2⟩
    subst hs
    rw [h.lt]
    exact ⟨(fun e' => by injection e' with e'; exact h.ene he' (by omega)), fun j e' => by injection e' with e'; omega⟩
  · obtain ⟨he, hk⟩ := List.mem_filter.1 he
    obtain ⟨l, hl⟩ := h.et e he
    exact ⟨l, List.mem_filter.2 ⟨hl, hk⟩⟩
theorem HW.len (h : HW w hb mb tb T E C σ q) {k : Int} {l : Nat} (hl : (k, l) ∈ T) : ∃ n : Nat, (∀ ty, (Builtin.len_ #[116] ty #[.map (some l)]).run Tryz.prog w = .ok (.int .i64 n) w) ∧ (n = 0 → ∀ e ∈ E, e.k ≠ k) := by
  obtain ⟨g1, D, hD, hat⟩ := h.inn (k, l) hl
  refine ⟨Maps.size D, fun ty => hD.len Tryz.underlying116 ty, fun h0 e he ek => ?_⟩
  obtain ⟨es, rfl, _, _⟩ := hD.entries law_str
  have : es = [] := List.length_eq_zero_iff.1 h0
  subst this
  have h1 := hat e.s (.lit (.int .i64 (-1)))
  simp only at h1
  rw [← ek, lkE_of_mem h.ek he] at h1
  simp [DataW.atKey, atB, encB] at h1
end
end Go.Proofs.YtokgihmigkplaaaGreat
namespace Go.Proofs.YtokgihmigkplaaaGreat
open Go.RowKit Go Go.Maps
theorem info_ver : (Tryz.prog.info? 79).map (fun i => (i.zero, i.size, i.bytes)) = some (some (.agg #[.int .i64 0, .bool false, .slice none 0 0]), 3, 40) := by kernel_rfl
structure UB (w : World) (σ : Nat → Option Nat) (hb : Nat) (k : Int) (S : ByteArray) (cb : Nat) (wo : Option Addr) (wc : Nat) (zs : List VV) (bc bw bh bt bk : Nat) : Prop where
  fc : w.heap[bc]? = some (.cells #[.pointer (some ⟨cb, 0, none⟩)] 117 (0, 0))
  fw : w.heap[bw]? = some (.cells #[.slice wo zs.length wc] 82 (0, 0))
  fh : w.heap[bh]? = some (.cells #[.pointer (some ⟨hb, 0, none⟩)] 40 (0, 0))
  ft : w.heap[bt]? = some (.cells #[.int .i64 k] 3 (0, 0))
  fk : w.heap[bk]? = some (.cells #[.string S] 9 (0, 0))
  row : w.ownsRow 0 79 3 (.slice wo zs.length wc) zs.length (vrl zs)
  rl : ∀ g, (Value.slice wo zs.length wc).ownBlock = some g → σ g = some (2 * cb + 1)
  ok : ∀ z ∈ zs, VOK w σ z
  lc : σ bc = none
  lw : σ bw = none
  lh : σ bh = none
  lt : σ bt = none
  lk : σ bk = none
theorem UB.no {w w' : World} {σ : Nat → Option Nat} {hb : Nat} {k : Int} {S : ByteArray} {cb : Nat} {wo : Option Addr} {wc : Nat} {zs : List VV} {bc bw bh bt bk : Nat} (u : UB w σ hb k S cb wo wc zs bc bw bh bt bk) (t : Tch (fun _ => False) w w') : UB w' σ hb k S cb wo wc zs bc bw bh bt bk :=
  ⟨by rw [t.block _ (blk_lt u.fc) (fun h => h)]; exact u.fc, by rw [t.block _ (blk_lt u.fw) (fun h => h)]; exact u.fw, by rw [t.block _ (blk_lt u.fh) (fun h => h)]; exact u.fh, by rw [t.block _ (blk_lt u.ft) (fun h => h)]; exact u.ft, by rw [t.block _ (blk_lt u.fk) (fun h => h)]; exact u.fk, own_tch u.row t (fun _ _ h => h), u.rl, fun z hz => (u.ok z hz).tch t (fun _ _ h => h.elim) (fun _ _ _ => rfl), u.lc, u.lw, u.lh, u.lt, u.lk⟩
def LayOut (w : World) (hb mb tb : Nat) (E : List En) (C : Nat → Ch) (σ : Nat → Option Nat) (q : Nat) (k : Int) (S : ByteArray) (z : VV) (x : Ending) (w' : World) : Prop :=
  ∃ T' E' C' σ' cb co cc zs bc bw bh bt bk wo wc,
    x = .returned (.tuple #[.slice wo zs.length wc, .func (.func 90) #[] #[.pointer (some ⟨bc, 0, none⟩), .pointer (some ⟨bw, 0, none⟩), .pointer (some ⟨bh, 0, none⟩), .pointer (some ⟨bt, 0, none⟩), .pointer (some ⟨bk, 0, none⟩)]]) ∧
    HW w' hb mb tb T' E' C' σ' (q + 3) ∧ UB w' σ' hb k S cb wo wc zs bc bw bh bt bk ∧ (⟨k, S.data.toList, cb⟩ : En) ∈ E' ∧ C' cb = (co, cc, zs ++ [z]) ∧
    ((E' = E ∧ lkE E k S.data.toList = some cb ∧ (C cb).2.2 = zs) ∨ (E' = E ++ [⟨k, S.data.toList, cb⟩] ∧ lkE E k S.data.toList = none ∧ zs = [])) ∧
    (∀ e ∈ E, e.b ≠ cb → C' e.b = C e.b) ∧ (∀ i, σ i ≠ none → σ' i = σ i) ∧ (∀ i, i < w.heap.size → σ i = none → σ' i = none) ∧ Tch (fun i => σ i ≠ none) w w'
structure Mid (w : World) (hb mb tb : Nat) (E : List En) (C : Nat → Ch) (σ : Nat → Option Nat) (q : Nat) (k : Int) (S : ByteArray) (z : VV) (W : World) (T' : List (Int × Nat)) (E' : List En) (C' : Nat → Ch) (σ' : Nat → Option Nat) (cb : Nat) (bc bh bt bk bv : Nat) : Prop where
  hw : HW W hb mb tb T' E' C' σ' (q + 2)
  me : (⟨k, S.data.toList, cb⟩ : En) ∈ E'
  old : (E' = E ∧ lkE E k S.data.toList = some cb ∧ (C cb).2.2 = (C' cb).2.2) ∨ (E' = E ++ [⟨k, S.data.toList, cb⟩] ∧ lkE E k S.data.toList = none ∧ (C' cb).2.2 = [])
  oth : ∀ e ∈ E, e.b ≠ cb → C' e.b = C e.b
  sg : ∀ i, σ i ≠ none → σ' i = σ i
  sn : ∀ i, i < w.heap.size → σ i = none → σ' i = none
  c : W.heap[bc]? = some (.cells #[.pointer (some ⟨cb, 0, none⟩)] 117 (0, 0))
  h : W.heap[bh]? = some (.cells #[.pointer (some ⟨hb, 0, none⟩)] 40 (0, 0))
  t : W.heap[bt]? = some (.cells #[.int .i64 k] 3 (0, 0))
  k : W.heap[bk]? = some (.cells #[.string S] 9 (0, 0))
  v : W.heap[bv]? = some (.cells #[.int .i64 z.1.wr, .bool z.1.th, .slice z.2.1 z.1.n z.2.2] 79 (0, 0))
  lc : σ' bc = none
  lh : σ' bh = none
  lt : σ' bt = none
  lk : σ' bk = none
  lv : σ' bv = none
  zok : VOK W σ' z
  tch : Tch (fun i => σ i ≠ none) w W
theorem Mid.no {w : World} {hb mb tb : Nat} {E : List En} {C : Nat → Ch} {σ : Nat → Option Nat} {q : Nat} {k : Int} {S : ByteArray} {z : VV} {W W' : World} {T' : List (Int × Nat)} {E' : List En} {C' : Nat → Ch} {σ' : Nat → Option Nat} {cb : Nat} {bc bh bt bk bv : Nat}
    (m : Mid w hb mb tb E C σ q k S z W T' E' C' σ' cb bc bh bt bk bv) (t : Tch (fun _ => False) W W') : Mid w hb mb tb E C σ q k S z W' T' E' C' σ' cb bc bh bt bk bv :=
  { m with hw := m.hw.no t, c := by rw [t.block _ (blk_lt m.c) (fun h => h)]; exact m.c, h := by rw [t.block _ (blk_lt m.h) (fun h => h)]; exact m.h, t := by rw [t.block _ (blk_lt m.t) (fun h => h)]; exact m.t, k := by rw [t.block _ (blk_lt m.k) (fun h => h)]; exact m.k, v := by rw [t.block _ (blk_lt m.v) (fun h => h)]; exact m.v, zok := m.zok.tch t (fun _ _ h => h.elim) (fun _ _ _ => rfl), tch := m.tch.trans t (fun _ _ h => h.elim) }
def VC (w1 : World) (v : Value) (n : Nat) (xs es : List Value) (s : List Value) (W : World) : Prop := match s with
  | [] => Tch (fun _ => False) w1 W
  | [y] => Tch (fun _ => False) w1 W ∧ ∃ g, y = .slice (some ⟨g, 0, none⟩) 1 1 ∧ ∀ j u, es[j]? = some u → W.cell? ((⟨g, 0, none⟩ : Addr).add j) = some u
  | [_, z] => Tch (fun j => v.ownBlock = some j) w1 W ∧ (∃ o5 c5, z = .slice o5 (n + 1) c5 ∧ W.ownsRow 0 79 3 z (n + 1) (xs ++ es) ∧ (z.ownBlock = v.ownBlock ∨ ∃ g, z.ownBlock = some g ∧ w1.heap.size ≤ g)) ∧ W.ownsRow 0 79 3 v n xs
  | _ => False
theorem VC.tch {w1 W : World} {v : Value} {n : Nat} {xs es s : List Value} (h : VC w1 v n xs es s W) : Tch (fun j => v.ownBlock = some j) w1 W := by
  match s, h with
  | [], h => exact Tch.mono h (fun _ _ h => h.elim)
  | [_], h => exact h.1.mono (fun _ _ h => h.elim)
  | [_, _], h => exact h.1
theorem VC.one {w1 W : World} {v : Value} {n : Nat} {xs es : List Value} (h : VC w1 v n xs es [] W) : VC w1 v n xs es [.slice (some ⟨W.heap.size, 0, none⟩) 1 1] (W.alloc (.cells es.toArray 79)) := by
  refine ⟨Tch.allocR h _, W.heap.size, rfl, fun j u hu => ?_⟩
  rw [add_plain, blk_cell (alloc_new _ _)]
  simpa using hu
theorem append_was {W w' : World} {v v' : Value} {n : Nat} {xs es : List Value} {g : Nat} (hW : W.ownsRow 0 79 3 v n xs) (hn : n ≤ 1000000) (hes : es.length = 3) (ho : ∀ u ∈ es, u.oneCell' = true) (hg : ∀ j u, es[j]? = some u → W.cell? ((⟨g, 0, none⟩ : Addr).add j) = some u)
    (hr : (Builtin.append_ #[82, 82] 82 #[v, .slice (some ⟨g, 0, none⟩) 1 1]).run Tryz.prog W = .ok v' w') : w'.ownsRow 0 79 3 v n xs := by
  obtain ⟨i0, hi0, hz0, hz1, hz2⟩ := info_parts info_ver
  refine ⟨hW.1, ?_⟩
  rcases hW.2 with e | ⟨gb, cap, cur, rfl, hb, hh, hnc, hcm, hcs, htake⟩
  · exact .inl e
  · by_cases hroom : n + 1 ≤ cap
    · have hfit : n * i0.size + es.length ≤ cur.size := by rw [hes, hcs, hz1]; omega
      have hr2 := run_append_room (P := Tryz.prog) W 82 82 79 i0 Tryz.underlying82 hi0 gb n cap cur hh ⟨g, 0, none⟩ 1 1 es (by rw [hz1, hes]) hg ho hroom hfit
      rw [hr] at hr2
      simp only [Result.ok.injEq] at hr2
      obtain ⟨_, rfl⟩ := hr2
      have hlen : n * 3 ≤ cur.toList.length := by rw [Array.length_toList, hcs]; omega
      refine .inr ⟨gb, cap, _, rfl, hb, setRow_heap W gb cur _ _ _ hh, hnc, hcm, ?_, ?_⟩
      · rw [hz1, hes]
        simp only [List.size_toArray, List.length_append, List.length_take, List.length_drop, hes]
        rw [Array.length_toList] at hlen ⊢
        omega
      · rw [hz1]
        simp only [List.append_assoc]
        rw [List.take_append_of_le_length (by rw [List.length_take]; omega), List.take_take, Nat.min_self]
        exact htake
    · have holds : ∀ j u, xs[j]? = some u → W.cell? ((⟨gb, 0, none⟩ : Addr).add j) = some u := hW.cells (g := gb) rfl
      have hr2 := run_append_grow (P := Tryz.prog) W 82 82 79 i0 (.agg #[.int .i64 0, .bool false, .slice none 0 0]) Tryz.underlying82 hi0 hz0 ⟨gb, 0, none⟩ n cap xs (by rw [hz1]; exact hW.1) holds ⟨g, 0, none⟩ 1 1 es (by rw [hz1, hes]) hg (by omega) (by omega) (by rw [hz2]; exact growslice_fits (by omega) (by omega))
      rw [hr] at hr2
      simp only [Result.ok.injEq] at hr2
      obtain ⟨_, rfl⟩ := hr2
      exact .inr ⟨gb, cap, cur, rfl, hb, by rw [heap_alloc_old W.drew _ (blk_lt hh)]; exact hh, hnc, hcm, hcs, htake⟩
theorem VC.two {w1 W : World} {v : Value} {n : Nat} {xs es : List Value} {g : Nat} (hrow : w1.ownsRow 0 79 3 v n xs) (hn : n ≤ 1000000) (hes : es.length = 3) (ho : ∀ u ∈ es, u.oneCell' = true) (h : VC w1 v n xs es [.slice (some ⟨g, 0, none⟩) 1 1] W) :
    ∃ o5 c5 w', (Builtin.append_ #[82, 82] 82 #[v, .slice (some ⟨g, 0, none⟩) 1 1]).run Tryz.prog W = .ok (.slice o5 (n + 1) c5) w' ∧ VC w1 v n xs es [.slice (some ⟨g, 0, none⟩) 1 1, .slice o5 (n + 1) c5] w' := by
  obtain ⟨i0, hi0, hz0, hz1, hz2⟩ := info_parts info_ver
  obtain ⟨tW, g', e, hg⟩ := h
  have e' : g = g' := by simpa using e
  subst e'
  have hW := own_tch hrow tW (fun _ _ h => h)
  obtain ⟨v', w', hr, hown, hgr, hat, hkp⟩ := run_append_keeps (P := Tryz.prog) W 0 82 82 79 i0 (.agg #[.int .i64 0, .bool false, .slice none 0 0]) 3 40 Tryz.underlying82 hi0 hz0 hz1 hz2 rfl (by decide) v n xs hW ⟨g, 0, none⟩ 1 1 es hes hg ho (by unfold maxLen; omega) (by omega) (Nat.zero_le _)
  obtain ⟨o5, c5, rfl⟩ := row_slice hown
  refine ⟨o5, c5, w', hr, (tW.mono (fun _ _ h => h.elim)).trans' (grown_at (Tch.refl (fun _ => False) W) hgr), ⟨o5, c5, rfl, hown, hat.imp id (fun e => ⟨_, e, tW.size⟩)⟩, ?_⟩
  exact append_was hW hn hes ho hg hr
end Go.Proofs.YtokgihmigkplaaaGreat
