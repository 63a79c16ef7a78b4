import Derived.Test.YtjbehnoococelaaMPl5
import Derived.Maps.OwnSet
/- A heap of versions in the world. -/
namespace Go.Proofs.Ytjbehnoococelaa
open Go.RowKit Go Go.Maps

/-- How a map within a map, a pointer within a map reads. -/
def mapElem (v : Value) : Option (DataW Unit × List MemPlace) :=
  match v with
  | .map none => some (.lit (.int .i64 (-1)), [])
  | .map (some b) => some (.lit (.int .i64 b), [])
  | _ => none
def ptrElem (v : Value) : Option (DataW Unit × List MemPlace) :=
  match v with
  | .pointer none => some (.lit (.int .i64 (-1)), [])
  | .pointer (some a) => if a = ⟨a.block, 0, none⟩ then some (.lit (.int .i64 a.block), []) else none
  | _ => none
def encB (b : Nat) : DataW Unit := .lit (.int .i64 b)
def atB (o : Option Nat) (zd : DataW Unit) : DataW Unit := match o with
  | some b => encB b
  | none => zd
def mapV : Option Nat → Value
  | none => .map none
  | some b => .map (some b)
def ptrV : Option Nat → Value
  | none => .pointer none
  | some b => .pointer (some ⟨b, 0, none⟩)
theorem mapElem_inv {v : Value} {z : DataW Unit × List MemPlace} {o : Option Nat} (h : mapElem v = some z) (hz : z.1 = atB o (.lit (.int .i64 (-1)))) : v = mapV o := by
  unfold mapElem at h
  split at h
  · cases h
    cases o with
    | none => rfl
    | some b => simp [atB, encB] at hz
  · cases h
    cases o with
    | none => simp [atB] at hz
    | some b => simp [atB, encB] at hz; simp [mapV]; omega
  · cases h
theorem ptrElem_inv {v : Value} {z : DataW Unit × List MemPlace} {o : Option Nat} (h : ptrElem v = some z) (hz : z.1 = atB o (.lit (.int .i64 (-1)))) : v = ptrV o := by
  unfold ptrElem at h
  split at h
  · cases h
    cases o with
    | none => rfl
    | some b => simp [atB, encB] at hz
  · rename_i a
    split at h
    · rename_i ha
      cases h
      cases o with
      | none => simp [atB] at hz
      | some b =>
        simp [atB, encB] at hz
        rw [ha]
        simp [ptrV]
    · cases h
  · cases h
theorem mapElem_some (b : Nat) : mapElem (.map (some b)) = some (encB b, []) := rfl
theorem ptrElem_some (b : Nat) : ptrElem (.pointer (some ⟨b, 0, none⟩)) = some (encB b, []) := by simp [ptrElem, encB]

/-- A chain's place: its table, its key, its block. -/
structure En where
  k : Int
  s : List UInt8
  b : Nat
def lkT (T : List (Int × Nat)) (k : Int) : Option Nat := (T.find? (fun p => decide (p.1 = k))).map (·.2)
def lkE (E : List En) (k : Int) (s : List UInt8) : Option Nat := (E.find? (fun e => decide (e.k = k ∧ e.s = s))).map (·.b)
theorem lkT_mem {T : List (Int × Nat)} {k : Int} {l : Nat} (h : lkT T k = some l) : (k, l) ∈ T := by
  unfold lkT at h
  cases hf : T.find? (fun p => decide (p.1 = k)) with
  | none => rw [hf] at h; cases h
  | some p =>
    rw [hf] at h
    obtain ⟨a, b⟩ := p
    have h1 := List.find?_some hf
    have h2 := List.mem_of_find?_eq_some hf
    simp at h h1
    subst h h1
    exact h2
theorem lkT_none {T : List (Int × Nat)} {k : Int} (h : lkT T k = none) : ∀ p ∈ T, p.1 ≠ k := by
  unfold lkT at h
  simp only [Option.map_eq_none_iff, List.find?_eq_none, decide_eq_true_eq] at h
  exact h
theorem lkE_mem {E : List En} {k : Int} {s : List UInt8} {b : Nat} (h : lkE E k s = some b) : ⟨k, s, b⟩ ∈ E := by
  unfold lkE at h
  cases hf : E.find? (fun e => decide (e.k = k ∧ e.s = s)) with
  | none => rw [hf] at h; cases h
  | some p =>
    rw [hf] at h
    obtain ⟨a, c, d⟩ := p
    have h1 := List.find?_some hf
    have h2 := List.mem_of_find?_eq_some hf
    simp at h h1
    obtain ⟨e1, e2⟩ := h1
    subst h e1 e2
    exact h2
theorem lkE_none {E : List En} {k : Int} {s : List UInt8} (h : lkE E k s = none) : ∀ e ∈ E, ¬ (e.k = k ∧ e.s = s) := by
  unfold lkE at h
  simp only [Option.map_eq_none_iff, List.find?_eq_none, decide_eq_true_eq] at h
  exact h
theorem lkE_no {E : List En} {k : Int} {s : List UInt8} (h : ∀ e ∈ E, ¬ (e.k = k ∧ e.s = s)) : lkE E k s = none := by
  unfold lkE
  simp only [Option.map_eq_none_iff, List.find?_eq_none, decide_eq_true_eq]
  exact h
theorem lkE_of_mem {E : List En} (hE : E.Pairwise (fun e f => ¬ (e.k = f.k ∧ e.s = f.s))) {e : En} (he : e ∈ E) : lkE E e.k e.s = some e.b := by
  induction E with
  | nil => cases he
  | cons f r ih =>
    obtain ⟨h1, h2⟩ := List.pairwise_cons.1 hE
    rcases List.mem_cons.1 he with rfl | he
    · simp [lkE]
    · have hn : ¬ (f.k = e.k ∧ f.s = e.s) := h1 e he
      have := ih h2 he
      unfold lkE at this ⊢
      rw [List.find?_cons]
      simp only [decide_eq_false hn]
      exact this
theorem lkE_snoc (E : List En) (e : En) (k : Int) (s : List UInt8) : lkE (E ++ [e]) k s = match lkE E k s with | some b => some b | none => if e.k = k ∧ e.s = s then some e.b else none := by
  unfold lkE
  rw [List.find?_append]
  cases E.find? (fun e => decide (e.k = k ∧ e.s = s)) with
  | some a => rfl
  | none =>
    simp only [Option.none_or, Option.map_none, List.find?_cons]
    by_cases h : e.k = k ∧ e.s = s
    · simp [h]
    · simp [h]
theorem lkT_cons (p : Int × Nat) (T : List (Int × Nat)) (k : Int) : lkT (p :: T) k = if p.1 = k then some p.2 else lkT T k := by
  unfold lkT
  rw [List.find?_cons]
  by_cases h : p.1 = k <;> simp [h]

/-- The cells of versions. -/
def vrl (zs : List VV) : List Value := zs.flatMap (fun z => [.int .i64 z.1.wr, .bool z.1.th, .slice z.2.1 z.1.n z.2.2])
theorem vrl_len : ∀ l : List VV, (vrl l).length = l.length * 3
  | [] => rfl
  | a :: l => by
    have := vrl_len l
    unfold vrl at this ⊢
    simp only [List.flatMap_cons, List.length_append, List.length_cons, List.length_nil, this]; omega
theorem vrl_get : ∀ (l : List VV) (k : Nat) (z : VV), l[k]? = some z → (vrl l)[k * 3]? = some (.int .i64 z.1.wr) ∧ (vrl l)[k * 3 + 1]? = some (.bool z.1.th) ∧ (vrl l)[k * 3 + 2]? = some (.slice z.2.1 z.1.n z.2.2)
  | [], k, z, hk => by simp at hk
  | a :: l, 0, z, hk => by
    simp only [List.getElem?_cons_zero, Option.some.injEq] at hk
    subst hk
    simp [vrl]
  | a :: l, k + 1, z, hk => by
    have := vrl_get l k z (by simpa using hk)
    unfold vrl at this ⊢
    have e1 : (k + 1) * 3 = k * 3 + 3 := by omega
    simp only [List.flatMap_cons]
    rw [e1]
    refine ⟨?_, ?_, ?_⟩
    · rw [List.getElem?_append_right (by simp)]; simpa using this.1
    · rw [List.getElem?_append_right (by simp)]; simpa using this.2.1
    · rw [List.getElem?_append_right (by simp)]; simpa using this.2.2
theorem vrl_snoc (l : List VV) (z : VV) : vrl (l ++ [z]) = vrl l ++ [.int .i64 z.1.wr, .bool z.1.th, .slice z.2.1 z.1.n z.2.2] := by simp [vrl]

/-- A version's row in the world, its block its own. Labels: of rows even, of all else odd. -/
structure VOK (w : World) (σ : Nat → Option Nat) (z : VV) : Prop where
  own : w.ownsRow 0 92 3 (.slice z.2.1 z.1.n z.2.2) z.1.n z.1.cs
  lab : ∀ g, (Value.slice z.2.1 z.1.n z.2.2).ownBlock = some g → σ g = some (2 * g)
  one : ∀ u ∈ z.1.cs, u.oneCell' = true
  sm : z.1.n ≤ 1000000
  lo : -9223372036854775808 ≤ z.1.wr
  hi : z.1.wr ≤ 9223372036854775807
theorem VOK.tch {S : Nat → Prop} {w w' : World} {σ σ' : Nat → Option Nat} {z : VV} (h : VOK w σ z) (t : Tch S w w') (hS : ∀ g, g < w.heap.size → S g → ∀ j, σ g ≠ some (2 * j)) (hσ : ∀ g, g < w.heap.size → σ g ≠ none → σ' g = σ g) : VOK w' σ' z := by
  refine ⟨own_tch h.own t (fun g hg hs => ?_), fun g hg => ?_, h.one, h.sm, h.lo, h.hi⟩
  · obtain ⟨cur, hc⟩ := own_blk h.own hg
    exact hS g (blk_lt hc) hs g (h.lab g hg)
  · obtain ⟨cur, hc⟩ := own_blk h.own hg
    rw [hσ g (blk_lt hc) (by rw [h.lab g hg]; exact fun h => by cases h)]; exact h.lab g hg

/-- A chain: the box at cb with versions. -/
structure CB (w : World) (σ : Nat → Option Nat) (cb : Nat) (co : Option Addr) (cc : Nat) (zs : List VV) : Prop where
  lab : σ cb = some (2 * cb + 1)
  blk : w.heap[cb]? = some (.cells #[.slice co zs.length cc] 82 (0, 0))
  row : w.ownsRow 0 84 3 (.slice co zs.length cc) zs.length (vrl zs)
  rl : ∀ g, (Value.slice co zs.length cc).ownBlock = some g → σ g = some (2 * cb + 1)
  ok : ∀ z ∈ zs, VOK w σ z
theorem CB.tch {S : Nat → Prop} {w w' : World} {σ σ' : Nat → Option Nat} {cb : Nat} {co : Option Addr} {cc : Nat} {zs : List VV} (h : CB w σ cb co cc zs) (t : Tch S w w') (hS : ∀ g, g < w.heap.size → S g → σ g ≠ some (2 * cb + 1) ∧ ∀ j, σ g ≠ some (2 * j)) (hσ : ∀ g, g < w.heap.size → σ g ≠ none → σ' g = σ g) : CB w' σ' cb co cc zs := by
  have hl := blk_lt h.blk
  refine ⟨(hσ cb hl (by rw [h.lab]; exact fun h => by cases h)).trans h.lab, ?_, ?_, fun g hg => ?_, fun z hz => (h.ok z hz).tch t (fun g hg hs => (hS g hg hs).2) hσ⟩
  · rw [t.block cb hl (fun hs => (hS cb hl hs).1 h.lab)]; exact h.blk
  · refine own_tch h.row t (fun g hg hs => ?_)
    obtain ⟨cur, hc⟩ := own_blk h.row hg
    exact (hS g (blk_lt hc) hs).1 (h.rl g hg)
  · obtain ⟨cur, hc⟩ := own_blk h.row hg
    exact (hσ g (blk_lt hc) (by rw [h.rl g hg]; exact fun h => by cases h)).trans (h.rl g hg)
theorem row_ne {w : World} {base n sz : Nat} {t t' : TypeId} {v : Value} {xs : List Value} {b : Nat} {cs : Array Value} (h : w.ownsRow base t sz v n xs) (hb : w.heap[b]? = some (.cells cs t' (0, 0))) (ht : t ≠ t') {g : Nat} (hg : v.ownBlock = some g) : g ≠ b := by
  rintro rfl
  obtain ⟨c1, e1⟩ := own_blk h hg
  rw [e1] at hb
  cases hb
  exact ht rfl
theorem vrd_of {w : World} {co : Option Addr} {cc : Nat} {zs : List VV} (h : w.ownsRow 0 84 3 (.slice co zs.length cc) zs.length (vrl zs)) : VRd w.heap.size w co zs := by
  rcases h.2 with ⟨e, h0⟩ | ⟨g, cap, cur, hv, _, hg, _, _, hs, ht⟩
  · injection e with e1 e2 e3
    exact .inl ⟨List.length_eq_zero_iff.1 h0, e1⟩
  · injection hv with e1 e2 e3
    have hc : ∀ j u, (vrl zs)[j]? = some u → w.cell? ⟨g, j, none⟩ = some u := fun j u hu => by
      rw [blk_cell hg, ← Array.getElem?_toList]
      rw [← ht, List.getElem?_take] at hu
      split at hu
      · exact hu
      · cases hu
    refine .inr ⟨g, e1, blk_lt hg, fun k z hz => ?_⟩
    obtain ⟨a, b, c⟩ := vrl_get zs k z hz
    exact ⟨hc _ _ a, hc _ _ b, hc _ _ c⟩
end Go.Proofs.Ytjbehnoococelaa
/- The heap: its maps. -/
namespace Go.Proofs.Ytjbehnoococelaa
open Go.RowKit Go Go.Maps

abbrev Ch := Option Addr × Nat × List VV
theorem law_str : Keyed Try.prog 9 := Maps.string_keyed Try.underlying9
theorem zero_map (w : World) : (zeroValue 79).run Try.prog w = .ok (.map none) w := by kernel_rfl
theorem zero_ptr (w : World) : (zeroValue 80).run Try.prog w = .ok (.pointer none) w := by kernel_rfl
/-- A heap at hb over the manager mb: its map, the tables' maps, the chains. -/
structure HW (w : World) (hb mb tb : Nat) (T : List (Int × Nat)) (E : List En) (C : Nat → Ch) (σ : Nat → Option Nat) (q : Nat) : Prop where
  blk : w.heap[hb]? = some (.cells #[.pointer (some ⟨mb, 0, none⟩), .map (some tb)] 77 (0, 0))
  lb : σ hb = some (2 * hb + 1)
  lt : σ tb = some (2 * hb + 1)
  mp : ∃ D, w.ownsMap Try.prog 3 mapElem tb q D ∧ ∀ k zd, D.atKey (.int .i64 k) zd = atB (lkT T k) zd
  inn : ∀ p ∈ T, σ p.2 = some (2 * p.2 + 1) ∧ ∃ D, w.ownsMap Try.prog 9 ptrElem p.2 q D ∧ ∀ s zd, D.atKey (.string s) zd = atB (lkE E p.1 s) zd
  chs : ∀ e ∈ E, CB w σ e.b (C e.b).1 (C e.b).2.1 (C e.b).2.2 ∧ (C e.b).2.2.length ≤ q
  tk : T.Pairwise (fun p r => p.1 ≠ r.1)
  tl : T.Pairwise (fun p r => p.2 ≠ r.2)
  ek : E.Pairwise (fun e f => ¬ (e.k = f.k ∧ e.s = f.s))
  eb : E.Pairwise (fun e f => e.b ≠ f.b)
  et : ∀ e ∈ E, ∃ l, (e.k, l) ∈ T
  dom : ∀ i, σ i ≠ none → i < w.heap.size
section
variable {w : World} {hb mb tb : Nat} {T : List (Int × Nat)} {E : List En} {C : Nat → Ch} {σ : Nat → Option Nat} {q : Nat}
theorem HW.c0 (h : HW w hb mb tb T E C σ q) : w.cell? ⟨hb, 0, none⟩ = some (.pointer (some ⟨mb, 0, none⟩)) := by rw [blk_cell h.blk]; rfl
theorem HW.c1 (h : HW w hb mb tb T E C σ q) : w.cell? ⟨hb, 1, none⟩ = some (.map (some tb)) := by rw [blk_cell h.blk]; rfl
theorem HW.tch {S : Nat → Prop} {w' : World} (h : HW w hb mb tb T E C σ q) (t : Tch S w w') (hS : ∀ i, i < w.heap.size → S i → σ i = none) : HW w' hb mb tb T E C σ q := by
  obtain ⟨D, hD, hk⟩ := h.mp
  refine ⟨?_, h.lb, h.lt, ⟨D, ownsMap_tch hD t (fun hs => ?_), hk⟩, fun p hp => ?_, fun e he => ?_, h.tk, h.tl, h.ek, h.eb, h.et, fun i hi => Nat.lt_of_lt_of_le (h.dom i hi) t.size⟩
  · have hl := blk_lt h.blk
    rw [t.block hb hl (fun hs => by have := hS hb hl hs; rw [h.lb] at this; cases this)]; exact h.blk
  · have := hS tb hD.lt hs; rw [h.lt] at this; cases this
  · obtain ⟨h1, D, hD, hk⟩ := h.inn p hp
    exact ⟨h1, D, ownsMap_tch hD t (fun hs => by have := hS _ hD.lt hs; rw [h1] at this; cases this), hk⟩
  · obtain ⟨h1, h2⟩ := h.chs e he
    exact ⟨h1.tch t (fun g hg hs => by rw [hS g hg hs]; exact ⟨(fun h => by cases h), fun j h => by cases h⟩) (fun _ _ _ => rfl), h2⟩
theorem HW.no {w' : World} (h : HW w hb mb tb T E C σ q) (t : Tch (fun _ => False) w w') : HW w' hb mb tb T E C σ q := h.tch t (fun _ _ h => h.elim)
theorem HW.relab (h : HW w hb mb tb T E C σ q) {σ' : Nat → Option Nat} (hσ : ∀ i, σ i ≠ none → σ' i = σ i) (hd : ∀ i, σ' i ≠ none → i < w.heap.size) : HW w hb mb tb T E C σ' q := by
  refine ⟨h.blk, (hσ hb (by rw [h.lb]; exact fun h => by cases h)).trans h.lb, (hσ tb (by rw [h.lt]; exact fun h => by cases h)).trans h.lt, h.mp, fun p hp => ?_, fun e he => ?_, h.tk, h.tl, h.ek, h.eb, h.et, hd⟩
  · obtain ⟨h1, h2⟩ := h.inn p hp
    exact ⟨(hσ _ (by rw [h1]; exact fun h => by cases h)).trans h1, h2⟩
  · obtain ⟨h1, h2⟩ := h.chs e he
    exact ⟨h1.tch (Tch.refl (fun _ => False) w) (fun _ _ h => h.elim) (fun i _ hi => hσ i hi), h2⟩
theorem HW.more (h : HW w hb mb tb T E C σ q) {q' : Nat} (hq : q ≤ q') : HW w hb mb tb T E C σ q' := by
  obtain ⟨D, hD, hk⟩ := h.mp
  refine ⟨h.blk, h.lb, h.lt, ⟨D, hD.mono hq, hk⟩, fun p hp => ?_, fun e he => ⟨(h.chs e he).1, Nat.le_trans (h.chs e he).2 hq⟩, h.tk, h.tl, h.ek, h.eb, h.et, h.dom⟩
  obtain ⟨h1, D, hD, hk⟩ := h.inn p hp
  exact ⟨h1, D, hD.mono hq, hk⟩
/-- The look-ups. -/
theorem HW.look (h : HW w hb mb tb T E C σ q) {k : Int} (h1 : -9223372036854775808 ≤ k) (h2 : k ≤ 9223372036854775807) :
    (Instr.lookup 75 (.map (some tb)) (.int .i64 k) false).run Try.prog w = .ok (mapV (lkT T k)) w := by
  obtain ⟨D, hD, hk⟩ := h.mp
  obtain ⟨v, ps, hrun, hv⟩ := hD.lookup law_int Try.underlying75 (zero_map w) (zd := .lit (.int .i64 (-1))) (zp := []) rfl (Maps.keyOf_int_mk Try.underlying3 (int_wf h1 h2))
  rw [hrun, mapElem_inv hv (hk k _)]
theorem HW.look2 (h : HW w hb mb tb T E C σ q) {p : Int × Nat} (hp : p ∈ T) {S : ByteArray} (hS : S.size ≤ maxLen) :
    (Instr.lookup 79 (.map (some p.2)) (.string S) false).run Try.prog w = .ok (ptrV (lkE E p.1 S.data.toList)) w := by
  obtain ⟨_, D, hD, hk⟩ := h.inn p hp
  obtain ⟨v, ps, hrun, hv⟩ := hD.lookup law_str Try.underlying79 (zero_ptr w) (zd := .lit (.int .i64 (-1))) (zp := []) rfl (WideMaps.keyOf_string_mk Try.underlying9 hS)
  rw [hrun, ptrElem_inv hv (hk _ _)]
theorem look_nil (w : World) {S : ByteArray} (hS : S.size ≤ maxLen) : (Instr.lookup 79 (.map none) (.string S) false).run Try.prog w = .ok (.pointer none) w := by
  rw [Maps.look_nil false law_str Try.underlying79 (zero_ptr w) (WideMaps.keyOf_string_mk Try.underlying9 hS)]; rfl
theorem HW.noT (h : HW w hb mb tb T E C σ q) {k : Int} (hk : lkT T k = none) (s : List UInt8) : lkE E k s = none := lkE_no (fun e he ⟨h1, _⟩ => by
  obtain ⟨l, hl⟩ := h.et e he
  exact lkT_none hk _ hl h1)
/-- A map's block is no box. -/
theorem map_ne {P : Program} {k : TypeId} {R : Value → Option (DataW Unit × List MemPlace)} {b n c : Nat} {D : DataW Unit} {cs : Array Value} {t : TypeId} (h : w.ownsMap P k R b n D) (hc : w.heap[c]? = some (.cells cs t (0, 0))) : b ≠ c := by
  rintro rfl
  obtain ⟨es, cl, hh, _⟩ := h
  rw [hh] at hc; cases hc
theorem HW.tne (h : HW w hb mb tb T E C σ q) : tb ≠ hb := by
  obtain ⟨D, hD, _⟩ := h.mp
  exact map_ne hD h.blk
theorem HW.ene (h : HW w hb mb tb T E C σ q) {e : En} (he : e ∈ E) : e.b ≠ hb := by
  rintro e0
  have h1 := (h.chs e he).1.blk
  rw [e0, h.blk] at h1
  cases h1
theorem HW.lne (h : HW w hb mb tb T E C σ q) {p : Int × Nat} (hp : p ∈ T) : p.2 ≠ hb ∧ p.2 ≠ tb ∧ ∀ e ∈ E, p.2 ≠ e.b := by
  obtain ⟨h1, D, hD, _⟩ := h.inn p hp
  refine ⟨map_ne hD h.blk, fun e => ?_, fun e he => map_ne hD (h.chs e he).1.blk⟩
  rw [e, h.lt] at h1
  have h2 : hb = tb := by injection h1 with h1; omega
  exact h.tne h2.symm
end
end Go.Proofs.Ytjbehnoococelaa
/- The heap: a table, a chain added, changed, taken away. -/
namespace Go.Proofs.Ytjbehnoococelaa
open Go.RowKit Go Go.Maps

def upB {α : Type} (f : Nat → α) (b : Nat) (v : α) : Nat → α := fun i => if i = b then v else f i
theorem upB_same {α : Type} (f : Nat → α) (b : Nat) (v : α) : upB f b v b = v := if_pos rfl
theorem upB_other {α : Type} (f : Nat → α) {b i : Nat} (v : α) (h : i ≠ b) : upB f b v i = f i := if_neg h
theorem pw_inj {α β : Type} (f : α → β) : ∀ {l : List α}, l.Pairwise (fun a b => f a ≠ f b) → ∀ {x y : α}, x ∈ l → y ∈ l → f x = f y → x = y
  | [], _, _, _, hx, _, _ => by cases hx
  | a :: r, h, x, y, hx, hy, e => by
    obtain ⟨h1, h2⟩ := List.pairwise_cons.1 h
    rcases List.mem_cons.1 hx with hx' | hx'
    · rcases List.mem_cons.1 hy with hy' | hy'
      · rw [hx', hy']
      · exact absurd (hx' ▸ e) (h1 y hy')
    · rcases List.mem_cons.1 hy with hy' | hy'
      · exact absurd (hy' ▸ e.symm) (h1 x hx')
      · exact pw_inj f h2 hx' hy' e
theorem key_str (s : List UInt8) : WideAt.IsKeyLit (.string s) := by simp [WideAt.IsKeyLit]
section
variable {w : World} {hb mb tb : Nat} {T : List (Int × Nat)} {E : List En} {C : Nat → Ch} {σ : Nat → Option Nat} {q : Nat}
theorem HW.addT (h : HW w hb mb tb T E C σ q) {k : Int} (h1 : -9223372036854775808 ≤ k) (h2 : k ≤ 9223372036854775807) (hk : lkT T k = none) (hq : q ≤ 2147483648) {l : Nat} (hl : w.ownsMap Try.prog 9 ptrElem l 0 (.map [])) (hσ : σ l = none) :
    ∃ w', (Instr.mapUpdate 75 (.map (some tb)) (.int .i64 k) (.map (some l))).run Try.prog w = .ok () w' ∧ HW w' hb mb tb ((k, l) :: T) E C (upB σ l (some (2 * l + 1))) (q + 1) ∧ Tch (fun i => i = tb) w w' := by
  obtain ⟨D, hD, hat⟩ := h.mp
  obtain ⟨w', hrun, hD', ht⟩ := hD.store law_int Try.underlying75 (by unfold maxLen; omega) (Maps.keyOf_int_mk Try.underlying3 (int_wf h1 h2)) (mapElem_some l)
  have t : Tch (fun i => i = tb) w w' := Tch.of_grown ht.grown (fun g hg => by cases hg; rfl)
  have hlt : l ≠ tb := by rintro rfl; rw [h.lt] at hσ; cases hσ
  have hup : ∀ i, σ i ≠ none → upB σ l (some (2 * l + 1)) i = σ i := fun i hi => upB_other _ _ (by rintro rfl; exact hi hσ)
  refine ⟨w', hrun, ⟨?_, (hup hb (by rw [h.lb]; exact fun h => by cases h)).trans h.lb, (hup tb (by rw [h.lt]; exact fun h => by cases h)).trans h.lt, ⟨_, hD', fun j zd => ?_⟩, fun p hp => ?_, fun e he => ?_, ?_, ?_, h.ek, h.eb, fun e he => ?_, fun i hi => ?_⟩, t⟩
  · rw [t.block hb (blk_lt h.blk) (fun e => h.tne e.symm)]; exact h.blk
  · rw [lkT_cons]
    by_cases hj : k = j
    · subst hj
      rw [atKey_put_same hD.isMap (key_int k), if_pos rfl]; rfl
    · rw [atKey_put_other (by intro e; injection e with _ e; exact hj e.symm), if_neg hj]; exact hat j zd
  · rcases List.mem_cons.1 hp with rfl | hp
    · refine ⟨upB_same _ _ _, _, (ownsMap_tch hl t hlt).mono (Nat.zero_le _), fun s zd => ?_⟩
      simp only
      rw [h.noT hk]; rfl
    · obtain ⟨g1, D1, hD1, hk1⟩ := h.inn p hp
      exact ⟨(hup _ (by rw [g1]; exact fun h => by cases h)).trans g1, D1, (ownsMap_tch hD1 t (h.lne hp).2.1).mono (Nat.le_succ _), hk1⟩
  · obtain ⟨g1, g2⟩ := h.chs e he
    refine ⟨g1.tch t (fun g hg hs => ?_) (fun i _ hi => hup i hi), Nat.le_succ_of_le g2⟩
    subst hs
    rw [h.lt]
    exact ⟨(fun e' => by injection e' with e'; exact h.ene he (by omega)), fun j e' => by injection e' with e'; omega⟩
  · exact List.pairwise_cons.2 ⟨fun p hp e => lkT_none hk p hp e.symm, h.tk⟩
  · exact List.pairwise_cons.2 ⟨(fun p hp e => by have := (h.inn p hp).1; rw [← e] at this; simp only at this; rw [hσ] at this; cases this), h.tl⟩
  · obtain ⟨l', hl'⟩ := h.et e he
    exact ⟨l', List.mem_cons_of_mem _ hl'⟩
  · by_cases e : i = l
    · rw [e]; exact Nat.lt_of_lt_of_le hl.lt t.size
    · rw [upB_other _ _ e] at hi; exact Nat.lt_of_lt_of_le (h.dom i hi) t.size
theorem HW.addE (h : HW w hb mb tb T E C σ q) {k : Int} {l : Nat} (hl : (k, l) ∈ T) {S : ByteArray} (hS : S.size ≤ maxLen) (hk : lkE E k S.data.toList = none) (hq : q ≤ 2147483648) {cb : Nat} (hc : w.heap[cb]? = some (.cells #[.slice none 0 0] 82 (0, 0))) (hσ : σ cb = none) :
    ∃ w', (Instr.mapUpdate 79 (.map (some l)) (.string S) (.pointer (some ⟨cb, 0, none⟩))).run Try.prog w = .ok () w' ∧ HW w' hb mb tb T (E ++ [⟨k, S.data.toList, cb⟩]) (upB C cb (none, 0, [])) (upB σ cb (some (2 * cb + 1))) (q + 1) ∧ Tch (fun i => i = l) w w' := by
  obtain ⟨g1, D, hD, hat⟩ := h.inn (k, l) hl
  simp only at g1 hD hat
  obtain ⟨w', hrun, hD', ht⟩ := hD.store law_str Try.underlying79 (by unfold maxLen; omega) (WideMaps.keyOf_string_mk Try.underlying9 hS) (ptrElem_some cb)
  have t : Tch (fun i => i = l) w w' := Tch.of_grown ht.grown (fun g hg => by cases hg; rfl)
  have hup : ∀ i, σ i ≠ none → upB σ cb (some (2 * cb + 1)) i = σ i := fun i hi => upB_other _ _ (by rintro rfl; exact hi hσ)
  have hlc : cb ≠ l := fun e => map_ne hD hc e.symm
  have hlne := h.lne hl
  obtain ⟨D0, hD0, hat0⟩ := h.mp
  refine ⟨w', hrun, ⟨?_, (hup hb (by rw [h.lb]; exact fun h => by cases h)).trans h.lb, (hup tb (by rw [h.lt]; exact fun h => by cases h)).trans h.lt, ⟨D0, (ownsMap_tch hD0 t (fun e => hlne.2.1 e.symm)).mono (Nat.le_succ _), hat0⟩, fun p hp => ?_, fun e he => ?_, h.tk, h.tl, ?_, ?_, fun e he => ?_, fun i hi => ?_⟩, t⟩
  · rw [t.block hb (blk_lt h.blk) (fun e => hlne.1 e.symm)]; exact h.blk
  · obtain ⟨p1, D1, hD1, hk1⟩ := h.inn p hp
    refine ⟨(hup _ (by rw [p1]; exact fun h => by cases h)).trans p1, ?_⟩
    by_cases e : p.2 = l
    · have hpk : p.1 = k := by rw [pw_inj (fun p : Int × Nat => p.2) h.tl hp hl e]
      refine ⟨D.put (.string S.data.toList) (encB cb), by rw [e]; exact hD', fun s zd => ?_⟩
      rw [lkE_snoc, hpk]
      by_cases hs : S.data.toList = s
      · subst hs
        rw [atKey_put_same hD.isMap (key_str _), hk]; simp [atB]
      · rw [atKey_put_other (by intro e; injection e with e; exact hs e.symm), hat]
        cases lkE E k s with
        | some b => rfl
        | none => simp [hs, atB]
    · refine ⟨D1, (ownsMap_tch hD1 t e).mono (Nat.le_succ _), fun s zd => ?_⟩
      rw [hk1, lkE_snoc]
      have hpk : ¬ (k = p.1) := fun ek => e (by rw [pw_inj (fun p : Int × Nat => p.1) h.tk hp hl ek.symm])
      cases lkE E p.1 s with
      | some b => rfl
      | none => simp [hpk]
  · rcases List.mem_append.1 he with he | he
    · obtain ⟨g1', g2⟩ := h.chs e he
      have hne : e.b ≠ cb := by rintro e0; rw [← e0, g1'.lab] at hσ; cases hσ
      rw [upB_other _ _ hne]
      refine ⟨g1'.tch t (fun g hg hs => ?_) (fun i _ hi => hup i hi), Nat.le_succ_of_le g2⟩
      subst hs
      rw [g1]
      exact ⟨(fun e' => by injection e' with e'; exact hlne.2.2 e he (by omega)), fun j e' => by injection e' with e'; omega⟩
    · obtain rfl := List.mem_singleton.1 he
      simp only
      rw [upB_same]
      refine ⟨⟨upB_same _ _ _, by rw [t.block cb (blk_lt hc) hlc]; exact hc, ⟨rfl, Or.inl ⟨rfl, rfl⟩⟩, (fun g hg => by cases hg), (fun z hz => by cases hz)⟩, Nat.zero_le _⟩
  · rw [List.pairwise_append]
    refine ⟨h.ek, by simp, fun e he f hf => ?_⟩
    obtain rfl := List.mem_singleton.1 hf
    exact lkE_none hk e he
  · rw [List.pairwise_append]
    refine ⟨h.eb, by simp, fun e he f hf => ?_⟩
    obtain rfl := List.mem_singleton.1 hf
    rintro e0
    have := (h.chs e he).1.lab
    rw [e0] at this; simp only at this; rw [hσ] at this; cases this
  · rcases List.mem_append.1 he with he | he
    · exact h.et e he
    · obtain rfl := List.mem_singleton.1 he; exact ⟨l, hl⟩
  · by_cases e : i = cb
    · rw [e]; exact Nat.lt_of_lt_of_le (blk_lt hc) t.size
    · rw [upB_other _ _ e] at hi; exact Nat.lt_of_lt_of_le (h.dom i hi) t.size
/-- A chain is another one. -/
theorem HW.setC (h : HW w hb mb tb T E C σ q) {w' : World} {cb : Nat} {co : Option Addr} {cc : Nat} {zs : List VV} {σ' : Nat → Option Nat} {q' : Nat} (t : Tch (fun i => σ i = some (2 * cb + 1)) w w') (hne : cb ≠ hb) (hnl : ∀ p ∈ T, p.2 ≠ cb) (hσ : ∀ i, σ i ≠ none → σ' i = σ i) (hd : ∀ i, σ' i ≠ none → i < w'.heap.size) (hq : q ≤ q') (hz : zs.length ≤ q') (hC : CB w' σ' cb co cc zs) : HW w' hb mb tb T E (upB C cb (co, cc, zs)) σ' q' := by
  obtain ⟨D0, hD0, hat0⟩ := h.mp
  have hlb : ∀ i x, σ i = some x → σ' i = some x := fun i x hi => (hσ i (by rw [hi]; exact fun h => by cases h)).trans hi
  refine ⟨?_, hlb _ _ h.lb, hlb _ _ h.lt, ⟨D0, (ownsMap_tch hD0 t (fun e => ?_)).mono hq, hat0⟩, fun p hp => ?_, fun e he => ?_, h.tk, h.tl, h.ek, h.eb, h.et, hd⟩
  · rw [t.block hb (blk_lt h.blk) (fun e => by rw [h.lb] at e; injection e with e; omega)]; exact h.blk
  · rw [h.lt] at e; injection e with e; omega
  · obtain ⟨g1, D, hD, hk⟩ := h.inn p hp
    refine ⟨hlb _ _ g1, D, (ownsMap_tch hD t (fun e => ?_)).mono hq, hk⟩
    rw [g1] at e; injection e with e; exact hnl p hp (by omega)
  · by_cases e0 : e.b = cb
    · rw [e0, upB_same]
      exact ⟨hC, hz⟩
    · rw [upB_other _ _ e0]
      obtain ⟨g1, g2⟩ := h.chs e he
      refine ⟨g1.tch t (fun g hg hs => ?_) (fun i _ hi => hσ i hi), Nat.le_trans g2 hq⟩
      rw [hs]
      exact ⟨(fun e' => by injection e' with e'; omega), fun j e' => by injection e' with e'; omega⟩
end
end Go.Proofs.Ytjbehnoococelaa
/- The heap: a chain, a table taken away; how many a table has. -/
namespace Go.Proofs.Ytjbehnoococelaa
open Go.RowKit Go Go.Maps

theorem lkE_del (E : List En) (k : Int) (s : List UInt8) (k' : Int) (s' : List UInt8) : lkE (E.filter (fun e => decide (¬ (e.k = k ∧ e.s = s)))) k' s' = if k' = k ∧ s' = s then none else lkE E k' s' := by
  by_cases h : k' = k ∧ s' = s
  · rw [if_pos h]
    refine lkE_no (fun e he hs => ?_)
    have := (List.mem_filter.1 he).2
    simp only [decide_eq_true_eq] at this
    exact this ⟨hs.1.trans h.1, hs.2.trans h.2⟩
  · rw [if_neg h]
    unfold lkE
    rw [find_filter_keep]
    intro e he
    simp only [decide_eq_true_eq] at he ⊢
    exact fun hs => h ⟨he.1.symm.trans hs.1, he.2.symm.trans hs.2⟩
theorem lkE_drop (E : List En) (k k' : Int) (s' : List UInt8) (h : k' ≠ k) : lkE (E.filter (fun e => decide (e.k ≠ k))) k' s' = lkE E k' s' := by
  unfold lkE
  rw [find_filter_keep]
  intro e he
  simp only [decide_eq_true_eq] at he ⊢
  rw [he.1]; exact h
theorem lkT_drop (T : List (Int × Nat)) (k k' : Int) : lkT (T.filter (fun p => decide (p.1 ≠ k))) k' = if k' = k then none else lkT T k' := by
  by_cases h : k' = k
  · rw [if_pos h]
    unfold lkT
    simp only [Option.map_eq_none_iff, List.find?_eq_none, decide_eq_true_eq]
    intro p hp e
    have := (List.mem_filter.1 hp).2
    simp only [decide_eq_true_eq] at this
    exact this (e.trans h)
  · rw [if_neg h]
    unfold lkT
    rw [find_filter_keep]
    intro p hp
    simp only [decide_eq_true_eq] at hp ⊢
    rw [hp]; exact h
section
variable {w : World} {hb mb tb : Nat} {T : List (Int × Nat)} {E : List En} {C : Nat → Ch} {σ : Nat → Option Nat} {q : Nat}
theorem HW.delE (h : HW w hb mb tb T E C σ q) {k : Int} {l : Nat} (hl : (k, l) ∈ T) {S : ByteArray} (hS : S.size ≤ maxLen) (ty : TypeId) :
    ∃ w', (Builtin.delete_ #[79, 9] ty #[.map (some l), .string S]).run Try.prog w = .ok (.tuple #[]) w' ∧ HW w' hb mb tb T (E.filter (fun e => decide (¬ (e.k = k ∧ e.s = S.data.toList)))) C σ q ∧ Tch (fun i => i = l) w w' := by
  obtain ⟨g1, D, hD, hat⟩ := h.inn (k, l) hl
  simp only at g1 hD hat
  obtain ⟨w', hrun, hD', ht⟩ := hD.drop law_str Try.underlying79 (WideMaps.keyOf_string_mk Try.underlying9 hS) ty
  have t : Tch (fun i => i = l) w w' := Tch.of_grown ht.grown (fun g hg => by cases hg; rfl)
  have hlne := h.lne hl
  obtain ⟨D0, hD0, hat0⟩ := h.mp
  refine ⟨w', hrun, ⟨?_, h.lb, h.lt, ⟨D0, ownsMap_tch hD0 t (fun e => hlne.2.1 e.symm), hat0⟩, fun p hp => ?_, fun e he => ?_, h.tk, h.tl, h.ek.filter _, h.eb.filter _, fun e he => h.et e (List.mem_filter.1 he).1, fun i hi => Nat.lt_of_lt_of_le (h.dom i hi) t.size⟩, t⟩
  · rw [t.block hb (blk_lt h.blk) (fun e => hlne.1 e.symm)]; exact h.blk
  · obtain ⟨p1, D1, hD1, hk1⟩ := h.inn p hp
    refine ⟨p1, ?_⟩
    by_cases e : p.2 = l
    · have hpk : p = (k, l) := pw_inj (fun p : Int × Nat => p.2) h.tl hp hl e
      subst hpk
      refine ⟨D.del (.string S.data.toList), hD', fun s zd => ?_⟩
      simp only
      rw [lkE_del]
      by_cases hs : s = S.data.toList
      · rw [if_pos ⟨rfl, hs⟩, hs, atKey_del_same]; rfl
      · rw [if_neg (fun h => hs h.2), atKey_del_other (by intro e; injection e with e; exact hs e), hat]
    · refine ⟨D1, ownsMap_tch hD1 t e, fun s zd => ?_⟩
      rw [hk1, lkE_del, if_neg]
      rintro ⟨ek, _⟩
      exact e (by rw [pw_inj (fun p : Int × Nat => p.1) h.tk hp hl ek])
  · have he' := (List.mem_filter.1 he).1
    obtain ⟨g1', g2⟩ := h.chs e he'
    refine ⟨g1'.tch t (fun g hg hs => ?_) (fun i _ hi => rfl), g2⟩
    subst hs
    rw [g1]
    exact ⟨(fun e' => by injection e' with e'; exact hlne.2.2 e he' (by omega)), fun j e' => by injection e' with e'; omega⟩
theorem HW.dropT (h : HW w hb mb tb T E C σ q) {k : Int} (h1 : -9223372036854775808 ≤ k) (h2 : k ≤ 9223372036854775807) (ty : TypeId) :
    ∃ w', (Builtin.delete_ #[75, 3] ty #[.map (some tb), .int .i64 k]).run Try.prog w = .ok (.tuple #[]) w' ∧ HW w' hb mb tb (T.filter (fun p => decide (p.1 ≠ k))) (E.filter (fun e => decide (e.k ≠ k))) C σ q ∧ Tch (fun i => i = tb) w w' := by
  obtain ⟨D0, hD0, hat0⟩ := h.mp
  obtain ⟨w', hrun, hD', ht⟩ := hD0.drop law_int Try.underlying75 (Maps.keyOf_int_mk Try.underlying3 (int_wf h1 h2)) ty
  have t : Tch (fun i => i = tb) w w' := Tch.of_grown ht.grown (fun g hg => by cases hg; rfl)
  refine ⟨w', hrun, ⟨?_, h.lb, h.lt, ⟨_, hD', fun j zd => ?_⟩, fun p hp => ?_, fun e he => ?_, h.tk.filter _, h.tl.filter _, h.ek.filter _, h.eb.filter _, fun e he => ?_, fun i hi => Nat.lt_of_lt_of_le (h.dom i hi) t.size⟩, t⟩
  · rw [t.block hb (blk_lt h.blk) (fun e => h.tne e.symm)]; exact h.blk
  · rw [lkT_drop]
    by_cases hj : j = k
    · rw [if_pos hj, hj, atKey_del_same]; rfl
    · rw [if_neg hj, atKey_del_other (by intro e; injection e with _ e; exact hj e)]; exact hat0 j zd
  · obtain ⟨hp, hpk⟩ := List.mem_filter.1 hp
    simp only [decide_eq_true_eq] at hpk
    obtain ⟨p1, D1, hD1, hk1⟩ := h.inn p hp
    exact ⟨p1, D1, ownsMap_tch hD1 t (h.lne hp).2.1, fun s zd => by rw [hk1, lkE_drop _ _ _ _ hpk]⟩
  · have he' := (List.mem_filter.1 he).1
    obtain ⟨g1', g2⟩ := h.chs e he'
    refine ⟨g1'.tch t (fun g hg hs => ?_) (fun i _ hi => rfl), g2⟩
    subst hs
    rw [h.lt]
    exact ⟨(fun e' => by injection e' with e'; exact h.ene he' (by omega)), fun j e' => by injection e' with e'; omega⟩
  · obtain ⟨he, hk⟩ := List.mem_filter.1 he
    obtain ⟨l, hl⟩ := h.et e he
    exact ⟨l, List.mem_filter.2 ⟨hl, hk⟩⟩
theorem HW.len (h : HW w hb mb tb T E C σ q) {k : Int} {l : Nat} (hl : (k, l) ∈ T) : ∃ n : Nat, (∀ ty, (Builtin.len_ #[79] ty #[.map (some l)]).run Try.prog w = .ok (.int .i64 n) w) ∧ (n = 0 → ∀ e ∈ E, e.k ≠ k) := by
  obtain ⟨g1, D, hD, hat⟩ := h.inn (k, l) hl
  refine ⟨Maps.size D, fun ty => hD.len Try.underlying79 ty, fun h0 e he ek => ?_⟩
  obtain ⟨es, rfl, _, _⟩ := hD.entries law_str
  have : es = [] := List.length_eq_zero_iff.1 h0
  subst this
  have h1 := hat e.s (.lit (.int .i64 (-1)))
  simp only at h1
  rw [← ek, lkE_of_mem h.ek he] at h1
  simp [DataW.atKey, atB, encB] at h1
end
end Go.Proofs.Ytjbehnoococelaa
