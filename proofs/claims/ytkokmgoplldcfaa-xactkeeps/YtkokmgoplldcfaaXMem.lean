/- A manager of package xact in the world. -/
import Derived.Test.YtkokmgoplldcfaaXPure
import Derived.Maps.RangeWalk
import Derived.Maps.AppendAt
import Derived.Lib.BufferMore
namespace Go.Proofs.Ytkokmgoplldcfaa
set_option maxRecDepth 100000
open Go.RowKit Go
open Go.Maps (Keyed)

theorem blk_lt {w : World} {b : Nat} {o : Obj} (h : w.heap[b]? = some o) : b < w.heap.size := (Array.getElem?_eq_some_iff.1 h).1
theorem blk_cell {w : World} {b : Nat} {cs : Array Value} {t : TypeId} {fr : Nat × Nat} (h : w.heap[b]? = some (.cells cs t fr)) (i : Nat) : w.cell? ⟨b, i, none⟩ = cs[i]? := by
  simp [World.cell?, h]
theorem blk_frozen {w : World} {b : Nat} {cs : Array Value} {t : TypeId} (h : w.heap[b]? = some (.cells cs t (0, 0))) (i : Nat) : w.frozen? ⟨b, i, none⟩ = false := by
  simp [World.frozen?, h]
theorem blk_set {w : World} {b i : Nat} {cs : Array Value} {t : TypeId} {fr : Nat × Nat} (h : w.heap[b]? = some (.cells cs t fr)) (v : Value) : (w.setCell ⟨b, i, none⟩ v).heap[b]? = some (.cells (cs.setIfInBounds i v) t fr) := by
  have hl := blk_lt h
  simp only [World.setCell]
  rw [Array.getElem?_modify]
  simp [h]
theorem Tch.of_grown {S : Nat → Prop} {w w' : World} {row : Option Nat} (h : w.grownBy w' row) (hS : ∀ g, row = some g → S g) : Tch S w w' :=
  ⟨h.os, h.tape, h.output, h.size, fun k hk hn => h.block k hk (fun e => hn (hS k e.symm))⟩

/-- How a number reads. -/
def numElem (v : Value) : Option (DataW Unit × List MemPlace) :=
  match v with
  | .agg a => match a.toList with
    | [.pointer none, .int .i64 0] => some (.nil, [])
    | [.pointer (some a), .int .i64 i] => if a = ⟨a.block, 0, none⟩ then some (.agg [.lit (.int .i64 a.block), .lit (.int .i64 i)], []) else none
    | _ => none
  | _ => none
/-- A number. -/
def numV : Option (Nat × Int) → Value
  | none => .agg #[.pointer none, .int .i64 0]
  | some (tb, i) => .agg #[.pointer (some ⟨tb, 0, none⟩), .int .i64 i]
def encN (a : Nat × Int) : DataW Unit := .agg [.lit (.int .i64 a.1), .lit (.int .i64 a.2)]
theorem numElem_none : numElem (numV none) = some (.nil, []) := rfl
theorem numElem_some (tb : Nat) (i : Int) : numElem (numV (some (tb, i))) = some (encN (tb, i), []) := by simp [numElem, numV, encN]
theorem numElem_inv {v : Value} {z : DataW Unit × List MemPlace} {a : Nat × Int} (h : numElem v = some z) (hz : z.1 = encN a) : v = numV (some a) := by
  unfold numElem at h
  split at h
  · rename_i l
    split at h
    · cases h; simp [encN] at hz
    · rename_i p i hl
      split at h
      · rename_i ha
        cases h
        simp only [encN, DataW.agg.injEq, List.cons.injEq, DataW.lit.injEq, Lit.int.injEq, true_and, and_true] at hz
        have e1 : p.block = a.1 := by omega
        have e2 : l = #[.pointer (some p), .int .i64 i] := by rw [← Array.toArray_toList (xs := l), hl]
        obtain ⟨a1, a2⟩ := a
        simp only at e1 hz
        rw [e2, ha, e1, hz.2]; rfl
      · cases h
    · cases h
  · cases h
theorem numElem_inv_none {v : Value} {z : DataW Unit × List MemPlace} (h : numElem v = some z) (hz : z.1 = .nil) : v = numV none := by
  unfold numElem at h
  split at h
  · rename_i l
    split at h
    · rename_i hl
      rw [← Array.toArray_toList (xs := l), hl]; rfl
    · split at h
      · cases h; simp at hz
      · cases h
    · cases h
  · cases h

/-- What the map tells. -/
def lkB (bl : Nat → Nat) (L : List Tx) (n : Int) : Option (Nat × Int) := (fnd L n).map (fun p => (bl p.1.x, p.2))
def atE (o : Option (Nat × Int)) (zd : DataW Unit) : DataW Unit := match o with
  | some a => encN a
  | none => zd

theorem law_int : Keyed Try.prog 3 := Maps.int_keyed Try.underlying3
theorem zero_num (w : World) : (zeroValue 72).run Try.prog w = .ok (numV none) w := by kernel_rfl
theorem ownsMap_tch {H : Type} {P : Program} {k : TypeId} {R : Value → Option (DataW H × List MemPlace)} {S : Nat → Prop} {w w' : World} {b n : Nat} {D : DataW H} (h : w.ownsMap P k R b n D) (t : Tch S w w') (hb : ¬ S b) : w'.ownsMap P k R b n D := by
  have hl := h.lt
  obtain ⟨es, clock, hh, r⟩ := h
  exact ⟨es, clock, (t.block b hl hb).trans hh, r⟩
theorem own_tch {S : Nat → Prop} {w w' : World} {base : Nat} {t : TypeId} {sz n : Nat} {v : Value} {xs : List Value} (h : w.ownsRow base t sz v n xs) (tc : Tch S w w') (hS : ∀ g, v.ownBlock = some g → ¬ S g) : w'.ownsRow base t sz v n xs := by
  obtain ⟨h1, h2⟩ := h
  refine ⟨h1, ?_⟩
  rcases h2 with h2 | ⟨g, cap, cur, hv, hg, hh, r⟩
  · exact Or.inl h2
  · exact Or.inr ⟨g, cap, cur, hv, hg, by rw [tc.block g (blk_lt hh) (hS g (by rw [hv]; rfl))]; exact hh, r⟩
theorem own_blk {w : World} {base : Nat} {t : TypeId} {sz n : Nat} {v : Value} {xs : List Value} (h : w.ownsRow base t sz v n xs) {g : Nat} (hg : v.ownBlock = some g) : ∃ cur, w.heap[g]? = some (.cells cur t (0, 0)) := by
  rcases h.2 with ⟨rfl, _⟩ | ⟨g', cap, cur, rfl, _, hh, _⟩
  · cases hg
  · cases hg; exact ⟨cur, hh⟩

/-- The cells of a list of parts. -/
def pcl (ps : List Pt) : List Value := ps.flatMap (fun p => [.int .i64 p.x, .int .i64 p.ar, .int .i64 p.ft])
theorem pcl_len : ∀ l : List Pt, (pcl l).length = l.length * 3
  | [] => rfl
  | a :: l => by
    have := pcl_len l
    unfold pcl at this ⊢
    simp only [List.flatMap_cons, List.length_append, List.length_cons, List.length_nil, this]; omega
theorem pcl_get : ∀ (l : List Pt) (k : Nat) (p : Pt), l[k]? = some p → (pcl l)[k * 3]? = some (.int .i64 p.x) ∧ (pcl l)[k * 3 + 1]? = some (.int .i64 p.ar) ∧ (pcl l)[k * 3 + 2]? = some (.int .i64 p.ft)
  | [], k, p, hk => by simp at hk
  | a :: l, 0, p, hk => by
    simp only [List.getElem?_cons_zero, Option.some.injEq] at hk
    subst hk
    simp [pcl]
  | a :: l, k + 1, p, hk => by
    have := pcl_get l k p (by simpa using hk)
    unfold pcl at this ⊢
    have e1 : (k + 1) * 3 = k * 3 + 3 := by omega
    simp only [List.flatMap_cons]
    rw [e1]
    refine ⟨?_, ?_, ?_⟩
    · rw [List.getElem?_append_right (by simp)]; simpa using this.1
    · rw [List.getElem?_append_right (by simp)]; simpa using this.2.1
    · rw [List.getElem?_append_right (by simp)]; simpa using this.2.2
theorem pcl_snoc (l : List Pt) (p : Pt) : pcl (l ++ [p]) = pcl l ++ [.int .i64 p.x, .int .i64 p.ar, .int .i64 p.ft] := by simp [pcl]
theorem pcl_one (l : List Pt) : ∀ u ∈ pcl l, u.oneCell' = true := fun u hu => by
  unfold pcl at hu
  rw [List.mem_flatMap] at hu
  obtain ⟨a, _, hu⟩ := hu
  simp only [List.mem_cons, List.not_mem_nil, or_false] at hu
  rcases hu with rfl | rfl | rfl <;> rfl
def icl (l : List Nat) : List Value := l.map (fun n : Nat => Value.int .i64 n)
theorem icl_len (l : List Nat) : (icl l).length = l.length := by simp [icl]

/-- A transaction at block tb. σ: whose each block is. -/
structure XB (w : World) (σ : Nat → Option Nat) (tb : Nat) (t : Tx) : Prop where
  lab : σ tb = some tb
  blk : ∃ v, w.heap[tb]? = some (.cells #[.int .i64 t.x, .int .i64 t.st, v] 77 (0, 0)) ∧ w.ownsRow 0 93 3 v t.ps.length (pcl t.ps) ∧ ∀ g, v.ownBlock = some g → σ g = some tb
theorem XB.lt {w : World} {σ : Nat → Option Nat} {tb : Nat} {t : Tx} (h : XB w σ tb t) : tb < w.heap.size := by
  obtain ⟨v, h1, _⟩ := h.blk
  exact blk_lt h1
theorem XB.tch {S : Nat → Prop} {w w' : World} {σ σ' : Nat → Option Nat} {tb : Nat} {t : Tx} (h : XB w σ tb t) (tc : Tch S w w') (hS : ∀ i, i < w.heap.size → S i → σ i ≠ some tb) (hσ : ∀ i, i < w.heap.size → σ i = some tb → σ' i = some tb) : XB w' σ' tb t := by
  have hl := h.lt
  obtain ⟨v, h1, h2, h3⟩ := h.blk
  refine ⟨hσ tb hl h.lab, ⟨v, ?_, ?_, ?_⟩⟩
  · rw [tc.block tb hl (fun hs => hS tb hl hs h.lab)]; exact h1
  · refine own_tch h2 tc (fun g hg hs => ?_)
    obtain ⟨cur, hc⟩ := own_blk h2 hg
    exact hS g (blk_lt hc) hs (h3 g hg)
  · intro g hg
    obtain ⟨cur, hc⟩ := own_blk h2 hg
    exact hσ g (blk_lt hc) (h3 g hg)

/-- A manager at block b, its map's block, the blocks of its transactions. -/
structure MG (w : World) (b : Nat) (m : Mg) (σ : Nat → Option Nat) (mb : Nat) (bl : Nat → Nat) : Prop where
  wf : Wf m
  blk : ∃ ov, w.heap[b]? = some (.cells #[.map (some mb), .int .i64 m.nx, ov] 66 (0, 0)) ∧ w.ownsRow 0 3 1 ov m.on.length (icl m.on) ∧ ∀ g, ov.ownBlock = some g → σ g = some b
  lb : σ b = some b
  lm : σ mb = some b
  mp : ∃ n D, n ≤ m.nx ∧ w.ownsMap Try.prog 3 numElem mb n D ∧ ∀ k zd, D.atKey (.int .i64 k) zd = atE (lkB bl m.tx k) zd
  xs : ∀ t ∈ m.tx, XB w σ (bl t.x) t
  inj : ∀ t ∈ m.tx, ∀ u ∈ m.tx, bl t.x = bl u.x → t.x = u.x
  nb : ∀ t ∈ m.tx, bl t.x ≠ b
  lt : ∀ i, σ i ≠ none → i < w.heap.size
theorem MG.bl' {w : World} {b : Nat} {m : Mg} {σ : Nat → Option Nat} {mb : Nat} {bl : Nat → Nat} (h : MG w b m σ mb bl) : b < w.heap.size := by
  obtain ⟨ov, h1, _⟩ := h.blk
  exact blk_lt h1
theorem MG.ml {w : World} {b : Nat} {m : Mg} {σ : Nat → Option Nat} {mb : Nat} {bl : Nat → Nat} (h : MG w b m σ mb bl) : mb < w.heap.size := by
  obtain ⟨n, D, _, h1, _⟩ := h.mp
  exact h1.lt
theorem MG.mne {w : World} {b : Nat} {m : Mg} {σ : Nat → Option Nat} {mb : Nat} {bl : Nat → Nat} (h : MG w b m σ mb bl) : mb ≠ b := by
  intro e
  obtain ⟨ov, h1, _⟩ := h.blk
  obtain ⟨n, D, _, ⟨es, clock, hh, _⟩, _⟩ := h.mp
  rw [e, h1] at hh; cases hh
theorem MG.tch {S : Nat → Prop} {w w' : World} {b : Nat} {m : Mg} {σ : Nat → Option Nat} {mb : Nat} {bl : Nat → Nat} (h : MG w b m σ mb bl) (t : Tch S w w') (hS : ∀ i, i < w.heap.size → S i → σ i = none) : MG w' b m σ mb bl := by
  have hb := h.bl'
  have hm := h.ml
  obtain ⟨ov, h1, h2, h3⟩ := h.blk
  obtain ⟨n, D, hn, hD, hk⟩ := h.mp
  refine ⟨h.wf, ⟨ov, ?_, ?_, h3⟩, h.lb, h.lm, ⟨n, D, hn, ?_, hk⟩, ?_, h.inj, h.nb, fun i hi => Nat.lt_of_lt_of_le (h.lt i hi) t.size⟩
  · rw [t.block b hb (fun hs => by have := hS b hb hs; rw [h.lb] at this; cases this)]; exact h1
  · refine own_tch h2 t (fun g hg hs => ?_)
    obtain ⟨cur, hc⟩ := own_blk h2 hg
    have := hS g (blk_lt hc) hs
    rw [h3 g hg] at this; cases this
  · exact ownsMap_tch hD t (fun hs => by have := hS mb hm hs; rw [h.lm] at this; cases this)
  · intro p hp
    exact (h.xs p hp).tch t (fun i hi hs => by rw [hS i hi hs]; exact fun h => by cases h) (fun _ _ h => h)
theorem MG.no {w w' : World} {b : Nat} {m : Mg} {σ : Nat → Option Nat} {mb : Nat} {bl : Nat → Nat} (h : MG w b m σ mb bl) (t : Tch (fun _ => False) w w') : MG w' b m σ mb bl := h.tch t (fun _ _ h => h.elim)
theorem MG.c0 {w : World} {b : Nat} {m : Mg} {σ : Nat → Option Nat} {mb : Nat} {bl : Nat → Nat} (h : MG w b m σ mb bl) : w.cell? ⟨b, 0, none⟩ = some (.map (some mb)) := by
  obtain ⟨ov, h1, _⟩ := h.blk
  rw [blk_cell h1]; rfl
theorem MG.c1 {w : World} {b : Nat} {m : Mg} {σ : Nat → Option Nat} {mb : Nat} {bl : Nat → Nat} (h : MG w b m σ mb bl) : w.cell? ⟨b, 1, none⟩ = some (.int .i64 m.nx) := by
  obtain ⟨ov, h1, _⟩ := h.blk
  rw [blk_cell h1]; rfl
theorem MG.fz {w : World} {b : Nat} {m : Mg} {σ : Nat → Option Nat} {mb : Nat} {bl : Nat → Nat} (h : MG w b m σ mb bl) (i : Nat) : w.frozen? ⟨b, i, none⟩ = false := by
  obtain ⟨ov, h1, _⟩ := h.blk
  exact blk_frozen h1 i
theorem int_wf {k : Int} (h1 : -9223372036854775808 ≤ k) (h2 : k ≤ 9223372036854775807) : (Lit.int .i64 k).wf = true := by
  have e1 : IntKind.i64.min = -9223372036854775808 := by decide
  have e2 : IntKind.i64.max = 9223372036854775807 := by decide
  simp [Lit.wf, e1, e2]; omega
/-- The map's look-up. -/
theorem MG.look {w : World} {b : Nat} {m : Mg} {σ : Nat → Option Nat} {mb : Nat} {bl : Nat → Nat} (h : MG w b m σ mb bl) {k : Int} (h1 : -9223372036854775808 ≤ k) (h2 : k ≤ 9223372036854775807) :
    (Instr.lookup 64 (.map (some mb)) (.int .i64 k) false).run Try.prog w = .ok (numV (lkB bl m.tx k)) w := by
  obtain ⟨n, D, hn, hD, hk⟩ := h.mp
  obtain ⟨v, ps, hrun, hv⟩ := hD.lookup law_int Try.underlying64 (zero_num w) numElem_none (Maps.keyOf_int_mk Try.underlying3 (int_wf h1 h2))
  rw [hrun]
  rw [hk] at hv
  cases hg : lkB bl m.tx k with
  | none => rw [hg] at hv; rw [numElem_inv_none hv rfl]
  | some a => rw [hg] at hv; rw [numElem_inv hv rfl]
end Go.Proofs.Ytkokmgoplldcfaa
