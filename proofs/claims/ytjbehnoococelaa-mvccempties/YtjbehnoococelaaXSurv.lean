import Derived.Test.YtjbehnoococelaaProg
import Derived.WalkSpells
import Derived.WalkLawsBesides
import Derived.Deep.DeepMust
import Derived.Outline
import Derived.Deep.QuietTactic
import Derived.BigQuiet
import Derived.Lib.Strings
import Derived.Maps.RangeWalk
import Derived.Maps.AppendAt
import Derived.Lib.BufferMore
import Derived.Lib.QuietBelow
import Derived.Deep.AppendLies
/- What a call may turn: 'Tch S w w'': of the blocks of w none is turned but those in S.  -/
namespace Go.Proofs.Ytjbehnoococelaa
open Go.RowKit

structure Tch (S : Nat → Prop) (w w' : World) : Prop where
  os : w'.os = w.os
  tape : w'.tape = w.tape
  output : w'.output = w.output
  size : w.heap.size ≤ w'.heap.size
  block : ∀ k, k < w.heap.size → ¬ S k → w'.heap[k]? = w.heap[k]?

theorem Tch.refl (S : Nat → Prop) (w : World) : Tch S w w := ⟨rfl, rfl, rfl, Nat.le_refl _, fun _ _ _ => rfl⟩
theorem Tch.trans {S T : Nat → Prop} {a b c : World} (h : Tch S a b) (k : Tch T b c) (hT : ∀ i, i < a.heap.size → T i → S i) : Tch S a c :=
  ⟨k.os.trans h.os, k.tape.trans h.tape, k.output.trans h.output, Nat.le_trans h.size k.size,
    fun i hi hn => (k.block i (Nat.lt_of_lt_of_le hi h.size) (fun ht => hn (hT i hi ht))).trans (h.block i hi hn)⟩
theorem Tch.trans' {S : Nat → Prop} {a b c : World} (h : Tch S a b) (k : Tch S b c) : Tch S a c := h.trans k (fun _ _ h => h)
theorem Tch.mono {S T : Nat → Prop} {a b : World} (h : Tch S a b) (hT : ∀ i, i < a.heap.size → S i → T i) : Tch T a b :=
  ⟨h.os, h.tape, h.output, h.size, fun i hi hn => h.block i hi (fun hs => hn (hT i hi hs))⟩
theorem Tch.drew {S : Nat → Prop} {a b : World} (h : Tch S a b) : Tch S a b.drew := ⟨h.os, h.tape, h.output, h.size, h.block⟩
theorem Tch.drewL {S : Nat → Prop} {a b : World} (h : Tch S a b) : Tch S a.drew b := ⟨h.os, h.tape, h.output, h.size, h.block⟩
theorem Tch.of_drew {S : Nat → Prop} {a b : World} (h : Tch S a.drew b) : Tch S a b := ⟨h.os, h.tape, h.output, h.size, h.block⟩
theorem Tch.drewN {S : Nat → Prop} {a b : World} (h : Tch S a b) (n : Nat) : Tch S a (b.drewN n) := by
  have hb : Below b.heap.size b (b.drewN n) := below_drewN (Below.refl _ _) n
  exact ⟨hb.os.trans h.os, hb.tape.trans h.tape, hb.output.trans h.output, Nat.le_trans h.size hb.size, fun i hi hn => (hb.block i (Nat.lt_of_lt_of_le hi h.size)).trans (h.block i hi hn)⟩
theorem Tch.of_below {S : Nat → Prop} {B : Nat} {a b : World} (h : Below B a b) (hB : a.heap.size ≤ B) : Tch S a b := ⟨h.os, h.tape, h.output, h.size, fun i hi _ => h.block i (by omega)⟩
theorem Tch.below {S : Nat → Prop} {B : Nat} {a b : World} (h : Tch S a b) (hB : B ≤ a.heap.size) (hS : ∀ k, k < B → ¬ S k) : Below B a b :=
  ⟨h.os, h.tape, h.output, h.size, fun i hi => h.block i (by omega) (hS i hi)⟩
theorem Tch.setCell (S : Nat → Prop) (w : World) (p : Addr) (v : Value) (hp : S p.block) : Tch S w (w.setCell p v) :=
  ⟨rfl, rfl, rfl, by simp [World.setCell], fun k _ hn => Below.heap_setCell _ _ _ _ (fun e => hn (e ▸ hp))⟩
theorem Tch.alloc (S : Nat → Prop) (w : World) (o : Obj) : Tch S w (w.alloc o) :=
  ⟨rfl, rfl, rfl, by simp, fun k hk _ => Below.heap_alloc _ _ _ hk⟩
theorem Tch.allocR {S : Nat → Prop} {a b : World} (h : Tch S a b) (o : Obj) : Tch S a (b.alloc o) := h.trans' (Tch.alloc S b o)
theorem Tch.setCellR {S : Nat → Prop} {a b : World} (h : Tch S a b) (p : Addr) (v : Value) (hp : S p.block) : Tch S a (b.setCell p v) := h.trans' (Tch.setCell S b p v hp)
theorem Tch.cell {S : Nat → Prop} {w w' : World} (h : Tch S w w') {p : Addr} (hp : p.block < w.heap.size) (hn : ¬ S p.block) : w'.cell? p = w.cell? p := World.cell?_of_block (w := w) (h.block p.block hp hn)
theorem Tch.frozen {S : Nat → Prop} {w w' : World} (h : Tch S w w') {p : Addr} (hp : p.block < w.heap.size) (hn : ¬ S p.block) : w'.frozen? p = w.frozen? p := World.frozen?_of_block (w := w) (h.block p.block hp hn)

theorem empty_of_size {r : ByteArray} (h : r.size = 0) : r.toList.isEmpty = true := by
  have : r.toList = [] := by
    rw [Lib.toList_data]; exact List.eq_nil_of_length_eq_zero (by simpa using h)
  rw [this]; rfl
theorem nonempty_of_size {r : ByteArray} (h : 0 < r.size) : r.toList.isEmpty = false := by
  rw [Lib.toList_data]
  cases hl : r.data.toList with
  | nil => have : r.data.toList.length = r.size := by simp
           rw [hl] at this; simp at this; omega
  | cons a t => rfl
theorem cell_lt {w : World} {p : Addr} {v : Value} (h : w.cell? p = some v) : p.block < w.heap.size := by
  rcases Nat.lt_or_ge p.block w.heap.size with h1 | h1
  · exact h1
  · simp [World.cell?, Array.getElem?_eq_none h1] at h

end Go.Proofs.Ytjbehnoococelaa
/- Transactions, their parts, a manager: as plain mathematics. -/
namespace Go.Proofs.Ytjbehnoococelaa

structure Pt where
  x : Nat
  ar : Int
  ft : Nat
structure Tx where
  x : Nat
  st : Nat
  ps : List Pt
structure Mg where
  nx : Nat
  on : List Nat
  tx : List Tx

/-- Where a part of that number stands. -/
def idx : List Pt → Int → Option Nat
  | [], _ => none
  | p :: r, n => if (p.x : Int) = n then some 0 else (idx r n).map (· + 1)
/-- What stands under a number. -/
def fnd : List Tx → Int → Option (Tx × Int)
  | [], _ => none
  | t :: r, n => if (t.x : Int) = n then some (t, -1) else match idx t.ps n with
    | some i => some (t, (i : Int))
    | none => fnd r n
def upd (L : List Tx) (x : Nat) (f : Tx → Tx) : List Tx := L.map (fun t => if t.x = x then f t else t)

theorem idx_some {ps : List Pt} {n : Int} {i : Nat} (h : idx ps n = some i) : ∃ p, ps[i]? = some p ∧ (p.x : Int) = n := by
  induction ps generalizing i with
  | nil => cases h
  | cons p r ih =>
    unfold idx at h
    split at h
    · cases h; exact ⟨p, rfl, by assumption⟩
    · cases hi : idx r n with
      | none => rw [hi] at h; cases h
      | some k =>
        rw [hi] at h; cases h
        exact ih hi
theorem idx_none {ps : List Pt} {n : Int} (h : idx ps n = none) : ∀ p ∈ ps, (p.x : Int) ≠ n := by
  induction ps with
  | nil => intro p hp; cases hp
  | cons p r ih =>
    unfold idx at h
    split at h
    · cases h
    · rename_i hne
      cases hi : idx r n with
      | none =>
        intro q hq
        rcases List.mem_cons.1 hq with rfl | hq
        · exact hne
        · exact ih hi q hq
      | some k => rw [hi] at h; cases h
theorem idx_no {ps : List Pt} {n : Int} (h : ∀ p ∈ ps, (p.x : Int) ≠ n) : idx ps n = none := by
  induction ps with
  | nil => rfl
  | cons p r ih =>
    unfold idx
    rw [if_neg (h p (by simp)), ih (fun q hq => h q (by simp [hq]))]; rfl
theorem idx_snoc (ps : List Pt) (p : Pt) (n : Int) : idx (ps ++ [p]) n = match idx ps n with | some i => some i | none => if (p.x : Int) = n then some ps.length else none := by
  induction ps with
  | nil => simp [idx]
  | cons q r ih =>
    simp only [List.cons_append, idx, ih]
    split
    · rfl
    · cases idx r n with
      | none =>
        simp only [Option.map_none]
        split <;> simp
      | some k => simp
theorem idx_congr {ps qs : List Pt} (h : ps.map (·.x) = qs.map (·.x)) (n : Int) : idx ps n = idx qs n := by
  induction ps generalizing qs with
  | nil => cases qs with
    | nil => rfl
    | cons a l => cases h
  | cons p r ih => cases qs with
    | nil => cases h
    | cons q s =>
      simp only [List.map_cons, List.cons.injEq] at h
      simp only [idx, h.1, ih h.2]
theorem fnd_mem {L : List Tx} {n : Int} {t : Tx} {i : Int} (h : fnd L n = some (t, i)) : t ∈ L ∧ ((i = -1 ∧ (t.x : Int) = n) ∨ (∃ k p, i = (k : Nat) ∧ idx t.ps n = some k ∧ t.ps[k]? = some p ∧ (p.x : Int) = n ∧ (t.x : Int) ≠ n)) := by
  induction L with
  | nil => cases h
  | cons u r ih =>
    unfold fnd at h
    split at h
    · cases h; exact ⟨by simp, Or.inl ⟨rfl, by assumption⟩⟩
    · rename_i hne
      cases hi : idx u.ps n with
      | none => rw [hi] at h; have := ih h; exact ⟨by simp [this.1], this.2⟩
      | some k =>
        rw [hi] at h; cases h
        obtain ⟨p, h1, h2⟩ := idx_some hi
        exact ⟨by simp, Or.inr ⟨k, p, rfl, hi, h1, h2, hne⟩⟩
theorem fnd_none {L : List Tx} {n : Int} (h : fnd L n = none) : ∀ t ∈ L, (t.x : Int) ≠ n ∧ ∀ p ∈ t.ps, (p.x : Int) ≠ n := by
  induction L with
  | nil => intro t ht; cases ht
  | cons u r ih =>
    unfold fnd at h
    split at h
    · cases h
    · rename_i hne
      cases hi : idx u.ps n with
      | some k => rw [hi] at h; cases h
      | none =>
        rw [hi] at h
        intro t ht
        rcases List.mem_cons.1 ht with rfl | ht
        · exact ⟨hne, idx_none hi⟩
        · exact ih h t ht
theorem fnd_no {L : List Tx} {n : Int} (h : ∀ t ∈ L, (t.x : Int) ≠ n ∧ ∀ p ∈ t.ps, (p.x : Int) ≠ n) : fnd L n = none := by
  induction L with
  | nil => rfl
  | cons u r ih =>
    unfold fnd
    rw [if_neg (h u (by simp)).1, idx_no (h u (by simp)).2]
    exact ih (fun t ht => h t (by simp [ht]))
theorem fnd_snoc (L : List Tx) (t : Tx) (n : Int) : fnd (L ++ [t]) n = match fnd L n with | some a => some a | none => fnd [t] n := by
  induction L with
  | nil => rfl
  | cons u r ih =>
    simp only [List.cons_append]
    unfold fnd
    split
    · rfl
    · cases idx u.ps n with
      | some k => rfl
      | none => exact ih
/-- An update that leaves the numbers. -/
theorem fnd_upd (x : Nat) (f : Tx → Tx) (hf : ∀ t, (f t).x = t.x ∧ (f t).ps.map (·.x) = t.ps.map (·.x)) (n : Int) : ∀ L : List Tx, fnd (upd L x f) n = (fnd L n).map (fun p => (if p.1.x = x then f p.1 else p.1, p.2))
  | [] => rfl
  | t :: r => by
    have ih := fnd_upd x f hf n r
    simp only [upd, List.map_cons, fnd] at ih ⊢
    have e1 : (if t.x = x then f t else t).x = t.x := by split; exact (hf t).1; rfl
    have e2 : idx (if t.x = x then f t else t).ps n = idx t.ps n := by
      split
      · exact idx_congr (hf t).2 n
      · rfl
    rw [e1, e2]
    split
    · rfl
    · cases idx t.ps n with
      | some k => rfl
      | none => exact ih

/-- A manager as it may be. -/
structure Wf (m : Mg) : Prop where
  n1 : 1 ≤ m.nx
  n2 : m.nx ≤ 2147483648
  lo : ∀ t ∈ m.tx, 1 ≤ t.x ∧ t.x < m.nx
  pl : ∀ t ∈ m.tx, ∀ p ∈ t.ps, t.x < p.x ∧ p.x < m.nx
  st : ∀ t ∈ m.tx, 1 ≤ t.st ∧ t.st ≤ 4
  ln : ∀ t ∈ m.tx, t.ps.length ≤ 64
  ar : ∀ t ∈ m.tx, ∀ (i : Nat) p, t.ps[i]? = some p → -1 ≤ p.ar ∧ p.ar < i ∧ p.ft ≤ 2
  up : m.tx.Pairwise (fun t u => t.x < u.x)
  ap : m.tx.Pairwise (fun t u => ∀ p ∈ t.ps, p.x ≠ u.x ∧ ∀ q ∈ u.ps, p.x ≠ q.x)
  pu : ∀ t ∈ m.tx, t.ps.Pairwise (fun p q => p.x < q.x)
  on : m.on = (m.tx.filter (fun t => t.st < 3)).map (·.x)

/-- The fate of what stands under a number. -/
def fate (t : Tx) (i : Int) : Nat := if 0 ≤ i then match t.ps[i.toNat]? with | some p => p.ft | none => 0 else 0
/-- How what stands under a number stands. -/
def stE : Option (Tx × Int) → Nat
  | none => 0
  | some (t, i) => if fate t i = 2 then 4 else t.st
def Mg.state (m : Mg) (n : Int) : Nat := stE (fnd m.tx n)

/-- Does the part at a place stand within another one, or is it that? -/
def within (ps : List Pt) (o : Int) : Nat → Int → Bool
  | 0, a => a == o
  | k + 1, a => if a > o then within ps o k (match ps[a.toNat]? with | some p => p.ar | none => -1) else a == o
def endPs (ps : List Pt) (o : Int) (f : Nat) : List Pt := ps.mapIdx (fun j p => if within ps o ps.length j then { p with ft := max p.ft f } else p)
theorem endPs_x (ps : List Pt) (o : Int) (f : Nat) : (endPs ps o f).map (·.x) = ps.map (·.x) := by
  apply List.ext_getElem?
  intro k
  simp only [endPs, List.getElem?_map, List.getElem?_mapIdx]
  cases ps[k]? with
  | none => rfl
  | some p => simp only [Option.map_some]; split <;> rfl
theorem endPs_len (ps : List Pt) (o : Int) (f : Nat) : (endPs ps o f).length = ps.length := by simp [endPs]
end Go.Proofs.Ytjbehnoococelaa
/- A manager of package xact in the world. -/
namespace Go.Proofs.Ytjbehnoococelaa
set_option maxRecDepth 100000
open Go.RowKit Go
open Go.Maps (Keyed)

theorem blk_lt {w : World} {b : Nat} {o : Obj} (h : w.heap[b]? = some o) : b < w.heap.size := (Array.getElem?_eq_some_iff.1 h).1
theorem blk_cell {w : World} {b : Nat} {cs : Array Value} {t : TypeId} {fr : Nat × Nat} (h : w.heap[b]? = some (.cells cs t fr)) (i : Nat) : w.cell? ⟨b, i, none⟩ = cs[i]? := by
  simp [World.cell?, h]
theorem blk_frozen {w : World} {b : Nat} {cs : Array Value} {t : TypeId} (h : w.heap[b]? = some (.cells cs t (0, 0))) (i : Nat) : w.frozen? ⟨b, i, none⟩ = false := by
  simp [World.frozen?, h]
theorem blk_set {w : World} {b i : Nat} {cs : Array Value} {t : TypeId} {fr : Nat × Nat} (h : w.heap[b]? = some (.cells cs t fr)) (v : Value) : (w.setCell ⟨b, i, none⟩ v).heap[b]? = some (.cells (cs.setIfInBounds i v) t fr) := by
  have hl := blk_lt h
  simp only [World.setCell]
  rw [Array.getElem?_modify]
  simp [h]
theorem Tch.of_grown {S : Nat → Prop} {w w' : World} {row : Option Nat} (h : w.grownBy w' row) (hS : ∀ g, row = some g → S g) : Tch S w w' :=
  ⟨h.os, h.tape, h.output, h.size, fun k hk hn => h.block k hk (fun e => hn (hS k e.symm))⟩

/-- How a number reads. -/
def numElem (v : Value) : Option (DataW Unit × List MemPlace) :=
  match v with
  | .agg a => match a.toList with
    | [.pointer none, .int .i64 0] => some (.nil, [])
    | [.pointer (some a), .int .i64 i] => if a = ⟨a.block, 0, none⟩ then some (.agg [.lit (.int .i64 a.block), .lit (.int .i64 i)], []) else none
    | _ => none
  | _ => none
/-- A number. -/
def numV : Option (Nat × Int) → Value
  | none => .agg #[.pointer none, .int .i64 0]
  | some (tb, i) => .agg #[.pointer (some ⟨tb, 0, none⟩), .int .i64 i]
def encN (a : Nat × Int) : DataW Unit := .agg [.lit (.int .i64 a.1), .lit (.int .i64 a.2)]
theorem numElem_none : numElem (numV none) = some (.nil, []) := rfl
theorem numElem_some (tb : Nat) (i : Int) : numElem (numV (some (tb, i))) = some (encN (tb, i), []) := by simp [numElem, numV, encN]
theorem numElem_inv {v : Value} {z : DataW Unit × List MemPlace} {a : Nat × Int} (h : numElem v = some z) (hz : z.1 = encN a) : v = numV (some a) := by
  unfold numElem at h
  split at h
  · rename_i l
    split at h
    · cases h; simp [encN] at hz
    · rename_i p i hl
      split at h
      · rename_i ha
        cases h
        simp only [encN, DataW.agg.injEq, List.cons.injEq, DataW.lit.injEq, Lit.int.injEq, true_and, and_true] at hz
        have e1 : p.block = a.1 := by omega
        have e2 : l = #[.pointer (some p), .int .i64 i] := by rw [← Array.toArray_toList (xs := l), hl]
        obtain ⟨a1, a2⟩ := a
        simp only at e1 hz
        rw [e2, ha, e1, hz.2]; rfl
      · cases h
    · cases h
  · cases h
theorem numElem_inv_none {v : Value} {z : DataW Unit × List MemPlace} (h : numElem v = some z) (hz : z.1 = .nil) : v = numV none := by
  unfold numElem at h
  split at h
  · rename_i l
    split at h
    · rename_i hl
      rw [← Array.toArray_toList (xs := l), hl]; rfl
    · split at h
      · cases h; simp at hz
      · cases h
    · cases h
  · cases h

/-- What the map tells. -/
def lkB (bl : Nat → Nat) (L : List Tx) (n : Int) : Option (Nat × Int) := (fnd L n).map (fun p => (bl p.1.x, p.2))
def atE (o : Option (Nat × Int)) (zd : DataW Unit) : DataW Unit := match o with
  | some a => encN a
  | none => zd

theorem law_int : Keyed Try.prog 3 := Maps.int_keyed Try.underlying3
theorem zero_num (w : World) : (zeroValue 68).run Try.prog w = .ok (numV none) w := by kernel_rfl
theorem ownsMap_tch {H : Type} {P : Program} {k : TypeId} {R : Value → Option (DataW H × List MemPlace)} {S : Nat → Prop} {w w' : World} {b n : Nat} {D : DataW H} (h : w.ownsMap P k R b n D) (t : Tch S w w') (hb : ¬ S b) : w'.ownsMap P k R b n D := by
  have hl := h.lt
  obtain ⟨es, clock, hh, r⟩ := h
  exact ⟨es, clock, (t.block b hl hb).trans hh, r⟩
theorem own_tch {S : Nat → Prop} {w w' : World} {base : Nat} {t : TypeId} {sz n : Nat} {v : Value} {xs : List Value} (h : w.ownsRow base t sz v n xs) (tc : Tch S w w') (hS : ∀ g, v.ownBlock = some g → ¬ S g) : w'.ownsRow base t sz v n xs := by
  obtain ⟨h1, h2⟩ := h
  refine ⟨h1, ?_⟩
  rcases h2 with h2 | ⟨g, cap, cur, hv, hg, hh, r⟩
  · exact Or.inl h2
  · exact Or.inr ⟨g, cap, cur, hv, hg, by rw [tc.block g (blk_lt hh) (hS g (by rw [hv]; rfl))]; exact hh, r⟩
theorem own_blk {w : World} {base : Nat} {t : TypeId} {sz n : Nat} {v : Value} {xs : List Value} (h : w.ownsRow base t sz v n xs) {g : Nat} (hg : v.ownBlock = some g) : ∃ cur, w.heap[g]? = some (.cells cur t (0, 0)) := by
  rcases h.2 with ⟨rfl, _⟩ | ⟨g', cap, cur, rfl, _, hh, _⟩
  · cases hg
  · cases hg; exact ⟨cur, hh⟩

/-- The cells of a list of parts. -/
def pcl (ps : List Pt) : List Value := ps.flatMap (fun p => [.int .i64 p.x, .int .i64 p.ar, .int .i64 p.ft])
theorem pcl_len : ∀ l : List Pt, (pcl l).length = l.length * 3
  | [] => rfl
  | a :: l => by
    have := pcl_len l
    unfold pcl at this ⊢
    simp only [List.flatMap_cons, List.length_append, List.length_cons, List.length_nil, this]; omega
theorem pcl_get : ∀ (l : List Pt) (k : Nat) (p : Pt), l[k]? = some p → (pcl l)[k * 3]? = some (.int .i64 p.x) ∧ (pcl l)[k * 3 + 1]? = some (.int .i64 p.ar) ∧ (pcl l)[k * 3 + 2]? = some (.int .i64 p.ft)
  | [], k, p, hk => by simp at hk
  | a :: l, 0, p, hk => by
    simp only [List.getElem?_cons_zero, Option.some.injEq] at hk
    subst hk
    simp [pcl]
  | a :: l, k + 1, p, hk => by
    have := pcl_get l k p (by simpa using hk)
    unfold pcl at this ⊢
    have e1 : (k + 1) * 3 = k * 3 + 3 := by omega
    simp only [List.flatMap_cons]
    rw [e1]
    refine ⟨?_, ?_, ?_⟩
    · rw [List.getElem?_append_right (by simp)]; simpa using this.1
    · rw [List.getElem?_append_right (by simp)]; simpa using this.2.1
    · rw [List.getElem?_append_right (by simp)]; simpa using this.2.2
theorem pcl_snoc (l : List Pt) (p : Pt) : pcl (l ++ [p]) = pcl l ++ [.int .i64 p.x, .int .i64 p.ar, .int .i64 p.ft] := by simp [pcl]
theorem pcl_one (l : List Pt) : ∀ u ∈ pcl l, u.oneCell' = true := fun u hu => by
  unfold pcl at hu
  rw [List.mem_flatMap] at hu
  obtain ⟨a, _, hu⟩ := hu
  simp only [List.mem_cons, List.not_mem_nil, or_false] at hu
  rcases hu with rfl | rfl | rfl <;> rfl
def icl (l : List Nat) : List Value := l.map (fun n : Nat => Value.int .i64 n)
theorem icl_len (l : List Nat) : (icl l).length = l.length := by simp [icl]

/-- A transaction at block tb. σ: whose each block is. -/
structure XB (w : World) (σ : Nat → Option Nat) (tb : Nat) (t : Tx) : Prop where
  lab : σ tb = some tb
  blk : ∃ v, w.heap[tb]? = some (.cells #[.int .i64 t.x, .int .i64 t.st, v] 73 (0, 0)) ∧ w.ownsRow 0 103 3 v t.ps.length (pcl t.ps) ∧ ∀ g, v.ownBlock = some g → σ g = some tb
theorem XB.lt {w : World} {σ : Nat → Option Nat} {tb : Nat} {t : Tx} (h : XB w σ tb t) : tb < w.heap.size := by
  obtain ⟨v, h1, _⟩ := h.blk
  exact blk_lt h1
theorem XB.tch {S : Nat → Prop} {w w' : World} {σ σ' : Nat → Option Nat} {tb : Nat} {t : Tx} (h : XB w σ tb t) (tc : Tch S w w') (hS : ∀ i, i < w.heap.size → S i → σ i ≠ some tb) (hσ : ∀ i, i < w.heap.size → σ i = some tb → σ' i = some tb) : XB w' σ' tb t := by
  have hl := h.lt
  obtain ⟨v, h1, h2, h3⟩ := h.blk
  refine ⟨hσ tb hl h.lab, ⟨v, ?_, ?_, ?_⟩⟩
  · rw [tc.block tb hl (fun hs => hS tb hl hs h.lab)]; exact h1
  · refine own_tch h2 tc (fun g hg hs => ?_)
    obtain ⟨cur, hc⟩ := own_blk h2 hg
    exact hS g (blk_lt hc) hs (h3 g hg)
  · intro g hg
    obtain ⟨cur, hc⟩ := own_blk h2 hg
    exact hσ g (blk_lt hc) (h3 g hg)

/-- A manager at block b, its map's block, the blocks of its transactions. -/
structure MG (w : World) (b : Nat) (m : Mg) (σ : Nat → Option Nat) (mb : Nat) (bl : Nat → Nat) : Prop where
  wf : Wf m
  blk : ∃ ov, w.heap[b]? = some (.cells #[.map (some mb), .int .i64 m.nx, ov] 64 (0, 0)) ∧ w.ownsRow 0 3 1 ov m.on.length (icl m.on) ∧ ∀ g, ov.ownBlock = some g → σ g = some b
  lb : σ b = some b
  lm : σ mb = some b
  mp : ∃ n D, n ≤ m.nx ∧ w.ownsMap Try.prog 3 numElem mb n D ∧ ∀ k zd, D.atKey (.int .i64 k) zd = atE (lkB bl m.tx k) zd
  xs : ∀ t ∈ m.tx, XB w σ (bl t.x) t
  inj : ∀ t ∈ m.tx, ∀ u ∈ m.tx, bl t.x = bl u.x → t.x = u.x
  nb : ∀ t ∈ m.tx, bl t.x ≠ b
  lt : ∀ i, σ i ≠ none → i < w.heap.size
theorem MG.bl' {w : World} {b : Nat} {m : Mg} {σ : Nat → Option Nat} {mb : Nat} {bl : Nat → Nat} (h : MG w b m σ mb bl) : b < w.heap.size := by
  obtain ⟨ov, h1, _⟩ := h.blk
  exact blk_lt h1
theorem MG.ml {w : World} {b : Nat} {m : Mg} {σ : Nat → Option Nat} {mb : Nat} {bl : Nat → Nat} (h : MG w b m σ mb bl) : mb < w.heap.size := by
  obtain ⟨n, D, _, h1, _⟩ := h.mp
  exact h1.lt
theorem MG.mne {w : World} {b : Nat} {m : Mg} {σ : Nat → Option Nat} {mb : Nat} {bl : Nat → Nat} (h : MG w b m σ mb bl) : mb ≠ b := by
  intro e
  obtain ⟨ov, h1, _⟩ := h.blk
  obtain ⟨n, D, _, ⟨es, clock, hh, _⟩, _⟩ := h.mp
  rw [e, h1] at hh; cases hh
theorem MG.tch {S : Nat → Prop} {w w' : World} {b : Nat} {m : Mg} {σ : Nat → Option Nat} {mb : Nat} {bl : Nat → Nat} (h : MG w b m σ mb bl) (t : Tch S w w') (hS : ∀ i, i < w.heap.size → S i → σ i = none) : MG w' b m σ mb bl := by
  have hb := h.bl'
  have hm := h.ml
  obtain ⟨ov, h1, h2, h3⟩ := h.blk
  obtain ⟨n, D, hn, hD, hk⟩ := h.mp
  refine ⟨h.wf, ⟨ov, ?_, ?_, h3⟩, h.lb, h.lm, ⟨n, D, hn, ?_, hk⟩, ?_, h.inj, h.nb, fun i hi => Nat.lt_of_lt_of_le (h.lt i hi) t.size⟩
  · rw [t.block b hb (fun hs => by have := hS b hb hs; rw [h.lb] at this; cases this)]; exact h1
  · refine own_tch h2 t (fun g hg hs => ?_)
    obtain ⟨cur, hc⟩ := own_blk h2 hg
    have := hS g (blk_lt hc) hs
    rw [h3 g hg] at this; cases this
  · exact ownsMap_tch hD t (fun hs => by have := hS mb hm hs; rw [h.lm] at this; cases this)
  · intro p hp
    exact (h.xs p hp).tch t (fun i hi hs => by rw [hS i hi hs]; exact fun h => by cases h) (fun _ _ h => h)
theorem MG.no {w w' : World} {b : Nat} {m : Mg} {σ : Nat → Option Nat} {mb : Nat} {bl : Nat → Nat} (h : MG w b m σ mb bl) (t : Tch (fun _ => False) w w') : MG w' b m σ mb bl := h.tch t (fun _ _ h => h.elim)
theorem MG.c0 {w : World} {b : Nat} {m : Mg} {σ : Nat → Option Nat} {mb : Nat} {bl : Nat → Nat} (h : MG w b m σ mb bl) : w.cell? ⟨b, 0, none⟩ = some (.map (some mb)) := by
  obtain ⟨ov, h1, _⟩ := h.blk
  rw [blk_cell h1]; rfl
theorem MG.c1 {w : World} {b : Nat} {m : Mg} {σ : Nat → Option Nat} {mb : Nat} {bl : Nat → Nat} (h : MG w b m σ mb bl) : w.cell? ⟨b, 1, none⟩ = some (.int .i64 m.nx) := by
  obtain ⟨ov, h1, _⟩ := h.blk
  rw [blk_cell h1]; rfl
theorem MG.fz {w : World} {b : Nat} {m : Mg} {σ : Nat → Option Nat} {mb : Nat} {bl : Nat → Nat} (h : MG w b m σ mb bl) (i : Nat) : w.frozen? ⟨b, i, none⟩ = false := by
  obtain ⟨ov, h1, _⟩ := h.blk
  exact blk_frozen h1 i
theorem int_wf {k : Int} (h1 : -9223372036854775808 ≤ k) (h2 : k ≤ 9223372036854775807) : (Lit.int .i64 k).wf = true := by
  have e1 : IntKind.i64.min = -9223372036854775808 := by decide
  have e2 : IntKind.i64.max = 9223372036854775807 := by decide
  simp [Lit.wf, e1, e2]; omega
/-- The map's look-up. -/
theorem MG.look {w : World} {b : Nat} {m : Mg} {σ : Nat → Option Nat} {mb : Nat} {bl : Nat → Nat} (h : MG w b m σ mb bl) {k : Int} (h1 : -9223372036854775808 ≤ k) (h2 : k ≤ 9223372036854775807) :
    (Instr.lookup 62 (.map (some mb)) (.int .i64 k) false).run Try.prog w = .ok (numV (lkB bl m.tx k)) w := by
  obtain ⟨n, D, hn, hD, hk⟩ := h.mp
  obtain ⟨v, ps, hrun, hv⟩ := hD.lookup law_int Try.underlying62 (zero_num w) numElem_none (Maps.keyOf_int_mk Try.underlying3 (int_wf h1 h2))
  rw [hrun]
  rw [hk] at hv
  cases hg : lkB bl m.tx k with
  | none => rw [hg] at hv; rw [numElem_inv_none hv rfl]
  | some a => rw [hg] at hv; rw [numElem_inv hv rfl]
end Go.Proofs.Ytjbehnoococelaa
/- What stands under a number: find, known, isPart, fate, mayGoOn, state, over, transaction. -/
namespace Go.Proofs.Ytjbehnoococelaa
open Go.RowKit Go Go.Sort

theorem alloc_new (w : World) (o : Obj) : (w.alloc o).heap[w.heap.size]? = some o := by show (w.heap.push o)[w.heap.size]? = _; simp

theorem Calls.tch_regrown_of {P : Program} {f : FuncId} {args : Array Value} {w : World} {d : Nat} {os : Array Obj} {v : Value}
    (h : Calls P f args (grow (redrawn w d) os) fun e w' => e = .returned v ∧ Tch (fun _ => False) (grow (redrawn w d) os) w') : Calls P f args (grow (redrawn w d) os) fun e w'' => e = .returned v ∧ ∃ p : Regrown, w'' = grow (redrawn w p.d) p.os :=
  Calls.regrown_of (h.mono fun _ _ ⟨he, t⟩ => ⟨he, t.below (Nat.le_refl _) (fun _ _ h => h)⟩)
theorem tch_regrown (w : World) (p : Regrown) : Tch (fun _ => False) w (grow (redrawn w p.d) p.os) := Tch.of_below (below_regrown w p.d p.os) (Nat.le_refl _)

theorem known_any (o : Option (Nat × Int)) (w : World) : Calls Try.prog 28 #[numV o] w fun x w' => x = .returned (.bool o.isSome) ∧ Tch (fun _ => False) w w' := by
  cases o with
  | none =>
    simp only [numV, Option.isSome_none]
    go_enter Try.func28, Try.ntmps28
    go_wp2
    go_ret
    exact ⟨rfl, Tch.alloc _ _ _⟩
  | some a =>
    obtain ⟨tb, i⟩ := a
    simp only [numV, Option.isSome_some]
    go_enter Try.func28, Try.ntmps28
    go_wp2
    go_ret
    exact ⟨rfl, Tch.alloc _ _ _⟩

def isP : Option (Nat × Int) → Bool
  | none => false
  | some a => decide (0 ≤ a.2)
theorem isPart_any (o : Option (Nat × Int)) (w : World) : Calls Try.prog 50 #[numV o] w fun x w' => x = .returned (.bool (isP o)) ∧ Tch (fun _ => False) w w' := by
  have q := fun W => known_any o W
  cases o with
  | none =>
    simp only [numV, Option.isSome_none] at q ⊢
    go_enter Try.func50, Try.ntmps50
    go_wp2_with fail
    refine (q _).mono ?_
    rintro x w1 ⟨rfl, t1⟩
    clear q
    have T : Hid (Tch (fun _ => False) w w1) := (Tch.alloc _ _ _).trans' t1
    clear t1
    go_wp2
    go_ret
    exact ⟨rfl, T.out⟩
  | some a =>
    obtain ⟨tb, i⟩ := a
    simp only [numV, Option.isSome_some, isP] at q ⊢
    obtain ⟨w0, hw0⟩ : ∃ w0, w0 = w.alloc (.cells #[.pointer (some ⟨tb, 0, none⟩), .int .i64 i] 68) := ⟨_, rfl⟩
    have hb : w0.heap[w.heap.size]? = some (.cells #[.pointer (some ⟨tb, 0, none⟩), .int .i64 i] 68 (0, 0)) := by rw [hw0]; exact alloc_new _ _
    go_enter Try.func50, Try.ntmps50
    go_wp2_with fail
    rw [← hw0]
    refine (q _).mono ?_
    rintro x w1 ⟨rfl, t1⟩
    clear q
    have T : Hid (Tch (fun _ => False) w w1) := by rw [hw0] at t1; exact (Tch.alloc _ _ _).trans' t1
    have c1 : w1.cell? ⟨w.heap.size, 1, none⟩ = some (.int .i64 i) := by rw [t1.cell (p := ⟨w.heap.size, 1, none⟩) (blk_lt hb) (fun h => h), blk_cell hb]; rfl
    clear t1 hb hw0
    go_wp2
    go_ret
    exact ⟨rfl, T.out⟩

theorem XB.c {w : World} {σ : Nat → Option Nat} {tb : Nat} {t : Tx} (h : XB w σ tb t) : ∃ v, w.cell? ⟨tb, 0, none⟩ = some (.int .i64 t.x) ∧ w.cell? ⟨tb, 1, none⟩ = some (.int .i64 t.st) ∧ w.cell? ⟨tb, 2, none⟩ = some v ∧ w.ownsRow 0 103 3 v t.ps.length (pcl t.ps) := by
  obtain ⟨v, h1, h2, _⟩ := h.blk
  exact ⟨v, by rw [blk_cell h1]; rfl, by rw [blk_cell h1]; rfl, by rw [blk_cell h1]; rfl, h2⟩
/-- A part's cells. -/
theorem XB.part {w : World} {σ : Nat → Option Nat} {tb : Nat} {t : Tx} (h : XB w σ tb t) {k : Nat} {p : Pt} (hk : t.ps[k]? = some p) : ∃ g cap, w.cell? ⟨tb, 2, none⟩ = some (.slice (some ⟨g, 0, none⟩) t.ps.length cap) ∧ w.cell? ⟨g, k * 3, none⟩ = some (.int .i64 p.x) ∧ w.cell? ⟨g, k * 3 + 1, none⟩ = some (.int .i64 p.ar) ∧ w.cell? ⟨g, k * 3 + 2, none⟩ = some (.int .i64 p.ft) := by
  obtain ⟨v, _, _, c2, hv⟩ := h.c
  have hlt := (List.getElem?_eq_some_iff.1 hk).1
  rcases hv.2 with ⟨rfl, h0⟩ | ⟨g, cap, cur, rfl, _, hg, _, _, hs, ht⟩
  · omega
  · have hc : ∀ j u, (pcl t.ps)[j]? = some u → w.cell? ⟨g, j, none⟩ = some u := fun j u hu => by
      rw [blk_cell hg, ← Array.getElem?_toList]
      rw [← ht, List.getElem?_take] at hu
      split at hu
      · exact hu
      · cases hu
    obtain ⟨q0, q1, q2⟩ := pcl_get t.ps k p hk
    exact ⟨g, cap, c2, hc _ _ q0, hc _ _ q1, hc _ _ q2⟩

theorem fate_any (σ : Nat → Option Nat) (tb : Nat) (t : Tx) (i : Int) (w : World) (h : XB w σ tb t) (hi : i = -1 ∨ ∃ k : Nat, i = k ∧ k < t.ps.length) (_h64 : t.ps.length ≤ 64) :
    Calls Try.prog 43 #[numV (some (tb, i))] w fun x w' => x = .returned (.int .i64 (fate t i)) ∧ Tch (fun _ => False) w w' := by
  obtain ⟨w0, hw0⟩ : ∃ w0, w0 = w.alloc (.cells #[.pointer (some ⟨tb, 0, none⟩), .int .i64 i] 68) := ⟨_, rfl⟩
  have hb : w0.heap[w.heap.size]? = some (.cells #[.pointer (some ⟨tb, 0, none⟩), .int .i64 i] 68 (0, 0)) := by rw [hw0]; exact alloc_new _ _
  have q := isPart_any (some (tb, i)) w0
  have t0 : Tch (fun _ => False) w w0 := by rw [hw0]; exact Tch.alloc _ _ _
  simp only [numV, isP] at q ⊢
  rcases hi with rfl | ⟨k, rfl, hk⟩
  · have HF : Hid (fate t (-1) = 0) := rfl
    have e : decide (0 ≤ (-1 : Int)) = false := rfl
    rw [e] at q
    go_enter Try.func43, Try.ntmps43
    go_wp2_with fail
    rw [← hw0]
    refine q.mono ?_
    rintro x w1 ⟨rfl, t1⟩
    clear q hw0 hb
    have T : Hid (Tch (fun _ => False) w w1) := t0.trans' t1
    clear t1 t0
    go_wp2
    go_ret
    exact ⟨by rw [HF.out]; rfl, T.out⟩
  · have e : decide (0 ≤ (k : Int)) = true := by simp
    obtain ⟨p, hp⟩ : ∃ p, t.ps[k]? = some p := ⟨_, List.getElem?_eq_getElem hk⟩
    have HF : Hid (fate t k = p.ft) := by show _ = _; simp [fate, hp]
    rw [e] at q
    go_enter Try.func43, Try.ntmps43
    go_wp2_with fail
    rw [← hw0]
    refine q.mono ?_
    rintro x w1 ⟨rfl, t1⟩
    have T := t0.trans' t1
    have c0 : w1.cell? ⟨w.heap.size, 0, none⟩ = some (.pointer (some ⟨tb, 0, none⟩)) := by rw [t1.cell (p := ⟨w.heap.size, 0, none⟩) (blk_lt hb) (fun h => h), blk_cell hb]; rfl
    have c1 : w1.cell? ⟨w.heap.size, 1, none⟩ = some (.int .i64 k) := by rw [t1.cell (p := ⟨w.heap.size, 1, none⟩) (blk_lt hb) (fun h => h), blk_cell hb]; rfl
    obtain ⟨g, cap, d2, _, _, d5⟩ := (h.tch T (fun _ _ h => h.elim) (fun _ _ h => h)).part hp
    have HT : Hid (Tch (fun _ => False) w w1) := T
    obtain ⟨n, hn⟩ : ∃ n, n = t.ps.length := ⟨_, rfl⟩
    rw [← hn] at d2 hk
    have hkI : (k : Int) < n := by omega
    clear q hw0 hb t1 t0 T h hp hn
    go_wp2_with fail
    go_region
    go_wp2
    go_ret
    exact ⟨by rw [HF.out]; rfl, HT.out.drew⟩
end Go.Proofs.Ytjbehnoococelaa
/- What stands under a number: mayGoOn, state, over, find, transaction. -/
namespace Go.Proofs.Ytjbehnoococelaa
open Go.RowKit Go Go.Sort

def may (t : Tx) (i : Int) : Bool := decide (t.st = 1) && decide (fate t i = 0)
theorem fate_le {t : Tx} (h : ∀ (i : Nat) p, t.ps[i]? = some p → p.ft ≤ 2) (i : Int) : fate t i ≤ 2 := by
  unfold fate
  split
  · split
    · exact h _ _ (by assumption)
    · omega
  · omega

theorem mayGoOn_any (σ : Nat → Option Nat) (tb : Nat) (t : Tx) (i : Int) (w : World) (h : XB w σ tb t) (hi : i = -1 ∨ ∃ k : Nat, i = k ∧ k < t.ps.length) (h64 : t.ps.length ≤ 64) (hst : t.st ≤ 4) :
    Calls Try.prog 29 #[numV (some (tb, i))] w fun x w' => x = .returned (.bool (may t i)) ∧ Tch (fun _ => False) w w' := by
  obtain ⟨w0, hw0⟩ : ∃ w0, w0 = w.alloc (.cells #[.pointer (some ⟨tb, 0, none⟩), .int .i64 i] 68) := ⟨_, rfl⟩
  have hb : w0.heap[w.heap.size]? = some (.cells #[.pointer (some ⟨tb, 0, none⟩), .int .i64 i] 68 (0, 0)) := by rw [hw0]; exact alloc_new _ _
  have t0 : Tch (fun _ => False) w w0 := by rw [hw0]; exact Tch.alloc _ _ _
  have h0 := h.tch t0 (fun _ _ h => h.elim) (fun _ _ h => h)
  have q := fate_any σ tb t i w0 h0 hi h64
  obtain ⟨v, _, c1, _, _⟩ := h0.c
  have b0 : w0.cell? ⟨w.heap.size, 0, none⟩ = some (.pointer (some ⟨tb, 0, none⟩)) := by rw [blk_cell hb]; rfl
  have b1 : w0.cell? ⟨w.heap.size, 1, none⟩ = some (.int .i64 i) := by rw [blk_cell hb]; rfl
  obtain ⟨f, hf⟩ : ∃ f, f = fate t i := ⟨_, rfl⟩
  obtain ⟨s, hs⟩ : ∃ s, s = t.st := ⟨_, rfl⟩
  have HM : Hid (may t i = (decide (s = 1) && decide (f = 0))) := by show _ = _; rw [hs, hf]; rfl
  have HT : Hid (Tch (fun _ => False) w w0) := t0
  rw [← hf] at q
  rw [← hs] at c1 hst
  simp only [numV] at q ⊢
  clear hf hs t0 h h0 hi h64 hb
  by_cases h1 : s = 1
  · subst h1
    have c1' : w0.cell? ⟨tb, 1, none⟩ = some (.int .i64 1) := c1
    clear c1
    rw [hw0] at c1' b0 b1
    go_enter Try.func29, Try.ntmps29
    go_wp2_with fail
    rw [← hw0]
    refine q.mono ?_
    rintro x w1 ⟨rfl, t1⟩
    clear q
    have T : Hid (Tch (fun _ => False) w w1) := HT.out.trans' t1
    clear t1 c1' b0 b1 hw0
    by_cases hf0 : f = 0
    · subst hf0
      go_wp2
      go_ret
      exact ⟨by rw [HM.out]; rfl, T.out⟩
    · have hf1 : ((f : Int) == 0) = false := by simp; omega
      have hfI : ¬ (f : Int) = 0 := by omega
      go_wp2
      go_ret
      exact ⟨by rw [HM.out]; simp [hf0], T.out⟩
  · have hs1 : ((s : Int) == 1) = false := by simp; omega
    have hsI : ¬ (s : Int) = 1 := by omega
    rw [hw0] at c1 b0 b1
    go_enter Try.func29, Try.ntmps29
    go_wp2
    go_ret
    refine ⟨by rw [HM.out]; simp [h1], ?_⟩
    exact Tch.alloc _ _ _

theorem state_some (σ : Nat → Option Nat) (tb : Nat) (t : Tx) (i : Int) (w : World) (h : XB w σ tb t) (hi : i = -1 ∨ ∃ k : Nat, i = k ∧ k < t.ps.length) (h64 : t.ps.length ≤ 64) :
    Calls Try.prog 56 #[numV (some (tb, i))] w fun x w' => x = .returned (.int .i64 (stE (some (t, i)))) ∧ Tch (fun _ => False) w w' := by
  obtain ⟨w0, hw0⟩ : ∃ w0, w0 = w.alloc (.cells #[.pointer (some ⟨tb, 0, none⟩), .int .i64 i] 68) := ⟨_, rfl⟩
  have hb : w0.heap[w.heap.size]? = some (.cells #[.pointer (some ⟨tb, 0, none⟩), .int .i64 i] 68 (0, 0)) := by rw [hw0]; exact alloc_new _ _
  have t0 : Tch (fun _ => False) w w0 := by rw [hw0]; exact Tch.alloc _ _ _
  have q0 := known_any (some (tb, i)) w0
  have q := fun W (hW : Tch (fun _ => False) w W) => fate_any σ tb t i W (h.tch hW (fun _ _ h => h.elim) (fun _ _ h => h)) hi h64
  obtain ⟨f, hf⟩ : ∃ f, f = fate t i := ⟨_, rfl⟩
  obtain ⟨s, hs⟩ : ∃ s, s = t.st := ⟨_, rfl⟩
  have HM : Hid (stE (some (t, i)) = if f = 2 then 4 else s) := by show _ = _; rw [hs, hf]; rfl
  rw [← hf] at q
  simp only [numV, Option.isSome_some] at q q0 ⊢
  clear hf
  go_enter Try.func56, Try.ntmps56
  go_wp2_with fail
  rw [← hw0]
  clear hw0
  refine q0.mono ?_
  rintro x w1 ⟨rfl, t1⟩
  clear q0
  have b0 : w1.cell? ⟨w.heap.size, 0, none⟩ = some (.pointer (some ⟨tb, 0, none⟩)) := by rw [t1.cell (p := ⟨w.heap.size, 0, none⟩) (blk_lt hb) (fun h => h), blk_cell hb]; rfl
  have b1 : w1.cell? ⟨w.heap.size, 1, none⟩ = some (.int .i64 i) := by rw [t1.cell (p := ⟨w.heap.size, 1, none⟩) (blk_lt hb) (fun h => h), blk_cell hb]; rfl
  have T : Tch (fun _ => False) w w1 := t0.trans' t1
  have Q := q w1 T
  have HT : Hid (Tch (fun _ => False) w w1) := T
  have Hh : Hid (XB w σ tb t) := h
  have Hs : Hid (s = t.st) := hs
  clear q T t0 t1 hi h64 hb h hs
  go_wp2_with fail
  refine Q.mono ?_
  rintro x w2 ⟨rfl, t2⟩
  clear Q
  have T := HT.out.trans' t2
  obtain ⟨v, _, c1, _, _⟩ := (Hh.out.tch T (fun _ _ h => h.elim) (fun _ _ h => h)).c
  rw [← Hs.out] at c1
  have b0' : w2.cell? ⟨w.heap.size, 0, none⟩ = some (.pointer (some ⟨tb, 0, none⟩)) := by rw [t2.cell (p := ⟨w.heap.size, 0, none⟩) (cell_lt b0) (fun h => h)]; exact b0
  have HT2 : Hid (Tch (fun _ => False) w w2) := T
  clear T t2 b0 b1 HT
  by_cases hf0 : f = 2
  · subst hf0
    go_wp2
    go_ret
    exact ⟨by rw [HM.out]; rfl, HT2.out⟩
  · have hf1 : ((f : Int) == 2) = false := by simp; omega
    have hfI : ¬ (f : Int) = 2 := by omega
    go_wp2
    go_ret
    exact ⟨by rw [HM.out, if_neg hf0]; rfl, HT2.out⟩
theorem state_none (w : World) : Calls Try.prog 56 #[numV none] w fun x w' => x = .returned (.int .i64 0) ∧ Tch (fun _ => False) w w' := by
  have q0 := fun W => known_any none W
  simp only [numV, Option.isSome_none] at q0 ⊢
  go_enter Try.func56, Try.ntmps56
  go_wp2_with fail
  refine (q0 _).mono ?_
  rintro x w1 ⟨rfl, t1⟩
  clear q0
  have T : Hid (Tch (fun _ => False) w w1) := (Tch.alloc _ _ _).trans' t1
  clear t1
  go_wp2
  go_ret
  exact ⟨rfl, T.out⟩

theorem over_any (σ : Nat → Option Nat) (tb : Nat) (t : Tx) (w : World) (h : XB w σ tb t) : Calls Try.prog 62 #[.pointer (some ⟨tb, 0, none⟩)] w fun x w' => x = .returned (.bool (decide (3 ≤ t.st))) ∧ w' = w := by
  obtain ⟨v, _, c1, _, _⟩ := h.c
  go_enter Try.func62, Try.ntmps62
  go_wp2
  go_ret
  refine ⟨?_, rfl⟩
  have e : decide ((3 : Int) ≤ (t.st : Int)) = decide (3 ≤ t.st) := decide_eq_decide.2 (by omega)
  rw [← e]; rfl

set_option maxRecDepth 100000 in
theorem find_any (b : Nat) (m : Mg) (σ : Nat → Option Nat) (mb : Nat) (bl : Nat → Nat) (k : Int) (w : World) (h : MG w b m σ mb bl) (h1 : -9223372036854775808 ≤ k) (h2 : k ≤ 9223372036854775807) :
    Calls Try.prog 27 #[.map (some mb), .int .i64 k] w fun x w' => x = .returned (numV (lkB bl m.tx k)) ∧ Tch (fun _ => False) w w' := by
  obtain ⟨w0, hw0⟩ : ∃ w0, w0 = w.alloc (.cells #[.pointer none, .int .i64 0] 68) := ⟨_, rfl⟩
  have t0 : Tch (fun _ => False) w w0 := by rw [hw0]; exact Tch.alloc _ _ _
  have hl := (h.no t0).look h1 h2
  obtain ⟨p, i, hpi⟩ : ∃ p i, numV (lkB bl m.tx k) = .agg #[.pointer p, .int .i64 i] := by
    cases lkB bl m.tx k with
    | none => exact ⟨_, _, rfl⟩
    | some a => exact ⟨_, _, rfl⟩
  rw [hpi] at hl ⊢
  clear t0 hpi h
  rw [hw0] at hl
  have hrs : Try.f27.results = #[.cell 4 68] := by kernel_rfl
  go_enter Try.func27, Try.ntmps27
  go_wp2_with fail
  refine bodyPost_ret (v := .agg #[.pointer p, .int .i64 i]) (by simp only [results, hrs]; go_simp) rfl ⟨rfl, Tch.alloc _ _ _⟩
end Go.Proofs.Ytjbehnoococelaa
/- A manager's calls that only read: transaction, noneLeft, Next, State, Top. -/
namespace Go.Proofs.Ytjbehnoococelaa
open Go.RowKit Go Go.Sort

theorem MG.at {w : World} {b : Nat} {m : Mg} {σ : Nat → Option Nat} {mb : Nat} {bl : Nat → Nat} (h : MG w b m σ mb bl) {k : Int} {t : Tx} {i : Int} (hf : fnd m.tx k = some (t, i)) :
    XB w σ (bl t.x) t ∧ (i = -1 ∨ ∃ k : Nat, i = k ∧ k < t.ps.length) ∧ t.ps.length ≤ 64 ∧ (1 ≤ t.st ∧ t.st ≤ 4) ∧ lkB bl m.tx k = some (bl t.x, i) ∧ t ∈ m.tx := by
  obtain ⟨hm, hi⟩ := fnd_mem hf
  refine ⟨h.xs t hm, ?_, h.wf.ln t hm, h.wf.st t hm, by simp [lkB, hf], hm⟩
  rcases hi with ⟨h1, _⟩ | ⟨k', p, h1, _, h2, _⟩
  · exact Or.inl h1
  · exact Or.inr ⟨k', h1, (List.getElem?_eq_some_iff.1 h2).1⟩
theorem lk_none {bl : Nat → Nat} {L : List Tx} {k : Int} (hf : fnd L k = none) : lkB bl L k = none := by simp [lkB, hf]

section
variable (b : Nat) (m : Mg) (σ : Nat → Option Nat) (mb : Nat) (bl : Nat → Nat) (w : World) (h : MG w b m σ mb bl)
include h
theorem noneLeft_any : Calls Try.prog 24 #[.pointer (some ⟨b, 0, none⟩)] w fun x w' => x = .returned (.bool (decide (2147483647 < m.nx))) ∧ w' = w := by
  have c1 := h.c1
  go_enter Try.func24, Try.ntmps24
  go_wp2
  go_ret
  have e : decide ((2147483647 : Int) < (m.nx : Int)) = decide (2147483647 < m.nx) := decide_eq_decide.2 (by omega)
  refine ⟨?_, rfl⟩
  rw [← e]; rfl
theorem state_any (k : Int) (h1 : -9223372036854775808 ≤ k) (h2 : k ≤ 9223372036854775807) : Calls Try.prog 44 #[.pointer (some ⟨b, 0, none⟩), .int .i64 k] w fun x w' => x = .returned (.int .i64 (m.state k)) ∧ Tch (fun _ => False) w w' := by
  have c0 := h.c0
  have q := find_any b m σ mb bl k w h h1 h2
  cases hf : fnd m.tx k with
  | none =>
    have HM : Hid (m.state k = 0) := by show _ = _; simp [Mg.state, hf, stE]
    rw [lk_none hf] at q
    have qs := fun W => state_none W
    simp only [numV] at q qs
    clear h hf h1 h2
    go_enter Try.func44, Try.ntmps44
    go_wp2_with fail
    refine q.mono ?_
    rintro x w1 ⟨rfl, t1⟩
    clear q
    have T : Hid (Tch (fun _ => False) w w1) := t1
    clear t1 c0
    go_wp2_with fail
    refine (qs _).mono ?_
    rintro x w2 ⟨rfl, t2⟩
    clear qs
    have T2 : Hid (Tch (fun _ => False) w w2) := T.out.trans' t2
    clear t2
    go_wp2
    go_ret
    exact ⟨by rw [HM.out]; rfl, T2.out⟩
  | some a =>
    obtain ⟨t, i⟩ := a
    obtain ⟨hx, hi, h64, _, hlk, _⟩ := h.at hf
    have HM : Hid (m.state k = stE (some (t, i))) := by show _ = _; simp [Mg.state, hf]
    rw [hlk] at q
    have qs := fun W (hW : Tch (fun _ => False) w W) => state_some σ (bl t.x) t i W (hx.tch hW (fun _ _ h => h.elim) (fun _ _ h => h)) hi h64
    obtain ⟨e, he⟩ : ∃ e, e = stE (some (t, i)) := ⟨_, rfl⟩
    rw [← he] at qs HM
    simp only [numV] at q qs
    clear h hf h1 h2 hx hi h64 hlk he
    go_enter Try.func44, Try.ntmps44
    go_wp2_with fail
    refine q.mono ?_
    rintro x w1 ⟨rfl, t1⟩
    clear q
    have Q := qs w1 t1
    have T : Hid (Tch (fun _ => False) w w1) := t1
    clear t1 c0 qs
    go_wp2_with fail
    refine Q.mono ?_
    rintro x w2 ⟨rfl, t2⟩
    clear Q
    have T2 : Hid (Tch (fun _ => False) w w2) := T.out.trans' t2
    clear t2
    go_wp2
    go_ret
    exact ⟨by rw [HM.out]; rfl, T2.out⟩
theorem top_none (k : Int) (h1 : -9223372036854775808 ≤ k) (h2 : k ≤ 9223372036854775807) (hf : fnd m.tx k = none) : Calls Try.prog 31 #[.pointer (some ⟨b, 0, none⟩), .int .i64 k] w fun x w' => x = .returned (.tuple #[.int .i64 0, .int .i64 70]) ∧ Tch (fun _ => False) w w' := by
  have c0 := h.c0
  have q := find_any b m σ mb bl k w h h1 h2
  rw [lk_none hf] at q
  have qs := fun W => known_any none W
  simp only [numV, Option.isSome_none] at q qs
  clear h hf h1 h2
  go_enter Try.func31, Try.ntmps31
  go_wp2_with fail
  refine q.mono ?_
  rintro x w1 ⟨rfl, t1⟩
  clear q
  have T : Hid (Tch (fun _ => False) w w1) := t1
  clear t1 c0
  go_wp2_with fail
  refine (qs _).mono ?_
  rintro x w2 ⟨rfl, t2⟩
  clear qs
  have T2 : Hid (Tch (fun _ => False) w w2) := (T.out.trans' (Tch.alloc _ _ _)).trans' t2
  clear t2
  go_wp2
  go_ret2
  exact ⟨rfl, T2.out⟩
theorem top_some (k : Int) (h1 : -9223372036854775808 ≤ k) (h2 : k ≤ 9223372036854775807) {t : Tx} {i : Int} (hf : fnd m.tx k = some (t, i)) : Calls Try.prog 31 #[.pointer (some ⟨b, 0, none⟩), .int .i64 k] w fun x w' => x = .returned (.tuple #[.int .i64 t.x, .int .i64 0]) ∧ Tch (fun _ => False) w w' := by
  have c0 := h.c0
  have q := find_any b m σ mb bl k w h h1 h2
  obtain ⟨hx, hi, h64, _, hlk, _⟩ := h.at hf
  rw [hlk] at q
  have qs := fun W => known_any (some (bl t.x, i)) W
  simp only [numV, Option.isSome_some] at q qs
  have Hx : Hid (XB w σ (bl t.x) t) := hx
  obtain ⟨tb, htb⟩ : ∃ tb, tb = bl t.x := ⟨_, rfl⟩
  rw [← htb] at q qs Hx
  clear h hf h1 h2 hx hi h64 hlk htb
  go_enter Try.func31, Try.ntmps31
  go_wp2_with fail
  refine q.mono ?_
  rintro x w1 ⟨rfl, t1⟩
  clear q
  have T : Hid (Tch (fun _ => False) w w1) := t1
  clear t1 c0
  go_wp2_with fail
  obtain ⟨w0, hw0⟩ : ∃ w0, w0 = w1.alloc (.cells #[.pointer (some ⟨tb, 0, none⟩), .int .i64 i] 68) := ⟨_, rfl⟩
  have hb : w0.heap[w1.heap.size]? = some (.cells #[.pointer (some ⟨tb, 0, none⟩), .int .i64 i] 68 (0, 0)) := by rw [hw0]; exact alloc_new _ _
  have t0 : Tch (fun _ => False) w w0 := by rw [hw0]; exact T.out.trans' (Tch.alloc _ _ _)
  rw [← hw0]
  clear hw0
  refine (qs _).mono ?_
  rintro x w2 ⟨rfl, t2⟩
  clear qs
  have T2 : Hid (Tch (fun _ => False) w w2) := t0.trans' t2
  have d0 : w2.cell? ⟨w1.heap.size, 0, none⟩ = some (.pointer (some ⟨tb, 0, none⟩)) := by rw [t2.cell (p := ⟨w1.heap.size, 0, none⟩) (blk_lt hb) (fun h => h), blk_cell hb]; rfl
  obtain ⟨v, e0, _⟩ := (Hx.out.tch T2.out (fun _ _ h => h.elim) (fun _ _ h => h)).c
  clear t2 t0 hb
  go_wp2
  go_ret2
  exact ⟨rfl, T2.out⟩
/-- The transaction of that number. -/
def txE (o : Option (Nat × Int)) : Value := match o with
  | none => .pointer none
  | some a => if 0 ≤ a.2 then .pointer none else .pointer (some ⟨a.1, 0, none⟩)
theorem transaction_any (k : Int) (h1 : -9223372036854775808 ≤ k) (h2 : k ≤ 9223372036854775807) : Calls Try.prog 61 #[.map (some mb), .int .i64 k] w fun x w' => x = .returned (txE (lkB bl m.tx k)) ∧ Tch (fun _ => False) w w' := by
  have hl := h.look h1 h2
  obtain ⟨o, ho⟩ : ∃ o, o = lkB bl m.tx k := ⟨_, rfl⟩
  rw [← ho] at hl ⊢
  have q := fun W => isPart_any o W
  clear h h1 h2 ho
  cases o with
  | none =>
    simp only [numV, isP] at q hl
    go_enter Try.func61, Try.ntmps61
    go_wp2_with fail
    refine (q _).mono ?_
    rintro x w1 ⟨rfl, t1⟩
    clear q hl
    have c0 : w1.cell? ⟨w.heap.size, 0, none⟩ = some (.pointer none) := by rw [t1.cell (p := ⟨w.heap.size, 0, none⟩) (by simp) (fun h => h), blk_cell (alloc_new _ _)]; rfl
    have T : Hid (Tch (fun _ => False) w w1) := (Tch.alloc _ _ _).trans' t1
    clear t1
    go_wp2
    go_ret
    exact ⟨rfl, T.out⟩
  | some a =>
    obtain ⟨tb, i⟩ := a
    by_cases hi : 0 ≤ i
    · have HE : Hid (txE (some (tb, i)) = .pointer none) := by show _ = _; simp [txE, hi]
      simp only [numV, isP, hi, decide_true] at q hl
      go_enter Try.func61, Try.ntmps61
      go_wp2_with fail
      refine (q _).mono ?_
      rintro x w1 ⟨rfl, t1⟩
      clear q hl
      have T : Hid (Tch (fun _ => False) w w1) := (Tch.alloc _ _ _).trans' t1
      clear t1
      go_wp2
      go_ret
      exact ⟨by rw [HE.out]; rfl, T.out⟩
    · have HE : Hid (txE (some (tb, i)) = .pointer (some ⟨tb, 0, none⟩)) := by show _ = _; simp [txE, hi]
      simp only [numV, isP, hi, decide_false] at q hl
      go_enter Try.func61, Try.ntmps61
      go_wp2_with fail
      refine (q _).mono ?_
      rintro x w1 ⟨rfl, t1⟩
      clear q hl
      have c0 : w1.cell? ⟨w.heap.size, 0, none⟩ = some (.pointer (some ⟨tb, 0, none⟩)) := by rw [t1.cell (p := ⟨w.heap.size, 0, none⟩) (by simp) (fun h => h), blk_cell (alloc_new _ _)]; rfl
      have T : Hid (Tch (fun _ => False) w w1) := (Tch.alloc _ _ _).trans' t1
      clear t1
      go_wp2
      go_ret
      exact ⟨by rw [HE.out]; rfl, T.out⟩
end
end Go.Proofs.Ytjbehnoococelaa
/- An append that tells what becomes of the old row. -/
namespace Go.Proofs.Ytjbehnoococelaa
open Go.RowKit Go

section
variable {P : Program} (w : World)
/-- Append: as the library has it; and every cell of the row as it was reads as before. -/
theorem run_append_keeps (base : Nat) (t ty e : TypeId) (i : TypeInfo) (z : Value) (size bytes : Nat) (ht : P.underlying t = some (.slice e)) (hi : P.info? e = some i) (hz : i.zero = some z)
    (hsize : i.size = size) (hby : i.bytes = bytes) (hzs : z.cells.size = size) (hsz : 0 < size)
    (v : Value) (n : Nat) (xs : List Value) (hown : w.ownsRow base e size v n xs)
    (a : Addr) (m c : Nat) (news : List Value) (hl : news.length = m * size) (hnews : ∀ j u, news[j]? = some u → w.cell? (a.add j) = some u) (h1 : ∀ u ∈ news, u.oneCell' = true)
    (h63 : n + m ≤ maxLen) (hbytes : (n + m) * bytes ≤ 140737488355328) (hbase : base ≤ w.heap.size) :
    ∃ v' w', (Builtin.append_ #[t, t] ty #[v, .slice (some a) m c]).run P w = .ok v' w' ∧ w'.ownsRow base e size v' (n + m) (xs ++ news) ∧ w.grownBy w' v.ownBlock ∧ (v'.ownBlock = v.ownBlock ∨ v'.ownBlock = some w.heap.size) ∧
      ∀ b j, b < w.heap.size → (v.ownBlock = some b → j < n * size) → w'.cell? ⟨b, j, none⟩ = w.cell? ⟨b, j, none⟩ := by
  obtain ⟨v', w', hr, h2, h3, _, h5⟩ := run_append_own_at (P := P) w base t ty e i z size bytes ht hi hz hsize hby hzs hsz v n xs hown a m c news hl hnews h1 h63 hbytes hbase
  refine ⟨v', w', hr, h2, h3, h5, fun b j hb hj => ?_⟩
  by_cases hvb : v.ownBlock = some b
  · rcases hown.2 with ⟨rfl, rfl⟩ | ⟨g, cap, cur, rfl, hbg, hg, hnc, hcm, hcs, htake⟩
    · cases hvb
    · have hgb : g = b := by simpa [Value.ownBlock] using hvb
      subst hgb
      have hj' := hj hvb
      by_cases hroom : n + m ≤ cap
      · have hfit : n * i.size + news.length ≤ cur.size := by rw [hl, hcs, hsize, ← Nat.add_mul]; exact Nat.mul_le_mul_right _ hroom
        have hr2 := run_append_room (P := P) w t ty e i ht hi g n cap cur hg a m c news (by rw [hsize]; exact hl) hnews h1 hroom hfit
        rw [hr] at hr2
        simp only [Result.ok.injEq] at hr2
        obtain ⟨rfl, rfl⟩ := hr2
        rw [h2.cellAt j (by rw [Nat.add_mul]; omega), hown.cellAt j hj', List.getElem?_append_left (by rw [hown.1]; exact hj')]
      · have holds : ∀ j u, xs[j]? = some u → w.cell? ((⟨g, 0, none⟩ : Addr).add j) = some u := hown.cells (g := g) rfl
        have hr2 := run_append_grow (P := P) w t ty e i z ht hi hz ⟨g, 0, none⟩ n cap xs (by rw [hsize]; exact hown.1) holds a m c news (by rw [hsize]; exact hl) hnews (by omega) (by simp only [maxLen] at h63; omega) (by rw [hby]; exact growslice_fits (by omega) hbytes)
        rw [hr] at hr2
        simp only [Result.ok.injEq] at hr2
        obtain ⟨_, rfl⟩ := hr2
        exact World.cell?_of_block (heap_alloc_old w.drew _ hb)
  · exact World.cell?_of_block (h3.block b hb (fun e => hvb e.symm))
end
theorem wpList_append_keeps {P : Program} (w : World) {ops : Array Oper} {rest : List Oper} {o : Oper} {a : Act} {Q : Exit → Act → World → Prop} (hgd : o.guard = none) (s x : Operand) (t : TypeId)
    (ho : o.op = .call { callee := .builtin .append, args := #[s, x], argTypes := #[t, t] })
    (base : Nat) (e : TypeId) (i : TypeInfo) (z : Value) (size bytes : Nat) (ht : P.underlying t = some (.slice e)) (hi : P.info? e = some i) (hz : i.zero = some z)
    (hsize : i.size = size) (hby : i.bytes = bytes) (hzs : z.cells.size = size) (hsz : 0 < size)
    (v : Value) (n : Nat) (xs : List Value) (hs : a.eval s = v) (hown : w.ownsRow base e size v n xs)
    (ad : Addr) (m c : Nat) (news : List Value) (hx : a.eval x = .slice (some ad) m c) (hl : news.length = m * size) (hnews : ∀ j u, news[j]? = some u → w.cell? (ad.add j) = some u) (h1 : ∀ u ∈ news, u.oneCell' = true)
    (h63 : n + m ≤ maxLen) (hbytes : (n + m) * bytes ≤ 140737488355328) (hbase : base ≤ w.heap.size)
    (h : ∀ v' w', w'.ownsRow base e size v' (n + m) (xs ++ news) → w.grownBy w' v.ownBlock → (v'.ownBlock = v.ownBlock ∨ v'.ownBlock = some w.heap.size) → (∀ b j, b < w.heap.size → (v.ownBlock = some b → j < n * size) → w'.cell? ⟨b, j, none⟩ = w.cell? ⟨b, j, none⟩) → wpList P ops Q rest (a.put o.dst v') w') :
    wpList P ops Q (o :: rest) a w := by
  refine wpList_plain hgd fun K hK => ?_
  obtain ⟨v', w', hr, h2, h3, h4, h5⟩ := run_append_keeps (P := P) w base t o.type e i z size bytes ht hi hz hsize hby hzs hsz v n xs hown ad m c news hl hnews h1 h63 hbytes hbase
  unfold Oper.wp execOp
  simp only [ho, resolve, invoke, builtin, Sem.run_bind, Sem.run_pure, Result.andThen_ok, List.map_toArray, List.map_cons, List.map_nil, hs, hx, hr]
  exact hK _ _ (h v' w' h2 h3 h4 h5)

/-- The same, at a step of a region that draws its order. -/
theorem step_append_keeps {P : Program} (w : World) {ops : Array Oper} {o : Oper} {a : Act} {K : Act → World → Prop} {Q : Exit → Act → World → Prop} {E : Prop} (hgd : o.guard = none) (s x : Operand) (t : TypeId)
    (ho : o.op = .call { callee := .builtin .append, args := #[s, x], argTypes := #[t, t] })
    (base : Nat) (e : TypeId) (i : TypeInfo) (z : Value) (size bytes : Nat) (ht : P.underlying t = some (.slice e)) (hi : P.info? e = some i) (hz : i.zero = some z)
    (hsize : i.size = size) (hby : i.bytes = bytes) (hzs : z.cells.size = size) (hsz : 0 < size)
    (v : Value) (n : Nat) (xs : List Value) (hs : a.eval s = v) (hown : w.ownsRow base e size v n xs)
    (ad : Addr) (m c : Nat) (news : List Value) (hx : a.eval x = .slice (some ad) m c) (hl : news.length = m * size) (hnews : ∀ j u, news[j]? = some u → w.cell? (ad.add j) = some u) (h1 : ∀ u ∈ news, u.oneCell' = true)
    (h63 : n + m ≤ maxLen) (hbytes : (n + m) * bytes ≤ 140737488355328) (hbase : base ≤ w.heap.size)
    (h : ∀ v' w', w'.ownsRow base e size v' (n + m) (xs ++ news) → w.grownBy w' v.ownBlock → (v'.ownBlock = v.ownBlock ∨ v'.ownBlock = some w.heap.size) → (∀ b j, b < w.heap.size → (v.ownBlock = some b → j < n * size) → w'.cell? ⟨b, j, none⟩ = w.cell? ⟨b, j, none⟩) → K (a.put o.dst v') w') :
    if Region.wanted o (yielded ops a.tmps) = true then Oper.wp P o a w K Q else E := by
  have hw : Region.wanted o (yielded ops a.tmps) = true := by simp [Region.wanted, hgd]
  rw [if_pos hw]
  obtain ⟨v', w', hr, h2, h3, h4, h5⟩ := run_append_keeps (P := P) w base t o.type e i z size bytes ht hi hz hsize hby hzs hsz v n xs hown ad m c news hl hnews h1 h63 hbytes hbase
  unfold Oper.wp execOp
  simp only [ho, resolve, invoke, builtin, Sem.run_bind, Sem.run_pure, Result.andThen_ok, List.map_toArray, List.map_cons, List.map_nil, hs, hx, hr]
  exact h v' w' h2 h3 h4 h5
end Go.Proofs.Ytjbehnoococelaa
/- Lists that come out: Clone, Open, surviving, Parts; Contains. -/
namespace Go.Proofs.Ytjbehnoococelaa
open Go.RowKit Go Go.Sort

theorem row_slice {w : World} {base : Nat} {t : TypeId} {sz n : Nat} {v : Value} {xs : List Value} (h : w.ownsRow base t sz v n xs) : ∃ ao c, v = .slice ao n c := by
  rcases h.2 with ⟨h1, h2⟩ | ⟨g, c, cur, h1, _⟩
  · exact ⟨none, 0, by rw [h1, h2]⟩
  · exact ⟨_, c, h1⟩
theorem row_ge {w : World} {base : Nat} {t : TypeId} {sz n : Nat} {v : Value} {xs : List Value} (h : w.ownsRow base t sz v n xs) {k : Nat} (hk : v.ownBlock = some k) : base ≤ k := (h.lt k hk).1
theorem own_low {W : World} {N N' sz n : Nat} {t : TypeId} {v : Value} {xs : List Value} (h : W.ownsRow N t sz v n xs) (hN : N' ≤ N) : W.ownsRow N' t sz v n xs := by
  obtain ⟨h1, h2⟩ := h
  refine ⟨h1, ?_⟩
  rcases h2 with h2 | ⟨g, c, cur, hv, hb, hr⟩
  · exact Or.inl h2
  · exact Or.inr ⟨g, c, cur, hv, Nat.le_trans hN hb, hr⟩
theorem grown_at {W W1 w1 : World} {row : Option Nat} (t : Tch (fun _ => False) W W1) (h : W1.grownBy w1 row) : Tch (fun i => row = some i) W w1 :=
  (t.mono (fun _ _ h => h.elim)).trans' ⟨h.os, h.tape, h.output, h.size, fun k hk hn => h.block k hk (fun e => hn e.symm)⟩
theorem add_plain (b o j : Nat) : (⟨b, o, none⟩ : Addr).add j = ⟨b, o + j, none⟩ := by unfold Addr.add; split <;> simp_all

theorem info_int : (Try.prog.info? 3).map (fun i => (i.zero, i.size, i.bytes)) = some (some (.int .i64 0), 1, 8) := by kernel_rfl
theorem ieq_nil_no (ad : Addr) (n c : Nat) (w : World) : (binOp .eql 22 (.slice (some ad) n c) (.slice none 0 0)).run Try.prog w = .ok (.bool false) w := Lib.run_eql_slice_some_nil w ad n c Try.underlying22
theorem ieq_nil_yes (w : World) : (binOp .eql 22 (.slice none 0 0) (.slice none 0 0)).run Try.prog w = .ok (.bool true) w := Lib.run_eql_slice_nil_nil w 0 0 Try.underlying22
theorem icl_one (l : List Nat) : ∀ u ∈ icl l, u.oneCell' = true := fun u hu => by
  unfold icl at hu
  rw [List.mem_map] at hu
  obtain ⟨a, _, rfl⟩ := hu
  rfl

set_option maxHeartbeats 1000000 in
set_option maxRecDepth 100000 in
theorem sclone_any (l : List Nat) (v : Value) (base : Nat) (w : World) (h : w.ownsRow base 3 1 v l.length (icl l)) (hlen : l.length * 8 ≤ 140737488351232) :
    Calls Try.prog 42 #[v] w fun x w' => (∃ v', x = .returned v' ∧ w'.ownsRow w.heap.size 3 1 v' l.length (icl l)) ∧ Tch (fun _ => False) w w' := by
  rcases h.2 with ⟨rfl, h0⟩ | ⟨g, c, cur, rfl, _, hg, _, _, _, _⟩
  · obtain rfl : l = [] := List.length_eq_zero_iff.1 h0
    have he := ieq_nil_yes
    clear h
    go_enter Try.func42, Try.ntmps42
    go_wp2
    go_ret
    exact ⟨⟨_, rfl, rfl, Or.inl ⟨rfl, rfl⟩⟩, Tch.refl _ _⟩
  · obtain ⟨i0, hi, hz0, hz1, hz2⟩ := info_parts info_int
    have he := ieq_nil_no ⟨g, 0, none⟩ l.length c
    obtain ⟨w0, hw0⟩ : ∃ w0, w0 = w.alloc (.cells #[] 3) := ⟨_, rfl⟩
    have t0 : Tch (fun _ => False) w w0 := by rw [hw0]; exact Tch.alloc _ _ _
    have hown : w0.ownsRow w.heap.size 3 1 (.slice (some ⟨w.heap.size, 0, none⟩) 0 0) 0 [] := ⟨rfl, Or.inr ⟨w.heap.size, 0, #[], rfl, Nat.le_refl _, by rw [hw0]; exact alloc_new _ _, Nat.le_refl _, by unfold maxLen; omega, rfl, rfl⟩⟩
    have Hcl : Hid (∀ j u, (icl l)[j]? = some u → w0.cell? ((⟨g, 0, none⟩ : Addr).add j) = some u) := fun j u hu => (own_tch h t0 (fun _ _ h => h)).cells (g := g) rfl j u hu
    have Hown : Hid (w0.ownsRow w.heap.size 3 1 (.slice (some ⟨w.heap.size, 0, none⟩) 0 0) 0 []) := hown
    have Hw0 : Hid _ := hw0
    have Hsz : Hid (w.heap.size ≤ w0.heap.size) := t0.size
    clear h hown hw0 hg
    go_enter Try.func42, Try.ntmps42
    go_wp2_with (at_builtin; have hw0 := Hw0.out; rw [← hw0]; clear hw0; refine wpList_append_keeps _ rfl _ _ 22 rfl w.heap.size 3 i0 (.int .i64 0) 1 8 Try.underlying22 hi hz0 hz1 hz2 rfl (by decide) (.slice (some ⟨w.heap.size, 0, none⟩) 0 0) 0 [] rfl Hown.out ⟨g, 0, none⟩ l.length c (icl l) rfl (by rw [icl_len]; omega) Hcl.out (icl_one l) (by unfold maxLen; omega) (by omega) Hsz.out ?_; intro v1 w1 hown1 hgr1 hat1 _; have HF : Hid (w1.ownsRow w.heap.size 3 1 v1 l.length (icl l)) := (by have h1 := hown1; rw [Nat.zero_add, List.nil_append] at h1; exact h1); have HT : Hid (Tch (fun _ => False) w w1) := (t0.trans (grown_at (Tch.refl (fun _ => False) w0) hgr1) (fun i hi e => by have := row_ge Hown.out e; omega)); obtain ⟨o1, c1, hv1⟩ := row_slice HF.out; subst hv1)
    go_ret
    exact ⟨⟨_, rfl, HF.out⟩, HT.out⟩

theorem on_le {m : Mg} (h : Wf m) : m.on.length ≤ 2147483648 := by
  have hu : m.on.Pairwise (· < ·) := by
    rw [h.on, List.pairwise_map]
    exact (h.up.filter _).imp (fun h => h)
  have hb : ∀ x ∈ m.on, x < m.nx := fun x hx => by
    rw [h.on] at hx
    obtain ⟨t, ht, rfl⟩ := List.mem_map.1 hx
    exact (h.lo t (List.mem_filter.1 ht).1).2
  have key : ∀ (l : List Nat) (k n : Nat), l.Pairwise (· < ·) → (∀ x ∈ l, k ≤ x ∧ x < n) → l.length ≤ n - k := by
    intro l
    induction l with
    | nil => intro k n _ _; simp
    | cons a r ih =>
      intro k n hp hx
      have h1 := hx a (by simp)
      have h2 := ih (a + 1) n (List.pairwise_cons.1 hp).2 (fun x hx' => ⟨(List.pairwise_cons.1 hp).1 x hx', (hx x (by simp [hx'])).2⟩)
      simp only [List.length_cons]; omega
  have := key m.on 0 m.nx hu (fun x hx => ⟨Nat.zero_le _, hb x hx⟩)
  have := h.n2
  omega

theorem open_any (b : Nat) (m : Mg) (σ : Nat → Option Nat) (mb : Nat) (bl : Nat → Nat) (w : World) (h : MG w b m σ mb bl) :
    Calls Try.prog 23 #[.pointer (some ⟨b, 0, none⟩)] w fun x w' => (∃ v', x = .returned v' ∧ w'.ownsRow w.heap.size 3 1 v' m.on.length (icl m.on)) ∧ Tch (fun _ => False) w w' := by
  obtain ⟨ov, h1, h2, _⟩ := h.blk
  have c2 : w.cell? ⟨b, 2, none⟩ = some ov := by rw [blk_cell h1]; rfl
  have hl := on_le h.wf
  have q := sclone_any m.on ov 0 w h2 (by omega)
  clear h h1 h2 hl
  go_enter Try.func23, Try.ntmps23
  go_wp2_with fail
  refine q.mono ?_
  rintro x w1 ⟨⟨v', rfl, hv⟩, t1⟩
  clear q
  obtain ⟨o1, c1, rfl⟩ := row_slice hv
  have HV : Hid _ := hv
  have HT : Hid _ := t1
  clear hv t1
  go_wp2
  go_ret
  exact ⟨⟨_, rfl, HV.out⟩, HT.out⟩

/-- A list for reading. -/
def IR (w : World) (ao : Option Addr) (l : List Int) : Prop := ∀ k n, l[k]? = some n → ∃ g o, ao = some ⟨g, o, none⟩ ∧ w.cell? ⟨g, o + k, none⟩ = some (.int .i64 n)
theorem IR.no {w w' : World} {ao : Option Addr} {l : List Int} (h : IR w ao l) (t : Tch (fun _ => False) w w') : IR w' ao l := fun k n hk => by
  obtain ⟨g, o, e, hc⟩ := h k n hk
  exact ⟨g, o, e, by rw [t.cell (p := ⟨g, o + k, none⟩) (cell_lt hc) (fun h => h)]; exact hc⟩

set_option maxHeartbeats 1000000 in
theorem index_any (l : List Int) (ao : Option Addr) (c : Nat) (x : Int) (w : World) (h : IR w ao l) (hl : l.length ≤ 9223372036854775807) :
    Calls Try.prog 65 #[.slice ao l.length c, .int .i64 x] w fun y w' => (∃ r : Int, y = .returned (.int .i64 r) ∧ (0 ≤ r ↔ x ∈ l)) ∧ w' = w := by
  obtain ⟨n, hn⟩ : ∃ n, n = l.length := ⟨_, rfl⟩
  rw [← hn] at hl ⊢
  have Hn : Hid (n = l.length) := hn
  have HI : Hid (IR w ao l) := h
  clear h hn
  go_enter Try.func65, Try.ntmps65
  go_wp2_with fail
  go_loopw [8] (fun i wr => ∃ k : Nat, i = .int .i64 k ∧ k ≤ n ∧ wr = w ∧ Hid (∀ j y, j < k → l[j]? = some y → y ≠ x)) (fun i _ => n - (intOf i).toNat)
  case atStart => exact ⟨0, rfl, by omega, rfl, fun _ _ h => by omega⟩
  case round =>
    obtain ⟨k, rfl, hk, hwr, HK⟩ := hrel
    subst hwr
    by_cases hlt : (k : Int) < n
    · have hkl : k < l.length := by have := Hn.out; omega
      obtain ⟨y, hy⟩ : ∃ y, l[k]? = some y := ⟨_, List.getElem?_eq_getElem hkl⟩
      obtain ⟨g, o, rfl, c2⟩ := HI.out k y hy
      by_cases he : x = y
      · have HE : Hid ((0 : Int) ≤ k ↔ x ∈ l) := ⟨fun _ => by rw [he]; exact List.mem_of_getElem? hy, fun _ => by omega⟩
        subst he
        clear hy
        go_wp2_with fail
        go_ret
        exact ⟨⟨_, rfl, HE.out⟩, rfl⟩
      · have HE : Hid (∀ j y, j < k + 1 → l[j]? = some y → y ≠ x) := fun j y' hj hy' => by
          rcases Nat.lt_or_ge j k with h1 | h1
          · exact HK.out j y' h1 hy'
          · obtain rfl : j = k := by omega
            rw [hy] at hy'
            injection hy' with e
            subst e
            exact fun e => he e.symm
        have hne : (x == y) = false := by simp [he]
        clear hy
        go_wp2_with fail
        go_roundw
        case rel => exact ⟨k + 1, by go_num, by omega, trivial, HE⟩
        case measure => simp [intOf]; omega
    · have HE : Hid ((0 : Int) ≤ -1 ↔ x ∈ l) := ⟨fun h => by omega, fun hm => by
        obtain ⟨j, hj⟩ := List.mem_iff_getElem?.1 hm
        have hjl := (List.getElem?_eq_some_iff.1 hj).1
        exact absurd rfl (HK.out j x (by have := Hn.out; omega) hj)⟩
      go_wp2_with fail
      go_ret
      exact ⟨⟨_, rfl, HE.out⟩, rfl⟩
theorem contains_any (l : List Int) (ao : Option Addr) (c : Nat) (x : Int) (w : World) (h : IR w ao l) (hl : l.length ≤ 9223372036854775807) :
    Calls Try.prog 59 #[.slice ao l.length c, .int .i64 x] w fun y w' => y = .returned (.bool (decide (x ∈ l))) ∧ w' = w := by
  have q := index_any l ao c x w h hl
  obtain ⟨n, hn⟩ : ∃ n, n = l.length := ⟨_, rfl⟩
  rw [← hn] at q ⊢
  clear h hl hn
  go_enter Try.func59, Try.ntmps59
  go_wp2_with fail
  refine q.mono ?_
  rintro y w1 ⟨⟨r, rfl, hr⟩, hw⟩
  subst hw
  have e : decide (0 ≤ r) = decide (x ∈ l) := decide_eq_decide.2 hr
  have HE : Hid _ := e
  clear q hr e
  go_wp2
  go_ret
  refine ⟨?_, rfl⟩
  rw [← HE.out]; rfl
end Go.Proofs.Ytjbehnoococelaa
/- surviving, Parts. -/
namespace Go.Proofs.Ytjbehnoococelaa
open Go.RowKit Go Go.Sort

/-- The parts that are not aborted. -/
def survL (s : Nat) (l : List Pt) : List Nat := (l.filter (fun p => decide ((if p.ft = 2 then 4 else s) ≠ 4))).map (·.x)
theorem survL_snoc (s : Nat) (l : List Pt) (p : Pt) : survL s (l ++ [p]) = survL s l ++ (if (if p.ft = 2 then 4 else s) = 4 then [] else [p.x]) := by
  unfold survL
  rw [List.filter_append, List.map_append]
  congr 1
  by_cases h : p.ft = 2
  · simp [h]
  · by_cases hs : s = 4 <;> simp [h, hs]
theorem survL_len (s : Nat) (l : List Pt) : (survL s l).length ≤ l.length := by unfold survL; rw [List.length_map]; exact List.length_filter_le _ _
theorem icl_snoc (l : List Nat) (x : Nat) : icl (l ++ [x]) = icl l ++ [.int .i64 x] := by simp [icl]

end Go.Proofs.Ytjbehnoococelaa
