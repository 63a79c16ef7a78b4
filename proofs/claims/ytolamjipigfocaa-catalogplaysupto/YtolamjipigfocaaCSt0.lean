import Derived.Test.YtolamjipigfocaaCTold2
import Derived.Test.YtolamjipigfocaaCFitX
/- What a step is handed; a pair within a step. -/
namespace Go.Proofs.Ytolamjipigfocaa
open Go.RowKit Go

/-- The blocks Z are the arguments': nobody turns them. -/
structure AZ (Z : Nat → Prop) (w : World) (o : Nat → Nat) : Prop where
  le : ∀ i, Z i → i < w.heap.size
  o0 : ∀ i, Z i → o i = 0
theorem AZ.ev {K : Nat → Prop} {Z : Nat → Prop} {w w' : World} {o o' : Nat → Nat} (h : AZ Z w o) (e : Ev K w o w' o') (hk : ¬ K 0) : AZ Z w' o' ∧ Tch (fun i => ¬ Z i) w w' :=
  ⟨⟨fun i hi => Nat.lt_of_lt_of_le (h.le i hi) e.tch.size, fun i hi => by rw [e.old i (h.le i hi) (by rw [h.o0 i hi]; exact hk), h.o0 i hi]⟩, e.tch.mono (fun i _ hi hz => hk (by rw [← h.o0 i hz]; exact hi))⟩
/-- A list of the arguments'. -/
structure SZ (Z : Nat → Prop) (w : World) (ao : Option Addr) (cs : List Value) : Prop where
  sl : SL w ao cs
  lt : cs ≠ [] → ∀ g o, ao = some ⟨g, o, none⟩ → Z g
theorem SZ.tch {Z : Nat → Prop} {w w' : World} {ao : Option Addr} {cs : List Value} (h : SZ Z w ao cs) (t : Tch (fun i => ¬ Z i) w w') : SZ Z w' ao cs := by
  refine ⟨fun hc => ?_, h.lt⟩
  obtain ⟨g, o, e, ha⟩ := h.sl hc
  exact ⟨g, o, e, ha.tch t (fun _ hs => hs (h.lt hc g o e))⟩
/-- What is to be done. -/
structure Opv where
  kd : Int
  on : Int
  N : Int
  nm : ByteArray
  ca : Option Addr
  cc : Nat
  cols : List Col
  T : Tbl
  ta : Option Addr
  tc : Nat
  lo : Option Addr
  lc : Nat
  l : List (Tbl × Value)
  ro : Option Addr
  rc : Nat
  vs : List Val
def Opv.cel (p : Opv) : List Value := [.int .i64 p.kd, .int .i64 p.on, .int .i64 p.N, .string p.nm, .slice p.ca p.cols.length p.cc, .int .i64 p.T.id, .int .i64 p.T.ver, .string p.T.nm, .slice p.ta p.T.cols.length p.tc, .int .i64 p.T.key, .slice p.lo p.l.length p.lc, .slice p.ro p.vs.length p.rc]
structure Opv.ok (p : Opv) (Z : Nat → Prop) (w : World) : Prop where
  b1 : -9223372036854775808 ≤ p.N
  b2 : p.N ≤ 9223372036854775807
  b3 : -9223372036854775808 ≤ p.on
  b4 : p.on ≤ 9223372036854775807
  hC : SZ Z w p.ca (ccl p.cols)
  hT : SZ Z w p.ta (ccl p.T.cols)
  hR : SZ Z w p.ro (vcl p.vs)
  hL : TL w (fun i => ¬ Z i) p.lo p.l
  nC : p.ca = none → p.cols = [] ∧ p.cc = 0
  nT : p.ta = none → p.T.cols = [] ∧ p.tc = 0
  nR : p.ro = none → p.rc = 0
  cT : p.T.cols.length ≤ p.tc
  lC : p.cols.length ≤ 1048576
  lT : p.T.cols.length ≤ 1048576
  lR : p.vs.length ≤ 1048576
  lL : p.l.length ≤ 1048576
  lLc : ∀ i (hi : i < p.l.length), p.l[i].1.cols.length ≤ 1048576
theorem Opv.ok.tch {p : Opv} {Z : Nat → Prop} {w w' : World} (h : p.ok Z w) (t : Tch (fun i => ¬ Z i) w w') : p.ok Z w' :=
  ⟨h.b1, h.b2, h.b3, h.b4, h.hC.tch t, h.hT.tch t, h.hR.tch t, h.hL.tch t (fun _ _ h => h), h.nC, h.nT, h.nR, h.cT, h.lC, h.lT, h.lR, h.lL, h.lLc⟩
/-- What a step with the pair k may turn. -/
def KS (k : Nat) : Nat → Prop := fun j => (4 ≤ j ∧ j ≤ 19) ∨ j = k ∨ j = k + 1
/-- Within a step with the pair k (cb, rb): the code's catalog is (Lc, gc), the document's (Ld, gd); the step's boxes lie at N (the pair) and N + 1 (what is to be done). -/
structure PQ (w : World) (o : Nat → Nat) (Z : Nat → Prop) (b n k cb rb N : Nat) (p : Opv) (W : World) (o' : Nat → Nat) (Lc : List Tbl) (gc : Int) (Ld : List Tbl) (gd : Int) : Prop where
  be : BE W o' b n
  cf : CF W o' k cb Lc gc
  rf : RF W o' (k + 1) rb Ld gd
  az : AZ Z W o'
  ok : p.ok Z W
  ev : Ev (KS k) w o W o'
  x1 : W.heap[N]? = some (.cells #[.pointer (some ⟨cb, 0, none⟩), .pointer (some ⟨rb, 0, none⟩)] 28 (0, 0))
  x2 : W.heap[N + 1]? = some (.cells p.cel.toArray 45 (0, 0))
  l1 : o' N = 5
  l2 : o' (N + 1) = 5
section
variable {w : World} {o : Nat → Nat} {Z : Nat → Prop} {b n k cb rb N : Nat} {p : Opv} {W W' : World} {o' o'' : Nat → Nat} {Lc Ld Lc' Ld' : List Tbl} {gc gd gc' gd' : Int}
/-- Something was turned that is neither the catalogs' nor the book's. -/
theorem PQ.step (q : PQ w o Z b n k cb rb N p W o' Lc gc Ld gd) {K : Nat → Prop} (e : Ev K W o' W' o'') (hK : ∀ j, K j → KS k j) (h0 : ¬ K 0) (h5 : ¬ K 5) (hb : BE W' o'' b n) (hc : CF W' o'' k cb Lc' gc') (hr : RF W' o'' (k + 1) rb Ld' gd') : PQ w o Z b n k cb rb N p W' o'' Lc' gc' Ld' gd' := by
  obtain ⟨a1, a2⟩ := q.az.ev e h0
  refine ⟨hb, hc, hr, a1, q.ok.tch a2, q.ev.trans (e.mono hK), ?_, ?_, ?_, ?_⟩
  · rw [e.tch.block N (blk_lt q.x1) (by rw [q.l1]; exact h5)]; exact q.x1
  · rw [e.tch.block (N + 1) (blk_lt q.x2) (by rw [q.l2]; exact h5)]; exact q.x2
  · rw [e.old N (blk_lt q.x1) (by rw [q.l1]; exact h5), q.l1]
  · rw [e.old (N + 1) (blk_lt q.x2) (by rw [q.l2]; exact h5), q.l2]
theorem PQ.ev1 (q : PQ w o Z b n k cb rb N p W o' Lc gc Ld gd) {K : Nat → Prop} (e : Ev K W o' W' o'') (hK : ∀ j, K j → j = 4 ∨ (15 ≤ j ∧ j ≤ 19)) (hk : 20 ≤ k) : PQ w o Z b n k cb rb N p W' o'' Lc gc Ld gd :=
  q.step e (fun j hj => Or.inl (by have := hK j hj; omega)) (fun h => by have := hK 0 h; omega) (fun h => by have := hK 5 h; omega) (q.be.ev e (fun j _ _ h => by have := hK j h; omega)) (q.cf.ev e (fun h => by have := hK k h; omega)) (q.rf.ev e (fun h => by have := hK (k + 1) h; omega))
theorem PQ.no (q : PQ w o Z b n k cb rb N p W o' Lc gc Ld gd) (t : Tch (fun _ => False) W W') (hk : 20 ≤ k) : PQ w o Z b n k cb rb N p W' (ext W o' 4) Lc gc Ld gd :=
  q.ev1 (Ev.quiet 4 t) (fun _ hj => Or.inl hj) hk
theorem PQ.code (q : PQ w o Z b n k cb rb N p W o' Lc gc Ld gd) {kv : Nat} (hc : CF W' o'' k cb Lc' gc') (e : Ev (fun j => j = k ∨ j = kv) W o' W' o'') (hk : 20 ≤ k) (hv : 15 ≤ kv ∧ kv ≤ 18) : PQ w o Z b n k cb rb N p W' o'' Lc' gc' Ld gd :=
  q.step e (fun j hj => by unfold KS; omega) (by omega) (by omega) (q.be.ev e (fun j _ _ => by omega)) hc (q.rf.ev e (by omega))
theorem PQ.doc (q : PQ w o Z b n k cb rb N p W o' Lc gc Ld gd) {kv : Nat} (hr : RF W' o'' (k + 1) rb Ld' gd') (e : Ev (fun j => j = k + 1 ∨ j = kv) W o' W' o'') (hk : 20 ≤ k) (hv : 15 ≤ kv ∧ kv ≤ 18) : PQ w o Z b n k cb rb N p W' o'' Lc gc Ld' gd' :=
  q.step e (fun j hj => by unfold KS; omega) (by omega) (by omega) (q.be.ev e (fun j _ _ => by omega)) (q.cf.ev e (by omega)) hr
theorem PQ.book (q : PQ w o Z b n k cb rb N p W o' Lc gc Ld gd) {m : Nat} {K : Nat → Prop} (hb : BE W' o'' b m) (e : Ev K W o' W' o'') (hK : ∀ j, K j → 6 ≤ j ∧ j ≤ 19) (hk : 20 ≤ k) : PQ w o Z b m k cb rb N p W' o'' Lc gc Ld gd := by
  have h0 : ¬ K 0 := fun h => by have := hK 0 h; omega
  have h5 : ¬ K 5 := fun h => by have := hK 5 h; omega
  obtain ⟨a1, a2⟩ := q.az.ev e h0
  refine ⟨hb, q.cf.ev e (fun h => by have := hK k h; omega), q.rf.ev e (fun h => by have := hK _ h; omega), a1, q.ok.tch a2, q.ev.trans (e.mono (fun j hj => Or.inl (by have := hK j hj; omega))), ?_, ?_, ?_, ?_⟩
  · rw [e.tch.block N (blk_lt q.x1) (by rw [q.l1]; exact h5)]; exact q.x1
  · rw [e.tch.block (N + 1) (blk_lt q.x2) (by rw [q.l2]; exact h5)]; exact q.x2
  · rw [e.old N (blk_lt q.x1) (by rw [q.l1]; exact h5), q.l1]
  · rw [e.old (N + 1) (blk_lt q.x2) (by rw [q.l2]; exact h5), q.l2]
/-- Nothing was turned; what was made has the owner kx. -/
theorem PQ.quiet (q : PQ w o Z b n k cb rb N p W o' Lc gc Ld gd) (t : Tch (fun _ => False) W W') (hk : 20 ≤ k) (kx : Nat) (hx : kx = 4 ∨ kx = 5 ∨ (15 ≤ kx ∧ kx ≤ 19)) : PQ w o Z b n k cb rb N p W' (ext W o' kx) Lc gc Ld gd := by
  have e := Ev.quiet (o := o') kx t
  obtain ⟨a1, a2⟩ := q.az.ev e (by omega)
  have hN := blk_lt q.x1
  have hN2 := blk_lt q.x2
  refine ⟨q.be.ev e (fun j _ _ => by omega), q.cf.ev e (by omega), q.rf.ev e (by omega), a1, q.ok.tch a2, q.ev.trans (e.mono (fun j hj => by unfold KS; omega)), ?_, ?_, ?_, ?_⟩
  · rw [t.block N hN (fun h => h)]; exact q.x1
  · rw [t.block (N + 1) hN2 (fun h => h)]; exact q.x2
  · show ext W o' kx N = 5
    unfold ext; rw [if_pos hN]; exact q.l1
  · show ext W o' kx (N + 1) = 5
    unfold ext; rw [if_pos hN2]; exact q.l2
/-- What is at hand: a table that came out, in a box of its own. -/
structure Hd (W : World) (o : Nat → Nat) (kv : Nat) (t : Tbl) (v : Value) (B : Nat) : Prop where
  row : RowC W o kv v t.cols
  bx : W.heap[B]? = some (.cells #[.int .i64 t.id, .int .i64 t.ver, .string t.nm, v, .int .i64 t.key] 36 (0, 0))
  lb : o B = 5
theorem Hd.ev {W W' : World} {o o' : Nat → Nat} {kv : Nat} {t : Tbl} {v : Value} {B : Nat} {K : Nat → Prop} (h : Hd W o kv t v B) (e : Ev K W o W' o') (hk : ¬ K kv) (h5 : ¬ K 5) : Hd W' o' kv t v B :=
  ⟨h.row.ev e hk, by rw [e.tch.block B (blk_lt h.bx) (by rw [h.lb]; exact h5)]; exact h.bx, by rw [e.old B (blk_lt h.bx) (by rw [h.lb]; exact h5), h.lb]⟩
theorem Hd.quiet {W W' : World} {o : Nat → Nat} {kv : Nat} {t : Tbl} {v : Value} {B : Nat} (h : Hd W o kv t v B) (tt : Tch (fun _ => False) W W') (kx : Nat) (hx : kx ≠ kv) : Hd W' (ext W o kx) kv t v B :=
  ⟨h.row.ev (Ev.quiet kx tt) (fun e => hx e.symm), by rw [tt.block B (blk_lt h.bx) (fun h => h)]; exact h.bx, by show ext W o kx B = 5; unfold ext; rw [if_pos (blk_lt h.bx)]; exact h.lb⟩
theorem Hd.new {W : World} {o : Nat → Nat} {kv : Nat} {t : Tbl} {v : Value} (h : RowC W o kv v t.cols) (hv : 15 ≤ kv ∧ kv ≤ 18) : Hd (W.alloc (.cells #[.int .i64 t.id, .int .i64 t.ver, .string t.nm, v, .int .i64 t.key] 36)) (ext W o 5) kv t v W.heap.size :=
  ⟨h.ev (Ev.quiet 5 (Tch.alloc _ _ _)) (by omega), alloc_new _ _, if_neg (by omega)⟩
theorem Hd.cells {W : World} {o : Nat → Nat} {kv : Nat} {t : Tbl} {v : Value} {B : Nat} (h : Hd W o kv t v B) : W.cell? ⟨B, 0, none⟩ = some (.int .i64 t.id) ∧ W.cell? ⟨B, 1, none⟩ = some (.int .i64 t.ver) ∧ W.cell? ⟨B, 2, none⟩ = some (.string t.nm) ∧ W.cell? ⟨B, 3, none⟩ = some v ∧ W.cell? ⟨B, 4, none⟩ = some (.int .i64 t.key) :=
  ⟨by rw [blk_cell h.bx]; rfl, by rw [blk_cell h.bx]; rfl, by rw [blk_cell h.bx]; rfl, by rw [blk_cell h.bx]; rfl, by rw [blk_cell h.bx]; rfl⟩
/-- A box of any make. -/
structure Bx (W : World) (o : Nat → Nat) (B : Nat) (cs : Array Value) (ty : TypeId) : Prop where
  bx : W.heap[B]? = some (.cells cs ty (0, 0))
  lb : o B = 5
theorem Bx.ev {W W' : World} {o o' : Nat → Nat} {B : Nat} {cs : Array Value} {ty : TypeId} {K : Nat → Prop} (h : Bx W o B cs ty) (e : Ev K W o W' o') (h5 : ¬ K 5) : Bx W' o' B cs ty :=
  ⟨by rw [e.tch.block B (blk_lt h.bx) (by rw [h.lb]; exact h5)]; exact h.bx, by rw [e.old B (blk_lt h.bx) (by rw [h.lb]; exact h5), h.lb]⟩
theorem Bx.quiet {W W' : World} {o : Nat → Nat} {B : Nat} {cs : Array Value} {ty : TypeId} (h : Bx W o B cs ty) (tt : Tch (fun _ => False) W W') (kx : Nat) : Bx W' (ext W o kx) B cs ty :=
  ⟨by rw [tt.block B (blk_lt h.bx) (fun h => h)]; exact h.bx, by show ext W o kx B = 5; unfold ext; rw [if_pos (blk_lt h.bx)]; exact h.lb⟩
theorem Bx.cell {W : World} {o : Nat → Nat} {B : Nat} {cs : Array Value} {ty : TypeId} (h : Bx W o B cs ty) (j : Nat) : W.cell? ⟨B, j, none⟩ = cs[j]? := blk_cell h.bx j
theorem PQ.c0 (q : PQ w o Z b n k cb rb N p W o' Lc gc Ld gd) : W.cell? ⟨N, 0, none⟩ = some (.pointer (some ⟨cb, 0, none⟩)) := by rw [blk_cell q.x1]; rfl
theorem PQ.c1 (q : PQ w o Z b n k cb rb N p W o' Lc gc Ld gd) : W.cell? ⟨N, 1, none⟩ = some (.pointer (some ⟨rb, 0, none⟩)) := by rw [blk_cell q.x1]; rfl
theorem PQ.op (q : PQ w o Z b n k cb rb N p W o' Lc gc Ld gd) (j : Nat) (u : Value) (hu : p.cel[j]? = some u) : W.cell? ⟨N + 1, j, none⟩ = some u := by
  rw [blk_cell q.x2, ← Array.getElem?_toList]; exact hu
end
/-- A pair between the steps. -/
structure PR (w : World) (o : Nat → Nat) (k cb rb : Nat) (L : List Tbl) (gv : Int) : Prop where
  cf : CF w o k cb L gv
  rf : RF w o (k + 1) rb L gv
  gi : GI L gv
/-- What a step leaves. -/
def StOut (w : World) (o : Nat → Nat) (b n k cb rb : Nat) (w' : World) : Prop := ∃ o' L' g', BE w' o' b (n + 500) ∧ PR w' o' k cb rb L' g' ∧ Ev (KS k) w o w' o'
theorem PQ.begin {w : World} {o : Nat → Nat} {Z : Nat → Prop} {b n k cb rb : Nat} {p : Opv} {L : List Tbl} {gv : Int} (be : BE w o b n) (pr : PR w o k cb rb L gv) (az : AZ Z w o) (ok : p.ok Z w) (hk : 20 ≤ k) (w0 : World) (hw0 : w0 = (w.alloc (.cells #[.pointer (some ⟨cb, 0, none⟩), .pointer (some ⟨rb, 0, none⟩)] 28)).alloc (.cells p.cel.toArray 45)) : PQ w o Z b n k cb rb w.heap.size p w0 (ext w o 5) L gv L gv := by
  have t0 : Tch (fun _ => False) w w0 := by rw [hw0]; exact (Tch.alloc _ _ _).allocR _
  have e := Ev.quiet (o := o) 5 t0
  obtain ⟨a1, a2⟩ := az.ev e (by omega)
  refine ⟨be.ev e (fun j _ _ => by omega), pr.cf.ev e (by omega), pr.rf.ev e (by omega), a1, ok.tch a2, e.mono (fun j hj => by unfold KS; omega), ?_, ?_, if_neg (by omega), if_neg (by omega)⟩
  · rw [hw0]; exact (Tch.alloc (fun _ => False) _ _).block _ (by simp) (fun h => h) |>.trans (alloc_new _ _)
  · rw [hw0, ← World.size_alloc]; exact alloc_new _ _
theorem PQ.out {w : World} {o : Nat → Nat} {Z : Nat → Prop} {b n m k cb rb N : Nat} {p : Opv} {W : World} {o' : Nat → Nat} {L : List Tbl} {g : Int} (q : PQ w o Z b m k cb rb N p W o' L g L g) (hg : GI L g) (hm : m ≤ n + 500) : StOut w o b n k cb rb W := ⟨o', L, g, q.be.mono hm, ⟨q.cf, q.rf, hg⟩, q.ev⟩
end Go.Proofs.Ytolamjipigfocaa
