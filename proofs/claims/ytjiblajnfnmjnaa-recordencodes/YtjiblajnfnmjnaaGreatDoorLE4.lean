import Derived.Test.YtjiblajnfnmjnaaGreatDoorLE1
set_option maxHeartbeats 8000000
set_option maxRecDepth 100000
namespace Go.Proofs.YtjiblajnfnmjnaaGreatDoor.C
open Go.RowKit Go Go.Sort
def LRow (W : World) (base : Nat) (l : List Val) (v : Value) : Prop := (l = [] ∧ v = .slice none 0 0) ∨ MR W base l v
def LCol (W : World) (base : Nat) (l : List Col) (v : Value) : Prop := (l = [] ∧ v = .slice none 0 0) ∨ ML W base l v
theorem LRow.shape {W : World} {base : Nat} {l : List Val} {v : Value} (h : LRow W base l v) : ∃ ao c, v = .slice ao l.length c ∧ (ao = none → l = [] ∧ c = 0) := by
  rcases h with ⟨rfl, rfl⟩ | ⟨g, cap, cur, rfl, _⟩
  · exact ⟨none, 0, rfl, fun _ => ⟨rfl, rfl⟩⟩
  · exact ⟨_, _, rfl, fun h => by cases h⟩
theorem LCol.shape {W : World} {base : Nat} {l : List Col} {v : Value} (h : LCol W base l v) : ∃ ao c, v = .slice ao l.length c ∧ (ao = none → l = [] ∧ c = 0) := by
  rcases h with ⟨rfl, rfl⟩ | ⟨g, cap, cur, rfl, _⟩
  · exact ⟨none, 0, rfl, fun _ => ⟨rfl, rfl⟩⟩
  · exact ⟨_, _, rfl, fun h => by cases h⟩
theorem LRow.tch {S : Nat → Prop} {W W' : World} {base base' : Nat} {l : List Val} {v : Value} (h : LRow W base l v) (hb : base' ≤ base) (t : Tch S W W') (hS : ∀ i, base ≤ i → ¬ S i) : LRow W' base' l v := by
  rcases h with h | ⟨g, cap, cur, e, h1, h2, h3, h4⟩
  · exact Or.inl h
  · exact Or.inr ⟨g, cap, cur, e, by omega, h2, (t.block g (blk_lt h3) (hS g h1)).trans h3, h4⟩
theorem LCol.tch {S : Nat → Prop} {W W' : World} {base base' : Nat} {l : List Col} {v : Value} (h : LCol W base l v) (hb : base' ≤ base) (t : Tch S W W') (hS : ∀ i, base ≤ i → ¬ S i) : LCol W' base' l v := by
  rcases h with h | ⟨g, cap, cur, e, h1, h2, h3, h4⟩
  · exact Or.inl h
  · exact Or.inr ⟨g, cap, cur, e, by omega, h2, (t.block g (blk_lt h3) (hS g h1)).trans h3, h4⟩
theorem LCol.own {S : Nat → Prop} {W W' : World} {base base' : Nat} {l : List Col} {v : Value} (h : LCol W base l v) (hb : base' ≤ base) (t : Tch S W W') (hS : ∀ i, v.ownBlock = some i → ¬ S i) : LCol W' base' l v := by
  rcases h with h | ⟨g, cap, cur, e, h1, h2, h3, h4⟩
  · exact Or.inl h
  · exact Or.inr ⟨g, cap, cur, e, by omega, h2, (t.block g (blk_lt h3) (hS g (by rw [e]; rfl))).trans h3, h4⟩
theorem sl_cells {w : World} {ad : Addr} {cs : List Value} (h : SL w (some ad) cs) : ∀ j u, cs[j]? = some u → w.cell? (ad.add j) = some u := fun j u hu => by
  have hne : cs ≠ [] := fun e => by rw [e] at hu; simp at hu
  obtain ⟨g, o, e, ha⟩ := h hne
  injection e with e
  subst e
  rw [add_plain]; exact ha j u hu
theorem lentRow_all (l : List Val) (ao : Option Addr) (c : Nat) (w : World) (hsl : SL w ao (vcl l)) (hno : ao = none → c = 0) (hlen : l.length * 32 ≤ 140737488351232) :
    Calls Tryz.prog 42 #[.slice ao l.length c] w fun x w' => (∃ v, x = .returned v ∧ LRow w' w.heap.size l v) ∧ Tch (fun _ => False) w w' := by
  rcases ao with _ | ad
  · have hl : l = [] := by
      by_cases h : vcl l = []
      · have := vcl_len l
        rw [h] at this
        exact List.length_eq_zero_iff.1 (by simp at this; omega)
      · obtain ⟨g, o, e, _⟩ := hsl h; cases e
    subst hl
    rw [hno rfl]
    refine (lentRow_nil w).mono ?_
    rintro x w' ⟨rfl, rfl⟩
    exact ⟨⟨_, rfl, Or.inl ⟨rfl, rfl⟩⟩, Tch.refl _ _⟩
  · refine (lentRow_any l ad c w (sl_cells hsl) hlen).mono ?_
    rintro x w' ⟨⟨v, rfl, hv⟩, t⟩
    exact ⟨⟨v, rfl, Or.inr hv⟩, t⟩
theorem lentTable_all (t : Tbl) (ao : Option Addr) (c : Nat) (w : World) (hsl : SL w ao (ccl t.cols)) (hno : ao = none → t.cols = [] ∧ c = 0) (hlen : t.cols.length * 32 ≤ 140737488351232) :
    Calls Tryz.prog 43 #[tA t.id t.ver t.nm (.slice ao t.cols.length c) t.key] w fun x w' => (∃ v, x = .returned (tA t.id t.ver t.nm v t.key) ∧ LCol w' w.heap.size t.cols v) ∧ Tch (fun _ => False) w w' := by
  rcases ao with _ | ad
  · obtain ⟨h1, h2⟩ := hno rfl
    rw [h1, h2]
    refine (lentTable_nil t w).mono ?_
    rintro x w' ⟨rfl, t'⟩
    exact ⟨⟨_, rfl, Or.inl ⟨rfl, rfl⟩⟩, t'⟩
  · refine (lentTable_any t ad c w (sl_cells hsl) hlen).mono ?_
    rintro x w' ⟨⟨v, rfl, hv⟩, t⟩
    exact ⟨⟨v, rfl, Or.inr hv⟩, t⟩
def mkTb : Tbl × Value := (⟨-7, 0, ⟨#[]⟩, [], 0⟩, .slice none 0 0)
def LTab (W : World) (base : Nat) (P : List (Tbl × Value)) (v : Value) : Prop := (P = [] ∧ v = .slice none 0 0) ∨ ∃ g cap cur, v = .slice (some ⟨g, 0, none⟩) P.length cap ∧ base ≤ g ∧ P.length + 1 ≤ cap ∧ W.heap[g]? = some (.cells cur 29 (0, 0)) ∧ cur.toList.take ((P.length + 1) * 5) = tcl (P ++ [mkTb])
structure LW (W : World) (base : Nat) (r : Rc) (s : Sk) : Prop where
  o : LRow W base r.o (.slice s.oo r.o.length s.oc)
  n : LRow W base r.n (.slice s.no r.n.length s.nc)
  c : LCol W base r.tb.cols (.slice s.co r.tb.cols.length s.cc)
  eq : s.P.map Prod.fst = r.tbs
  t : LTab W base s.P (.slice s.to s.P.length s.tc)
  p : ∀ i (hi : i < s.P.length), LCol W base s.P[i].1.cols s.P[i].2
abbrev boxR (r : Rc) (o n c t : Value) : Array Value := #[.int .i64 r.k, .int .i64 r.x, .int .i64 r.p, .int .i64 r.t, o, n, .string r.nm, .int .i64 r.org, .int .i64 r.tb.id, .int .i64 r.tb.ver, .string r.tb.nm, c, .int .i64 r.tb.key, t]
abbrev zeroR : Array Value := #[.int .i64 0, .int .i64 0, .int .i64 0, .int .i64 0, .slice none 0 0, .slice none 0 0, .string ⟨#[]⟩, .int .i64 0, .int .i64 0, .int .i64 0, .string ⟨#[]⟩, .slice none 0 0, .int .i64 0, .slice none 0 0]
structure BB (W : World) (B : Nat) (r : Rc) (o n c t : Value) : Prop where
  b : W.heap[B]? = some (.cells (boxR r o n c t) 37 (0, 0))
  z : W.heap[B + 1]? = some (.cells zeroR 37 (0, 0))
theorem BB.no {S : Nat → Prop} {W W' : World} {B : Nat} {r : Rc} {o n c t : Value} (h : BB W B r o n c t) (q : Tch S W W') (hS : ∀ i, S i → B + 1 < i) : BB W' B r o n c t :=
  ⟨(q.block _ (blk_lt h.b) (fun e => by have := hS _ e; omega)).trans h.b, (q.block _ (blk_lt h.z) (fun e => by have := hS _ e; omega)).trans h.z⟩
theorem BB.set {W : World} {B : Nat} {r : Rc} {o n c t : Value} (h : BB W B r o n c t) (i : Nat) (v : Value) {o' n' c' t' : Value} (e : (boxR r o n c t).setIfInBounds i v = boxR r o' n' c' t') : BB (W.setCell ⟨B, i, none⟩ v) B r o' n' c' t' :=
  ⟨by rw [blk_set h.b, e], by rw [Below.heap_setCell _ _ _ _ (by show B + 1 ≠ B; omega)]; exact h.z⟩
theorem BB.put4 {W : World} {B : Nat} {r : Rc} {o n c t : Value} (h : BB W B r o n c t) (v : Value) : BB (W.setCell ⟨B, 4, none⟩ v) B r v n c t := h.set 4 v rfl
theorem BB.put5 {W : World} {B : Nat} {r : Rc} {o n c t : Value} (h : BB W B r o n c t) (v : Value) : BB (W.setCell ⟨B, 5, none⟩ v) B r o v c t := h.set 5 v rfl
theorem BB.put13 {W : World} {B : Nat} {r : Rc} {o n c t : Value} (h : BB W B r o n c t) (v : Value) : BB (W.setCell ⟨B, 13, none⟩ v) B r o n c v := h.set 13 v rfl
theorem BB.put8 {W : World} {B : Nat} {r : Rc} {o n c t : Value} (h : BB W B r o n c t) (v : Value) : BB (((((W.setCell ⟨B, 8, none⟩ (.int .i64 r.tb.id)).setCell ⟨B, 9, none⟩ (.int .i64 r.tb.ver)).setCell ⟨B, 10, none⟩ (.string r.tb.nm)).setCell ⟨B, 11, none⟩ v).setCell ⟨B, 12, none⟩ (.int .i64 r.tb.key)) B r o n v t :=
  ((((h.set 8 (.int .i64 r.tb.id) (o' := o) (n' := n) (c' := c) (t' := t) rfl).set 9 (.int .i64 r.tb.ver) (o' := o) (n' := n) (c' := c) (t' := t) rfl).set 10 (.string r.tb.nm) (o' := o) (n' := n) (c' := c) (t' := t) rfl).set 11 v (o' := o) (n' := n) (c' := v) (t' := t) rfl).set 12 (.int .i64 r.tb.key) rfl
theorem BB.cells {W : World} {B : Nat} {r : Rc} {o n c t : Value} (h : BB W B r o n c t) : W.cell? ⟨B, 0, none⟩ = some (.int .i64 r.k) ∧ W.cell? ⟨B, 1, none⟩ = some (.int .i64 r.x) ∧ W.cell? ⟨B, 2, none⟩ = some (.int .i64 r.p) ∧ W.cell? ⟨B, 3, none⟩ = some (.int .i64 r.t) ∧ W.cell? ⟨B, 4, none⟩ = some (o) ∧ W.cell? ⟨B, 5, none⟩ = some (n) ∧ W.cell? ⟨B, 6, none⟩ = some (.string r.nm) ∧ W.cell? ⟨B, 7, none⟩ = some (.int .i64 r.org) ∧ W.cell? ⟨B, 8, none⟩ = some (.int .i64 r.tb.id) ∧ W.cell? ⟨B, 9, none⟩ = some (.int .i64 r.tb.ver) ∧ W.cell? ⟨B, 10, none⟩ = some (.string r.tb.nm) ∧ W.cell? ⟨B, 11, none⟩ = some (c) ∧ W.cell? ⟨B, 12, none⟩ = some (.int .i64 r.tb.key) ∧ W.cell? ⟨B, 13, none⟩ = some (t) :=
  ⟨blk_cell h.b 0, blk_cell h.b 1, blk_cell h.b 2, blk_cell h.b 3, blk_cell h.b 4, blk_cell h.b 5, blk_cell h.b 6, blk_cell h.b 7, blk_cell h.b 8, blk_cell h.b 9, blk_cell h.b 10, blk_cell h.b 11, blk_cell h.b 12, blk_cell h.b 13⟩
theorem BB.froz {W : World} {B : Nat} {r : Rc} {o n c t : Value} (h : BB W B r o n c t) (i : Nat) : W.frozen? ⟨B, i, none⟩ = false := blk_frozen h.b i
theorem box_one (r : Rc) (a b c d : Option Addr) (l1 l2 l3 l4 c1 c2 c3 c4 : Nat) : (boxR r (.slice a l1 c1) (.slice b l2 c2) (.slice c l3 c3) (.slice d l4 c4)).all (·.oneCell') = true := by simp [Value.oneCell']
theorem siz_rec : (Tryz.prog.info? 37).map (·.size) = some 14 := by kernel_rfl
theorem tch_setRowR {S : Nat → Prop} {w w' : World} (h : Tch S w w') (g : Nat) (cs : Array Value) (hg : S g) : Tch S w (w'.setRow g cs) :=
  ⟨h.os, h.tape, h.output, by rw [setRow_size]; exact h.size, fun k hk hn => (setRow_other w' g k cs (fun e => hn (by rw [e]; exact hg))).trans (h.block k hk hn)⟩
theorem LCol.lt {W : World} {base : Nat} {l : List Col} {v : Value} (h : LCol W base l v) {g : Nat} (e : v.ownBlock = some g) : base ≤ g ∧ g < W.heap.size := by
  rcases h with ⟨_, rfl⟩ | ⟨g', cap, cur, rfl, h1, h2, h3, h4⟩
  · cases e
  · injection e with e
    subst e
    exact ⟨h1, blk_lt h3⟩
structure LO (W : World) (base : Nat) (v : Value) (Q : List (Tbl × Value)) : Prop where
  own : W.ownsRow base 29 5 v Q.length (tcl Q)
  col : ∀ i (hi : i < Q.length), LCol W base Q[i].1.cols Q[i].2
  sep : ∀ i (hi : i < Q.length) g, Q[i].2.ownBlock = some g → v.ownBlock ≠ some g
theorem LO.nil (W : World) (base : Nat) : LO W base (.slice none 0 0) [] := ⟨World.ownsRow_nil _ _ _ _, fun i hi => by simp at hi, fun i hi => by simp at hi⟩
theorem LO.no {W W' : World} {base : Nat} {v : Value} {Q : List (Tbl × Value)} (h : LO W base v Q) (t : Tch (fun _ => False) W W') : LO W' base v Q :=
  ⟨own_tch h.own t (fun _ _ h => h), fun i hi => (h.col i hi).own (Nat.le_refl _) t (fun _ _ h => h), h.sep⟩
theorem LO.snoc {W w1 : World} {base M : Nat} {tv tv' : Value} {Q : List (Tbl × Value)} (h : LO W base tv Q) {t : Tbl} {v : Value} (hv : LCol W M t.cols v) (hM : base ≤ M) (hlt : ∀ g, tv.ownBlock = some g → g < M)
    (hgr : W.grownBy w1 tv.ownBlock) (hown : w1.ownsRow base 29 5 tv' (Q.length + 1) (tcl (Q ++ [(t, v)]))) (hat : tv'.ownBlock = tv.ownBlock ∨ tv'.ownBlock = some W.heap.size) : LO w1 base tv' (Q ++ [(t, v)]) := by
  have T := grown_at (Tch.refl (fun _ => False) W) hgr
  have hget : ∀ i (hi : i < (Q ++ [(t, v)]).length), (∃ hj : i < Q.length, (Q ++ [(t, v)])[i] = Q[i]) ∨ (i = Q.length ∧ (Q ++ [(t, v)])[i] = (t, v)) := fun i hi => by
    by_cases hj : i < Q.length
    · exact Or.inl ⟨hj, List.getElem_append_left hj⟩
    · have : i = Q.length := by simp at hi; omega
      subst this
      exact Or.inr ⟨rfl, by simp⟩
  refine ⟨by rw [List.length_append]; exact hown, fun i hi => ?_, fun i hi g e e2 => ?_⟩
  · rcases hget i hi with ⟨hj, e⟩ | ⟨_, e⟩
    · rw [e]; exact (h.col i hj).own (Nat.le_refl _) T (fun g e e2 => h.sep i hj g e e2)
    · rw [e]; exact hv.own hM T (fun g e e2 => by have := hlt g e2; have := (hv.lt e).1; omega)
  · rcases hat with ha | ha
    · rw [ha] at e2
      rcases hget i hi with ⟨hj, e3⟩ | ⟨_, e3⟩
      · rw [e3] at e; exact h.sep i hj g e e2
      · rw [e3] at e; have := hlt g e2; have := (hv.lt e).1; omega
    · rw [ha] at e2
      injection e2 with e2
      rcases hget i hi with ⟨hj, e3⟩ | ⟨_, e3⟩
      · rw [e3] at e; have := ((h.col i hj).lt e).2; omega
      · rw [e3] at e; have := (hv.lt e).2; omega
structure NB (s : Sk) : Prop where
  o : s.oo = none → s.oc = 0
  n : s.no = none → s.nc = 0
  t : s.to = none → s.tc = 0
structure SZ (r : Rc) : Prop where
  o : r.o.length * 32 ≤ 140737488351232
  n : r.n.length * 32 ≤ 140737488351232
  c : r.tb.cols.length * 32 ≤ 140737488351232
  t : r.tbs.length * 64 ≤ 140737488351232
  p : ∀ t ∈ r.tbs, t.cols.length * 32 ≤ 140737488351232
theorem mkt_news (W : World) : ∀ j u, (tcl [mkTb])[j]? = some u → (W.alloc (.cells #[.int .i64 (-7), .int .i64 0, .string ⟨#[]⟩, .slice none 0 0, .int .i64 0] 29)).cell? ((⟨W.heap.size, 0, none⟩ : Addr).add j) = some u := World.news_of_block (alloc_new W (.cells #[.int .i64 (-7), .int .i64 0, .string ⟨#[]⟩, .slice none 0 0, .int .i64 0] 29))
theorem mkt_one : ∀ u ∈ tcl [mkTb], u.oneCell' = true := by
  intro u hu
  simp only [tcl, mkTb, tcs, List.flatMap_cons, List.flatMap_nil, List.append_nil, List.mem_cons, List.not_mem_nil, or_false] at hu
  rcases hu with rfl | rfl | rfl | rfl | rfl <;> rfl
theorem lent_any (r : Rc) (s : Sk) (w : World) (h : RW w (fun _ => False) r s) (hnb : NB s) (hsz : SZ r) :
    Calls Tryz.prog 17 #[rV r s] w fun x w' => (∃ s', x = .returned (rV r s') ∧ LW w' w.heap.size r s') ∧ Tch (fun _ => False) w w' := by
  obtain ⟨w0, hw0⟩ : ∃ w0, w0 = (w.alloc (.cells (boxR r (.slice s.oo r.o.length s.oc) (.slice s.no r.n.length s.nc) (.slice s.co r.tb.cols.length s.cc) (.slice s.to s.P.length s.tc)) 37)).alloc (.cells zeroR 37) := ⟨_, rfl⟩
  obtain ⟨B, hB⟩ : ∃ B, B = w.heap.size := ⟨_, rfl⟩
  have t0 : Tch (fun _ => False) w w0 := by rw [hw0]; exact (Tch.alloc _ _ _).allocR _
  have z0 : B + 2 = w0.heap.size := by rw [hw0, hB, World.size_alloc, World.size_alloc]
  have B0 : BB w0 B r (.slice s.oo r.o.length s.oc) (.slice s.no r.n.length s.nc) (.slice s.co r.tb.cols.length s.cc) (.slice s.to s.P.length s.tc) := by
    rw [hw0, hB]
    refine ⟨((Tch.alloc (fun _ => False) _ _).block _ (by rw [World.size_alloc]; omega) (fun h => h)).trans (heap_new w _), ?_⟩
    have e := World.size_alloc w (.cells (boxR r (.slice s.oo r.o.length s.oc) (.slice s.no r.n.length s.nc) (.slice s.co r.tb.cols.length s.cc) (.slice s.to s.P.length s.tc)) 37)
    rw [← e]
    exact heap_new _ _
  have HW0 : Hid _ := hw0
  have HRW : Hid (RW w (fun _ => False) r s) := h
  have HNB : Hid (NB s) := hnb
  have HSZ : Hid (SZ r) := hsz
  have HT0 : Hid (Tch (fun _ => False) w w0) := t0
  have HB : Hid (B = w.heap.size) := hB
  have q1 := lentRow_all r.o s.oo s.oc w0 ((h.o).no t0) hnb.o hsz.o
  have HB0 : Hid (BB w0 B r (.slice s.oo r.o.length s.oc) (.slice s.no r.n.length s.nc) (.slice s.co r.tb.cols.length s.cc) (.slice s.to s.P.length s.tc)) := B0
  clear h hnb hsz hw0 t0 B0 hB
  unfold rV rA
  go_enter Tryz.func17, Tryz.ntmps17
  go_wp2_with fail
  rw [← HW0.out, ← HB.out]
  refine q1.mono ?_
  rintro x w1 ⟨⟨v1, rfl, h1⟩, t1⟩
  clear q1
  obtain ⟨oo1, oc1, hv1, hn1⟩ := h1.shape
  subst hv1
  have B1 := HB0.out.no t1 (fun _ h => h.elim)
  have y4 := B1.cells.2.2.2.2.1
  have y5 := B1.cells.2.2.2.2.2.1
  have f4 := B1.froz 4
  obtain ⟨W1, hW1⟩ : ∃ W1, W1 = w1.setCell ⟨B, 4, none⟩ (.slice oo1 r.o.length oc1) := ⟨_, rfl⟩
  have HW1 : Hid _ := hW1
  have BW1 : BB W1 B r (.slice oo1 r.o.length oc1) (.slice s.no r.n.length s.nc) (.slice s.co r.tb.cols.length s.cc) (.slice s.to s.P.length s.tc) := by rw [hW1]; exact B1.put4 _
  have T1 : Tch (fun i => i = B) w0 W1 := by rw [hW1]; exact (t1.mono (fun _ _ h => h.elim)).setCellR ⟨B, 4, none⟩ _ rfl
  have HL1 : Hid (LRow W1 w0.heap.size r.o (.slice oo1 r.o.length oc1)) := h1.tch (Nat.le_refl _) (by rw [hW1]; exact (Tch.refl (fun i => i = B) w1).setCellR ⟨B, 4, none⟩ _ rfl) (fun i h e => by omega)
  have HT1 : Hid (Tch (fun i => i = B) w0 W1) := T1
  have HTw1 : Hid (Tch (fun _ => False) w W1) := (HT0.out.mono (fun _ _ h => h.elim)).trans T1 (fun i h e => by have := HB.out; omega)
  have HB1 : Hid _ := BW1
  have q2 := lentRow_all r.n s.no s.nc W1 (HRW.out.n.no HTw1.out) HNB.out.n HSZ.out.n
  clear B1 h1 t1 hW1 T1 BW1
  go_wp2_with fail
  rw [← HW1.out]
  clear y4 y5 f4
  refine q2.mono ?_
  rintro x w2 ⟨⟨v2, rfl, h2⟩, t2⟩
  clear q2
  obtain ⟨no1, nc1, hv2, hn2⟩ := h2.shape
  subst hv2
  have B2 := HB1.out.no t2 (fun _ h => h.elim)
  have y5 := B2.cells.2.2.2.2.2.1
  obtain ⟨-, -, -, -, -, -, -, -, y8, y9, y10, y11, y12, -⟩ := B2.cells
  have f5 := B2.froz 5
  obtain ⟨W2, hW2⟩ : ∃ W2, W2 = w2.setCell ⟨B, 5, none⟩ (.slice no1 r.n.length nc1) := ⟨_, rfl⟩
  have HW2 : Hid _ := hW2
  have BW2 : BB W2 B r (.slice oo1 r.o.length oc1) (.slice no1 r.n.length nc1) (.slice s.co r.tb.cols.length s.cc) (.slice s.to s.P.length s.tc) := by rw [hW2]; exact B2.put5 _
  have T2 : Tch (fun i => i = B) W1 W2 := by rw [hW2]; exact (t2.mono (fun _ _ h => h.elim)).setCellR ⟨B, 5, none⟩ _ rfl
  have z1 : w0.heap.size ≤ W1.heap.size := HT1.out.size
  have HL2 : Hid (LRow W2 w0.heap.size r.o (.slice oo1 r.o.length oc1) ∧ LRow W2 w0.heap.size r.n (.slice no1 r.n.length nc1)) := ⟨HL1.out.tch (Nat.le_refl _) T2 (fun i h e => by omega), h2.tch z1 (by rw [hW2]; exact (Tch.refl (fun i => i = B) w2).setCellR ⟨B, 5, none⟩ _ rfl) (fun i h e => by omega)⟩
  have HT2 : Hid (Tch (fun i => i = B) w0 W2) := HT1.out.trans' T2
  have HTw2 : Hid (Tch (fun _ => False) w W2) := (HT0.out.mono (fun _ _ h => h.elim)).trans HT2.out (fun i h e => by have := HB.out; omega)
  have HB2 : Hid _ := BW2
  have q3 := lentTable_all r.tb s.co s.cc W2 (HRW.out.tb.sl.no HTw2.out) HRW.out.tb.no HSZ.out.c
  clear B2 h2 t2 hW2 T2 BW2 HL1 HT1 HB1
  go_wp2_with fail
  rw [← HW2.out]
  clear y5 f5 y8 y9 y10 y11 y12
  refine q3.mono ?_
  rintro x w3 ⟨⟨v3, rfl, h3⟩, t3⟩
  clear q3
  obtain ⟨co1, cc1, hv3, hn3⟩ := h3.shape
  subst hv3
  have B3 := HB2.out.no t3 (fun _ h => h.elim)
  obtain ⟨-, -, -, -, -, -, -, -, y8, y9, y10, y11, y12, y13⟩ := B3.cells
  have f8 := B3.froz 8
  have f9 := B3.froz 9
  have f10 := B3.froz 10
  have f11 := B3.froz 11
  have f12 := B3.froz 12
  obtain ⟨W3, hW3⟩ : ∃ W3, W3 = ((((w3.setCell ⟨B, 8, none⟩ (.int .i64 r.tb.id)).setCell ⟨B, 9, none⟩ (.int .i64 r.tb.ver)).setCell ⟨B, 10, none⟩ (.string r.tb.nm)).setCell ⟨B, 11, none⟩ (.slice co1 r.tb.cols.length cc1)).setCell ⟨B, 12, none⟩ (.int .i64 r.tb.key) := ⟨_, rfl⟩
  have HW3 : Hid _ := hW3
  have BW3 : BB W3 B r (.slice oo1 r.o.length oc1) (.slice no1 r.n.length nc1) (.slice co1 r.tb.cols.length cc1) (.slice s.to s.P.length s.tc) := by rw [hW3]; exact B3.put8 _
  have t3' : Tch (fun i => i = B) w3 W3 := by rw [hW3]; exact (((((Tch.refl (fun i => i = B) w3).setCellR ⟨B, 8, none⟩ _ rfl).setCellR ⟨B, 9, none⟩ _ rfl).setCellR ⟨B, 10, none⟩ _ rfl).setCellR ⟨B, 11, none⟩ _ rfl).setCellR ⟨B, 12, none⟩ _ rfl
  have T3 : Tch (fun i => i = B) W2 W3 := (t3.mono (fun _ _ h => h.elim)).trans' t3'
  have z2 : w0.heap.size ≤ W2.heap.size := HT2.out.size
  have HL3 : Hid (LRow W3 w0.heap.size r.o (.slice oo1 r.o.length oc1) ∧ LRow W3 w0.heap.size r.n (.slice no1 r.n.length nc1) ∧ LCol W3 w0.heap.size r.tb.cols (.slice co1 r.tb.cols.length cc1)) := ⟨HL2.out.1.tch (Nat.le_refl _) T3 (fun i h e => by omega), HL2.out.2.tch (Nat.le_refl _) T3 (fun i h e => by omega), h3.tch z2 t3' (fun i h e => by omega)⟩
  have HT3 : Hid (Tch (fun i => i = B) w0 W3) := HT2.out.trans' T3
  have HTw3 : Hid (Tch (fun _ => False) w W3) := (HT0.out.mono (fun _ _ h => h.elim)).trans HT3.out (fun i h e => by have := HB.out; omega)
  have HB3 : Hid _ := BW3
  have HBw : Hid _ := B3
  clear B3 h3 t3 hW3 T3 BW3 HL2 HT2 HB2 t3' z1 z2
  rcases hto : s.to with _ | ad
  · have hP : s.P = [] := by
      by_cases hp : s.P = []
      · exact hp
      · obtain ⟨g, o, e, _⟩ := HRW.out.tbs.sl (tcl_nil hp)
        rw [hto] at e; cases e
    have htc := HNB.out.t hto
    have hl0 : s.P.length = 0 := by rw [hP]; rfl
    rw [hto, htc, hl0] at HB3 HBw
    rw [htc, hl0]
    have HQ : Hid (s.P = []) := hP
    clear hto htc hP hl0
    go_simp
    iterate 12 (first | go_values | go_skip | go_guarded | go_step | go_upon | go_in | go_back)
    rw [← HW3.out]
    clear y8 y9 y10 y11 y12 y13 f8 f9 f10 f11 f12
    obtain ⟨-, -, -, -, -, -, -, -, -, -, -, -, -, y13⟩ := HB3.out.cells
    iterate 19 (first | go_values | go_skip | go_guarded | go_step | go_upon | go_in | go_back)
    refine wpList_load_row rfl 37 (.tmp 1) rfl B rfl 37 (boxR r (.slice oo1 r.o.length oc1) (.slice no1 r.n.length nc1) (.slice co1 r.tb.cols.length cc1) (.slice none 0 0)) (0, 0) _ HB3.out.b Tryz.underlying37 rfl siz_rec ?_
    refine wpList_store_row rfl 37 (.tmp 2) (.tmp 44) rfl (B + 1) (boxR r (.slice oo1 r.o.length oc1) (.slice no1 r.n.length nc1) (.slice co1 r.tb.cols.length cc1) (.slice none 0 0)) rfl rfl 37 zeroR HB3.out.z siz_rec rfl (box_one ..) ?_
    go_wp2_with fail
    have hrs : Tryz.f17.results = #[.cell 2 37] := by kernel_rfl
    refine bodyPost_ret (results_cell_row hrs _ _ (B + 1) 37 (boxR r (.slice oo1 r.o.length oc1) (.slice no1 r.n.length nc1) (.slice co1 r.tb.cols.length cc1) (.slice none 0 0)) (0, 0) _ rfl (setRow_heap _ _ _ _ _ _ HB3.out.z) Tryz.underlying37 rfl siz_rec) rfl ⟨⟨⟨oo1, oc1, no1, nc1, co1, cc1, [], none, 0⟩, rfl, ?_⟩, ?_⟩
    · have T4 : Tch (fun i => i = B + 1) W3 (W3.setRow (B + 1) (boxR r (.slice oo1 r.o.length oc1) (.slice no1 r.n.length nc1) (.slice co1 r.tb.cols.length cc1) (.slice none 0 0))) := tch_setRowR (Tch.refl _ _) _ _ rfl
      have hbz : B = w.heap.size := HB.out
      refine ⟨HL3.out.1.tch (by omega) T4 (fun i h e => by omega), HL3.out.2.1.tch (by omega) T4 (fun i h e => by omega), HL3.out.2.2.tch (by omega) T4 (fun i h e => by omega), ?_, Or.inl ⟨rfl, rfl⟩, fun i hi => by simp at hi⟩
      rw [← HRW.out.eq, HQ.out]
    · have hbz : B = w.heap.size := HB.out
      exact ge_new (tch_setRowR (HTw3.out.mono (fun _ _ h => h.elim)) _ _ (by show w.heap.size ≤ B + 1; omega))
  · obtain ⟨n, hn⟩ : ∃ n, n = s.P.length := ⟨_, rfl⟩
    rw [hto, ← hn] at HB3 HBw y13
    rw [← hn]
    have hTL : TL W3 (fun _ => False) s.to s.P := HRW.out.tbs.tch HTw3.out (fun _ _ h => h)
    have HTL : Hid (∀ W, Tch (fun _ => False) W3 W → TL W (fun _ => False) s.to s.P) := fun W t => hTL.tch t (fun _ _ h => h)
    have HN : Hid (n = s.P.length ∧ s.to = some ad) := ⟨hn, hto⟩
    have HPE : Hid (s.P.map Prod.fst = r.tbs) := HRW.out.eq
    have hnn : n ≤ 2199023255488 := by
      have h1 := HSZ.out.t
      have h2 : r.tbs.length = s.P.length := by rw [← HRW.out.eq, List.length_map]
      omega
    obtain ⟨i0, hi0, hz0, hz1, hz2⟩ := info_parts info_tbl
    have HI : Hid (i0.zero = some (.agg #[.int .i64 0, .int .i64 0, .string ⟨#[]⟩, .slice none 0 0, .int .i64 0]) ∧ i0.size = 5 ∧ i0.bytes = 64) := ⟨hz0, hz1, hz2⟩
    clear hto hn hTL hz0 hz1 hz2
    go_simp
    iterate 12 (first | go_values | go_skip | go_guarded | go_step | go_upon | go_in | go_back)
    rw [← HW3.out]
    clear y8 y9 y10 y11 y12 y13 f8 f9 f10 f11 f12
    obtain ⟨-, -, -, -, -, -, -, -, -, -, -, -, -, y13⟩ := HB3.out.cells
    go_wp2_with fail
    go_loopw [3, 4] (fun v iv wr => ∃ (k : Nat) (Q : List (Tbl × Value)), iv = .int .i64 k ∧ k ≤ n ∧ Hid (Q.map Prod.fst = r.tbs.take k ∧ Q.length = k) ∧ Hid (LO wr W3.heap.size v Q) ∧ Hid (Tch (fun _ => False) W3 wr)) (fun _ iv _ => n - (intOf iv).toNat)
    case atStart => exact ⟨0, [], rfl, Nat.zero_le _, ⟨rfl, rfl⟩, LO.nil _ _, Tch.refl _ _⟩
    case round =>
      obtain ⟨k, Q, rfl, hk, HQ, HLO, HTr⟩ := hrel
      obtain ⟨ho, hc, hv⟩ := row_slice HLO.out.own
      rw [HQ.out.2] at hv
      subst hv
      clear y13
      have HBr : Hid (BB wr B r (.slice oo1 r.o.length oc1) (.slice no1 r.n.length nc1) (.slice co1 r.tb.cols.length cc1) (.slice (some ad) n s.tc)) := HB3.out.no HTr.out (fun _ h => h.elim)
      obtain ⟨-, -, -, -, -, -, -, -, -, -, -, -, -, y13⟩ := HBr.out.cells
      have zr : W3.heap.size ≤ wr.heap.size := HTr.out.size
      by_cases hlt : (k : Int) < n
      · have hkP : k < s.P.length := by have := HN.out.1; omega
        have hTLr := HTL.out wr HTr.out
        obtain ⟨g, o, e, c0, c1, c2, c3, c4⟩ := hTLr.at k hkP
        obtain ⟨co, cc, hck⟩ := hTLr.col k hkP
        obtain ⟨pp, hpp⟩ : ∃ pp, pp = s.P[k] := ⟨_, rfl⟩
        rw [← hpp] at c0 c1 c2 c3 c4 hck
        rw [hck.eq] at c3
        obtain ⟨x, hx⟩ : ∃ x, x = pp.1 := ⟨_, rfl⟩
        rw [← hx] at c0 c1 c2 c3 c4
        have e' : ad = ⟨g, o, none⟩ := by rw [HN.out.2] at e; injection e
        subst e'
        have hxm : x ∈ r.tbs := by rw [hx, hpp, ← HPE.out]; exact List.mem_map_of_mem (List.getElem_mem hkP)
        have hx? : r.tbs[k]? = some x := by rw [← HPE.out, List.getElem?_map, List.getElem?_eq_getElem hkP, hx, hpp]; rfl
        have HTK : Hid (r.tbs.take (k + 1) = r.tbs.take k ++ [x]) := by
          obtain ⟨hkt, ek⟩ := List.getElem?_eq_some_iff.1 hx?
          show _ = _
          rw [(List.take_append_getElem hkt).symm, ek]
        have q := lentTable_all x co cc wr (by rw [hx]; exact hck.sl) (by rw [hx]; exact hck.no) (HSZ.out.p x hxm)
        clear hck hTLr hpp hx hxm hx? e
        go_wp2_with fail
        refine q.mono ?_
        rintro y w4 ⟨⟨v4, rfl, h4⟩, t4⟩
        obtain ⟨vo, vc, hv4, -⟩ := h4.shape
        subst hv4
        obtain ⟨wa, hwa⟩ : ∃ wa, wa = w4.alloc (.cells #[.int .i64 x.id, .int .i64 x.ver, .string x.nm, .slice vo x.cols.length vc, .int .i64 x.key] 29) := ⟨_, rfl⟩
        have ta : Tch (fun _ => False) wr wa := by rw [hwa]; exact t4.allocR _
        have HLa : Hid (LO wa W3.heap.size (.slice ho k hc) Q) := HLO.out.no ta
        have HOa : Hid (wa.ownsRow W3.heap.size 29 5 (.slice ho k hc) k (tcl Q)) := by show World.ownsRow ..; have h1 := HLa.out.own; rw [HQ.out.2] at h1; exact h1
        have HVa : Hid (LCol wa wr.heap.size x.cols (.slice vo x.cols.length vc)) := by show LCol ..; rw [hwa]; exact h4.own (Nat.le_refl _) (Tch.alloc (fun _ => False) _ _) (fun _ _ h => h)
        have HBL : Hid (∀ g, (Value.slice ho k hc).ownBlock = some g → W3.heap.size ≤ g ∧ g < wr.heap.size) := fun g e => HLO.out.own.lt g e
        have HNW : Hid (∀ j u, ([.int .i64 x.id, .int .i64 x.ver, .string x.nm, .slice vo x.cols.length vc, .int .i64 x.key] : List Value)[j]? = some u → wa.cell? ((⟨w4.heap.size, 0, none⟩ : Addr).add j) = some u) := by show ∀ _, _; rw [hwa]; exact World.news_of_block (alloc_new w4 _)
        have Hta : Hid (Tch (fun _ => False) W3 wa) := HTr.out.trans' ta
        have Hsz : Hid (W3.heap.size ≤ wa.heap.size) := Hta.out.size
        have Hwa : Hid _ := hwa
        clear hwa ta t4 h4 q c0 c1 c2 c3 c4 HLO y13
        go_wp2_with (at_builtin; have hwa := Hwa.out; rw [← hwa]; clear hwa; refine wpList_append_keeps _ rfl _ _ 35 rfl W3.heap.size 29 i0 (.agg #[.int .i64 0, .int .i64 0, .string ⟨#[]⟩, .slice none 0 0, .int .i64 0]) 5 64 Tryz.underlying35 hi0 HI.out.1 HI.out.2.1 HI.out.2.2 rfl (by decide) (.slice ho k hc) k (tcl Q) rfl HOa.out ⟨w4.heap.size, 0, none⟩ 1 1 [.int .i64 x.id, .int .i64 x.ver, .string x.nm, .slice vo x.cols.length vc, .int .i64 x.key] rfl rfl HNW.out (by simp [Value.oneCell']) (by unfold maxLen; omega) (by omega) Hsz.out ?_; intro v6 w6 hown6 hgr6 hat6 _)
        have HT6 : Hid (LO w6 W3.heap.size v6 (Q ++ [(x, .slice vo x.cols.length vc)])) := HLa.out.snoc HVa.out zr (fun g e => (HBL.out g e).2) hgr6 (by rw [HQ.out.2, tcl_append]; exact hown6) hat6
        have HTw6 : Hid (Tch (fun _ => False) W3 w6) := (Hta.out.mono (fun _ _ h => h.elim)).trans (grown_at (Tch.refl (fun _ => False) wa) hgr6) (fun i hi h => by have := (HBL.out i h).1; omega)
        have HQ6 : Hid ((Q ++ [(x, (.slice vo x.cols.length vc : Value))]).map Prod.fst = r.tbs.take (k + 1) ∧ (Q ++ [(x, (.slice vo x.cols.length vc : Value))]).length = k + 1) := by
          refine ⟨?_, by simp [HQ.out.2]⟩
          rw [List.map_append, HQ.out.1, HTK.out]; rfl
        obtain ⟨oo6, oc6, hov6⟩ := row_slice hown6
        subst hov6
        clear hown6 hgr6 hat6
        go_wp2_with fail
        go_roundw
        case rel => exact ⟨k + 1, _, by go_num, by omega, HQ6, HT6, HTw6⟩
        case measure => simp [intOf]; omega
      · have hke : k = n := by omega
        have HOr : Hid (wr.ownsRow W3.heap.size 29 5 (.slice ho k hc) k (tcl Q)) := by show World.ownsRow ..; have h1 := HLO.out.own; rw [HQ.out.2] at h1; exact h1
        have HKE : Hid (k = n) := hke
        clear hke
        go_wp2_with (at_builtin; refine wpList_append_own _ rfl _ _ 35 rfl W3.heap.size 29 i0 (.agg #[.int .i64 0, .int .i64 0, .string ⟨#[]⟩, .slice none 0 0, .int .i64 0]) 5 64 Tryz.underlying35 hi0 HI.out.1 HI.out.2.1 HI.out.2.2 rfl (by decide) (.slice ho k hc) k (tcl Q) rfl (HOr.out.alloc _) ⟨wr.heap.size, 0, none⟩ 1 1 (tcl [mkTb]) rfl rfl (mkt_news wr) mkt_one (by unfold maxLen; omega) (by omega) (by rw [World.size_alloc]; omega) ?_; intro v7 w7 hown7 hgr7 hnil7; clear hnil7; refine Hid.out ?_)
        unfold Hid
        obtain ⟨g, cap, cur, hv7, hg, hcap, -, hb7, htk⟩ := own_some hown7 (by omega)
        subst hv7
        have tw7 : Tch (fun i => W3.heap.size ≤ i) W3 w7 := ((HTr.out.mono (fun _ _ h => h.elim)).allocR _).trans' (grown_tch2 (b := W3.heap.size) hgr7 (fun g h => (HLO.out.own.lt g h).1))
        have tr7 : Tch (fun i => (Value.slice ho k hc).ownBlock = some i) wr w7 := grown_at (Tch.alloc _ _ _) hgr7
        have B7 : BB w7 B r (.slice oo1 r.o.length oc1) (.slice no1 r.n.length nc1) (.slice co1 r.tb.cols.length cc1) (.slice (some ad) n s.tc) := HB3.out.no tw7 (fun i h => by have := HT3.out.size; omega)
        obtain ⟨-, -, -, -, -, -, -, -, -, -, -, -, -, x13⟩ := B7.cells
        have f13 := B7.froz 13
        have hcp : (k : Int) ≤ cap := by omega
        obtain ⟨W8, hW8⟩ : ∃ W8, W8 = w7.setCell ⟨B, 13, none⟩ (.slice (some ⟨g, 0, none⟩) k cap) := ⟨_, rfl⟩
        have HW8 : Hid _ := hW8
        have HB8 : Hid (BB W8 B r (.slice oo1 r.o.length oc1) (.slice no1 r.n.length nc1) (.slice co1 r.tb.cols.length cc1) (.slice (some ⟨g, 0, none⟩) k cap)) := by show BB ..; rw [hW8]; exact B7.put13 _
        have t8 : Tch (fun i => i = B) w7 W8 := by rw [hW8]; exact Tch.setCell _ _ ⟨B, 13, none⟩ _ rfl
        have HT8 : Hid (Tch (fun i => W3.heap.size ≤ i ∨ i = B) W3 W8 ∧ Tch (fun i => (Value.slice ho k hc).ownBlock = some i ∨ i = B) wr W8) := ⟨(tw7.mono (fun _ _ h => Or.inl h)).trans' (t8.mono (fun _ _ h => Or.inr h)), (tr7.mono (fun _ _ h => Or.inl h)).trans' (t8.mono (fun _ _ h => Or.inr h))⟩
        have HG8 : Hid (W3.heap.size ≤ g ∧ k + 1 ≤ cap ∧ W8.heap[g]? = some (.cells cur 29 (0, 0)) ∧ cur.toList.take ((k + 1) * 5) = tcl (Q ++ [mkTb])) := by
          refine ⟨hg, hcap, (t8.block g (blk_lt hb7) (fun e => by have := HT3.out.size; omega)).trans hb7, ?_⟩
          rw [htk, tcl_append]
        clear hown7 hgr7 hb7 htk tw7 tr7 t8 B7 hW8 hg hcap HOr
        iterate 16 (first | go_values | go_skip | go_guarded | go_step | go_upon | go_in | go_back)
        rw [← HW8.out]
        clear x13 f13 y13
        iterate 4 (first | go_values | go_skip | go_guarded | go_step | go_upon | go_in | go_back)
        refine wpList_load_row rfl 37 (.tmp 1) rfl B rfl 37 (boxR r (.slice oo1 r.o.length oc1) (.slice no1 r.n.length nc1) (.slice co1 r.tb.cols.length cc1) (.slice (some ⟨g, 0, none⟩) k cap)) (0, 0) _ HB8.out.b Tryz.underlying37 rfl siz_rec ?_
        refine wpList_store_row rfl 37 (.tmp 2) (.tmp 44) rfl (B + 1) (boxR r (.slice oo1 r.o.length oc1) (.slice no1 r.n.length nc1) (.slice co1 r.tb.cols.length cc1) (.slice (some ⟨g, 0, none⟩) k cap)) rfl rfl 37 zeroR HB8.out.z siz_rec rfl (box_one ..) ?_
        go_wp2_with fail
        have hrs : Tryz.f17.results = #[.cell 2 37] := by kernel_rfl
        have hkQ := HQ.out.2
        subst hkQ
        refine bodyPost_ret (results_cell_row hrs _ _ (B + 1) 37 (boxR r (.slice oo1 r.o.length oc1) (.slice no1 r.n.length nc1) (.slice co1 r.tb.cols.length cc1) (.slice (some ⟨g, 0, none⟩) Q.length cap)) (0, 0) _ rfl (setRow_heap _ _ _ _ _ _ HB8.out.z) Tryz.underlying37 rfl siz_rec) rfl ⟨⟨⟨oo1, oc1, no1, nc1, co1, cc1, Q, some ⟨g, 0, none⟩, cap⟩, rfl, ?_⟩, ?_⟩
        · have z3 := HT3.out.size
          have hbz : B = w.heap.size := HB.out
          have T9 : Tch (fun i => i = B ∨ i = B + 1) W3 (W8.setRow (B + 1) (boxR r (.slice oo1 r.o.length oc1) (.slice no1 r.n.length nc1) (.slice co1 r.tb.cols.length cc1) (.slice (some ⟨g, 0, none⟩) Q.length cap))) := tch_setRowR (HT8.out.1.mono (fun i hi h => h.elim (fun h => absurd h (by omega)) Or.inl)) _ _ (Or.inr rfl)
          have TA : Tch (fun i => (Value.slice ho Q.length hc).ownBlock = some i ∨ i = B ∨ i = B + 1) wr (W8.setRow (B + 1) (boxR r (.slice oo1 r.o.length oc1) (.slice no1 r.n.length nc1) (.slice co1 r.tb.cols.length cc1) (.slice (some ⟨g, 0, none⟩) Q.length cap))) := tch_setRowR (HT8.out.2.mono (fun i hi h => h.elim Or.inl (fun h => Or.inr (Or.inl h)))) _ _ (Or.inr (Or.inr rfl))
          refine ⟨HL3.out.1.tch (by omega) T9 (fun i h e => by omega), HL3.out.2.1.tch (by omega) T9 (fun i h e => by omega), HL3.out.2.2.tch (by omega) T9 (fun i h e => by omega), ?_, Or.inr ⟨g, cap, cur, rfl, ?_, HG8.out.2.1, ?_, HG8.out.2.2.2⟩, fun i hi => ?_⟩
          · show Q.map Prod.fst = r.tbs
            rw [HQ.out.1, HKE.out, HN.out.1]
            refine List.take_of_length_le ?_
            rw [← HPE.out, List.length_map]; exact Nat.le_refl _
          · have := HG8.out.1; omega
          · rw [setRow_other _ _ _ _ (by have := HG8.out.1; omega)]; exact HG8.out.2.2.1
          · refine (HLO.out.col i hi).own (by omega) TA (fun g' e h => ?_)
            have hl := ((HLO.out.col i hi).lt e).1
            rcases h with h | h | h
            · exact HLO.out.sep i hi g' e h
            · omega
            · omega
        · have hbz : B = w.heap.size := HB.out
          have T9 : Tch (fun i => i = B ∨ i = B + 1) W3 (W8.setRow (B + 1) (boxR r (.slice oo1 r.o.length oc1) (.slice no1 r.n.length nc1) (.slice co1 r.tb.cols.length cc1) (.slice (some ⟨g, 0, none⟩) Q.length cap))) := tch_setRowR (HT8.out.1.mono (fun i hi h => h.elim (fun h => absurd h (by omega)) Or.inl)) _ _ (Or.inr rfl)
          exact (HTw3.out.mono (fun _ _ h => h.elim)).trans T9 (fun i hi h => by omega)
end Go.Proofs.YtjiblajnfnmjnaaGreatDoor.C
