import Derived.Test.YtmnhkgibplnnnaaUAsk
/- A merge of lists of any changes in the world. -/
namespace Go.Proofs.Ytmnhkgibplnnnaa
open Go.RowKit Go

/-- A block of a change's rows. -/
def Bk (c : Rc) (g : Nat) : Prop := (Value.slice c.oa c.ol c.oc).ownBlock = some g ∨ (Value.slice c.na c.nl c.nc).ownBlock = some g
theorem OwnC.lt {base : Nat} {w : World} {c : Rc} {a b : List Value} (h : OwnC base w c a b) {g : Nat} (hg : Bk c g) : base ≤ g ∧ g < w.heap.size := hg.elim (h.o.lt g) (h.n.lt g)
theorem OwnC.low {base base' : Nat} {w : World} {c : Rc} {a b : List Value} (h : OwnC base w c a b) (hb : base' ≤ base) : OwnC base' w c a b := ⟨own_low h.o hb, own_low h.n hb, h.ne⟩
/-- A row that holds h, which is c, and whose list goes on with u. -/
structure RB (D : Rc → List Value × List Value) (M : Nat) (w : World) (p b : Nat) (h c : Rc) (u : List Rc) : Prop where
  blk : w.heap[p]? = some (.cells (rwC b h) 69 (0, 0))
  box : ∃ ao cp, w.heap[b]? = some (.cells #[.slice ao u.length cp] 28 (0, 0)) ∧ RL D M w ao cp u
  sm : Sm c h
  own : OwnC M w h (D c).1 (D c).2
theorem RB.tch {D : Rc → List Value × List Value} {M : Nat} {S : Nat → Prop} {w w' : World} {p b : Nat} {h c : Rc} {u : List Rc} (k : RB D M w p b h c u) (t : Tch S w w') (h1 : ¬ S p) (h2 : ¬ S b) (h3 : ∀ g, g < M → ¬ S g) (h4 : ∀ g cur, w.heap[g]? = some (.cells cur 76 (0, 0)) → ¬ S g) : RB D M w' p b h c u := by
  obtain ⟨hp, ⟨ao, cp, hb, hl⟩, hs, ho⟩ := k
  exact ⟨(t.block p (blk_lt hp) h1).trans hp, ⟨ao, cp, (t.block b (blk_lt hb) h2).trans hb, hl.tch t h3⟩, hs, ho.tch t h4⟩
def tn1 (j : Nat) : Int := (j : Int) + 1
theorem tn1_up (n : Nat) : Tn tn1 n := fun i j h _ => by unfold tn1; omega
structure MS (D : Rc → List Value × List Value) (N : Nat) (w : World) (mb g cap : Nat) (L : List It) (P B : Nat → Nat) (H : Nat → Rc) (rs : List (List Rc)) : Prop where
  mbk : w.heap[mb]? = some (.cells #[hV g cap L, .int .i64 rs.length] 66 (0, 0))
  hr : HR w g cap L
  hp : Heap L
  its : Its Rc.l rs tn1 P L
  row : ∀ j c u, rs[j]? = some (c :: u) → RB D N w (P j) (B j) (H j) c u
  injP : ∀ i j, i < rs.length → j < rs.length → P i = P j → i = j
  injB : ∀ i j, i < rs.length → j < rs.length → B i = B j → i = j
  lt : ∀ j, j < rs.length → P j < w.heap.size ∧ B j < w.heap.size
  lo : N ≤ mb ∧ N ≤ g ∧ ∀ j, j < rs.length → N ≤ P j ∧ N ≤ B j
  dis : ∀ (i j : Nat) (c d : Rc) (u v : List Rc), rs[i]? = some (c :: u) → rs[j]? = some (d :: v) → i ≠ j → ∀ g, Bk (H i) g → ¬ Bk (H j) g
theorem MS.no {D : Rc → List Value × List Value} {N : Nat} {w w' : World} {mb g cap : Nat} {L : List It} {P B : Nat → Nat} {H : Nat → Rc} {rs : List (List Rc)} (h : MS D N w mb g cap L P B H rs) (t : Tch (fun _ => False) w w') : MS D N w' mb g cap L P B H rs :=
  ⟨(t.block mb (blk_lt h.mbk) (fun h => h)).trans h.mbk, h.hr.no t, h.hp, h.its, fun j c u e => (h.row j c u e).tch t (fun h => h) (fun h => h) (fun _ _ h => h) (fun _ _ _ h => h), h.injP, h.injB, fun j hj => ⟨Nat.lt_of_lt_of_le (h.lt j hj).1 t.size, Nat.lt_of_lt_of_le (h.lt j hj).2 t.size⟩, h.lo, h.dis⟩
theorem nd_len : ∀ (l m : List Int), l.Nodup → (∀ x ∈ l, x ∈ m) → l.length ≤ m.length
  | [], m, _, _ => Nat.zero_le _
  | a :: l, m, h, hm => by
    have ha := hm a (List.mem_cons_self ..)
    have hn := List.nodup_cons.1 h
    have := nd_len l (m.erase a) hn.2 (fun x hx => (List.mem_erase_of_ne (show x ≠ a from fun e => hn.1 (by rw [← e]; exact hx))).2 (hm x (List.mem_cons_of_mem _ hx)))
    rw [List.length_erase_of_mem ha] at this
    have h0 : 0 < m.length := List.length_pos_of_mem ha
    simp only [List.length_cons]
    omega
theorem its_len {α : Type} {k : α → Int} {rs : List (List α)} {tn : Nat → Int} {P : Nat → Nat} {L : List It} (h : Its k rs tn P L) : L.length ≤ rs.length := by
  have hm : ∀ x ∈ L.map It.t, x ∈ (List.range rs.length).map tn := fun x hx => by
    obtain ⟨y, hy, rfl⟩ := List.mem_map.1 hx
    obtain ⟨j, c, u, e1, e2⟩ := (h.mem y).1 hy
    exact List.mem_map.2 ⟨j, List.mem_range.2 (List.getElem?_eq_some_iff.1 e1).1, by rw [e2]⟩
  have := nd_len _ _ h.nd hm
  simpa using this
def upH (H : Nat → Rc) (n : Nat) (x : Rc) (j : Nat) : Rc := if j = n then x else H j
theorem upH_at (H : Nat → Rc) (n : Nat) (x : Rc) : upH H n x n = x := if_pos rfl
theorem upH_ne (H : Nat → Rc) {n : Nat} (x : Rc) {j : Nat} (h : j ≠ n) : upH H n x j = H j := if_neg h
/-- The row j, which held nothing, was asked and has told c. -/
theorem MS.asked {D : Rc → List Value × List Value} {N : Nat} {w w' : World} {mb g cap : Nat} {L : List It} {P B : Nat → Nat} {H : Nat → Rc} {rs : List (List Rc)} {j : Nat} {c c0 hc : Rc} {u : List Rc} {g' cap' : Nat} {L' : List It} {v : Value} (h : MS D N w mb g cap L P B H rs) (hj : rs[j]? = some [])
    (hp : w.heap[P j]? = some (.cells (rwC (B j) c0) 69 (0, 0))) (hb : w.heap[B j]? = some (.cells #[v] 28 (0, 0))) (a : AO D N w w' mb (P j) (B j) g cap rs.length (tn1 j) L c u g' cap' L' hc) : MS D N w' mb g' cap' L' P B (upH H j hc) (rs.set j (c :: u)) := by
  have hjl : j < rs.length := (List.getElem?_eq_some_iff.1 hj).1
  have hlo := h.lo
  have hlj := hlo.2.2 j hjl
  have hNw : N ≤ w.heap.size := by have := blk_lt h.mbk; omega
  have nS : ∀ i cur t, w.heap[i]? = some (.cells cur t (0, 0)) → t ≠ 66 → t ≠ 69 → t ≠ 28 → t ≠ 72 → t ≠ 77 → ¬ (i = mb ∨ i = P j ∨ i = B j ∨ i = g) := fun i cur t hi h1 h2 h3 h4 h5 e => by
    rcases e with e | e | e | e
    · exact ne_ty hi h.mbk h1 e
    · exact ne_ty hi hp h2 e
    · exact ne_ty hi hb h3 e
    · exact h.hr.ne hi h4 h5 e
  have back : ∀ (i : Nat) (d : Rc) (v' : List Rc), i ≠ j → (rs.set j (c :: u))[i]? = some (d :: v') → rs[i]? = some (d :: v') := fun i d v' hij e => by rw [List.getElem?_set_ne (Ne.symm hij)] at e; exact e
  refine ⟨by rw [List.length_set]; exact a.mbk, a.hr, a.hp, ((h.its.push (tn1_up _) hj c u).perm a.pm), ?_, by rw [List.length_set]; exact h.injP, by rw [List.length_set]; exact h.injB, fun i hi => ?_, ⟨h.lo.1, ?_, fun i hi => ?_⟩, ?_⟩
  · intro i d v' e
    by_cases hij : i = j
    · subst hij
      rw [List.getElem?_set_self hjl] at e
      simp only [Option.some.injEq, List.cons.injEq] at e
      obtain ⟨rfl, rfl⟩ := e
      rw [upH_at]
      exact ⟨a.rowb, a.box, a.sm, a.ownh.low hNw⟩
    · rw [upH_ne _ _ hij]
      have e := back i d v' hij e
      have hil : i < rs.length := (List.getElem?_eq_some_iff.1 e).1
      have hR := h.row i d v' e
      obtain ⟨ao, cp, hbi, _⟩ := hR.box
      refine hR.tch a.tch ?_ ?_ (fun g0 hg e1 => by omega) (fun g0 cur hg => nS g0 cur _ hg (by decide) (by decide) (by decide) (by decide) (by decide))
      · rintro (e1 | e1 | e1 | e1)
        · exact ne_ty hR.blk h.mbk (by decide) e1
        · exact hij (h.injP i j hil hjl e1)
        · exact ne_ty hR.blk hb (by decide) e1
        · exact h.hr.ne hR.blk (by decide) (by decide) e1
      · rintro (e1 | e1 | e1 | e1)
        · exact ne_ty hbi h.mbk (by decide) e1
        · exact ne_ty hbi hp (by decide) e1
        · exact hij (h.injB i j hil hjl e1)
        · exact h.hr.ne hbi (by decide) (by decide) e1
  · rw [List.length_set] at hi
    exact ⟨Nat.lt_of_lt_of_le (h.lt i hi).1 a.tch.size, Nat.lt_of_lt_of_le (h.lt i hi).2 a.tch.size⟩
  · rcases a.at' with e | e
    · rw [e]; exact h.lo.2.1
    · omega
  · rw [List.length_set] at hi
    exact h.lo.2.2 i hi
  · intro i i' d d' v1 v2 e e' hne g0 hg hg'
    by_cases hij : i = j
    · subst hij
      rw [upH_at] at hg
      have e2 := back i' d' v2 (Ne.symm hne) e'
      rw [upH_ne _ _ (Ne.symm hne)] at hg'
      have h1 := (a.ownh.lt hg).1
      have h2 := ((h.row i' d' v2 e2).own.lt hg').2
      omega
    · rw [upH_ne _ _ hij] at hg
      have e1 := back i d v1 hij e
      by_cases hij' : i' = j
      · subst hij'
        rw [upH_at] at hg'
        have h1 := (a.ownh.lt hg').1
        have h2 := ((h.row i d v1 e1).own.lt hg).2
        omega
      · rw [upH_ne _ _ hij'] at hg'
        exact h.dis i i' d d' v1 v2 e1 (back i' d' v2 hij' e') hne g0 hg hg'
end Go.Proofs.Ytmnhkgibplnnnaa
