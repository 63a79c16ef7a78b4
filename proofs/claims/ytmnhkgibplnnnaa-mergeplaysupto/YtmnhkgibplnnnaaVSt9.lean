import Derived.Test.YtmnhkgibplnnnaaVNext
import Derived.Test.YtmnhkgibplnnnaaVHeld
import Derived.Test.YtmnhkgibplnnnaaUNew
/- MergePlays: the two merges side by side. -/
namespace Go.Proofs.Ytmnhkgibplnnnaa
open Go.RowKit Go

/-- The blocks of the code's merge. -/
def Ms (mb g : Nat) (P : Nat → Nat) (X : Nat → Sd) (H : Nat → Rc) (rs : List (List Rc)) (b : Nat) : Prop := b = mb ∨ b = g ∨ (∃ j, j < rs.length ∧ b = (X j).sb) ∨ ∃ (j : Nat) (c : Rc) (u : List Rc), rs[j]? = some (c :: u) ∧ (b = P j ∨ Fx (X j) u b ∨ Bk (H j) b)
theorem MP.keep {S : Nat → Prop} {W w w' : World} {mb g cap : Nat} {L : List It} {P : Nat → Nat} {X : Nat → Sd} {H : Nat → Rc} {E : Nat → Prop} {rs : List (List Rc)} (h : MP W w mb g cap L P X H E rs) (t : Tch S w w') (hS : ∀ b, Ms mb g P X H rs b → ¬ S b) : MP W w' mb g cap L P X H E rs :=
  ⟨(t.block mb (blk_lt h.mbk) (hS mb (.inl rfl))).trans h.mbk, h.hr.tch t (hS g (.inr (.inl rfl))), h.hp, h.its, fun j c u e => (h.row j c u e).tch t (hS _ (.inr (.inr (.inr ⟨j, c, u, e, .inl rfl⟩)))) (fun b hb => hS b (.inr (.inr (.inr ⟨j, c, u, e, .inr (.inl hb)⟩)))) (fun b hb => hS b (.inr (.inr (.inr ⟨j, c, u, e, .inr (.inr hb)⟩)))), fun j hj e => (t.block _ (blk_lt (h.fin j hj e)) (hS _ (.inr (.inr (.inl ⟨j, (List.getElem?_eq_some_iff.1 e).1, rfl⟩))))).trans (h.fin j hj e), h.injP, fun j hj => ⟨Nat.lt_of_lt_of_le (h.lt j hj).1 t.size, Nat.lt_of_lt_of_le (h.lt j hj).2 t.size⟩, h.sbs, h.dS, h.dH, h.dX⟩
theorem MP.ms_lt {W w : World} {mb g cap : Nat} {L : List It} {P : Nat → Nat} {X : Nat → Sd} {H : Nat → Rc} {E : Nat → Prop} {rs : List (List Rc)} (h : MP W w mb g cap L P X H E rs) {b : Nat} (hb : Ms mb g P X H rs b) : b < w.heap.size := by
  rcases hb with e | e | ⟨j, hj, e⟩ | ⟨j, c, u, e, hb | hb | hb⟩
  · rw [e]; exact blk_lt h.mbk
  · rw [e]; exact h.hr.lt
  · rw [e]; exact (h.lt j hj).2
  · rw [hb]; exact blk_lt (h.row j c u e).blk
  · exact (h.row j c u e).src.fx hb
  · exact ((h.row j c u e).own.lt hb).2
/-- The blocks of the document's merge. -/
def Rsb (rb : Nat) (vL vA : Value) (hd : List Value) (rr : List (List Rc)) (b : Nat) : Prop := b = rb ∨ vL.ownBlock = some b ∨ vA.ownBlock = some b ∨ (∃ v, v ∈ hd ∧ v.ownBlock = some b) ∨ ∃ (q : Nat) (u : List Rc) (c : Rc), rr[q]? = some u ∧ c ∈ u ∧ Bk c b
theorem RV.keep {S : Nat → Prop} {base : Nat} {w w' : World} {rb : Nat} {vL vA : Value} {hd : List Value} {ls : List (List Rc)} {nx : List Nat} (h : RV base w rb vL vA hd ls nx) (t : Tch S w w') (hS : ∀ b, (b = rb ∨ vL.ownBlock = some b ∨ vA.ownBlock = some b ∨ ∃ v, v ∈ hd ∧ v.ownBlock = some b) → ¬ S b) : RV base w' rb vL vA hd ls nx :=
  ⟨(t.block rb (blk_lt h.blk) (hS rb (.inl rfl))).trans h.blk, own_tch h.oL t (fun g e => hS g (.inr (.inl e))), own_tch h.oA t (fun g e => hS g (.inr (.inr (.inl e)))), fun j l e => by
    obtain ⟨ao, cp, e2, hr⟩ := h.el j l e
    exact ⟨ao, cp, e2, own_tch hr t (fun g e3 => hS g (.inr (.inr (.inr ⟨_, List.mem_of_getElem? e2, e3⟩))))⟩, h.nl, h.le, h.lo⟩
/-- The code's rows among the document's. -/
structure ER (Q : Rc → Rc → Prop) (rs rr : List (List Rc)) (sg : Nat → Nat) : Prop where
  mono : ∀ i j, i < j → j < rs.length → sg i < sg j
  at' : ∀ (j : Nat) (u : List Rc), rs[j]? = some u → ∃ u', rr[sg j]? = some u' ∧ A2 Q u u'
  on : ∀ (q : Nat) (c : Rc) (v : List Rc), rr[q]? = some (c :: v) → ∃ j, j < rs.length ∧ sg j = q
theorem ER.inj {Q : Rc → Rc → Prop} {rs rr : List (List Rc)} {sg : Nat → Nat} (h : ER Q rs rr sg) {i j : Nat} (hi : i < rs.length) (hj : j < rs.length) (e : sg i = sg j) : i = j := by
  rcases Nat.lt_trichotomy i j with h1 | h1 | h1
  · have := h.mono i j h1 hj; omega
  · exact h1
  · have := h.mono j i h1 hi; omega
theorem ER.rel {Q Q' : Rc → Rc → Prop} {rs rr : List (List Rc)} {sg : Nat → Nat} (h : ER Q rs rr sg) (hQ : ∀ (q : Nat) (u' : List Rc), rr[q]? = some u' → ∀ c c', c' ∈ u' → Q c c' → Q' c c') : ER Q' rs rr sg :=
  ⟨h.mono, fun j u e => by
    obtain ⟨u', e1, a⟩ := h.at' j u e
    exact ⟨u', e1, a.len, fun i c c' x y => hQ _ u' e1 c c' (List.mem_of_getElem? y) (a.el i c c' x y)⟩, h.on⟩
theorem ER.live {Q : Rc → Rc → Prop} {rs rr : List (List Rc)} {sg : Nat → Nat} (h : ER Q rs rr sg) {q : Nat} {d : Rc} {v : List Rc} (e : rr[q]? = some (d :: v)) : ∃ j c u, sg j = q ∧ rs[j]? = some (c :: u) ∧ Q c d ∧ A2 Q u v := by
  obtain ⟨j, hj, rfl⟩ := h.on q d v e
  obtain ⟨u', e1, a⟩ := h.at' j _ (List.getElem?_eq_getElem hj)
  rw [e] at e1
  obtain rfl : d :: v = u' := by simpa using e1
  have hl := a.len
  cases hu : rs[j] with
  | nil => rw [hu] at hl; simp at hl
  | cons c u =>
    rw [hu] at a
    obtain ⟨b, m', e2, r, a'⟩ := a.uncons
    simp only [List.cons.injEq] at e2
    obtain ⟨rfl, rfl⟩ := e2
    exact ⟨j, c, u, rfl, by rw [List.getElem?_eq_getElem hj, hu], r, a'⟩
/-- The least row of one is the least row of the other. -/
theorem ER.pk {Q : Rc → Rc → Prop} (hQ : ∀ a b, Q a b → b.l = a.l) {rs rr : List (List Rc)} {sg : Nat → Nat} (h : ER Q rs rr sg) {j : Nat} {c : Rc} {u : List Rc} (p : Pk Rc.l rs j c u) : ∃ c' u', Pk Rc.l rr (sg j) c' u' ∧ Q c c' ∧ A2 Q u u' := by
  obtain ⟨x, e1, a⟩ := h.at' j _ p.1
  obtain ⟨c', u', rfl, r, a'⟩ := a.uncons
  refine ⟨c', u', ⟨e1, fun q d v e => ?_⟩, r, a'⟩
  obtain ⟨i, d0, v0, rfl, e2, r2, _⟩ := h.live e
  have hi := (List.getElem?_eq_some_iff.1 e2).1
  have hj := (List.getElem?_eq_some_iff.1 p.1).1
  rw [hQ _ _ r, hQ _ _ r2]
  rcases p.2 i d0 v0 e2 with h1 | ⟨h1, h2⟩
  · exact .inl h1
  · refine .inr ⟨h1, ?_⟩
    rcases Nat.lt_or_ge j i with h3 | h3
    · have := h.mono j i h3 hi; omega
    · obtain rfl : i = j := by omega
      exact Nat.le_refl _
theorem ER.none {Q : Rc → Rc → Prop} {rs rr : List (List Rc)} {sg : Nat → Nat} (h : ER Q rs rr sg) (hn : ∀ (i : Nat) (d : Rc) (v : List Rc), rs[i]? ≠ some (d :: v)) : ∀ (i : Nat) (d : Rc) (v : List Rc), rr[i]? ≠ some (d :: v) := fun i d v e => by
  obtain ⟨j, c, u, _, e2, _⟩ := h.live e
  exact hn j c u e2
theorem ER.set {Q : Rc → Rc → Prop} {rs rr : List (List Rc)} {sg : Nat → Nat} (h : ER Q rs rr sg) {j : Nat} (hj : j < rs.length) {u u' : List Rc} (a : A2 Q u u') : ER Q (rs.set j u) (rr.set (sg j) u') sg := by
  obtain ⟨x, e1, _⟩ := h.at' j _ (List.getElem?_eq_getElem hj)
  have hq := (List.getElem?_eq_some_iff.1 e1).1
  refine ⟨by rw [List.length_set]; exact h.mono, fun i v e => ?_, fun q c v e => ?_⟩
  · by_cases hij : i = j
    · subst hij
      rw [List.getElem?_set_self hj] at e
      obtain rfl : u = v := by simpa using e
      exact ⟨u', List.getElem?_set_self hq, a⟩
    · rw [List.getElem?_set_ne (Ne.symm hij)] at e
      have hi := (List.getElem?_eq_some_iff.1 e).1
      obtain ⟨v', e2, a2⟩ := h.at' i v e
      exact ⟨v', by rw [List.getElem?_set_ne (fun e3 => hij (h.inj hi hj e3.symm))]; exact e2, a2⟩
  · by_cases hqj : q = sg j
    · subst hqj; exact ⟨j, by rw [List.length_set]; exact hj, rfl⟩
    · rw [List.getElem?_set_ne (Ne.symm hqj)] at e
      obtain ⟨i, hi, e3⟩ := h.on q c v e
      exact ⟨i, by rw [List.length_set]; exact hi, e3⟩
def upS (f : Nat → Nat) (n x : Nat) (j : Nat) : Nat := if j = n then x else f j
/-- A row more of both. -/
theorem ER.more {Q : Rc → Rc → Prop} {rs rr : List (List Rc)} {sg : Nat → Nat} (h : ER Q rs rr sg) (hs : ∀ j, j < rs.length → sg j < rr.length) {u u' : List Rc} (a : A2 Q u u') : ER Q (rs ++ [u]) (rr ++ [u']) (upS sg rs.length rr.length) := by
  refine ⟨fun i j hij hj => ?_, fun j v e => ?_, fun q c v e => ?_⟩
  · rw [List.length_append, List.length_singleton] at hj
    unfold upS
    rw [if_neg (by omega)]
    split
    · exact hs i (by omega)
    · exact h.mono i j hij (by omega)
  · rcases Nat.lt_trichotomy j rs.length with h1 | h1 | h1
    · rw [List.getElem?_append_left h1] at e
      obtain ⟨v', e2, a2⟩ := h.at' j v e
      unfold upS
      rw [if_neg (by omega)]
      exact ⟨v', by rw [List.getElem?_append_left (hs j h1)]; exact e2, a2⟩
    · subst h1
      rw [List.getElem?_append_right (Nat.le_refl _), Nat.sub_self] at e
      obtain rfl : u = v := by simpa using e
      unfold upS
      rw [if_pos rfl]
      exact ⟨u', by rw [List.getElem?_append_right (Nat.le_refl _), Nat.sub_self]; rfl, a⟩
    · rw [List.getElem?_eq_none (by simp; omega)] at e; cases e
  · rcases Nat.lt_trichotomy q rr.length with h1 | h1 | h1
    · rw [List.getElem?_append_left h1] at e
      obtain ⟨j, hj, e2⟩ := h.on q c v e
      refine ⟨j, by simp; omega, ?_⟩
      unfold upS
      rw [if_neg (by omega)]; exact e2
    · subst h1
      refine ⟨rs.length, by simp, ?_⟩
      unfold upS
      rw [if_pos rfl]
    · rw [List.getElem?_eq_none (by simp; omega)] at e; cases e
/-- A row more of the document's alone, which has nothing. -/
theorem ER.nil {Q : Rc → Rc → Prop} {rs rr : List (List Rc)} {sg : Nat → Nat} (h : ER Q rs rr sg) (hs : ∀ j, j < rs.length → sg j < rr.length) : ER Q rs (rr ++ [[]]) sg := by
  refine ⟨h.mono, fun j v e => ?_, fun q c v e => ?_⟩
  · obtain ⟨v', e2, a2⟩ := h.at' j v e
    exact ⟨v', by rw [List.getElem?_append_left (hs j (List.getElem?_eq_some_iff.1 e).1)]; exact e2, a2⟩
  · exact h.on q c v (app_old e).2
theorem ER.cnt {Q : Rc → Rc → Prop} {rs rr : List (List Rc)} {sg : Nat → Nat} (h : ER Q rs rr sg) : cnt rs rs.length = cnt rr rr.length := by
  have inj : ∀ x ∈ liveL rs rs.length, ∀ y ∈ liveL rs rs.length, sg x = sg y → x = y := fun x hx y hy e => h.inj (live_mem.1 hx).1 (live_mem.1 hy).1 e
  have a : ((liveL rs rs.length).map sg).length ≤ (liveL rr rr.length).length := nd_len2 _ _ (nd_map (live_nd _ _) inj) (fun x hx => by
    obtain ⟨j, hj, rfl⟩ := List.mem_map.1 hx
    obtain ⟨_, c, u, e⟩ := live_mem.1 hj
    obtain ⟨v, e1, a⟩ := h.at' j _ e
    obtain ⟨c', u', rfl, _, _⟩ := a.uncons
    exact live_mem.2 ⟨(List.getElem?_eq_some_iff.1 e1).1, c', u', e1⟩)
  have b : (liveL rr rr.length).length ≤ ((liveL rs rs.length).map sg).length := nd_len2 _ _ (live_nd _ _) (fun q hq => by
    obtain ⟨_, c, u, e⟩ := live_mem.1 hq
    obtain ⟨j, c0, u0, rfl, e2, _⟩ := h.live e
    exact List.mem_map.2 ⟨j, live_mem.2 ⟨(List.getElem?_eq_some_iff.1 e2).1, c0, u0, e2⟩, rfl⟩)
  rw [List.length_map] at a b
  unfold Go.Proofs.Ytmnhkgibplnnnaa.cnt
  omega
end Go.Proofs.Ytmnhkgibplnnnaa
/- MergePlays: the law's state, by owners of blocks: 1 the merge, 2 the document's merge, 3 the book's rows, 4 what came out last, 5 what it must be, 6 the rows, 7 the book itself. -/
namespace Go.Proofs.Ytmnhkgibplnnnaa
open Go.RowKit Go

structure CM (W w : World) (o : Nat → Nat) (mb g cap : Nat) (L : List It) (P : Nat → Nat) (X : Nat → Sd) (H : Nat → Rc) (rs : List (List Rc)) : Prop where
  mp : MP W w mb g cap L P X H (fun _ => False) rs
  lab : ∀ b, Ms mb g P X H rs b → o b = 1
  sz : ∀ j, j < rs.length → (X j).L'.length ≤ 2000000
  ch : ∀ (j : Nat) (u : List Rc), rs[j]? = some u → ∀ c ∈ u, ChIn W c
theorem CM.step {S : Nat → Prop} {W w w' : World} {o o' : Nat → Nat} {mb g cap : Nat} {L : List It} {P : Nat → Nat} {X : Nat → Sd} {H : Nat → Rc} {rs : List (List Rc)} (h : CM W w o mb g cap L P X H rs) (t : Tch S w w') (hS : ∀ b, b < w.heap.size → S b → o b ≠ 1) (ho : ∀ b, b < w.heap.size → o b = 1 → o' b = 1) : CM W w' o' mb g cap L P X H rs :=
  ⟨h.mp.keep t (fun b hb hs => hS b (h.mp.ms_lt hb) hs (h.lab b hb)), fun b hb => ho b (h.mp.ms_lt hb) (h.lab b hb), h.sz, h.ch⟩
structure CR (W w : World) (o : Nat → Nat) (rb : Nat) (vL vA : Value) (hd : List Value) (ls : List (List Rc)) (nx : List Nat) (rs : List (List Rc)) (X : Nat → Sd) (sg : Nat → Nat) : Prop where
  rv : RV 0 w rb vL vA hd ls nx
  lab : ∀ b, Rsb rb vL vA hd (rsOf ls nx) b → o b = 2
  lt : ∀ b, Rsb rb vL vA hd (rsOf ls nx) b → b < w.heap.size
  er : ER (Cpy W 0 w) rs (rsOf ls nx) sg
  ln : ∀ j, j < rs.length → ∃ l, ls[sg j]? = some l ∧ l.length = (X j).L.length
  lz : ∀ l ∈ ls, l.length ≤ 2000000
theorem CR.step {S : Nat → Prop} {W w w' : World} {o o' : Nat → Nat} {rb : Nat} {vL vA : Value} {hd : List Value} {ls : List (List Rc)} {nx : List Nat} {rs : List (List Rc)} {X : Nat → Sd} {sg : Nat → Nat} (h : CR W w o rb vL vA hd ls nx rs X sg) (t : Tch S w w') (hS : ∀ b, b < w.heap.size → S b → o b ≠ 2) (ho : ∀ b, b < w.heap.size → o b = 2 → o' b = 2) : CR W w' o' rb vL vA hd ls nx rs X sg := by
  have no : ∀ b, Rsb rb vL vA hd (rsOf ls nx) b → ¬ S b := fun b hb hs => hS b (h.lt b hb) hs (h.lab b hb)
  refine ⟨h.rv.keep t (fun b hb => no b ?_), fun b hb => ho b (h.lt b hb) (h.lab b hb), fun b hb => Nat.lt_of_lt_of_le (h.lt b hb) t.size, h.er.rel (fun q u' e c c' hc r => r.keep t (fun b hb => no b (.inr (.inr (.inr (.inr ⟨q, u', c', e, hc, hb⟩)))))), h.ln, h.lz⟩
  rcases hb with e | e | e | e
  · exact .inl e
  · exact .inr (.inl e)
  · exact .inr (.inr (.inl e))
  · exact .inr (.inr (.inr (.inl e)))
/-- The book's rows. -/
def CB (w : World) (o : Nat → Nat) (nb : Nat) (rv : Value) (A : List Value) : Prop := LS 25 w (fun b => o b ≠ 3) nb mkR A rv
theorem CB.step {S : Nat → Prop} {w w' : World} {o o' : Nat → Nat} {nb : Nat} {rv : Value} {A : List Value} (h : CB w o nb rv A) (t : Tch S w w') (hS : ∀ b, b < w.heap.size → S b → o' b ≠ 3) (ho : ∀ b, b < w.heap.size → o b = 3 → o' b = 3) : CB w' o' nb rv A := by
  have t' : Tch (fun b => S b ∧ b < w.heap.size) w w' := t.mono (fun b hb hs => ⟨hs, hb⟩)
  have h1 : LS 25 w (fun b => o' b ≠ 3) nb mkR A rv := LS.fresh h (fun b hb hs e => hs (ho b hb e))
  exact h1.tch t' (fun b hs => .inr (hS b hs.2 hs.1))
def bkC (rv : Value) (h s : Rc) : Array Value := (rv :: (kc6 h ++ kc6 s)).toArray
structure CH (W w : World) (o : Nat → Nat) (c0 held was : Rc) : Prop where
  h : Cpy W 0 w c0 held
  s : Cpy W 0 w c0 was
  l4 : ∀ b, Bk held b → o b = 4
  l5 : ∀ b, Bk was b → o b = 5
theorem CH.step {S : Nat → Prop} {W w w' : World} {o o' : Nat → Nat} {c0 held was : Rc} (h : CH W w o c0 held was) (t : Tch S w w') (hS : ∀ b, b < w.heap.size → S b → o b ≠ 4 ∧ o b ≠ 5) (ho : ∀ b, b < w.heap.size → (o b = 4 → o' b = 4) ∧ (o b = 5 → o' b = 5)) : CH W w' o' c0 held was :=
  ⟨h.h.keep t (fun b hb hs => (hS b (h.h.own.lt hb).2 hs).1 (h.l4 b hb)), h.s.keep t (fun b hb hs => (hS b (h.s.own.lt hb).2 hs).2 (h.l5 b hb)), fun b hb => (ho b (h.h.own.lt hb).2).1 (h.l4 b hb), fun b hb => (ho b (h.s.own.lt hb).2).2 (h.l5 b hb)⟩
def ptrs (sbs : List Nat) : List Value := sbs.map (fun b => Value.pointer (some ⟨b, 0, none⟩))
structure CS (w : World) (o : Nat → Nat) (so : Option Addr) (m sc : Nat) (sbs : List Nat) (ls rs : List (List Rc)) (X : Nat → Sd) (sg : Nat → Nat) : Prop where
  own : w.ownsRow 0 46 1 (.slice so m sc) m (ptrs sbs)
  lab : ∀ b, (Value.slice so m sc).ownBlock = some b → o b = 6
  len : sbs.length = m
  ml : m = ls.length
  src : ∀ j, j < rs.length → sbs[sg j]? = some (X j).sb
  nil : ∀ (q b : Nat), sbs[q]? = some b → (∃ j, j < rs.length ∧ sg j = q) ∨ (o b = 6 ∧ w.heap[b]? = some (.cells #[.slice none 0 0, .int .i64 1, .bool false] 48 (0, 0)) ∧ ls[q]? = some [])
theorem CS.step {S : Nat → Prop} {w w' : World} {o o' : Nat → Nat} {so : Option Addr} {m sc : Nat} {sbs : List Nat} {ls rs : List (List Rc)} {X : Nat → Sd} {sg : Nat → Nat} (h : CS w o so m sc sbs ls rs X sg) (t : Tch S w w') (hS : ∀ b, b < w.heap.size → S b → o b ≠ 6) (ho : ∀ b, b < w.heap.size → o b = 6 → o' b = 6) : CS w' o' so m sc sbs ls rs X sg :=
  ⟨own_tch h.own t (fun b hb hs => hS b (h.own.lt b hb).2 hs (h.lab b hb)), fun b hb => ho b (h.own.lt b hb).2 (h.lab b hb), h.len, h.ml, h.src, fun q b e => by
    rcases h.nil q b e with h1 | ⟨h1, h2, h3⟩
    · exact .inl h1
    · exact .inr ⟨ho b (blk_lt h2) h1, (t.block b (blk_lt h2) (fun hs => hS b (blk_lt h2) hs h1)).trans h2, h3⟩⟩
/-- What a state is. -/
structure Sv where
  o : Nat → Nat
  g : Nat
  cap : Nat
  L : List It
  P : Nat → Nat
  X : Nat → Sd
  H : Nat → Rc
  rs : List (List Rc)
  vL : Value
  vA : Value
  hd : List Value
  ls : List (List Rc)
  nx : List Nat
  sg : Nat → Nat
  rv : Value
  A : List Value
  c0 : Rc
  held : Rc
  was : Rc
  sbs : List Nat
/-- The state, but for the rows. -/
structure StQ (V : World) (Z : Nat → Prop) (W w : World) (mb rb nb T : Nat) (s : Sv) : Prop where
  cm : CM W w s.o mb s.g s.cap s.L s.P s.X s.H s.rs
  cr : CR W w s.o rb s.vL s.vA s.hd s.ls s.nx s.rs s.X s.sg
  cb : CB w s.o nb s.rv s.A
  bk : w.heap[nb]? = some (.cells (bkC s.rv s.held s.was) 42 (0, 0))
  b7 : s.o nb = 7
  a1 : s.A.length % 10 = 0
  a2 : s.A.length ≤ 20 * T
  ch : CH W w s.o s.c0 s.held s.was
  lt : s.ls.length ≤ T
  rt : s.rs.length ≤ T
  w0 : Tch (fun b => ¬ Z b) V w
  lo : ∀ b, Z b → s.o b = 0 ∧ b < V.heap.size
/-- The state between the steps. -/
structure StP (V : World) (Z : Nat → Prop) (W w : World) (mb rb nb : Nat) (so : Option Addr) (m sc T : Nat) (s : Sv) : Prop where
  q : StQ V Z W w mb rb nb T s
  cs : CS w s.o so m sc s.sbs s.ls s.rs s.X s.sg
theorem StQ.no {V : World} {Z : Nat → Prop} {W w w' : World} {mb rb nb T : Nat} {s : Sv} (h : StQ V Z W w mb rb nb T s) (t : Tch (fun _ => False) w w') : StQ V Z W w' mb rb nb T s :=
  ⟨h.cm.step t (fun _ _ h => h.elim) (fun _ _ e => e), h.cr.step t (fun _ _ h => h.elim) (fun _ _ e => e), h.cb.step t (fun _ _ h => h.elim) (fun _ _ e => e), (t.block nb (blk_lt h.bk) (fun h => h)).trans h.bk, h.b7, h.a1, h.a2, h.ch.step t (fun _ _ h => h.elim) (fun _ _ => ⟨fun e => e, fun e => e⟩), h.lt, h.rt, h.w0.trans t (fun _ _ h => h.elim), h.lo⟩
theorem StP.no {V : World} {Z : Nat → Prop} {W w w' : World} {mb rb nb : Nat} {so : Option Addr} {m sc T : Nat} {s : Sv} (h : StP V Z W w mb rb nb so m sc T s) (t : Tch (fun _ => False) w w') : StP V Z W w' mb rb nb so m sc T s :=
  ⟨h.q.no t, h.cs.step t (fun _ _ h => h.elim) (fun _ _ e => e)⟩
/-- Blocks of nobody among these are turned. -/
theorem StQ.frame {V : World} {Z : Nat → Prop} {S : Nat → Prop} {W w w' : World} {mb rb nb T : Nat} {s : Sv} {o' : Nat → Nat} (h : StQ V Z W w mb rb nb T s) (t : Tch S w w') (hS : ∀ b, b < w.heap.size → S b → s.o b = 6 ∨ s.o b = 8) (ho : ∀ b, b < w.heap.size → o' b = s.o b) : StQ V Z W w' mb rb nb T { s with o := o' } := by
  have no : ∀ k, k ≠ 6 → k ≠ 8 → ∀ b, b < w.heap.size → S b → s.o b ≠ k := fun k h1 h2 b hb hs e => by have := hS b hb hs; omega
  have oe : ∀ k b, b < w.heap.size → s.o b = k → o' b = k := fun k b hb e => (ho b hb).trans e
  have hbn : nb < w.heap.size := blk_lt h.bk
  refine ⟨h.cm.step t (no 1 (by decide) (by decide)) (oe 1), h.cr.step t (no 2 (by decide) (by decide)) (oe 2), h.cb.step t (fun b hb hs => by show o' b ≠ 3; rw [ho b hb]; exact no 3 (by decide) (by decide) b hb hs) (oe 3), (t.block nb hbn (fun hs => no 7 (by decide) (by decide) nb hbn hs h.b7)).trans h.bk, oe 7 nb hbn h.b7, h.a1, h.a2, h.ch.step t (fun b hb hs => ⟨no 4 (by decide) (by decide) b hb hs, no 5 (by decide) (by decide) b hb hs⟩) (fun b hb => ⟨oe 4 b hb, oe 5 b hb⟩), h.lt, h.rt, h.w0.trans t (fun b hb hs => ?_), fun b hb => ⟨oe 0 b (Nat.lt_of_lt_of_le (h.lo b hb).2 h.w0.size) (h.lo b hb).1, (h.lo b hb).2⟩⟩
  exact fun hz => no 0 (by decide) (by decide) b (Nat.lt_of_lt_of_le hb h.w0.size) hs (h.lo b hz).1
theorem StQ.up {V : World} {Z : Nat → Prop} {W w : World} {mb rb nb T T' : Nat} {s : Sv} (h : StQ V Z W w mb rb nb T s) (hT : T ≤ T') : StQ V Z W w mb rb nb T' s :=
  ⟨h.cm, h.cr, h.cb, h.bk, h.b7, h.a1, by have := h.a2; omega, h.ch, by have := h.lt; omega, by have := h.rt; omega, h.w0, h.lo⟩
/-- New blocks get an owner. -/
def newO (o : Nat → Nat) (n k b : Nat) : Nat := if n ≤ b then k else o b
theorem newO_lt {o : Nat → Nat} {n k b : Nat} (h : b < n) : newO o n k b = o b := if_neg (by omega)
theorem newO_ge {o : Nat → Nat} {n k b : Nat} (h : n ≤ b) : newO o n k b = k := if_pos h
/-- alike of two copies of one change. -/
theorem alike_two {W w : World} {b1 b2 : Nat} {c x y : Rc} (h : Cpy W b1 w c x) (k : Cpy W b2 w c y) : Calls Try.prog 15 #[rcV x, rcV y] w fun e w' => e = .returned (.bool true) ∧ Tch (fun _ => False) w w' := by
  have ho := own_cap h.own.o
  have hn := own_cap h.own.n
  have ko := own_cap k.own.o
  have kn := own_cap k.own.n
  have e1 : y.ol = x.ol := k.sm.o.trans h.sm.o.symm
  have e2 : y.nl = x.nl := k.sm.n.trans h.sm.n.symm
  refine alike_same x y (rdv W c.oa c.ol) (rdv W c.na c.nl) w (h.sm.symm.trans k.sm) (by rw [h.ch.o.len, h.sm.o]) (by rw [h.ch.n.len, h.sm.n]) h.ro ?_ h.rn ?_ ⟨by omega, by omega, by omega, by omega⟩ ⟨by omega, by omega, by omega, by omega⟩
  · rw [← e1]; exact k.ro
  · rw [← e2]; exact k.rn
theorem cpy_k0 (W w : World) : Cpy W 0 w k0 k0 := by
  have hr : RowIn W none 0 0 := ⟨⟨rfl, fun _ h => (by cases h), by omega, .inl ⟨rfl, rfl, rfl⟩⟩, rfl, fun _ h => (by cases h), Nat.le_refl _, Nat.zero_le _, Nat.zero_le _⟩
  exact ⟨⟨rfl, rfl, rfl, rfl, rfl, rfl⟩, ⟨World.ownsRow_nil _ _ _ _, World.ownsRow_nil _ _ _ _, fun g e => by simp [k0, Value.ownBlock] at e⟩, ⟨hr, hr⟩⟩
end Go.Proofs.Ytmnhkgibplnnnaa
/- MergePlays: Held; the rows are held against the document; Add of nothing. -/
namespace Go.Proofs.Ytmnhkgibplnnnaa
open Go.RowKit Go

theorem StQ.held {V : World} {Z : Nat → Prop} {W w : World} {mb rb nb T : Nat} {s : Sv} (h : StQ V Z W w mb rb nb T s) : s.L.length = cnt (rsOf s.ls s.nx) s.ls.length := by
  rw [its_cnt h.cm.mp.its (tn1_up _), h.cr.er.cnt, rsOf_len h.cr.rv.nl]
/-- What a row was asked, and where the document stands. -/
theorem StP.row_at {V : World} {Z : Nat → Prop} {W w : World} {mb rb nb : Nat} {so : Option Addr} {m sc T : Nat} {s : Sv} (h : StP V Z W w mb rb nb so m sc T s) {q : Nat} (hq : q < m) : ∃ sb n v, s.sbs[q]? = some sb ∧ s.nx[q]? = some n ∧ n ≤ 2000000 ∧ w.heap[sb]? = some (.cells #[v, .int .i64 ((n + 1 : Nat) : Int), .bool false] 48 (0, 0)) := by
  have hml := h.cs.ml
  have hsl := h.cs.len
  have hnl := h.q.cr.rv.nl
  obtain ⟨sb, hsb⟩ : ∃ sb, s.sbs[q]? = some sb := ⟨_, List.getElem?_eq_getElem (by omega)⟩
  obtain ⟨n, hn⟩ : ∃ n, s.nx[q]? = some n := ⟨_, List.getElem?_eq_getElem (by omega)⟩
  obtain ⟨l, hl⟩ : ∃ l, s.ls[q]? = some l := ⟨_, List.getElem?_eq_getElem (by omega)⟩
  have hle := h.q.cr.rv.le q l n hl hn
  have hlz := h.q.cr.lz l (List.mem_of_getElem? hl)
  refine ⟨sb, n, ?_⟩
  rcases h.cs.nil q sb hsb with ⟨j, hj, rfl⟩ | ⟨_, hb, hl0⟩
  · have e1 := h.cs.src j hj
    rw [hsb] at e1
    obtain rfl : sb = (s.X j).sb := by simpa using e1
    obtain ⟨l', hl', hll⟩ := h.q.cr.ln j hj
    rw [hl] at hl'
    obtain rfl : l = l' := by simpa using hl'
    obtain ⟨u', e2, a⟩ := h.q.cr.er.at' j _ (List.getElem?_eq_getElem hj)
    rw [rsOf_get hl hn] at e2
    obtain rfl : l.drop n = u' := by simpa using e2
    have hal := a.len
    rw [List.length_drop] at hal
    cases hu : s.rs[j] with
    | nil =>
      have hF := h.q.cm.mp.fin j (fun h => h) (by rw [List.getElem?_eq_getElem hj, hu])
      rw [hu] at hal
      simp only [List.length_nil] at hal
      have en : n = (s.X j).L.length := by omega
      refine ⟨.slice (s.X j).la (s.X j).L'.length (s.X j).lc, hsb, hn, by omega, ?_⟩
      rw [en]; exact hF
    | cons c u =>
      have hR := h.q.cm.mp.row j c u (by rw [List.getElem?_eq_getElem hj, hu])
      rw [hu] at hal
      simp only [List.length_cons] at hal
      have hk : kk (s.X j) u = n + 1 := by unfold kk; omega
      refine ⟨.slice (s.X j).la (s.X j).L'.length (s.X j).lc, hsb, hn, by omega, ?_⟩
      have := hR.src.blk
      rw [hk] at this
      exact this
  · rw [hl] at hl0
    obtain rfl : l = [] := by simpa using hl0
    simp only [List.length_nil] at hle
    obtain rfl : n = 0 := by omega
    exact ⟨_, hsb, hn, by omega, hb⟩
theorem rsOf_snoc (ls : List (List Rc)) (nx : List Nat) (h : nx.length = ls.length) (l : List Rc) : rsOf (ls ++ [l]) (nx ++ [0]) = rsOf ls nx ++ [l] := by
  unfold rsOf
  rw [List.zipWith_append h.symm]
  rfl
/-- A row more of the document's. -/
theorem CR.addRaw {W w w' : World} {o o' : Nat → Nat} {rb : Nat} {vL vA vL' vA' : Value} {hd : List Value} {ls : List (List Rc)} {nx : List Nat} {rs : List (List Rc)} {X : Nat → Sd} {sg : Nat → Nat} {l0 : List Rc} {ao : Option Addr} {cp : Nat} (h : CR W w o rb vL vA hd ls nx rs X sg) (h' : RV 0 w' rb vL' vA' (hd ++ [.slice ao l0.length cp]) (ls ++ [l0]) (nx ++ [0])) (t : Tch (fun b => b = rb ∨ vL.ownBlock = some b ∨ vA.ownBlock = some b) w w')
    (hL : ∀ b, vL'.ownBlock = some b → vL.ownBlock = some b ∨ w.heap.size ≤ b) (hA : ∀ b, vA'.ownBlock = some b → vA.ownBlock = some b ∨ w.heap.size ≤ b) (hlist : ∀ b, (Value.slice ao l0.length cp).ownBlock = some b → o b = 2 ∧ b < w.heap.size) (hrows : ∀ c ∈ l0, ∀ b, Bk c b → o b = 2 ∧ b < w.heap.size) (ho : ∀ b, b < w.heap.size → o' b = o b) (hnew : ∀ b, w.heap.size ≤ b → o' b = 2) :
    (∀ b, Rsb rb vL' vA' (hd ++ [.slice ao l0.length cp]) (rsOf (ls ++ [l0]) (nx ++ [0])) b → o' b = 2 ∧ b < w'.heap.size) ∧ ER (Cpy W 0 w') rs (rsOf ls nx) sg ∧ ∀ j, j < rs.length → sg j < (rsOf ls nx).length := by
  have hnl := h.rv.nl
  have hrs := rsOf_snoc ls nx hnl l0
  have old : ∀ b, Rsb rb vL vA hd (rsOf ls nx) b → o' b = 2 ∧ b < w'.heap.size := fun b hb => ⟨(ho b (h.lt b hb)).trans (h.lab b hb), Nat.lt_of_lt_of_le (h.lt b hb) t.size⟩
  refine ⟨fun b hb => ?_, h.er.rel (fun q u' e c c' hc r => r.keep t (fun b hb e2 => ?_)), fun j hj => ?_⟩
  · rcases hb with e | e | e | ⟨v, hv, e⟩ | ⟨q, u, c, e, hc, hb⟩
    · exact old b (.inl e)
    · rcases hL b e with e1 | e1
      · exact old b (.inr (.inl e1))
      · exact ⟨hnew b e1, (h'.oL.lt b e).2⟩
    · rcases hA b e with e1 | e1
      · exact old b (.inr (.inr (.inl e1)))
      · exact ⟨hnew b e1, (h'.oA.lt b e).2⟩
    · rcases List.mem_append.1 hv with hv | hv
      · exact old b (.inr (.inr (.inr (.inl ⟨v, hv, e⟩))))
      · simp only [List.mem_cons, List.not_mem_nil, or_false] at hv
        subst hv
        obtain ⟨h1, h2⟩ := hlist b e
        exact ⟨(ho b h2).trans h1, Nat.lt_of_lt_of_le h2 t.size⟩
    · rw [hrs] at e
      rcases Nat.lt_or_ge q (rsOf ls nx).length with hq | hq
      · rw [List.getElem?_append_left hq] at e
        exact old b (.inr (.inr (.inr (.inr ⟨q, u, c, e, hc, hb⟩))))
      · rw [List.getElem?_append_right hq] at e
        have hu : u = l0 := by
          cases hz : q - (rsOf ls nx).length with
          | zero => rw [hz] at e; simpa using e.symm
          | succ k => rw [hz] at e; simp at e
        subst hu
        obtain ⟨h1, h2⟩ := hrows c hc b hb
        exact ⟨(ho b h2).trans h1, Nat.lt_of_lt_of_le h2 t.size⟩
  · obtain ⟨cu, hcu⟩ : ∃ cur, w.heap[b]? = some (.cells cur 76 (0, 0)) := hb.elim (fun e => own_ty r.own.o e) (fun e => own_ty r.own.n e)
    rcases e2 with e2 | e2 | e2
    · subst e2; exact ne_ty hcu h.rv.blk (by decide) rfl
    · obtain ⟨cv, hcv⟩ := own_ty h.rv.oL e2; exact ne_ty hcu hcv (by decide) rfl
    · obtain ⟨cv, hcv⟩ := own_ty h.rv.oA e2; exact ne_ty hcu hcv (by decide) rfl
  · obtain ⟨u', e, _⟩ := h.er.at' j _ (List.getElem?_eq_getElem hj)
    exact (List.getElem?_eq_some_iff.1 e).1
/-- What the calls of Add with nothing leave, but for the rows. -/
theorem StP.nilAdd {V : World} {Z : Nat → Prop} {W w : World} {mb rb nb : Nat} {so : Option Addr} {m sc T : Nat} {s : Sv} (h : StP V Z W w mb rb nb so m sc T s) (hT : T ≤ 2000000) :
    Calls Try.prog 12 #[.pointer (some ⟨rb, 0, none⟩), .slice none 0 0] w fun e w' => e = .returned (.tuple #[]) ∧ ∃ s', StQ V Z W w' mb rb nb (T + 1) s' ∧ CS w' s'.o so m sc s.sbs s.ls s'.rs s'.X s'.sg ∧ s'.ls = s.ls ++ [[]] := by
  have hlt := h.q.lt
  refine (rvadd_any 0 w rb s.vL s.vA s.hd s.ls s.nx h.q.cr.rv [] none 0 (World.ownsRow_nil _ _ _ _) (Nat.zero_le _) (by omega)).mono ?_
  rintro e w' ⟨rfl, ⟨vL', vA', h', hL, hA⟩, t⟩
  have ho : ∀ b, b < w.heap.size → newO s.o w.heap.size 2 b = s.o b := fun b hb => newO_lt hb
  have no : ∀ k, k ≠ 2 → ∀ b, b < w.heap.size → (b = rb ∨ s.vL.ownBlock = some b ∨ s.vA.ownBlock = some b) → s.o b ≠ k := fun k hk b _ hs e => by
    have h2 : s.o b = 2 := by
      rcases hs with e | e | e
      · exact h.q.cr.lab b (.inl e)
      · exact h.q.cr.lab b (.inr (.inl e))
      · exact h.q.cr.lab b (.inr (.inr (.inl e)))
    omega
  obtain ⟨k1, k2, k3⟩ := h.q.cr.addRaw (o' := newO s.o w.heap.size 2) h' t hL hA (fun b e => by simp [Value.ownBlock] at e) (fun c hc => by cases hc) ho (fun b hb => newO_ge hb)
  have hrs := rsOf_snoc s.ls s.nx h.q.cr.rv.nl []
  have oe : ∀ k b, b < w.heap.size → s.o b = k → newO s.o w.heap.size 2 b = k := fun k b hb e => (ho b hb).trans e
  have hbn : nb < w.heap.size := blk_lt h.q.bk
  refine ⟨rfl, { s with o := newO s.o w.heap.size 2, vL := vL', vA := vA', hd := s.hd ++ [.slice none 0 0], ls := s.ls ++ [[]], nx := s.nx ++ [0] }, ⟨h.q.cm.step t (no 1 (by decide)) (oe 1), ⟨h', fun b hb => (k1 b hb).1, fun b hb => (k1 b hb).2, by show ER _ _ (rsOf (s.ls ++ [[]]) (s.nx ++ [0])) _; rw [hrs]; exact k2.nil k3, fun j hj => ?_, fun l hl => ?_⟩, h.q.cb.step t (fun b hb hs => by show newO s.o w.heap.size 2 b ≠ 3; rw [ho b hb]; exact no 3 (by decide) b hb hs) (oe 3), ?_, ?_, h.q.a1, ?_, h.q.ch.step t (fun b hb hs => ⟨no 4 (by decide) b hb hs, no 5 (by decide) b hb hs⟩) (fun b hb => ⟨oe 4 b hb, oe 5 b hb⟩), ?_, ?_, ?_, fun b hb => ⟨(ho b (Nat.lt_of_lt_of_le (h.q.lo b hb).2 h.q.w0.size)).trans (h.q.lo b hb).1, (h.q.lo b hb).2⟩⟩, h.cs.step t (no 6 (by decide)) (oe 6), rfl⟩
  · obtain ⟨l, e, hl⟩ := h.q.cr.ln j hj
    exact ⟨l, by show (s.ls ++ [[]])[_]? = _; rw [List.getElem?_append_left (List.getElem?_eq_some_iff.1 e).1]; exact e, hl⟩
  · have hl' : l ∈ s.ls ++ [[]] := hl
    rcases List.mem_append.1 hl' with hl | hl
    · exact h.q.cr.lz l hl
    · simp only [List.mem_cons, List.not_mem_nil, or_false] at hl
      subst hl; simp
  · exact (t.block nb hbn (fun hs => no 7 (by decide) nb hbn hs h.q.b7)).trans h.q.bk
  · exact (ho nb hbn).trans h.q.b7
  · have := h.q.a2; show s.A.length ≤ _; omega
  · show (s.ls ++ [[]]).length ≤ _; simp; omega
  · have := h.q.rt; show s.rs.length ≤ _; omega
  · refine h.q.w0.trans t (fun b hb hs => ?_)
    show ¬ Z b
    have h2 : s.o b = 2 := by
      rcases hs with e | e | e
      · exact h.q.cr.lab b (.inl e)
      · exact h.q.cr.lab b (.inr (.inl e))
      · exact h.q.cr.lab b (.inr (.inr (.inl e)))
    exact fun hz => by have := (h.q.lo b hz).1; omega
end Go.Proofs.Ytmnhkgibplnnnaa
/- MergePlays: a row more; Next of both. -/
namespace Go.Proofs.Ytmnhkgibplnnnaa
open Go.RowKit Go

theorem info_ps : (Try.prog.info? 46).map (fun i => (i.zero, i.size, i.bytes)) = some (some (.pointer none), 1, 8) := by kernel_rfl
theorem rows_app {w : World} {so : Option Addr} {m sc : Nat} {sbs : List Nat} (own : w.ownsRow 0 46 1 (.slice so m sc) m (ptrs sbs)) (sb : Nat) (hm : m ≤ 1000000000) :
    ∃ so' sc' w', (Builtin.append_ #[43, 43] 43 #[.slice so m sc, .slice (some ⟨w.heap.size, 0, none⟩) 1 1]).run Try.prog (w.alloc (.cells #[.pointer (some ⟨sb, 0, none⟩)] 46)) = .ok (.slice so' (m + 1) sc') w' ∧ w'.ownsRow 0 46 1 (.slice so' (m + 1) sc') (m + 1) (ptrs (sbs ++ [sb])) ∧ Tch (fun b => (Value.slice so m sc).ownBlock = some b) w w' ∧ (∀ b, (Value.slice so' (m + 1) sc').ownBlock = some b → (Value.slice so m sc).ownBlock = some b ∨ w.heap.size ≤ b) := by
  obtain ⟨i0, hi0, hz0, hz1, hz2⟩ := info_parts info_ps
  obtain ⟨wa, hwa⟩ : ∃ wa, wa = w.alloc (.cells #[.pointer (some ⟨sb, 0, none⟩)] 46) := ⟨_, rfl⟩
  have ta : Tch (fun _ => False) w wa := by rw [hwa]; exact Tch.alloc _ _ _
  have ba : wa.heap[w.heap.size]? = some (.cells #[.pointer (some ⟨sb, 0, none⟩)] 46 (0, 0)) := by rw [hwa]; exact alloc_new _ _
  obtain ⟨v1, w1, hr1, ho1, hg1, _, hat⟩ := run_append_own_at (P := Try.prog) wa 0 43 43 46 i0 _ 1 8 Try.underlying43 hi0 hz0 hz1 hz2 rfl (by decide) _ _ _ (own_tch own ta (fun _ _ h => h)) ⟨w.heap.size, 0, none⟩ 1 1 [.pointer (some ⟨sb, 0, none⟩)] rfl (cell_one_new' ba) (fun u hu => by simp only [List.mem_cons, List.not_mem_nil, or_false] at hu; rw [hu]; rfl) (by unfold maxLen; omega) (by omega) (Nat.zero_le _)
  obtain ⟨o1, c1, rfl⟩ := row_slice ho1
  have t1 : Tch (fun b => (Value.slice so m sc).ownBlock = some b) wa w1 := Tch.of_grown hg1 (fun g e => e)
  refine ⟨o1, c1, w1, by rw [← hwa]; exact hr1, ?_, (ta.mono (fun _ _ h => h.elim)).trans' t1, fun b e => ?_⟩
  · have : ptrs (sbs ++ [sb]) = ptrs sbs ++ [.pointer (some ⟨sb, 0, none⟩)] := by simp [ptrs]
    rw [this]; exact ho1
  · rcases hat with e1 | e1
    · rw [e1] at e; exact .inl e
    · rw [e1] at e; injection e with e; have := ta.size; exact .inr (by omega)
/-- The code's Next is done, the document's not yet. -/
structure N1 (V : World) (Z : Nat → Prop) (W w : World) (mb rb nb T : Nat) (s : Sv) (o : Nat → Nat) (g cap : Nat) (L : List It) (H : Nat → Rc) (rs : List (List Rc)) (d : Bool) (a c : Rc) : Prop where
  cm : CM W w o mb g cap L s.P s.X H rs
  cr : CR W w o rb s.vL s.vA s.hd s.ls s.nx s.rs s.X s.sg
  cb : CB w o nb s.rv s.A
  bk : w.heap[nb]? = some (.cells (bkC s.rv s.held s.was) 42 (0, 0))
  b7 : o nb = 7
  ch : CH W w o s.c0 s.held s.was
  w0 : Tch (fun b => ¬ Z b) V w
  lo : ∀ b, Z b → o b = 0 ∧ b < V.heap.size
  told : Cpy W 0 w c a
  l8 : ∀ b, Bk a b → o b = 8
  yes : d = true → ∃ j u, Pk Rc.l s.rs j c u ∧ rs = s.rs.set j u
  no : d = false → rs = s.rs ∧ a = k0 ∧ c = k0 ∧ ∀ (i : Nat) (d : Rc) (v : List Rc), s.rs[i]? ≠ some (d :: v)
open Classical in
/-- Owners behind Next: what came out is 8's, what is new is 1's. -/
noncomputable def nextO (o : Nat → Nat) (n : Nat) (a : Rc) (b : Nat) : Nat := if Bk a b then 8 else if n ≤ b then 1 else o b
theorem StP.next1 {V : World} {Z : Nat → Prop} {W w : World} {mb rb nb : Nat} {so : Option Addr} {m sc T : Nat} {s : Sv} (h : StP V Z W w mb rb nb so m sc T s) (hT : T ≤ 2000000) :
    Calls Try.prog 13 #[.pointer (some ⟨mb, 0, none⟩)] w fun e w' => ∃ (d : Bool) (a c : Rc) (o : Nat → Nat) (g cap : Nat) (L : List It) (H : Nat → Rc) (rs : List (List Rc)), e = .returned (.tuple #[rcV a, .bool d]) ∧ N1 V Z W w' mb rb nb T s o g cap L H rs d a c ∧ CS w' o so m sc s.sbs s.ls s.rs s.X s.sg := by
  have hrt := h.q.rt
  by_cases hL : s.L = []
  · have hm := h.q.cm.mp
    rw [hL] at hm
    refine (vnext_nil hm).mono ?_
    rintro e w' ⟨rfl, t⟩
    have h2 := h.no t
    refine ⟨false, k0, k0, s.o, s.g, s.cap, s.L, s.H, s.rs, rfl, ⟨h2.q.cm, h2.q.cr, h2.q.cb, h2.q.bk, h2.q.b7, h2.q.ch, h2.q.w0, h2.q.lo, cpy_k0 W w', fun b hb => ?_, fun e => (by cases e), fun _ => ⟨rfl, rfl, rfl, fun i d v e => ?_⟩⟩, h2.cs⟩
    · rcases hb with e | e <;> simp [k0, Value.ownBlock] at e
    · have := (hm.its.mem ⟨d.l, tn1 i, s.P i⟩).2 ⟨i, d, v, e, rfl⟩
      cases this
  · refine (vnext_some h.q.cm.mp hL (by omega) h.q.cm.sz).mono ?_
    rintro e w' ⟨j, c, u, hpk, rfl, hsm, how, ⟨g', cap', L', H', hmp, ⟨hH1, hH2, hH3⟩, hap⟩, t⟩
    have hjl := (List.getElem?_eq_some_iff.1 hpk.1).1
    have hch : ChIn W c := h.q.cm.ch j _ hpk.1 c (List.mem_cons_self ..)
    have told : Cpy W 0 w' c (s.H j) := ⟨hsm, how, hch⟩
    have hrow := h.q.cm.mp.row j c u hpk.1
    have a1 : ∀ b, Bk (s.H j) b → b < w.heap.size ∧ s.o b = 1 := fun b hb => ⟨(hrow.own.lt hb).2, h.q.cm.lab b (.inr (.inr (.inr ⟨j, c, u, hpk.1, .inr (.inr hb)⟩)))⟩
    have oe : ∀ k, k ≠ 1 → ∀ b, b < w.heap.size → s.o b = k → nextO s.o w.heap.size (s.H j) b = k := fun k hk b hb e => by
      unfold nextO
      rw [if_neg (fun hb2 => hk (by rw [← e]; exact (a1 b hb2).2)), if_neg (by omega)]; exact e
    have S1 : ∀ b, b < w.heap.size → (b = mb ∨ b = s.P j ∨ Fx (s.X j) u b ∨ b = s.g) → s.o b = 1 := fun b _ hs => by
      rcases hs with e | e | e | e
      · exact h.q.cm.lab b (.inl e)
      · exact h.q.cm.lab b (.inr (.inr (.inr ⟨j, c, u, hpk.1, .inl e⟩)))
      · exact h.q.cm.lab b (.inr (.inr (.inr ⟨j, c, u, hpk.1, .inr (.inl e)⟩)))
      · exact h.q.cm.lab b (.inr (.inl e))
    have no : ∀ k, k ≠ 1 → ∀ b, b < w.heap.size → (b = mb ∨ b = s.P j ∨ Fx (s.X j) u b ∨ b = s.g) → s.o b ≠ k := fun k hk b hb hs e => hk (by rw [← e]; exact S1 b hb hs)
    have n3 : ∀ b, b < w.heap.size → (b = mb ∨ b = s.P j ∨ Fx (s.X j) u b ∨ b = s.g) → nextO s.o w.heap.size (s.H j) b ≠ 3 := fun b hb hs e => by
      unfold nextO at e
      split at e
      · cases e
      · rw [if_neg (by omega)] at e
        exact no 3 (by decide) b hb hs e
    have hbn : nb < w.heap.size := blk_lt h.q.bk
    refine ⟨true, s.H j, c, nextO s.o w.heap.size (s.H j), g', cap', L', H', s.rs.set j u, rfl, ⟨⟨hmp, fun b hb => ?_, fun i hi => ?_, fun i v e d hd => ?_⟩, h.q.cr.step t (no 2 (by decide)) (oe 2 (by decide)), h.q.cb.step t n3 (oe 3 (by decide)), (t.block nb hbn (fun hs => no 7 (by decide) nb hbn hs h.q.b7)).trans h.q.bk, oe 7 (by decide) nb hbn h.q.b7, h.q.ch.step t (fun b hb hs => ⟨no 4 (by decide) b hb hs, no 5 (by decide) b hb hs⟩) (fun b hb => ⟨oe 4 (by decide) b hb, oe 5 (by decide) b hb⟩), h.q.w0.trans t (fun b hb hs => ?_), fun b hb => ⟨oe 0 (by decide) b (Nat.lt_of_lt_of_le (h.q.lo b hb).2 h.q.w0.size) (h.q.lo b hb).1, (h.q.lo b hb).2⟩, told, fun b hb => if_pos hb, fun _ => ⟨j, u, hpk, rfl⟩, fun e => (by cases e)⟩, h.cs.step t (no 6 (by decide)) (oe 6 (by decide))⟩
    · have hna : ¬ Bk (s.H j) b := fun hb2 => by
        obtain ⟨hlt, h1⟩ := a1 b hb2
        obtain ⟨cv, hcv⟩ := hrow.bty hb2
        rcases hb with e | e | ⟨i, hi, e⟩ | ⟨i, d, v, e, hx | hx | hx⟩
        · subst e; exact ne_ty hcv h.q.cm.mp.mbk (by decide) rfl
        · subst e
          obtain ⟨cv2, hcv2⟩ : ∃ cur, w'.heap[b]? = some (.cells cur 76 (0, 0)) := hb2.elim (fun e => own_ty how.o e) (fun e => own_ty how.n e)
          exact hmp.hr.ne hcv2 (by decide) (by decide) rfl
        · rw [List.length_set] at hi
          subst e
          by_cases hlv : ∃ d v, s.rs[i]? = some (d :: v)
          · obtain ⟨d, v, e⟩ := hlv
            exact ne_ty hcv (h.q.cm.mp.row i d v e).src.blk (by decide) rfl
          · have he : s.rs[i]? = some [] := by
              cases hx : s.rs[i] with
              | nil => rw [List.getElem?_eq_getElem hi, hx]
              | cons d v => exact absurd ⟨d, v, by rw [List.getElem?_eq_getElem hi, hx]⟩ hlv
            exact ne_ty hcv (h.q.cm.mp.fin i (fun h => h) he) (by decide) rfl
        · subst hx
          obtain ⟨cv2, hcv2⟩ : ∃ cur, w'.heap[s.P i]? = some (.cells cur 76 (0, 0)) := hb2.elim (fun e => own_ty how.o e) (fun e => own_ty how.n e)
          exact ne_ty hcv2 (hmp.row i d v e).blk (by decide) rfl
        · exact (hap b hb2 i d v e).1 hx
        · exact (hap b hb2 i d v e).2 hx
      unfold nextO
      rw [if_neg hna]
      split
      · rfl
      · rename_i hlt
        have hlt : b < w.heap.size := by omega
        rcases hb with e | e | ⟨i, hi, e⟩ | ⟨i, d, v, e, hx⟩
        · exact h.q.cm.lab b (.inl e)
        · rcases hH3 with e3 | e3
          · exact h.q.cm.lab b (.inr (.inl (e.trans e3)))
          · omega
        · rw [List.length_set] at hi
          exact h.q.cm.lab b (.inr (.inr (.inl ⟨i, hi, e⟩)))
        · by_cases hij : i = j
          · subst hij
            rw [List.getElem?_set_self hjl] at e
            obtain rfl : u = d :: v := by simpa using e
            rcases hx with hx | hx | hx
            · exact h.q.cm.lab b (.inr (.inr (.inr ⟨i, c, _, hpk.1, .inl hx⟩)))
            · obtain ⟨_, hk1, _⟩ := kk_cons hrow.dr
              exact h.q.cm.lab b (.inr (.inr (.inr ⟨i, c, _, hpk.1, .inr (.inl (hx.down hk1))⟩)))
            · have := hH2 (by simp) b hx; omega
          · rw [List.getElem?_set_ne (Ne.symm hij)] at e
            rw [hH1 i hij] at hx
            exact h.q.cm.lab b (.inr (.inr (.inr ⟨i, d, v, e, hx⟩)))
    · rw [List.length_set] at hi
      exact h.q.cm.sz i hi
    · by_cases hij : i = j
      · subst hij
        rw [List.getElem?_set_self hjl] at e
        obtain rfl : u = v := by simpa using e
        exact h.q.cm.ch i _ hpk.1 d (List.mem_cons_of_mem _ hd)
      · rw [List.getElem?_set_ne (Ne.symm hij)] at e
        exact h.q.cm.ch i v e d hd
    · exact fun hz => no 0 (by decide) b (Nat.lt_of_lt_of_le hb h.q.w0.size) hs (h.q.lo b hz).1
end Go.Proofs.Ytmnhkgibplnnnaa
/- MergePlays: the document's Next behind the code's. -/
namespace Go.Proofs.Ytmnhkgibplnnnaa
open Go.RowKit Go

theorem CS.rs' {w : World} {o : Nat → Nat} {so : Option Addr} {m sc : Nat} {sbs : List Nat} {ls rs rs' : List (List Rc)} {X : Nat → Sd} {sg : Nat → Nat} (h : CS w o so m sc sbs ls rs X sg) (e : rs'.length = rs.length) : CS w o so m sc sbs ls rs' X sg :=
  ⟨h.own, h.lab, h.len, h.ml, by rw [e]; exact h.src, by rw [e]; exact h.nil⟩
theorem N1.rlen {V : World} {Z : Nat → Prop} {W w : World} {mb rb nb T : Nat} {s : Sv} {o : Nat → Nat} {g cap : Nat} {L : List It} {H : Nat → Rc} {rs : List (List Rc)} {d : Bool} {a c : Rc} (h : N1 V Z W w mb rb nb T s o g cap L H rs d a c) : rs.length = s.rs.length := by
  cases d with
  | true => obtain ⟨j, u, _, e⟩ := h.yes rfl; rw [e, List.length_set]
  | false => rw [(h.no rfl).1]
/-- Both Nexts are done. -/
structure N2 (V : World) (Z : Nat → Prop) (W w : World) (mb rb nb T : Nat) (so : Option Addr) (m sc : Nat) (s : Sv) (a c c2 : Rc) : Prop where
  p : StP V Z W w mb rb nb so m sc T s
  ca : Cpy W 0 w c a
  cc : Cpy W 0 w c c2
  l8 : ∀ b, Bk a b → s.o b = 8
  l2 : ∀ b, Bk c2 b → s.o b = 2
theorem N1.next2 {V : World} {Z : Nat → Prop} {W w : World} {mb rb nb T : Nat} {s : Sv} {o : Nat → Nat} {g cap : Nat} {L : List It} {H : Nat → Rc} {rs : List (List Rc)} {d : Bool} {a c : Rc} {so : Option Addr} {m sc : Nat} (h : N1 V Z W w mb rb nb T s o g cap L H rs d a c) (cs : CS w o so m sc s.sbs s.ls s.rs s.X s.sg) (ha1 : s.A.length % 10 = 0) (ha2 : s.A.length ≤ 20 * T) (hlt : s.ls.length ≤ T) (hrt : s.rs.length ≤ T) (hT : T ≤ 2000000) :
    Calls Try.prog 14 #[.pointer (some ⟨rb, 0, none⟩)] w fun e w' => ∃ c2 nx', e = .returned (.tuple #[rcV c2, .bool d]) ∧ N2 V Z W w' mb rb nb T so m sc { s with o := o, g := g, cap := cap, L := L, H := H, rs := rs, nx := nx' } a c c2 ∧ (∀ b, b < w.heap.size → o b = 10 → w'.heap[b]? = w.heap[b]?) := by
  refine (rvnext_any 0 w rb s.vL s.vA s.hd s.ls s.nx h.cr.rv (by omega) (fun l hl => by have := h.cr.lz l hl; omega)).mono ?_
  rintro e w' ⟨d', c2, nx', rfl, hy, hn, hrv, t⟩
  have l2 : ∀ b, s.vA.ownBlock = some b → o b = 2 := fun b e => h.cr.lab b (.inr (.inr (.inl e)))
  have no : ∀ k, k ≠ 2 → ∀ b, b < w.heap.size → s.vA.ownBlock = some b → o b ≠ k := fun k hk b _ hs e => hk (by rw [← e]; exact l2 b hs)
  have hbn : nb < w.heap.size := blk_lt h.bk
  have er' : ER (Cpy W 0 w') s.rs (rsOf s.ls s.nx) s.sg := h.cr.er.rel (fun q u' e c c' hc r => r.keep t (fun b hb e2 => by
    obtain ⟨cu, hcu⟩ : ∃ cur, w.heap[b]? = some (.cells cur 76 (0, 0)) := hb.elim (fun e => own_ty r.own.o e) (fun e => own_ty r.own.n e)
    obtain ⟨cv, hcv⟩ := own_ty h.cr.rv.oA e2; exact ne_ty hcu hcv (by decide) rfl))
  have hcpy : Cpy W 0 w' c a := h.told.keep t (fun b hb hs => by have := h.l8 b hb; have := l2 b hs; omega)
  have fin : ∀ (hER : ER (Cpy W 0 w') rs (rsOf s.ls nx') s.sg) (hsub : ∀ (q : Nat) (u : List Rc) (x : Rc), (rsOf s.ls nx')[q]? = some u → x ∈ u → ∃ q' u', (rsOf s.ls s.nx)[q']? = some u' ∧ x ∈ u') (hc2 : Cpy W 0 w' c c2) (hl2 : ∀ b, Bk c2 b → o b = 2), N2 V Z W w' mb rb nb T so m sc { s with o := o, g := g, cap := cap, L := L, H := H, rs := rs, nx := nx' } a c c2 := fun hER hsub hc2 hl2 => by
    have sub : ∀ b, Rsb rb s.vL s.vA s.hd (rsOf s.ls nx') b → Rsb rb s.vL s.vA s.hd (rsOf s.ls s.nx) b := fun b hb => by
      rcases hb with e | e | e | e | ⟨q, u, x, e, hx, hb⟩
      · exact .inl e
      · exact .inr (.inl e)
      · exact .inr (.inr (.inl e))
      · exact .inr (.inr (.inr (.inl e)))
      · obtain ⟨q', u', e', hx'⟩ := hsub q u x e hx
        exact .inr (.inr (.inr (.inr ⟨q', u', x, e', hx', hb⟩)))
    refine ⟨⟨⟨h.cm.step t (no 1 (by decide)) (fun _ _ e => e), ⟨hrv, fun b hb => h.cr.lab b (sub b hb), fun b hb => Nat.lt_of_lt_of_le (h.cr.lt b (sub b hb)) t.size, hER, ?_, h.cr.lz⟩, h.cb.step t (no 3 (by decide)) (fun _ _ e => e), (t.block nb hbn (fun hs => no 7 (by decide) nb hbn hs h.b7)).trans h.bk, h.b7, ha1, ha2, h.ch.step t (fun b hb hs => ⟨no 4 (by decide) b hb hs, no 5 (by decide) b hb hs⟩) (fun _ _ => ⟨fun e => e, fun e => e⟩), hlt, ?_, h.w0.trans t (fun b hb hs => ?_), h.lo⟩, (cs.step t (no 6 (by decide)) (fun _ _ e => e)).rs' h.rlen⟩, hcpy, hc2, h.l8, hl2⟩
    · intro j hj
      have hj' : j < rs.length := hj
      rw [h.rlen] at hj'
      exact h.cr.ln j hj'
    · show rs.length ≤ T
      rw [h.rlen]; exact hrt
    · exact fun hz => no 0 (by decide) b (Nat.lt_of_lt_of_le hb h.w0.size) hs (h.lo b hz).1
  cases d with
  | true =>
    obtain ⟨j, u, hpk, hrs⟩ := h.yes rfl
    obtain ⟨c', u', hpk', hcc, hau⟩ := er'.pk (fun a b r => r.sm.l) hpk
    cases d' with
    | false => exact absurd hpk'.1 ((hn rfl).2.2 _ _ _)
    | true =>
      obtain ⟨j2, u2, hpk2, hset⟩ := hy rfl
      obtain ⟨rfl, rfl, rfl⟩ := hpk'.uniq hpk2
      have hjl := (List.getElem?_eq_some_iff.1 hpk.1).1
      have hql := (List.getElem?_eq_some_iff.1 hpk'.1).1
      refine ⟨c', nx', rfl, fin (by rw [hset, hrs]; exact er'.set hjl hau) (fun q v x e hx => ?_) hcc (fun b hb => h.cr.lab b (.inr (.inr (.inr (.inr ⟨_, _, c', hpk'.1, List.mem_cons_self .., hb⟩))))), fun b hb h10 => t.block b hb (fun hs => no 10 (by decide) b hb hs h10)⟩
      rw [hset] at e
      by_cases hq : q = s.sg j
      · subst hq
        rw [List.getElem?_set_self hql] at e
        obtain rfl : u' = v := by simpa using e
        exact ⟨_, _, hpk'.1, List.mem_cons_of_mem _ hx⟩
      · rw [List.getElem?_set_ne (Ne.symm hq)] at e
        exact ⟨q, v, e, hx⟩
  | false =>
    obtain ⟨hrs, ha, hc, hno⟩ := h.no rfl
    have hnr := er'.none hno
    cases d' with
    | true =>
      obtain ⟨j2, u2, hpk2, _⟩ := hy rfl
      exact absurd hpk2.1 (hnr _ _ _)
    | false =>
      obtain ⟨rfl, rfl, _⟩ := hn rfl
      refine ⟨k0, s.nx, rfl, fin (by rw [hrs]; exact er') (fun q v x e hx => ⟨q, v, e, hx⟩) (by rw [hc]; exact cpy_k0 W w') (fun b hb => ?_), fun b hb h10 => t.block b hb (fun hs => no 10 (by decide) b hb hs h10)⟩
      rcases hb with e | e <;> simp [k0, Value.ownBlock] at e
end Go.Proofs.Ytmnhkgibplnnnaa
/- MergePlays: what came out goes into the book. -/
namespace Go.Proofs.Ytmnhkgibplnnnaa
open Go.RowKit Go

theorem bk_rv (rv rv' : Value) (h s : Rc) : (bkC rv h s).setIfInBounds 0 rv' = bkC rv' h s := rfl
/-- The book has the rows of what came out before. -/
structure N3 (V : World) (Z : Nat → Prop) (W w : World) (mb rb nb : Nat) (so : Option Addr) (m sc : Nat) (s : Sv) (o : Nat → Nat) (rv : Value) (A : List Value) (held was a c c2 : Rc) : Prop where
  cm : CM W w o mb s.g s.cap s.L s.P s.X s.H s.rs
  cr : CR W w o rb s.vL s.vA s.hd s.ls s.nx s.rs s.X s.sg
  cb : CB w o nb rv A
  bk : w.heap[nb]? = some (.cells (bkC rv held was) 42 (0, 0))
  b7 : o nb = 7
  w0 : Tch (fun b => ¬ Z b) V w
  lo : ∀ b, Z b → o b = 0 ∧ b < V.heap.size
  ca : Cpy W 0 w c a
  cc : Cpy W 0 w c c2
  l8 : ∀ b, Bk a b → o b = 8
  l2 : ∀ b, Bk c2 b → o b = 2
  cs : CS w o so m sc s.sbs s.ls s.rs s.X s.sg
theorem N3.step {V : World} {Z : Nat → Prop} {S : Nat → Prop} {W w w' : World} {mb rb nb : Nat} {so : Option Addr} {m sc : Nat} {s : Sv} {o o' : Nat → Nat} {rv : Value} {A : List Value} {held was held' was' a c c2 : Rc} (h : N3 V Z W w mb rb nb so m sc s o rv A held was a c c2) (t : Tch S w w') (hS : ∀ b, b < w.heap.size → S b → b = nb) (ho : ∀ b, b < w.heap.size → o' b = o b) (hb : w'.heap[nb]? = some (.cells (bkC rv held' was') 42 (0, 0))) : N3 V Z W w' mb rb nb so m sc s o' rv A held' was' a c c2 := by
  have no : ∀ k, k ≠ 7 → ∀ b, b < w.heap.size → S b → o b ≠ k := fun k hk b hb hs e => hk (by rw [← e, hS b hb hs]; exact h.b7)
  have oe : ∀ k b, b < w.heap.size → o b = k → o' b = k := fun k b hb e => (ho b hb).trans e
  have hbn : nb < w.heap.size := blk_lt h.bk
  refine ⟨h.cm.step t (no 1 (by decide)) (oe 1), h.cr.step t (no 2 (by decide)) (oe 2), h.cb.step t (fun b hb hs => by rw [ho b hb]; exact no 3 (by decide) b hb hs) (oe 3), hb, oe 7 nb hbn h.b7, h.w0.trans t (fun b hb hs => ?_), fun b hb => ⟨oe 0 b (Nat.lt_of_lt_of_le (h.lo b hb).2 h.w0.size) (h.lo b hb).1, (h.lo b hb).2⟩, h.ca.keep t (fun b hb hs => no 8 (by decide) b (h.ca.own.lt hb).2 hs (h.l8 b hb)), h.cc.keep t (fun b hb hs => no 2 (by decide) b (h.cc.own.lt hb).2 hs (h.l2 b hb)), fun b hb => oe 8 b (h.ca.own.lt hb).2 (h.l8 b hb), fun b hb => oe 2 b (h.cc.own.lt hb).2 (h.l2 b hb), h.cs.step t (no 6 (by decide)) (oe 6)⟩
  exact fun hz => no 0 (by decide) b (Nat.lt_of_lt_of_le hb h.w0.size) hs (h.lo b hz).1
open Classical in
noncomputable def rowO (o : Nat → Nat) (n : Nat) (a : Rc) (b : Nat) : Nat := if Bk a b then 3 else if n ≤ b then 3 else o b
theorem N2.rows {V : World} {Z : Nat → Prop} {W w : World} {mb rb nb T : Nat} {so : Option Addr} {m sc : Nat} {s : Sv} {a c c2 : Rc} (h : N2 V Z W w mb rb nb T so m sc s a c c2) (hT : T ≤ 2000000) :
    Calls Try.prog 16 #[.pointer (some ⟨nb, 0, none⟩), .slice s.held.oa s.held.ol s.held.oc] w fun x w1 => x = .returned (.tuple #[]) ∧ (∃ rv1, w1.heap[nb]? = some (.cells (bkC rv1 s.held s.was) 42 (0, 0))) ∧ (∀ b, b < w.heap.size → s.o b = 10 → w1.heap[b]? = w.heap[b]?) ∧
      Calls Try.prog 16 #[.pointer (some ⟨nb, 0, none⟩), .slice s.held.na s.held.nl s.held.nc] w1 fun x w2 => x = .returned (.tuple #[]) ∧ ∃ o rv A, N3 V Z W w2 mb rb nb so m sc s o rv A s.held s.was a c c2 ∧ A.length = s.A.length + 20 ∧ (∀ b, b < w.heap.size → s.o b = 10 → w2.heap[b]? = w.heap[b]? ∧ o b = 10) := by
  have hq := h.p.q
  have r := hq.ch.h
  have hbd := r.ch.o.bd
  have hbd2 := r.ch.n.bd
  have so' := r.sm.o
  have sn' := r.sm.n
  have ha1 := hq.a1
  have ha2 := hq.a2
  have hbn : nb < w.heap.size := blk_lt hq.bk
  have l4 := hq.ch.l4
  have hlt : ∀ b, Bk s.held b → b < w.heap.size := fun b hb => (r.own.lt hb).2
  refine (row_any nb (bkC s.rv s.held s.was) s.A s.rv (.slice s.held.oa s.held.ol s.held.oc) s.held.ol _ (fun b => b < w.heap.size ∧ s.o b ≠ 3 ∧ (Value.slice s.held.oa s.held.ol s.held.oc).ownBlock ≠ some b) w hq.bk rfl rfl
    (LS.fresh hq.cb (fun b _ hb => hb.elim (fun e => e.2.1) (fun e => by rw [l4 b (.inl e)]; decide))) r.own.o (by omega) (fun b e => ⟨fun e2 => (by have := l4 b (.inl e); rw [e2, hq.b7] at this; cases this), fun hh => hh.2.2 e⟩) (fun b hb => hb.1) (by omega) (by omega)).mono ?_
  rintro x w1 ⟨rfl, ⟨rv1, A1, hA1, hb1, hL1⟩, t1⟩
  rw [bk_rv] at hb1
  have rv3 : ∀ b, s.rv.ownBlock = some b → s.o b = 3 := fun b e => Decidable.by_contra (fun hn => (hq.cb.ag b e).2 hn)
  refine ⟨rfl, ⟨rv1, hb1⟩, fun b hb h10 => t1.block b hb (fun hs => ?_), ?_⟩
  · rcases hs with hs | hs | hs
    · rw [hs, hq.b7] at h10; cases h10
    · rw [rv3 b hs] at h10; cases h10
    · rw [l4 b (.inl hs)] at h10; cases h10
  have n1 : w1.ownsRow 0 76 3 (.slice s.held.na s.held.nl s.held.nc) s.held.nl (DW W s.c0).2 := own_tch r.own.n t1 (fun b e hs => by
    rcases hs with hs | hs | hs
    · have := l4 b (.inr e); rw [hs, hq.b7] at this; cases this
    · have := l4 b (.inr e); rw [rv3 b hs] at this; cases this
    · exact r.own.ne b hs e)
  refine (row_any nb (bkC rv1 s.held s.was) A1 rv1 (.slice s.held.na s.held.nl s.held.nc) s.held.nl _ (fun b => b < w.heap.size ∧ s.o b ≠ 3 ∧ ¬ Bk s.held b) w1 hb1 rfl rfl
    (hL1.fresh (fun b _ hb => hb.elim (fun e => ⟨e.1, e.2.1, fun e2 => e.2.2 (.inl e2)⟩) (fun e => ⟨hlt b (.inr e), by rw [l4 b (.inr e)]; decide, fun e2 => r.own.ne b e2 e⟩))) n1 (by omega) (fun b e => ⟨fun e2 => (by have := l4 b (.inr e); rw [e2, hq.b7] at this; cases this), fun hh => hh.2.2 (.inr e)⟩) (fun b hb => Nat.lt_of_lt_of_le hb.1 t1.size) (by omega) (by omega)).mono ?_
  rintro x w2 ⟨rfl, ⟨rv2, A2, hA2, hb2, hL2⟩, t2⟩
  rw [bk_rv] at hb2
  have t : Tch (fun b => b = nb ∨ s.o b = 3 ∨ Bk s.held b) w w2 := (t1.mono (T := fun b => b = nb ∨ s.o b = 3 ∨ Bk s.held b) (fun b _ hs => by
      rcases hs with hs | hs | hs
      · exact .inl hs
      · exact .inr (.inl (rv3 b hs))
      · exact .inr (.inr (.inl hs)))).trans t2 (fun b hb hs => by
      rcases hs with hs | hs | hs
      · exact .inl hs
      · have hn := (hL1.ag b hs).2
        by_cases h3 : s.o b = 3
        · exact .inr (.inl h3)
        · by_cases hv : (Value.slice s.held.oa s.held.ol s.held.oc).ownBlock = some b
          · exact .inr (.inr (.inl hv))
          · exact absurd ⟨hb, h3, hv⟩ hn
      · exact .inr (.inr (.inr hs)))
  have no : ∀ k, k ≠ 7 → k ≠ 3 → k ≠ 4 → ∀ b, b < w.heap.size → (b = nb ∨ s.o b = 3 ∨ Bk s.held b) → s.o b ≠ k := fun k h7 h3 h4 b _ hs e => by
    rcases hs with hs | hs | hs
    · rw [hs, hq.b7] at e; omega
    · omega
    · have := l4 b hs; omega
  have oe : ∀ k, k ≠ 4 → ∀ b, b < w.heap.size → s.o b = k → rowO s.o w.heap.size s.held b = k := fun k h4 b hb e => by
    unfold rowO
    rw [if_neg (fun hb2 => h4 (by rw [← e]; exact l4 b hb2)), if_neg (by omega)]; exact e
  refine ⟨rfl, rowO s.o w.heap.size s.held, rv2, A2, ⟨hq.cm.step t (no 1 (by decide) (by decide) (by decide)) (oe 1 (by decide)), hq.cr.step t (no 2 (by decide) (by decide) (by decide)) (oe 2 (by decide)), ?_, hb2, oe 7 (by decide) nb hbn hq.b7, hq.w0.trans t (fun b hb hs => ?_), fun b hb => ⟨oe 0 (by decide) b (Nat.lt_of_lt_of_le (hq.lo b hb).2 hq.w0.size) (hq.lo b hb).1, (hq.lo b hb).2⟩, h.ca.keep t (fun b hb hs => no 8 (by decide) (by decide) (by decide) b (h.ca.own.lt hb).2 hs (h.l8 b hb)), h.cc.keep t (fun b hb hs => no 2 (by decide) (by decide) (by decide) b (h.cc.own.lt hb).2 hs (h.l2 b hb)), fun b hb => oe 8 (by decide) b (h.ca.own.lt hb).2 (h.l8 b hb), fun b hb => oe 2 (by decide) b (h.cc.own.lt hb).2 (h.l2 b hb), h.p.cs.step t (no 6 (by decide) (by decide) (by decide)) (oe 6 (by decide))⟩, by omega, fun b hb h10 => ⟨t.block b hb (fun hs => no 10 (by decide) (by decide) (by decide) b hb hs h10), oe 10 (by decide) b hb h10⟩⟩
  · refine LS.fresh hL2 (fun b _ hs => ?_)
    have hs' : rowO s.o w.heap.size s.held b ≠ 3 := hs
    unfold rowO at hs'
    split at hs'
    · exact absurd rfl hs'
    · rename_i hnb
      split at hs'
      · exact absurd rfl hs'
      · exact ⟨by omega, hs', hnb⟩
  · exact fun hz => no 0 (by decide) (by decide) (by decide) b (Nat.lt_of_lt_of_le hb hq.w0.size) hs (hq.lo b hz).1
open Classical in
noncomputable def keepO (o : Nat → Nat) (a c : Rc) (b : Nat) : Nat := if Bk a b then 4 else if Bk c b then 5 else o b
/-- What came out now is held; its copy is what it must be. -/
theorem N3.done {V : World} {Z : Nat → Prop} {W w : World} {mb rb nb T : Nat} {so : Option Addr} {m sc : Nat} {s : Sv} {o : Nat → Nat} {rv : Value} {A : List Value} {a c c2 c3 : Rc} (h : N3 V Z W w mb rb nb so m sc s o rv A a c3 a c c2) (h3 : Cpy W 0 w c c3) {n : Nat} (hn : ∀ b, Bk c3 b → n ≤ b) (hnn : ∀ b, n ≤ b → b < w.heap.size → o b = 9) (ha : A.length % 10 = 0) (ha2 : A.length ≤ 20 * T) (hlt : s.ls.length ≤ T) (hrt : s.rs.length ≤ T) : ∃ s', StP V Z W w mb rb nb so m sc T s' ∧ s'.ls = s.ls := by
  have h9 : ∀ b, Bk c3 b → o b = 9 := fun b hb => hnn b (hn b hb) (h3.own.lt hb).2
  have oe : ∀ k, k ≠ 8 → k ≠ 9 → ∀ b, o b = k → keepO o a c3 b = k := fun k h1 h2 b e => by
    unfold keepO
    rw [if_neg (fun hb => h1 (by rw [← e]; exact h.l8 b hb)), if_neg (fun hb => h2 (by rw [← e]; exact h9 b hb))]; exact e
  have t : Tch (fun _ => False) w w := Tch.refl _ _
  have hbn : nb < w.heap.size := blk_lt h.bk
  refine ⟨{ s with o := keepO o a c3, rv := rv, A := A, c0 := c, held := a, was := c3 }, ⟨⟨h.cm.step t (fun _ _ h => h.elim) (fun b _ => oe 1 (by decide) (by decide) b), h.cr.step t (fun _ _ h => h.elim) (fun b _ => oe 2 (by decide) (by decide) b), h.cb.step t (fun _ _ h => h.elim) (fun b _ => oe 3 (by decide) (by decide) b), h.bk, oe 7 (by decide) (by decide) nb h.b7, ha, ha2, ⟨h.ca, h3, fun b hb => if_pos hb, fun b hb => ?_⟩, hlt, hrt, h.w0, fun b hb => ⟨oe 0 (by decide) (by decide) b (h.lo b hb).1, (h.lo b hb).2⟩⟩, h.cs.step t (fun _ _ h => h.elim) (fun b _ => oe 6 (by decide) (by decide) b)⟩, rfl⟩
  show keepO o a c3 b = 5
  unfold keepO
  rw [if_neg (fun hb2 => by have := h.l8 b hb2; have := h9 b hb; omega), if_pos hb]
end Go.Proofs.Ytmnhkgibplnnnaa
/- MergePlays: a source is made. -/
namespace Go.Proofs.Ytmnhkgibplnnnaa
open Go.RowKit Go

/-- k changes of u are copied, for the source (L') and for the document (l'). -/
structure K1 (W w0 : World) (sb : Nat) (u : List Rc) (k1 k2 : Nat) (wx : World) (la : Option Addr) (lc : Nat) (L' : List Rc) (lo : Option Addr) (ld : Nat) (l' : List Rc) : Prop where
  sbe : sb = w0.heap.size
  blk : wx.heap[sb]? = some (.cells #[.slice la k1 lc, .int .i64 0, .bool false] 48 (0, 0))
  ow1 : wx.ownsRow w0.heap.size 27 6 (.slice la k1 lc) k1 (kcl L')
  ow2 : wx.ownsRow w0.heap.size 27 6 (.slice lo k2 ld) k2 (kcl l')
  ne : ∀ g, (Value.slice la k1 lc).ownBlock = some g → (Value.slice lo k2 ld).ownBlock ≠ some g
  e1 : A2 (Cpy W w0.heap.size wx) (u.take k1) L'
  e2 : A2 (Cpy W w0.heap.size wx) (u.take k2) l'
  dis : ∀ (i j : Nat) (c c' : Rc), L'[i]? = some c → L'[j]? = some c' → i ≠ j → ∀ g, Bk c g → ¬ Bk c' g
  d12 : ∀ c ∈ L', ∀ d ∈ l', ∀ g, Bk c g → ¬ Bk d g
  tch : Tch (fun b => w0.heap.size ≤ b) w0 wx
theorem K1.begin (W w0 : World) (u : List Rc) : K1 W w0 w0.heap.size u 0 0 (w0.alloc (.cells #[.slice none 0 0, .int .i64 0, .bool false] 48)) none 0 [] none 0 [] :=
  ⟨rfl, alloc_new _ _, World.ownsRow_nil _ _ _ _, World.ownsRow_nil _ _ _ _, fun g e => by simp [Value.ownBlock] at e, A2.nil _, A2.nil _, fun i j c c' e => (by simp at e), fun c hc => (by cases hc), (Tch.alloc _ _ _)⟩
theorem K1.lt1 {W w0 : World} {sb : Nat} {u : List Rc} {k1 k2 : Nat} {wx : World} {la : Option Addr} {lc : Nat} {L' : List Rc} {lo : Option Addr} {ld : Nat} {l' : List Rc} (h : K1 W w0 sb u k1 k2 wx la lc L' lo ld l') {c : Rc} (hc : c ∈ L') {g : Nat} (hg : Bk c g) : w0.heap.size ≤ g ∧ g < wx.heap.size ∧ ∃ cur, wx.heap[g]? = some (.cells cur 76 (0, 0)) := by
  obtain ⟨i, hi⟩ := List.getElem?_of_mem hc
  obtain ⟨d, _, r⟩ := h.e1.get' hi
  exact ⟨(r.own.lt hg).1, (r.own.lt hg).2, hg.elim (fun e => own_ty r.own.o e) (fun e => own_ty r.own.n e)⟩
theorem K1.lt2 {W w0 : World} {sb : Nat} {u : List Rc} {k1 k2 : Nat} {wx : World} {la : Option Addr} {lc : Nat} {L' : List Rc} {lo : Option Addr} {ld : Nat} {l' : List Rc} (h : K1 W w0 sb u k1 k2 wx la lc L' lo ld l') {c : Rc} (hc : c ∈ l') {g : Nat} (hg : Bk c g) : w0.heap.size ≤ g ∧ g < wx.heap.size ∧ ∃ cur, wx.heap[g]? = some (.cells cur 76 (0, 0)) := by
  obtain ⟨i, hi⟩ := List.getElem?_of_mem hc
  obtain ⟨d, _, r⟩ := h.e2.get' hi
  exact ⟨(r.own.lt hg).1, (r.own.lt hg).2, hg.elim (fun e => own_ty r.own.o e) (fun e => own_ty r.own.n e)⟩
/-- A change more for the source: c' is its copy, at wy; then it is appended, at w3. -/
theorem K1.one {W w0 : World} {sb : Nat} {u : List Rc} {k k2 : Nat} {wx : World} {la : Option Addr} {lc : Nat} {L' : List Rc} {lo : Option Addr} {ld : Nat} {l' : List Rc} (h : K1 W w0 sb u k k2 wx la lc L' lo ld l') {c c' : Rc} (hc : u[k]? = some c) {w3 : World} {o5 : Option Addr} {c5 : Nat}
    (hr : Cpy W wx.heap.size w3 c c') (ho : w3.ownsRow w0.heap.size 27 6 (.slice o5 (k + 1) c5) (k + 1) (kcl (L' ++ [c']))) (hat : ∀ g, (Value.slice o5 (k + 1) c5).ownBlock = some g → (Value.slice la k lc).ownBlock = some g ∨ wx.heap.size ≤ g) (t : Tch (fun g => (Value.slice la k lc).ownBlock = some g) wx w3) :
    w3.cell? ⟨sb, 0, none⟩ = some (.slice la k lc) ∧ (∀ j, w3.frozen? ⟨sb, j, none⟩ = false) ∧ K1 W w0 sb u (k + 1) k2 (w3.setCell ⟨sb, 0, none⟩ (.slice o5 (k + 1) c5)) o5 c5 (L' ++ [c']) lo ld l' := by
  have nsb : ¬ (Value.slice la k lc).ownBlock = some sb := fun e => by obtain ⟨cu, hcu⟩ := own_ty h.ow1 e; exact ne_ty hcu h.blk (by decide) rfl
  have hb : w3.heap[sb]? = some (.cells #[.slice la k lc, .int .i64 0, .bool false] 48 (0, 0)) := (t.block sb (blk_lt h.blk) nsb).trans h.blk
  have ts : Tch (fun b => b = sb) w3 (w3.setCell ⟨sb, 0, none⟩ (.slice o5 (k + 1) c5)) := Tch.setCell (fun b => b = sb) _ _ _ rfl
  have nV : ∀ g cur, wx.heap[g]? = some (.cells cur 76 (0, 0)) → ¬ (Value.slice la k lc).ownBlock = some g := fun g cur hg e => by obtain ⟨cu, hcu⟩ := own_ty h.ow1 e; exact ne_ty hg hcu (by decide) rfl
  have nV2 : ∀ g cur, w3.heap[g]? = some (.cells cur 76 (0, 0)) → ¬ g = sb := fun g cur hg e => by subst e; exact ne_ty hg hb (by decide) rfl
  have hle : w0.heap.size ≤ wx.heap.size := h.tch.size
  refine ⟨blk_cell hb 0, blk_frozen hb, ⟨h.sbe, by rw [blk_set hb]; rfl, own_tch ho ts (fun g e e2 => ?_), own_tch (own_tch h.ow2 t (fun g e e2 => h.ne g e2 e)) ts (fun g e e2 => ?_), fun g e e2 => ?_, ?_, ?_, ?_, ?_, ?_⟩⟩
  · subst e2; obtain ⟨cu, hcu⟩ := own_ty ho e; exact ne_ty hcu hb (by decide) rfl
  · subst e2; obtain ⟨cu, hcu⟩ := own_ty (own_tch h.ow2 t (fun g e e2 => h.ne g e2 e)) e; exact ne_ty hcu hb (by decide) rfl
  · rcases hat g e with e1 | e1
    · exact h.ne g e1 e2
    · have := (h.ow2.lt g e2).2; omega
  · exact ((h.e1.mono (fun a b r => (r.tch t nV).tch ts nV2)).snoc hc ⟨hr.sm, (hr.own.tch ts nV2).low hle, hr.ch⟩)
  · exact h.e2.mono (fun a b r => (r.tch t nV).tch ts nV2)
  · intro i j x y hx hy hij g hg hg'
    have old : ∀ (i : Nat) (x : Rc), (L' ++ [c'])[i]? = some x → L'[i]? = some x ∨ (i = L'.length ∧ x = c') := fun i x e => by
      rcases Nat.lt_trichotomy i L'.length with h1 | h1 | h1
      · rw [List.getElem?_append_left h1] at e; exact .inl e
      · subst h1
        rw [List.getElem?_append_right (Nat.le_refl _), Nat.sub_self] at e
        exact .inr ⟨rfl, by simpa using e.symm⟩
      · rw [List.getElem?_eq_none (by simp; omega)] at e; cases e
    rcases old i x hx with ex | ⟨ei, rfl⟩ <;> rcases old j y hy with ey | ⟨ej, rfl⟩
    · exact h.dis i j x y ex ey hij g hg hg'
    · have := (h.lt1 (List.mem_of_getElem? ex) hg).2.1; have := (hr.own.lt hg').1; omega
    · have := (h.lt1 (List.mem_of_getElem? ey) hg').2.1; have := (hr.own.lt hg).1; omega
    · omega
  · intro x hx d hd g hg hg'
    rcases List.mem_append.1 hx with hx | hx
    · exact h.d12 x hx d hd g hg hg'
    · simp only [List.mem_cons, List.not_mem_nil, or_false] at hx
      subst hx
      have := (h.lt2 hd hg').2.1; have := (hr.own.lt hg).1; omega
  · exact (h.tch.trans t (fun g _ e => (h.ow1.lt g e).1)).trans ts (fun g _ e => by show w0.heap.size ≤ g; rw [e, h.sbe]; exact Nat.le_refl _)
/-- A change more for the document. -/
theorem K1.two {W w0 : World} {sb : Nat} {u : List Rc} {k1 k : Nat} {wx : World} {la : Option Addr} {lc : Nat} {L' : List Rc} {lo : Option Addr} {ld : Nat} {l' : List Rc} (h : K1 W w0 sb u k1 k wx la lc L' lo ld l') {c c' : Rc} (hc : u[k]? = some c) {w3 : World} {o5 : Option Addr} {c5 : Nat}
    (hr : Cpy W wx.heap.size w3 c c') (ho : w3.ownsRow w0.heap.size 27 6 (.slice o5 (k + 1) c5) (k + 1) (kcl (l' ++ [c']))) (hat : ∀ g, (Value.slice o5 (k + 1) c5).ownBlock = some g → (Value.slice lo k ld).ownBlock = some g ∨ wx.heap.size ≤ g) (t : Tch (fun g => (Value.slice lo k ld).ownBlock = some g) wx w3) : K1 W w0 sb u k1 (k + 1) w3 la lc L' o5 c5 (l' ++ [c']) := by
  have nsb : ¬ (Value.slice lo k ld).ownBlock = some sb := fun e => by obtain ⟨cu, hcu⟩ := own_ty h.ow2 e; exact ne_ty hcu h.blk (by decide) rfl
  have nV : ∀ g cur, wx.heap[g]? = some (.cells cur 76 (0, 0)) → ¬ (Value.slice lo k ld).ownBlock = some g := fun g cur hg e => by obtain ⟨cu, hcu⟩ := own_ty h.ow2 e; exact ne_ty hg hcu (by decide) rfl
  have hle : w0.heap.size ≤ wx.heap.size := h.tch.size
  refine ⟨h.sbe, (t.block sb (blk_lt h.blk) nsb).trans h.blk, own_tch h.ow1 t (fun g e e2 => h.ne g e e2), ho, fun g e e2 => ?_, h.e1.mono (fun a b r => r.tch t nV), (h.e2.mono (fun a b r => r.tch t nV)).snoc hc ⟨hr.sm, hr.own.low hle, hr.ch⟩, h.dis, ?_, h.tch.trans t (fun g _ e => (h.ow2.lt g e).1)⟩
  · rcases hat g e2 with e1 | e1
    · exact h.ne g e e1
    · have := (h.ow1.lt g e).2; omega
  · intro x hx d hd g hg hg'
    rcases List.mem_append.1 hd with hd | hd
    · exact h.d12 x hx d hd g hg hg'
    · simp only [List.mem_cons, List.not_mem_nil, or_false] at hd
      subst hd
      have := (h.lt1 hx hg).2.1; have := (hr.own.lt hg').1; omega
/-- The source is made. -/
theorem K1.sw {W w0 : World} {sb : Nat} {u : List Rc} {wx : World} {la : Option Addr} {lc : Nat} {L' : List Rc} {lo : Option Addr} {ld : Nat} {l' : List Rc} (h : K1 W w0 sb u u.length u.length wx la lc L' lo ld l') : SW W wx sb la lc u L' 0 ∧ L'.length = u.length ∧ l'.length = u.length ∧ A2 (Cpy W 0 wx) u l' := by
  have l1 : L'.length = u.length := by rw [← h.e1.len, List.take_length]
  have l2 : l'.length = u.length := by rw [← h.e2.len, List.take_length]
  have e1 := h.e1
  have e2 := h.e2
  rw [List.take_length] at e1 e2
  refine ⟨⟨by rw [l1]; exact h.blk, by rw [l1]; exact own_low h.ow1 (Nat.zero_le _), l1.symm, fun j c c' hc hc' _ => ?_, h.dis, Nat.zero_le _⟩, l1, l2, e2.mono (fun a b r => ⟨r.sm, r.own.low (Nat.zero_le _), r.ch⟩)⟩
  have r := e1.el j c c' hc hc'
  exact ⟨r.sm, r.own.low (Nat.zero_le _), r.ch⟩
end Go.Proofs.Ytmnhkgibplnnnaa
/- MergePlays: Add of a source, the code's and the document's. -/
namespace Go.Proofs.Ytmnhkgibplnnnaa
open Go.RowKit Go

/-- A source is made, and stands among the rows; l' is the document's list. -/
structure A1 (V : World) (Z : Nat → Prop) (W w : World) (mb rb nb T : Nat) (so : Option Addr) (m sc : Nat) (s : Sv) (o : Nat → Nat) (x : Sd) (lo : Option Addr) (ld : Nat) (l' : List Rc) : Prop where
  q : StQ V Z W w mb rb nb T { s with o := o }
  cs : CS w o so (m + 1) sc (s.sbs ++ [x.sb]) (s.ls ++ [l']) (s.rs ++ [x.L]) (upX s.X s.rs.length x) (upS s.sg s.rs.length s.ls.length)
  sw : SW W w x.sb x.la x.lc x.L x.L' 0
  ll : x.L'.length = x.L.length
  xz : x.L.length ≤ 1048576
  ch : ∀ c ∈ x.L, ChIn W c
  vl : VL w lo ld l'
  cp : A2 (Cpy W 0 w) x.L l'
  x1 : ∀ b, Fx x x.L b → o b = 1
  xs : ∀ j, j < s.rs.length → (s.X j).sb ≠ x.sb
  xf : ∀ (j : Nat) (d : Rc) (v : List Rc), s.rs[j]? = some (d :: v) → ∀ b, Fx (s.X j) v b ∨ Bk (s.H j) b → ¬ Fx x x.L b
  l2 : ∀ b, (Value.slice lo l'.length ld).ownBlock = some b → o b = 2
  r2 : ∀ c ∈ l', ∀ b, Bk c b → o b = 2
open Classical in
noncomputable def madeO (o : Nat → Nat) (n : Nat) (x : Sd) (n2 b : Nat) : Nat := if b < n then o b else if n2 ≤ b then 6 else if Fx x x.L b then 1 else 2
theorem ER.sgl {Q : Rc → Rc → Prop} {rs rr : List (List Rc)} {sg : Nat → Nat} (h : ER Q rs rr sg) {j : Nat} (hj : j < rs.length) : sg j < rr.length := by
  obtain ⟨u', e, _⟩ := h.at' j _ (List.getElem?_eq_getElem hj)
  exact (List.getElem?_eq_some_iff.1 e).1
theorem StP.made {V : World} {Z : Nat → Prop} {W w0 : World} {mb rb nb : Nat} {so : Option Addr} {m sc T : Nat} {s : Sv} (h : StP V Z W w0 mb rb nb so m sc T s) {sb : Nat} {u : List Rc} {wx : World} {la : Option Addr} {lc : Nat} {L' : List Rc} {lo : Option Addr} {ld : Nat} {l' : List Rc} (k : K1 W w0 sb u u.length u.length wx la lc L' lo ld l') (hu : u.length ≤ 1048576) (hch : ∀ c ∈ u, ChIn W c) (hT : T ≤ 2000000) :
    ∃ so' sc' w1, (Builtin.append_ #[43, 43] 43 #[.slice so m sc, .slice (some ⟨wx.heap.size, 0, none⟩) 1 1]).run Try.prog (wx.alloc (.cells #[.pointer (some ⟨sb, 0, none⟩)] 46)) = .ok (.slice so' (m + 1) sc') w1 ∧ ∃ o, A1 V Z W w1 mb rb nb T so' m sc' s o ⟨sb, la, lc, u, L'⟩ lo ld l' := by
  have hml := h.cs.ml
  have hlt := h.q.lt
  obtain ⟨sw, ll, ll2, cp⟩ := k.sw
  have tx : Tch (fun _ => False) w0 wx := k.tch.mono (fun b hb e => by omega)
  have hx := h.no tx
  obtain ⟨so', sc', w1, hrun, hown, t1, hat⟩ := rows_app hx.cs.own sb (by omega)
  have hsbe := k.sbe
  have sz1 := k.tch.size
  have l6 : ∀ b, (Value.slice so m sc).ownBlock = some b → s.o b = 6 ∧ b < w0.heap.size := fun b e => ⟨h.cs.lab b e, (h.cs.own.lt b e).2⟩
  have fxn : ∀ b, Fx ⟨sb, la, lc, u, L'⟩ u b → w0.heap.size ≤ b ∧ b < wx.heap.size := fun b hb => by
    rcases hb with e | e | ⟨j, c', hc', _, hb⟩
    · have e' : b = sb := e
      exact ⟨by omega, by rw [e']; exact blk_lt k.blk⟩
    · have e' : (Value.slice la u.length lc).ownBlock = some b := by rw [← ll]; exact e
      exact k.ow1.lt b e'
    · have := k.lt1 (List.mem_of_getElem? hc') hb; exact ⟨this.1, this.2.1⟩
  obtain ⟨o, ho⟩ : ∃ o, o = madeO s.o w0.heap.size ⟨sb, la, lc, u, L'⟩ wx.heap.size := ⟨_, rfl⟩
  have oe : ∀ b, b < w0.heap.size → o b = s.o b := fun b hb => by rw [ho]; unfold madeO; rw [if_pos hb]
  have o6 : ∀ b, wx.heap.size ≤ b → o b = 6 := fun b hb => by rw [ho]; unfold madeO; rw [if_neg (by omega), if_pos hb]
  have o1 : ∀ b, Fx ⟨sb, la, lc, u, L'⟩ u b → o b = 1 := fun b hb => by
    have := fxn b hb
    rw [ho]; unfold madeO; rw [if_neg (by omega), if_neg (by omega), if_pos hb]
  have o2 : ∀ b, w0.heap.size ≤ b → b < wx.heap.size → ¬ Fx ⟨sb, la, lc, u, L'⟩ u b → o b = 2 := fun b h1 h2 h3 => by rw [ho]; unfold madeO; rw [if_neg (by omega), if_neg (by omega), if_neg h3]
  have t : Tch (fun b => (Value.slice so m sc).ownBlock = some b) w0 w1 := (tx.mono (fun _ _ h => h.elim)).trans' t1
  have n6 : ∀ b, Fx ⟨sb, la, lc, u, L'⟩ u b → ¬ (Value.slice so m sc).ownBlock = some b := fun b hb e => by have := fxn b hb; have := (l6 b e).2; omega
  have fz : ∀ b, Fs sb la lc L' 0 b → Fx ⟨sb, la, lc, u, L'⟩ u b := fun b hb => by
    have e : kk ⟨sb, la, lc, u, L'⟩ u = 0 := kk_all ⟨sb, la, lc, u, L'⟩
    unfold Fx
    rw [e]; exact hb
  have hq : StQ V Z W w1 mb rb nb T { s with o := o } := h.q.frame t (fun b hb e => .inl (l6 b e).1) oe
  have l2f : ∀ b, (Value.slice lo l'.length ld).ownBlock = some b → w0.heap.size ≤ b ∧ b < wx.heap.size ∧ ¬ Fx ⟨sb, la, lc, u, L'⟩ u b := fun b e => by
    have e' : (Value.slice lo u.length ld).ownBlock = some b := by rw [← ll2]; exact e
    refine ⟨(k.ow2.lt b e').1, (k.ow2.lt b e').2, fun hb => ?_⟩
    obtain ⟨cu, hcu⟩ := own_ty k.ow2 e'
    rcases hb with e2 | e2 | ⟨j, c', hc', _, hb⟩
    · have e3 : b = sb := e2
      subst e3; exact ne_ty hcu k.blk (by decide) rfl
    · have e3 : (Value.slice la u.length lc).ownBlock = some b := by rw [← ll]; exact e2
      exact k.ne b e3 e'
    · obtain ⟨_, _, cv, hcv⟩ := k.lt1 (List.mem_of_getElem? hc') hb
      exact ne_ty hcv hcu (by decide) rfl
  have r2f : ∀ c ∈ l', ∀ b, Bk c b → w0.heap.size ≤ b ∧ b < wx.heap.size ∧ ¬ Fx ⟨sb, la, lc, u, L'⟩ u b := fun c hc b hb => by
    obtain ⟨h1, h2, cu, hcu⟩ := k.lt2 hc hb
    refine ⟨h1, h2, fun hf => ?_⟩
    rcases hf with e2 | e2 | ⟨j, c', hc', _, hb2⟩
    · have e3 : b = sb := e2
      subst e3; exact ne_ty hcu k.blk (by decide) rfl
    · have e3 : (Value.slice la u.length lc).ownBlock = some b := by rw [← ll]; exact e2
      obtain ⟨cv, hcv⟩ := own_ty k.ow1 e3
      exact ne_ty hcu hcv (by decide) rfl
    · exact k.d12 c' (List.mem_of_getElem? hc') c hc b hb2 hb
  refine ⟨so', sc', w1, hrun, o, ⟨hq, ⟨hown, fun b e => ?_, by simp [h.cs.len], by simp [hml], fun j hj => ?_, fun q b e => ?_⟩, sw.tch t1 (fun b hb => n6 b (fz b hb)), ll, hu, hch, ?_, cp.mono (fun a b r => r.tch t1 (fun g cur hg e => by obtain ⟨cu, hcu⟩ := own_ty hx.cs.own e; exact ne_ty hg hcu (by decide) rfl)), o1, fun j hj e => ?_, fun j d v e b hb hf => ?_, fun b e => o2 b (l2f b e).1 (l2f b e).2.1 (l2f b e).2.2, fun c hc b hb => o2 b (r2f c hc b hb).1 (r2f c hc b hb).2.1 (r2f c hc b hb).2.2⟩⟩
  · rcases hat b e with e1 | e1
    · exact (oe b (l6 b e1).2).trans (l6 b e1).1
    · exact o6 b e1
  · rw [List.length_append, List.length_singleton] at hj
    have hsl := h.cs.len
    unfold upS upX
    split
    · rw [List.getElem?_append_right (by omega), show s.ls.length - s.sbs.length = 0 by omega]; rfl
    · have hj' : j < s.rs.length := by omega
      have hs := h.cs.src j hj'
      rw [List.getElem?_append_left (List.getElem?_eq_some_iff.1 hs).1]; exact hs
  · rcases Nat.lt_trichotomy q s.sbs.length with h1 | h1 | h1
    · rw [List.getElem?_append_left h1] at e
      rcases h.cs.nil q b e with ⟨j, hj, e2⟩ | ⟨e2, e3, e4⟩
      · exact .inl ⟨j, by simp; omega, by unfold upS; rw [if_neg (by omega)]; exact e2⟩
      · refine .inr ⟨(oe b (blk_lt e3)).trans e2, ?_, by rw [List.getElem?_append_left (List.getElem?_eq_some_iff.1 e4).1]; exact e4⟩
        exact (t.block b (blk_lt e3) (fun e5 => by obtain ⟨cu, hcu⟩ := own_ty h.cs.own e5; exact ne_ty e3 hcu (by decide) rfl)).trans e3
    · exact .inl ⟨s.rs.length, by simp, by unfold upS; rw [if_pos rfl]; have := h.cs.len; omega⟩
    · rw [List.getElem?_eq_none (by simp; omega)] at e; cases e
  · have : wx.ownsRow 0 27 6 (.slice lo l'.length ld) l'.length (kcl l') := by rw [ll2]; exact own_low k.ow2 (Nat.zero_le _)
    exact own_tch this t1 (fun b e e2 => by have := (l2f b e).1; have := (l6 b e2).2; omega)
  · have h1 := (h.q.cm.mp.lt j hj).2
    have e' : (s.X j).sb = sb := e
    omega
  · have h1 := h.q.cm.mp.ms_lt (.inr (.inr (.inr ⟨j, d, v, e, .inr hb⟩)))
    have := (fxn b hf).1
    omega
end Go.Proofs.Ytmnhkgibplnnnaa
/- MergePlays: the calls of Add. -/
namespace Go.Proofs.Ytmnhkgibplnnnaa
open Go.RowKit Go

/-- The code's Add is done, the document's not yet. -/
structure A2' (V : World) (Z : Nat → Prop) (W w : World) (mb rb nb T : Nat) (so : Option Addr) (m sc : Nat) (s : Sv) (o : Nat → Nat) (g cap : Nat) (L : List It) (P : Nat → Nat) (H : Nat → Rc) (x : Sd) (lo : Option Addr) (ld : Nat) (l' : List Rc) : Prop where
  cm : CM W w o mb g cap L P (upX s.X s.rs.length x) H (s.rs ++ [x.L])
  cr : CR W w o rb s.vL s.vA s.hd s.ls s.nx s.rs s.X s.sg
  cb : CB w o nb s.rv s.A
  bk : w.heap[nb]? = some (.cells (bkC s.rv s.held s.was) 42 (0, 0))
  b7 : o nb = 7
  chh : CH W w o s.c0 s.held s.was
  w0 : Tch (fun b => ¬ Z b) V w
  lo' : ∀ b, Z b → o b = 0 ∧ b < V.heap.size
  cs : CS w o so (m + 1) sc (s.sbs ++ [x.sb]) (s.ls ++ [l']) (s.rs ++ [x.L]) (upX s.X s.rs.length x) (upS s.sg s.rs.length s.ls.length)
  vl : VL w lo ld l'
  cp : A2 (Cpy W 0 w) x.L l'
  xz : x.L.length ≤ 1048576
  l2 : ∀ b, (Value.slice lo l'.length ld).ownBlock = some b → o b = 2
  r2 : ∀ c ∈ l', ∀ b, Bk c b → o b = 2
theorem A1.add {V : World} {Z : Nat → Prop} {W w : World} {mb rb nb T : Nat} {so : Option Addr} {m sc : Nat} {s : Sv} {o : Nat → Nat} {x : Sd} {lo : Option Addr} {ld : Nat} {l' : List Rc} (h : A1 V Z W w mb rb nb T so m sc s o x lo ld l') (hT : T ≤ 2000000) :
    Calls Try.prog 10 #[.pointer (some ⟨mb, 0, none⟩), fS x.sb] w fun e w' => e = .returned (.tuple #[]) ∧ ∃ o' g cap L P H, A2' V Z W w' mb rb nb T so m sc s o' g cap L P H x lo ld l' := by
  have hrt : s.rs.length ≤ T := h.q.rt
  have cm : CM W w o mb s.g s.cap s.L s.P s.X s.H s.rs := h.q.cm
  have cr : CR W w o rb s.vL s.vA s.hd s.ls s.nx s.rs s.X s.sg := h.q.cr
  have b7 : o nb = 7 := h.q.b7
  refine (vadd_any W w mb s.g s.cap s.L s.P s.X s.H s.rs x cm.mp h.sw (fun i d v e b hb => h.xf i d v e b (.inl hb)) (fun i d v e b hb => h.xf i d v e b (.inr hb)) h.xs (by omega) (by rw [h.ll]; have := h.xz; omega)).mono ?_
  rintro e w' ⟨rfl, ⟨g', cap', L', H', hmp, hH1, hH2, hg⟩, t⟩
  have hfx : ∀ b, Fx x x.L b → b < w.heap.size := fun b hb => by
    have sw := h.sw
    rw [← kk_all x] at sw
    exact sw.fx hb
  have S1 : ∀ b, b < w.heap.size → (b = mb ∨ Fx x x.L b ∨ b = s.g) → o b = 1 := fun b _ hs => by
    rcases hs with e | e | e
    · exact cm.lab b (.inl e)
    · exact h.x1 b e
    · exact cm.lab b (.inr (.inl e))
  have no : ∀ k, k ≠ 1 → ∀ b, b < w.heap.size → (b = mb ∨ Fx x x.L b ∨ b = s.g) → o b ≠ k := fun k hk b hb hs e => hk (by rw [← e]; exact S1 b hb hs)
  have oe : ∀ b, b < w.heap.size → newO o w.heap.size 1 b = o b := fun b hb => newO_lt hb
  have ok : ∀ k b, b < w.heap.size → o b = k → newO o w.heap.size 1 b = k := fun k b hb e => (oe b hb).trans e
  have hbn : nb < w.heap.size := blk_lt h.q.bk
  have hcp := h.cp
  have hrl : ∀ c ∈ l', ∀ b, Bk c b → b < w.heap.size := fun c hc b hb => by
    obtain ⟨i, hi⟩ := List.getElem?_of_mem hc
    obtain ⟨d, _, r⟩ := hcp.get' hi
    exact (r.own.lt hb).2
  refine ⟨rfl, newO o w.heap.size 1, g', cap', L', upF s.P s.rs.length w.heap.size, H', ⟨⟨hmp, fun b hb => ?_, fun j hj => ?_, fun j u e c hc => ?_⟩, cr.step t (no 2 (by decide)) (ok 2), h.q.cb.step t (fun b hb hs => by rw [oe b hb]; exact no 3 (by decide) b hb hs) (ok 3), (t.block nb hbn (fun hs => no 7 (by decide) nb hbn hs b7)).trans h.q.bk, ok 7 nb hbn b7, h.q.ch.step t (fun b hb hs => ⟨no 4 (by decide) b hb hs, no 5 (by decide) b hb hs⟩) (fun b hb => ⟨ok 4 b hb, ok 5 b hb⟩), h.q.w0.trans t (fun b hb hs => ?_), fun b hb => ⟨ok 0 b (Nat.lt_of_lt_of_le (h.q.lo b hb).2 h.q.w0.size) (h.q.lo b hb).1, (h.q.lo b hb).2⟩, h.cs.step t (no 6 (by decide)) (ok 6), own_tch h.vl t (fun b e hs => no 2 (by decide) b (h.vl.lt b e).2 hs (h.l2 b e)), ⟨hcp.len, fun i c c' x y => (hcp.el i c c' x y).keep t (fun b hb hs => no 2 (by decide) b (hrl c' (List.mem_of_getElem? y) b hb) hs (h.r2 c' (List.mem_of_getElem? y) b hb))⟩, h.xz, fun b e => ok 2 b (h.vl.lt b e).2 (h.l2 b e), fun c hc b hb => ok 2 b (hrl c hc b hb) (h.r2 c hc b hb)⟩⟩
  · rcases Nat.lt_or_ge b w.heap.size with hlt | hge
    · rw [oe b hlt]
      rcases hb with e | e | ⟨j, hj, e⟩ | ⟨j, c, v, e, hx⟩
      · exact cm.lab b (.inl e)
      · rcases hg with e1 | e1
        · exact cm.lab b (.inr (.inl (e.trans e1)))
        · omega
      · rw [List.length_append, List.length_singleton] at hj
        unfold upX at e
        split at e
        · rw [e]; exact h.x1 _ (Fx.sb x x.L)
        · exact cm.lab b (.inr (.inr (.inl ⟨j, by omega, e⟩)))
      · rcases Nat.lt_or_ge j s.rs.length with hj | hj
        · rw [List.getElem?_append_left hj] at e
          rw [upX_ne _ _ _ hj, upF_ne _ _ _ hj, hH1 j hj] at hx
          exact cm.lab b (.inr (.inr (.inr ⟨j, c, v, e, hx⟩)))
        · have hj2 := (List.getElem?_eq_some_iff.1 e).1
          rw [List.length_append, List.length_singleton] at hj2
          obtain rfl : j = s.rs.length := by omega
          rw [List.getElem?_append_right (Nat.le_refl _), Nat.sub_self] at e
          have eL : x.L = c :: v := by simpa using e
          rw [upX_at, upF_at] at hx
          rcases hx with hx | hx | hx
          · omega
          · have hk : kk x (c :: v) = 0 := by rw [← eL]; exact kk_all x
            have hk1 : kk x v = kk x (c :: v) + 1 := by
              have : x.L.length = v.length + 1 := by rw [eL]; rfl
              rw [hk]; unfold kk; omega
            have := hx.down hk1
            rw [← eL] at this
            exact h.x1 b this
          · have := hH2 (by rw [eL]; simp) b hx; omega
    · exact newO_ge hge
  · rw [List.length_append, List.length_singleton] at hj
    unfold upX
    split
    · rw [h.ll]; have := h.xz; omega
    · exact cm.sz j (by omega)
  · rcases Nat.lt_or_ge j s.rs.length with hj | hj
    · rw [List.getElem?_append_left hj] at e
      exact cm.ch j u e c hc
    · have hj2 := (List.getElem?_eq_some_iff.1 e).1
      rw [List.length_append, List.length_singleton] at hj2
      obtain rfl : j = s.rs.length := by omega
      rw [List.getElem?_append_right (Nat.le_refl _), Nat.sub_self] at e
      obtain rfl : x.L = u := by simpa using e
      exact h.ch c hc
  · exact fun hz => no 0 (by decide) b (Nat.lt_of_lt_of_le hb h.q.w0.size) hs (h.q.lo b hz).1
theorem A2'.add {V : World} {Z : Nat → Prop} {W w : World} {mb rb nb T : Nat} {so : Option Addr} {m sc : Nat} {s : Sv} {o : Nat → Nat} {g cap : Nat} {L : List It} {P : Nat → Nat} {H : Nat → Rc} {x : Sd} {lo : Option Addr} {ld : Nat} {l' : List Rc} (h : A2' V Z W w mb rb nb T so m sc s o g cap L P H x lo ld l') (ha1 : s.A.length % 10 = 0) (ha2 : s.A.length ≤ 20 * T) (hlt : s.ls.length ≤ T) (hrt : s.rs.length ≤ T) (hT : T ≤ 2000000) :
    Calls Try.prog 12 #[.pointer (some ⟨rb, 0, none⟩), .slice lo l'.length ld] w fun e w' => e = .returned (.tuple #[]) ∧ ∃ s', StP V Z W w' mb rb nb so (m + 1) sc (T + 1) s' := by
  have hl : l'.length = x.L.length := h.cp.len.symm
  have hxz := h.xz
  refine (rvadd_any 0 w rb s.vL s.vA s.hd s.ls s.nx h.cr.rv l' lo ld h.vl (Nat.zero_le _) (by omega)).mono ?_
  rintro e w' ⟨rfl, ⟨vL', vA', h', hL, hA⟩, t⟩
  have S2 : ∀ b, (b = rb ∨ s.vL.ownBlock = some b ∨ s.vA.ownBlock = some b) → o b = 2 := fun b hs => by
    rcases hs with e | e | e
    · exact h.cr.lab b (.inl e)
    · exact h.cr.lab b (.inr (.inl e))
    · exact h.cr.lab b (.inr (.inr (.inl e)))
  have no : ∀ k, k ≠ 2 → ∀ b, b < w.heap.size → (b = rb ∨ s.vL.ownBlock = some b ∨ s.vA.ownBlock = some b) → o b ≠ k := fun k hk b _ hs e => hk (by rw [← e]; exact S2 b hs)
  have oe : ∀ b, b < w.heap.size → newO o w.heap.size 2 b = o b := fun b hb => newO_lt hb
  have ok : ∀ k b, b < w.heap.size → o b = k → newO o w.heap.size 2 b = k := fun k b hb e => (oe b hb).trans e
  have hcp := h.cp
  have hrl : ∀ c ∈ l', ∀ b, Bk c b → b < w.heap.size := fun c hc b hb => by
    obtain ⟨i, hi⟩ := List.getElem?_of_mem hc
    obtain ⟨d, _, r⟩ := hcp.get' hi
    exact (r.own.lt hb).2
  obtain ⟨k1, k2, k3⟩ := h.cr.addRaw (o' := newO o w.heap.size 2) h' t hL hA (fun b e => ⟨h.l2 b e, (h.vl.lt b e).2⟩) (fun c hc b hb => ⟨h.r2 c hc b hb, hrl c hc b hb⟩) oe (fun b hb => newO_ge hb)
  have hrs := rsOf_snoc s.ls s.nx h.cr.rv.nl l'
  have hlen := rsOf_len h.cr.rv.nl
  have hbn : nb < w.heap.size := blk_lt h.bk
  have hcp' : A2 (Cpy W 0 w') x.L l' := ⟨hcp.len, fun i c c' e1 e2 => (hcp.el i c c' e1 e2).keep t (fun b hb hs => by
    have r := hcp.el i c c' e1 e2
    obtain ⟨cu, hcu⟩ : ∃ cur, w.heap[b]? = some (.cells cur 76 (0, 0)) := hb.elim (fun e => own_ty r.own.o e) (fun e => own_ty r.own.n e)
    rcases hs with e2 | e2 | e2
    · subst e2; exact ne_ty hcu h.cr.rv.blk (by decide) rfl
    · obtain ⟨cv, hcv⟩ := own_ty h.cr.rv.oL e2; exact ne_ty hcu hcv (by decide) rfl
    · obtain ⟨cv, hcv⟩ := own_ty h.cr.rv.oA e2; exact ne_ty hcu hcv (by decide) rfl)⟩
  refine ⟨rfl, ⟨newO o w.heap.size 2, g, cap, L, P, upX s.X s.rs.length x, H, s.rs ++ [x.L], vL', vA', s.hd ++ [.slice lo l'.length ld], s.ls ++ [l'], s.nx ++ [0], upS s.sg s.rs.length s.ls.length, s.rv, s.A, s.c0, s.held, s.was, s.sbs ++ [x.sb]⟩, ⟨⟨h.cm.step t (no 1 (by decide)) (ok 1), ⟨h', fun b hb => (k1 b hb).1, fun b hb => (k1 b hb).2, ?_, fun j hj => ?_, fun l hl2 => ?_⟩, h.cb.step t (fun b hb hs => by show newO o w.heap.size 2 b ≠ 3; rw [oe b hb]; exact no 3 (by decide) b hb hs) (ok 3), (t.block nb hbn (fun hs => no 7 (by decide) nb hbn hs h.b7)).trans h.bk, ok 7 nb hbn h.b7, ha1, by show s.A.length ≤ _; omega, h.chh.step t (fun b hb hs => ⟨no 4 (by decide) b hb hs, no 5 (by decide) b hb hs⟩) (fun b hb => ⟨ok 4 b hb, ok 5 b hb⟩), by show (s.ls ++ [l']).length ≤ _; simp; omega, by show (s.rs ++ [x.L]).length ≤ _; simp; omega, h.w0.trans t (fun b hb hs => ?_), fun b hb => ⟨ok 0 b (Nat.lt_of_lt_of_le (h.lo' b hb).2 h.w0.size) (h.lo' b hb).1, (h.lo' b hb).2⟩⟩, h.cs.step t (no 6 (by decide)) (ok 6)⟩⟩
  · show ER _ _ (rsOf (s.ls ++ [l']) (s.nx ++ [0])) _
    rw [hrs, ← hlen]
    exact k2.more k3 hcp'
  · have hj' : j < (s.rs ++ [x.L]).length := hj
    rw [List.length_append, List.length_singleton] at hj'
    show ∃ l, (s.ls ++ [l'])[upS s.sg s.rs.length s.ls.length j]? = some l ∧ l.length = (upX s.X s.rs.length x j).L.length
    unfold upS upX
    split
    · exact ⟨l', by rw [List.getElem?_append_right (Nat.le_refl _), Nat.sub_self]; rfl, hl⟩
    · obtain ⟨l, e, hll⟩ := h.cr.ln j (by omega)
      exact ⟨l, by rw [List.getElem?_append_left (List.getElem?_eq_some_iff.1 e).1]; exact e, hll⟩
  · have hl3 : l ∈ s.ls ++ [l'] := hl2
    rcases List.mem_append.1 hl3 with hl4 | hl4
    · exact h.cr.lz l hl4
    · simp only [List.mem_cons, List.not_mem_nil, or_false] at hl4
      subst hl4; omega
  · exact fun hz => no 0 (by decide) b (Nat.lt_of_lt_of_le hb h.w0.size) hs (h.lo' b hz).1
end Go.Proofs.Ytmnhkgibplnnnaa
/- MergePlays: the beginning; a row that is nothing; the end of Next. -/
namespace Go.Proofs.Ytmnhkgibplnnnaa
open Go.RowKit Go

set_option maxRecDepth 100000 in
theorem vnew_any (W w : World) : Calls Try.prog 8 #[] w fun e w' => e = .returned (.pointer (some ⟨w.heap.size + 1, 0, none⟩)) ∧ (∃ cap, MP W w' (w.heap.size + 1) w.heap.size cap [] (fun _ => 0) (fun _ => ⟨0, none, 0, [], []⟩) (fun _ => k0) (fun _ => False) []) ∧ Tch (fun _ => False) w w' ∧ w'.heap.size = w.heap.size + 2 := by
  have q := empty_any w
  obtain ⟨w1, hw1⟩ : ∃ w1, w1 = w.alloc (.cells zArr 77) := ⟨_, rfl⟩
  rw [← hw1] at q
  obtain ⟨w2, hw2⟩ : ∃ w2, w2 = w1.alloc (.cells #[.slice (some ⟨w.heap.size, 0, none⟩) 0 8, .int .i64 0] 66) := ⟨_, rfl⟩
  have hz1 : w1.heap.size = w.heap.size + 1 := by rw [hw1, World.size_alloc]
  have hz2 : w2.heap.size = w.heap.size + 2 := by rw [hw2, World.size_alloc, hz1]
  have t1 : Tch (fun _ => False) w w1 := by rw [hw1]; exact Tch.alloc _ _ _
  have t2 : Tch (fun _ => False) w w2 := by rw [hw2]; exact t1.allocR _
  have b1 : w2.heap[w.heap.size]? = some (.cells zArr 77 (0, 0)) := by rw [hw2, (Tch.alloc (fun _ => False) w1 _).block _ (by omega) (fun h => h), hw1]; exact alloc_new _ _
  have b2 : w2.heap[w.heap.size + 1]? = some (.cells #[.slice (some ⟨w.heap.size, 0, none⟩) 0 8, .int .i64 0] 66 (0, 0)) := by rw [hw2, ← hz1]; exact alloc_new _ _
  have H : Hid ((∃ cap, MP W w2 (w.heap.size + 1) w.heap.size cap [] (fun _ => 0) (fun _ => ⟨0, none, 0, [], []⟩) (fun _ => k0) (fun _ => False) []) ∧ Tch (fun _ => False) w w2 ∧ w2.heap.size = w.heap.size + 2) :=
    ⟨⟨8, b2, ⟨⟨zArr, _, b1, rfl, rfl⟩, by decide, by decide, ty_of b1 (.inr rfl)⟩, fun i _ hi => by simp at hi, its_nil _ _ _, fun j c u e => by simp at e, fun j _ e => by simp at e, fun i j hi => by simp at hi, fun j hj => by simp at hj, fun i j hi => by simp at hi, fun i j c d u v e => by simp at e, fun i j c d u v e => by simp at e, fun i j c d u v e => by simp at e⟩, t2, hz2⟩
  have HW2 : Hid (w2 = _) := hw2
  clear hw1 hw2 t1 t2 b1 b2 hz2
  go_enter Try.func8, Try.ntmps8
  go_wp2_with (go_at_call 24; refine q.mono ?_; rintro e w3 ⟨rfl, rfl⟩)
  go_ret
  refine ⟨rfl, ?_⟩
  rw [← HW2.out]; exact H.out
/-- Owners at the beginning: n the code's merge begins at. -/
def begO (n b : Nat) : Nat := if b = n ∨ b = n + 1 then 1 else if b = n + 2 then 2 else if b = n + 3 then 7 else 0
theorem StP.begin {W w V : World} {n cap : Nat} {Z : Nat → Prop} (hm : MP W w (n + 1) n cap [] (fun _ => 0) (fun _ => ⟨0, none, 0, [], []⟩) (fun _ => k0) (fun _ => False) []) (hr : w.heap[n + 2]? = some (.cells #[.slice none 0 0, .slice none 0 0] 38 (0, 0))) (hb : w.heap[n + 3]? = some (.cells (bkC (.slice none 0 0) k0 k0) 42 (0, 0))) (t : Tch (fun b => ¬ Z b) V w) (hz : ∀ b, Z b → b < V.heap.size ∧ (b < n ∨ n + 3 < b)) :
    StP V Z W w (n + 1) (n + 2) (n + 3) none 0 0 0 ⟨begO n, n, cap, [], fun _ => 0, fun _ => ⟨0, none, 0, [], []⟩, fun _ => k0, [], .slice none 0 0, .slice none 0 0, [], [], [], fun _ => 0, .slice none 0 0, [], k0, k0, k0, []⟩ := by
  have nk : ∀ b, ¬ Bk k0 b := fun b hb => by rcases hb with e | e <;> simp [k0, Value.ownBlock] at e
  refine ⟨⟨⟨hm, fun b hb => ?_, fun j hj => by simp at hj, fun j u e => by simp at e⟩, ⟨⟨hr, World.ownsRow_nil _ _ _ _, World.ownsRow_nil _ _ _ _, fun j l e => by simp at e, rfl, fun j l k e => by simp at e, Nat.zero_le _⟩, fun b hb => ?_, fun b hb => ?_, ⟨fun i j _ hj => by simp at hj, fun j u e => by simp at e, fun q c v e => by simp [rsOf] at e⟩, fun j hj => by simp at hj, fun l hl => by cases hl⟩, ⟨World.ownsRow_nil _ _ _ _, fun g e => by simp [Value.ownBlock] at e, fun j hj => by simp at hj⟩, hb, ?_, rfl, Nat.zero_le _, ⟨cpy_k0 W w, cpy_k0 W w, fun b hb => (nk b hb).elim, fun b hb => (nk b hb).elim⟩, Nat.zero_le _, Nat.zero_le _, t, fun b hb => ⟨?_, (hz b hb).1⟩⟩, ⟨World.ownsRow_nil _ _ _ _, fun b e => by simp [Value.ownBlock] at e, rfl, rfl, fun j hj => by simp at hj, fun q b e => by simp at e⟩⟩
  · rcases hb with e | e | ⟨j, hj, _⟩ | ⟨j, c, u, e, _⟩
    · show begO n b = 1; unfold begO; rw [if_pos (.inr e)]
    · show begO n b = 1; unfold begO; rw [if_pos (.inl e)]
    · simp at hj
    · simp at e
  · rcases hb with e | e | e | ⟨v, hv, _⟩ | ⟨q, u, c, e, _⟩
    · show begO n b = 2; unfold begO; rw [if_neg (by omega), if_pos e]
    · simp [Value.ownBlock] at e
    · simp [Value.ownBlock] at e
    · cases hv
    · simp [rsOf] at e
  · rcases hb with e | e | e | ⟨v, hv, _⟩ | ⟨q, u, c, e, _⟩
    · rw [e]; exact blk_lt hr
    · simp [Value.ownBlock] at e
    · simp [Value.ownBlock] at e
    · cases hv
    · simp [rsOf] at e
  · show begO n (n + 3) = 7
    unfold begO
    rw [if_neg (by omega), if_neg (by omega), if_pos rfl]
  · show begO n b = 0
    have := (hz b hb).2
    unfold begO
    rw [if_neg (by omega), if_neg (by omega), if_neg (by omega)]
/-- The row of nothing. -/
theorem StQ.nilRow {V : World} {Z : Nat → Prop} {W w : World} {mb rb nb : Nat} {so : Option Addr} {m sc T : Nat} {s : Sv} {sbs : List Nat} {ls : List (List Rc)} (h : StQ V Z W w mb rb nb T s) (cs : CS w s.o so m sc sbs ls s.rs s.X s.sg) (e : s.ls = ls ++ [[]]) (hT : T ≤ 3000000) :
    ∃ so' sc' w1, (Builtin.append_ #[43, 43] 43 #[.slice so m sc, .slice (some ⟨w.heap.size + 1, 0, none⟩) 1 1]).run Try.prog ((w.alloc (.cells #[.slice none 0 0, .int .i64 1, .bool false] 48)).alloc (.cells #[.pointer (some ⟨w.heap.size, 0, none⟩)] 46)) = .ok (.slice so' (m + 1) sc') w1 ∧ ∃ s', StP V Z W w1 mb rb nb so' (m + 1) sc' T s' := by
  obtain ⟨wb, hwb⟩ : ∃ wb, wb = w.alloc (.cells #[.slice none 0 0, .int .i64 1, .bool false] 48) := ⟨_, rfl⟩
  have tb : Tch (fun _ => False) w wb := by rw [hwb]; exact Tch.alloc _ _ _
  have hsb : wb.heap.size = w.heap.size + 1 := by rw [hwb, World.size_alloc]
  have bb : wb.heap[w.heap.size]? = some (.cells #[.slice none 0 0, .int .i64 1, .bool false] 48 (0, 0)) := by rw [hwb]; exact alloc_new _ _
  have hml := cs.ml
  have hlt := h.lt
  rw [e, List.length_append, List.length_singleton] at hlt
  obtain ⟨so', sc', w1, hrun, hown, t1, hat⟩ := rows_app (own_tch cs.own tb (fun _ _ h => h)) w.heap.size (by omega)
  rw [hsb] at hrun
  have t : Tch (fun b => (Value.slice so m sc).ownBlock = some b) w w1 := (tb.mono (fun _ _ h => h.elim)).trans' t1
  have oe : ∀ b, b < w.heap.size → newO s.o w.heap.size 6 b = s.o b := fun b hb => newO_lt hb
  refine ⟨so', sc', w1, by rw [← hwb]; exact hrun, { s with o := newO s.o w.heap.size 6, sbs := sbs ++ [w.heap.size] }, ⟨?_, ⟨hown, fun b eb => ?_, by simp [cs.len], by show m + 1 = s.ls.length; rw [e]; simp [hml], fun j hj => ?_, fun q b eq => ?_⟩⟩⟩
  · have := h.frame t (fun b hb hs => .inl (cs.lab b hs)) oe
    exact ⟨this.cm, this.cr, this.cb, this.bk, this.b7, this.a1, this.a2, this.ch, this.lt, this.rt, this.w0, this.lo⟩
  · rcases hat b eb with e1 | e1
    · exact (oe b (cs.own.lt b e1).2).trans (cs.lab b e1)
    · exact newO_ge (by omega)
  · have hs := cs.src j hj
    show (sbs ++ [w.heap.size])[s.sg j]? = _
    rw [List.getElem?_append_left (List.getElem?_eq_some_iff.1 hs).1]; exact hs
  · have eq' : (sbs ++ [w.heap.size])[q]? = some b := eq
    rcases Nat.lt_trichotomy q sbs.length with h1 | h1 | h1
    · rw [List.getElem?_append_left h1] at eq'
      rcases cs.nil q b eq' with h2 | ⟨e2, e3, e4⟩
      · exact .inl h2
      · refine .inr ⟨(oe b (blk_lt e3)).trans e2, (t.block b (blk_lt e3) (fun e5 => by obtain ⟨cu, hcu⟩ := own_ty cs.own e5; exact ne_ty e3 hcu (by decide) rfl)).trans e3, ?_⟩
        show s.ls[q]? = _
        rw [e, List.getElem?_append_left (List.getElem?_eq_some_iff.1 e4).1]; exact e4
    · subst h1
      rw [List.getElem?_append_right (Nat.le_refl _), Nat.sub_self] at eq'
      obtain rfl : w.heap.size = b := by simpa using eq'
      refine .inr ⟨newO_ge (Nat.le_refl _), ?_, ?_⟩
      · exact (t1.block _ (blk_lt bb) (fun e5 => by have := (cs.own.lt _ e5).2; omega)).trans bb
      · show s.ls[sbs.length]? = _
        rw [e, cs.len, hml, List.getElem?_append_right (Nat.le_refl _), Nat.sub_self]; rfl
    · rw [List.getElem?_eq_none (by simp; omega)] at eq'; cases eq'
theorem bk_held (rv : Value) (h s a : Rc) : ((((((bkC rv h s).setIfInBounds 1 (.int .i64 a.l)).setIfInBounds 2 (.int .i64 a.x)).setIfInBounds 3 (.int .i64 a.k)).setIfInBounds 4 (.int .i64 a.t)).setIfInBounds 5 (.slice a.oa a.ol a.oc)).setIfInBounds 6 (.slice a.na a.nl a.nc) = bkC rv a s := rfl
theorem bk_was (rv : Value) (h s a : Rc) : ((((((bkC rv h s).setIfInBounds 7 (.int .i64 a.l)).setIfInBounds 8 (.int .i64 a.x)).setIfInBounds 9 (.int .i64 a.k)).setIfInBounds 10 (.int .i64 a.t)).setIfInBounds 11 (.slice a.oa a.ol a.oc)).setIfInBounds 12 (.slice a.na a.nl a.nc) = bkC rv h a := rfl
end Go.Proofs.Ytmnhkgibplnnnaa
