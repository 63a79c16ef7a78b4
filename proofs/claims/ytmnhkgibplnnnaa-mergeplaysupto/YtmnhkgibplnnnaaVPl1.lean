import Derived.Test.YtmnhkgibplnnnaaVPl0
/- MergePlays: the boxes of Next. -/
namespace Go.Proofs.Ytmnhkgibplnnnaa
open Go.RowKit Go

/-- Blocks of boxes are kept. -/
def K10 (o : Nat → Nat) (w w' : World) : Prop := ∀ b, b < w.heap.size → o b = 10 → w'.heap[b]? = w.heap[b]?
theorem N1.box {V : World} {Z : Nat → Prop} {W w w' : World} {mb rb nb T : Nat} {s : Sv} {o : Nat → Nat} {g cap : Nat} {L : List It} {H : Nat → Rc} {rs : List (List Rc)} {d : Bool} {a c : Rc} {so : Option Addr} {m sc : Nat} (h : N1 V Z W w mb rb nb T s o g cap L H rs d a c) (cs : CS w o so m sc s.sbs s.ls s.rs s.X s.sg) (t : Tch (fun _ => False) w w') : N1 V Z W w' mb rb nb T s (newO o w.heap.size 10) g cap L H rs d a c ∧ CS w' (newO o w.heap.size 10) so m sc s.sbs s.ls s.rs s.X s.sg := by
  have oe : ∀ k b, b < w.heap.size → o b = k → newO o w.heap.size 10 b = k := fun k b hb e => (newO_lt hb).trans e
  exact ⟨⟨h.cm.step t (fun _ _ h => h.elim) (oe 1), h.cr.step t (fun _ _ h => h.elim) (oe 2), h.cb.step t (fun _ _ h => h.elim) (oe 3), (t.block nb (blk_lt h.bk) (fun h => h)).trans h.bk, oe 7 nb (blk_lt h.bk) h.b7, h.ch.step t (fun _ _ h => h.elim) (fun b hb => ⟨oe 4 b hb, oe 5 b hb⟩), h.w0.trans t (fun _ _ h => h.elim), fun b hb => ⟨oe 0 b (Nat.lt_of_lt_of_le (h.lo b hb).2 h.w0.size) (h.lo b hb).1, (h.lo b hb).2⟩, h.told.keep t (fun _ _ h => h), fun b hb => oe 8 b (h.told.own.lt hb).2 (h.l8 b hb), h.yes, h.no⟩, cs.step t (fun _ _ h => h.elim) (oe 6)⟩
theorem N2.no {V : World} {Z : Nat → Prop} {W w w' : World} {mb rb nb T : Nat} {so : Option Addr} {m sc : Nat} {s : Sv} {a c c2 : Rc} (h : N2 V Z W w mb rb nb T so m sc s a c c2) (t : Tch (fun _ => False) w w') : N2 V Z W w' mb rb nb T so m sc s a c c2 := ⟨h.p.no t, h.ca.keep t (fun _ _ h => h), h.cc.keep t (fun _ _ h => h), h.l8, h.l2⟩
/-- The cells of a box. -/
theorem box_get {w : World} {b : Nat} {c : Rc} (h : w.heap[b]? = some (.cells (kc6 c).toArray 27 (0, 0))) : w.cell? ⟨b, 0, none⟩ = some (.int .i64 c.l) ∧ w.cell? ⟨b, 1, none⟩ = some (.int .i64 c.x) ∧ w.cell? ⟨b, 2, none⟩ = some (.int .i64 c.k) ∧ w.cell? ⟨b, 3, none⟩ = some (.int .i64 c.t) ∧ w.cell? ⟨b, 4, none⟩ = some (.slice c.oa c.ol c.oc) ∧ w.cell? ⟨b, 5, none⟩ = some (.slice c.na c.nl c.nc) := get6 h
theorem bk_get {w : World} {b : Nat} {rv : Value} {h s : Rc} (hb : w.heap[b]? = some (.cells (bkC rv h s) 42 (0, 0))) : (w.cell? ⟨b, 1, none⟩ = some (.int .i64 h.l) ∧ w.cell? ⟨b, 2, none⟩ = some (.int .i64 h.x) ∧ w.cell? ⟨b, 3, none⟩ = some (.int .i64 h.k) ∧ w.cell? ⟨b, 4, none⟩ = some (.int .i64 h.t) ∧ w.cell? ⟨b, 5, none⟩ = some (.slice h.oa h.ol h.oc) ∧ w.cell? ⟨b, 6, none⟩ = some (.slice h.na h.nl h.nc)) ∧ w.cell? ⟨b, 7, none⟩ = some (.int .i64 s.l) ∧ w.cell? ⟨b, 8, none⟩ = some (.int .i64 s.x) ∧ w.cell? ⟨b, 9, none⟩ = some (.int .i64 s.k) ∧ w.cell? ⟨b, 10, none⟩ = some (.int .i64 s.t) ∧ w.cell? ⟨b, 11, none⟩ = some (.slice s.oa s.ol s.oc) ∧ w.cell? ⟨b, 12, none⟩ = some (.slice s.na s.nl s.nc) :=
  ⟨⟨blk_cell hb 1, blk_cell hb 2, blk_cell hb 3, blk_cell hb 4, blk_cell hb 5, blk_cell hb 6⟩, blk_cell hb 7, blk_cell hb 8, blk_cell hb 9, blk_cell hb 10, blk_cell hb 11, blk_cell hb 12⟩
/-- Both stores of the end of Next. -/
theorem N3.hold {V : World} {Z : Nat → Prop} {W w w' : World} {mb rb nb : Nat} {so : Option Addr} {m sc : Nat} {s : Sv} {o : Nat → Nat} {rv : Value} {A : List Value} {held was a c c2 : Rc} (h : N3 V Z W w mb rb nb so m sc s o rv A held was a c c2)
    (hw : w' = (((((w.setCell ⟨nb, 1, none⟩ (.int .i64 a.l)).setCell ⟨nb, 2, none⟩ (.int .i64 a.x)).setCell ⟨nb, 3, none⟩ (.int .i64 a.k)).setCell ⟨nb, 4, none⟩ (.int .i64 a.t)).setCell ⟨nb, 5, none⟩ (.slice a.oa a.ol a.oc)).setCell ⟨nb, 6, none⟩ (.slice a.na a.nl a.nc)) : N3 V Z W w' mb rb nb so m sc s o rv A a was a c c2 ∧ Tch (fun b => b = nb) w w' := by
  have t : Tch (fun b => b = nb) w w' := by rw [hw]; exact (((((Tch.setCell (fun i => i = nb) _ _ _ rfl).setCellR _ _ rfl).setCellR _ _ rfl).setCellR _ _ rfl).setCellR _ _ rfl).setCellR _ _ rfl
  refine ⟨h.step t (fun b _ hs => hs) (fun _ _ => rfl) ?_, t⟩
  rw [hw, blk_set (blk_set (blk_set (blk_set (blk_set (blk_set h.bk _) _) _) _) _) _, bk_held]
theorem N3.wasd {V : World} {Z : Nat → Prop} {W w w' : World} {mb rb nb : Nat} {so : Option Addr} {m sc : Nat} {s : Sv} {o : Nat → Nat} {rv : Value} {A : List Value} {held was a c c2 x : Rc} (h : N3 V Z W w mb rb nb so m sc s o rv A held was a c c2)
    (hw : w' = (((((w.setCell ⟨nb, 7, none⟩ (.int .i64 x.l)).setCell ⟨nb, 8, none⟩ (.int .i64 x.x)).setCell ⟨nb, 9, none⟩ (.int .i64 x.k)).setCell ⟨nb, 10, none⟩ (.int .i64 x.t)).setCell ⟨nb, 11, none⟩ (.slice x.oa x.ol x.oc)).setCell ⟨nb, 12, none⟩ (.slice x.na x.nl x.nc)) : N3 V Z W w' mb rb nb so m sc s o rv A held x a c c2 ∧ Tch (fun b => b = nb) w w' := by
  have t : Tch (fun b => b = nb) w w' := by rw [hw]; exact (((((Tch.setCell (fun i => i = nb) _ _ _ rfl).setCellR _ _ rfl).setCellR _ _ rfl).setCellR _ _ rfl).setCellR _ _ rfl).setCellR _ _ rfl
  refine ⟨h.step t (fun b _ hs => hs) (fun _ _ => rfl) ?_, t⟩
  rw [hw, blk_set (blk_set (blk_set (blk_set (blk_set (blk_set h.bk _) _) _) _) _) _, bk_was]
end Go.Proofs.Ytmnhkgibplnnnaa
