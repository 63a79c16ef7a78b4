/- The Writer of package code again, call by call, with a finer frame: a call turns the Writer and the row that it has, and no other row of bytes; its row behind is the same one, or new. -/
import Derived.Test.YtdicnnlfnfcmeabDoorKnown
import Derived.Maps.AppendAt
namespace Go.Proofs.YtdicnnlfnfcmeabDoor
open Go.RowKit

/-- The block in which a Writer's row lies. -/
def rowOf (w : World) (b : Nat) : Option Nat := match w.cell? ⟨b, 0, none⟩ with
  | some v => v.ownBlock
  | none => none
theorem rowOf_of {w : World} {b : Nat} {v : Value} (h : w.cell? ⟨b, 0, none⟩ = some v) : rowOf w b = v.ownBlock := by unfold rowOf; rw [h]
theorem rowOf_tch {S : Nat → Prop} {w w' : World} {b : Nat} (t : Tch S w w') (hb : b < w.heap.size) (hS : ¬ S b) : rowOf w' b = rowOf w b := by
  unfold rowOf; rw [t.cell (p := ⟨b, 0, none⟩) hb hS]

/-- What a call of the Writer at b does to the world. -/
structure WK (b : Nat) (w w' : World) : Prop where
  tch : Tch (fun i => i = b ∨ rowOf w b = some i) w w'
  row : ∀ k, rowOf w' b = some k → rowOf w b = some k ∨ w.heap.size ≤ k
theorem WK.refl (b : Nat) (w : World) : WK b w w := ⟨Tch.refl _ _, fun _ h => Or.inl h⟩
theorem wk_trans {b : Nat} {w w1 w2 : World} (h : WK b w w1) (k : WK b w1 w2) : WK b w w2 := by
  refine ⟨h.tch.trans k.tch (fun i hi ht => ?_), fun i hi => ?_⟩
  · rcases ht with ht | ht
    · exact Or.inl ht
    · rcases h.row i ht with h1 | h1
      · exact Or.inr h1
      · omega
  · rcases k.row i hi with h1 | h1
    · exact h.row i h1
    · exact Or.inr (Nat.le_trans h.tch.size h1)
/-- Blocks that were laid ahead of it. -/
theorem wk_new {b : Nat} {w w0 w1 : World} (t : Tch (fun _ => False) w w0) (hb : b < w.heap.size) (h : WK b w0 w1) : WK b w w1 := by
  have hr := rowOf_tch t hb (fun h => h)
  refine wk_trans ⟨t.mono (fun _ _ h => h.elim), fun k hk => Or.inl (by rw [← hr]; exact hk)⟩ h
theorem wk_alloc {b : Nat} {w w1 : World} {o : Obj} (hb : b < w.heap.size) (h : WK b (w.alloc o) w1) : WK b w w1 := wk_new (Tch.alloc _ _ _) hb h
theorem wk_bytes {b : Nat} {w w1 : World} {s : ByteArray} (hb : b < w.heap.size) (h : WK b (Lib.bytesWorld w 5 s) w1) : WK b w w1 := wk_new (bytesWorld_tch _ w s) hb h
theorem wk_no {b : Nat} {w w' : World} (t : Tch (fun _ => False) w w') (hb : b < w.heap.size) : WK b w w' := wk_new t hb (WK.refl _ _)

set_option maxHeartbeats 1000000 in
set_option maxRecDepth 100000 in
theorem klay_ok (b : Nat) (bs l : List UInt8) (ad : Addr) (c : Nat) (w : World) (h : WS w b bs 0) (hcells : ∀ j u, (Lib.byteCells l)[j]? = some u → w.cell? (ad.add j) = some u) (hlen : bs.length + l.length ≤ 140737488355328) :
    Calls Tryd.prog 42 #[.pointer (some ⟨b, 0, none⟩), .slice (some ad) l.length c] w fun x w' => x = .returned (.tuple #[]) ∧ WS w' b (bs ++ l) 0 ∧ WK b w w' := by
  obtain ⟨v, c0, hown⟩ := h.row
  have c1 := h.c1; have f0 := h.f0
  rw [errV_zero] at c1
  have hl := h.lt
  obtain ⟨i0, hi, hz0, hz1, hz2⟩ := info_byte'
  obtain ⟨ao, cp, hv⟩ := slice_of hown
  subst hv
  have hbne : some b ≠ (Value.slice ao bs.length cp).ownBlock := fun hk => by have := ownBlock_ge hown hk; omega
  have HK : Hid (∀ w1, w.grownBy w1 (Value.slice ao bs.length cp).ownBlock → w1.cell? ⟨b, 0, none⟩ = some (.slice ao bs.length cp) ∧ w1.cell? ⟨b, 1, none⟩ = some .nilIface ∧ w1.frozen? ⟨b, 0, none⟩ = false ∧ w1.frozen? ⟨b, 1, none⟩ = false) := fun w1 hgr =>
    ⟨(World.cell?_of_block (w := w) (hgr.block b hl hbne)).trans c0, (World.cell?_of_block (w := w) (hgr.block b hl hbne)).trans c1, (World.frozen?_of_block (w := w) (hgr.block b hl hbne)).trans f0, (World.frozen?_of_block (w := w) (hgr.block b hl hbne)).trans h.f1⟩
  have HR : Hid (rowOf w b = (Value.slice ao bs.length cp).ownBlock) := rowOf_of c0
  clear hbne
  go_enter Tryd.func42, Tryd.ntmps42
  go_wp2_with (at_builtin; refine wpList_append_own_at _ rfl _ _ 52 rfl (b + 1) 5 i0 (.int .u8 0) 1 1 Tryd.underlying52 hi hz0 hz1 hz2 rfl (by decide) (.slice ao bs.length cp) _ _ rfl hown ad l.length c (Lib.byteCells l) rfl (by rw [Lib.byteCells_length]; omega) hcells (Lib.byteCells_one l) (by unfold maxLen; omega) (by omega) (by omega) ?_; intro v' w1 hown' hgr hnil hat; obtain ⟨ao', cp', hv'⟩ := slice_of hown'; rw [hv'] at hat; rw [hv']; obtain ⟨d0, d1, g0, g1⟩ := HK.out w1 hgr; clear c0 c1 f0)
  go_end0
  refine ⟨rfl, ?_, ?_⟩
  · rw [hv'] at hown'
    refine ⟨⟨.slice ao' (bs.length + l.length) cp', World.cell?_setCell_same _ _ _ d0, ?_⟩, ?_, by simpa using g0, by simpa using g1, fun h => absurd rfl h⟩
    · rw [Lib.byteCells_append, List.length_append]
      exact ownsRow_setCell_below hown' (by simp) _
    · rw [World.cell?_setCell_other (h := by simp), errV_zero]; exact d1
  · refine ⟨Tch.setCellR ⟨hgr.os, hgr.tape, hgr.output, hgr.size, fun k hk hn => hgr.block k hk (fun e => hn (Or.inr (HR.out.trans e.symm)))⟩ _ _ (Or.inl rfl), fun k hk => ?_⟩
    rw [rowOf_of (World.cell?_setCell_same _ _ _ d0)] at hk
    rw [HR.out]
    rcases hat with h1 | h1
    · left; rw [← h1]; exact hk
    · right; rw [h1] at hk; have := Option.some.inj hk; omega

theorem klay_any (b : Nat) (bs l : List UInt8) (e : Int) (ad : Addr) (n c : Nat) (w : World) (h : WS w b bs e) (hn : l.length = n) (hcells : ∀ j u, (Lib.byteCells l)[j]? = some u → w.cell? (ad.add j) = some u) (hlen : bs.length + l.length ≤ 140737488355328) :
    Calls Tryd.prog 42 #[.pointer (some ⟨b, 0, none⟩), .slice (some ad) n c] w fun x w' => x = .returned (.tuple #[]) ∧ WS w' b (laidOn bs l e) e ∧ WK b w w' := by
  subst hn
  by_cases he : e = 0
  · subst he
    exact klay_ok b bs l ad c w h hcells hlen
  · refine (lay_bad b bs e _ w h he).mono ?_
    rintro x w' ⟨rfl, rfl⟩
    refine ⟨rfl, ?_, WK.refl _ _⟩
    unfold laidOn; rw [if_neg he]; exact h

theorem kfail_any (b : Nat) (bs : List UInt8) (e c : Int) (w : World) (h : WS w b bs e) (hc : c ≠ 0) :
    Calls Tryd.prog 41 #[.pointer (some ⟨b, 0, none⟩), .int .i64 c] w fun x w' => x = .returned (.tuple #[]) ∧ WS w' b (failB bs e) (failE e c) ∧ WK b w w' := by
  obtain ⟨v, c0, hown⟩ := h.row
  have c1 := h.c1; have f0 := h.f0; have f1 := h.f1
  by_cases he : e = 0
  · subst he
    rw [errV_zero] at c1
    obtain ⟨ao, cp, hv⟩ := slice_of hown
    subst hv
    go_enter Tryd.func41, Tryd.ntmps41
    go_wp2
    go_end0
    have k0 : (w.setCell ⟨b, 1, none⟩ (.iface 78 (.agg #[.int .i64 c]))).cell? ⟨b, 0, none⟩ = some (.slice ao bs.length cp) := by
      rw [World.cell?_setCell_other (h := by simp)]; exact c0
    refine ⟨rfl, ?_, Tch.setCellR (Tch.setCell _ w ⟨b, 1, none⟩ _ (Or.inl rfl)) ⟨b, 0, none⟩ _ (Or.inl rfl), fun k hk => ?_⟩
    rotate_left
    · rw [rowOf_of (World.cell?_setCell_same _ _ _ k0)] at hk; cases hk
    show WS _ b [] c
    refine ⟨⟨.slice none 0 0, World.cell?_setCell_same _ _ _ k0, rfl, Or.inl ⟨rfl, rfl⟩⟩, ?_, by simpa using f0, by simpa using f1, fun _ => rfl⟩
    rw [World.cell?_setCell_other (h := by simp), World.cell?_setCell_same (h := c1)]
    rw [errV_ne hc]
  · rw [errV_ne he] at c1
    have HW : Hid (WS w b (failB bs e) (failE e c)) := by show WS _ _ _ _; unfold failB failE; rw [if_neg he, if_neg he]; exact h
    go_enter Tryd.func41, Tryd.ntmps41
    go_wp2
    go_end0
    exact ⟨rfl, HW.out, WK.refl _ _⟩
end Go.Proofs.YtdicnnlfnfcmeabDoor
