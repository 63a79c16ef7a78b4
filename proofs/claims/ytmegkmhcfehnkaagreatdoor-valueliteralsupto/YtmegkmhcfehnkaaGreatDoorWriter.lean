import Derived.Test.YtmegkmhcfehnkaaGreatDoorReader
import Derived.OwnWalk
import Derived.Laws.AppendOwn
import Derived.Laws.IdiomStrings
import Derived.Lib.ConvBytes
import Derived.Lib.BufferRead
/- The Writer of package code, call by call. -/
namespace Go.Proofs.YtmegkmhcfehnkaaGreatDoor
open Go.RowKit

/-- A Writer at block b: the bytes that are laid down, what was wrong. Its row lies above it. -/
structure WS (w : World) (b : Nat) (bs : List UInt8) (e : Int) : Prop where
  row : ∃ v, w.cell? ⟨b, 0, none⟩ = some v ∧ w.ownsRow (b + 1) 5 1 v bs.length (Lib.byteCells bs)
  c1 : w.cell? ⟨b, 1, none⟩ = some (errV e)
  f0 : w.frozen? ⟨b, 0, none⟩ = false
  f1 : w.frozen? ⟨b, 1, none⟩ = false
  bad : e ≠ 0 → bs = []

theorem ownsRow_tch {S : Nat → Prop} {w w' : World} {base : Nat} {t : TypeId} {n : Nat} {v : Value} {xs : List Value} (h : w.ownsRow base t 1 v n xs) (tc : Tch S w w') (hS : ∀ i, base ≤ i → i < w.heap.size → ¬ S i) : w'.ownsRow base t 1 v n xs := by
  obtain ⟨h1, h2⟩ := h
  refine ⟨h1, ?_⟩
  rcases h2 with h2 | ⟨g, cap, cur, hv, hg, hh, r⟩
  · exact Or.inl h2
  · have hlt : g < w.heap.size := by
      rcases Nat.lt_or_ge g w.heap.size with h | h
      · exact h
      · rw [Array.getElem?_eq_none h] at hh; cases hh
    exact Or.inr ⟨g, cap, cur, hv, hg, by rw [tc.block g hlt (hS g hg hlt)]; exact hh, r⟩
theorem WS.lt {w : World} {b : Nat} {bs : List UInt8} {e : Int} (h : WS w b bs e) : b < w.heap.size := cell_lt h.c1
theorem WS.tch {S : Nat → Prop} {w w' : World} {b : Nat} {bs : List UInt8} {e : Int} (h : WS w b bs e) (tc : Tch S w w') (hS : ∀ i, b ≤ i → i < w.heap.size → ¬ S i) : WS w' b bs e := by
  obtain ⟨v, c0, ho⟩ := h.row
  have hl := h.lt
  have hb := hS b (Nat.le_refl _) hl
  exact ⟨⟨v, (tc.cell (p := ⟨b, 0, none⟩) hl hb).trans c0, ownsRow_tch ho tc (fun i hi => hS i (by omega))⟩, (tc.cell (p := ⟨b, 1, none⟩) hl hb).trans h.c1,
    (tc.frozen (p := ⟨b, 0, none⟩) hl hb).trans h.f0, (tc.frozen (p := ⟨b, 1, none⟩) hl hb).trans h.f1, h.bad⟩

/-- What a call of the Writer at b may turn: itself, and rows of bytes above it. -/
def WT (b : Nat) (w : World) : Nat → Prop := fun i => i = b ∨ (b < i ∧ ∃ cur fr, w.heap[i]? = some (.cells cur 5 fr))
theorem wt_trans {b : Nat} {w w1 w2 : World} (h : Tch (WT b w) w w1) (k : Tch (WT b w1) w1 w2) : Tch (WT b w) w w2 := by
  refine h.trans k (fun i hi ht => ?_)
  by_cases hn : WT b w i
  · exact hn
  · rcases ht with ht | ⟨ht, cur, fr, hh⟩
    · exact Or.inl ht
    · rw [h.block i hi hn] at hh
      exact Or.inr ⟨ht, cur, fr, hh⟩
theorem wt_le {b : Nat} {w w1 : World} (h : Tch (WT b w) w w1) : Tch (fun i => b ≤ i) w w1 := h.mono (fun i _ hi => by rcases hi with rfl | ⟨h, _⟩ <;> omega)
theorem wt_alloc {b : Nat} {w w1 : World} {o : Obj} (h : Tch (WT b (w.alloc o)) (w.alloc o) w1) : Tch (WT b w) w w1 := by
  refine (Tch.alloc (WT b w) w o).trans h (fun i hi ht => ?_)
  rcases ht with ht | ⟨ht, cur, fr, hh⟩
  · exact Or.inl ht
  · rw [Below.heap_alloc _ _ _ hi] at hh
    exact Or.inr ⟨ht, cur, fr, hh⟩
theorem info_byte' : ∃ i0, Tryz.prog.info? 5 = some i0 ∧ i0.zero = some (.int .u8 0) ∧ i0.size = 1 ∧ i0.bytes = 1 := by
  obtain ⟨i0, hi, hz0, hz1, hz2⟩ := info_parts info_byte
  exact ⟨i0, hi, hz0, hz1, hz2⟩

theorem ownBlock_ge {w : World} {base : Nat} {t : TypeId} {n : Nat} {v : Value} {xs : List Value} (h : w.ownsRow base t 1 v n xs) {k : Nat} (hk : some k = v.ownBlock) : base ≤ k := by
  rcases h.2 with ⟨rfl, _⟩ | ⟨g, cap, cur, rfl, hg, _⟩
  · cases hk
  · simp [Value.ownBlock] at hk; omega
theorem slice_of {w : World} {base : Nat} {t : TypeId} {n : Nat} {v : Value} {xs : List Value} (h : w.ownsRow base t 1 v n xs) : ∃ ao c, v = .slice ao n c := by
  rcases h.2 with ⟨rfl, rfl⟩ | ⟨g, cap, cur, rfl, hg, _⟩
  · exact ⟨_, _, rfl⟩
  · exact ⟨_, _, rfl⟩

set_option maxHeartbeats 1000000 in
set_option maxRecDepth 100000 in
theorem lay_ok (b : Nat) (bs l : List UInt8) (ad : Addr) (c : Nat) (w : World) (h : WS w b bs 0) (hcells : ∀ j u, (Lib.byteCells l)[j]? = some u → w.cell? (ad.add j) = some u) (hlen : bs.length + l.length ≤ 140737488355328) :
    Calls Tryz.prog 37 #[.pointer (some ⟨b, 0, none⟩), .slice (some ad) l.length c] w fun x w' => x = .returned (.tuple #[]) ∧ WS w' b (bs ++ l) 0 ∧ Tch (WT b w) w w' := by
  obtain ⟨v, c0, hown⟩ := h.row
  have c1 := h.c1; have f0 := h.f0
  rw [errV_zero] at c1
  have hl := h.lt
  obtain ⟨i0, hi, hz0, hz1, hz2⟩ := info_byte'
  obtain ⟨ao, cp, hv⟩ := slice_of hown
  subst hv
  have hbne : some b ≠ (Value.slice ao bs.length cp).ownBlock := fun hk => by have := ownBlock_ge hown hk; omega
  have HK : Hid (∀ w1, w.grownBy w1 (Value.slice ao bs.length cp).ownBlock → w1.cell? ⟨b, 0, none⟩ = some (.slice ao bs.length cp) ∧ w1.cell? ⟨b, 1, none⟩ = some .nilIface ∧ w1.frozen? ⟨b, 0, none⟩ = false ∧ w1.frozen? ⟨b, 1, none⟩ = false) := fun w1 hgr =>
    ⟨(World.cell?_of_block (w := w) (hgr.block b hl hbne)).trans c0, (World.cell?_of_block (w := w) (hgr.block b hl hbne)).trans c1, (World.frozen?_of_block (w := w) (hgr.block b hl hbne)).trans f0, (World.frozen?_of_block (w := w) (hgr.block b hl hbne)).trans h.f1⟩
  have HB : Hid (∀ g, (Value.slice ao bs.length cp).ownBlock = some g → WT b w g) := fun g hk => by
    have h1 := ownBlock_ge hown hk.symm
    rcases hown.2 with ⟨h2, _⟩ | ⟨g', cap, cur, h2, _, hh, _⟩
    · rw [h2] at hk; cases hk
    · rw [h2] at hk
      simp [Value.ownBlock] at hk
      subst hk
      exact Or.inr ⟨by omega, cur, _, hh⟩
  clear hbne
  go_enter Tryz.func37, Tryz.ntmps37
  go_wp2_with (at_builtin; refine wpList_append_own _ rfl _ _ 64 rfl (b + 1) 5 i0 (.int .u8 0) 1 1 Tryz.underlying64 hi hz0 hz1 hz2 rfl (by decide) (.slice ao bs.length cp) _ _ rfl hown ad l.length c (Lib.byteCells l) rfl (by rw [Lib.byteCells_length]; omega) hcells (Lib.byteCells_one l) (by unfold maxLen; omega) (by omega) (by omega) ?_; intro v' w1 hown' hgr hnil; obtain ⟨ao', cp', hv'⟩ := slice_of hown'; rw [hv']; obtain ⟨d0, d1, g0, g1⟩ := HK.out w1 hgr; clear c0 c1 f0)
  go_end0
  refine ⟨rfl, ?_, ?_⟩
  · rw [hv'] at hown'
    refine ⟨⟨.slice ao' (bs.length + l.length) cp', World.cell?_setCell_same _ _ _ d0, ?_⟩, ?_, by simpa using g0, by simpa using g1, fun h => absurd rfl h⟩
    · rw [Lib.byteCells_append, List.length_append]
      exact ownsRow_setCell_below hown' (by simp) _
    · rw [World.cell?_setCell_other (h := by simp), errV_zero]; exact d1
  · refine Tch.setCellR ⟨hgr.os, hgr.tape, hgr.output, hgr.size, fun k hk hn => hgr.block k hk (fun e => hn (HB.out k e.symm))⟩ _ _ (Or.inl rfl)

theorem lay_bad (b : Nat) (bs : List UInt8) (e : Int) (v : Value) (w : World) (h : WS w b bs e) (he : e ≠ 0) :
    Calls Tryz.prog 37 #[.pointer (some ⟨b, 0, none⟩), v] w fun x w' => x = .returned (.tuple #[]) ∧ w' = w := by
  have c1 := h.c1
  rw [errV_ne he] at c1
  go_enter Tryz.func37, Tryz.ntmps37
  go_wp2
  go_end0
  exact ⟨rfl, rfl⟩

/-- What is laid down behind what was there. -/
def laidOn (bs l : List UInt8) (e : Int) : List UInt8 := if e = 0 then bs ++ l else bs
theorem lay_any (b : Nat) (bs l : List UInt8) (e : Int) (ad : Addr) (n c : Nat) (w : World) (h : WS w b bs e) (hn : l.length = n) (hcells : ∀ j u, (Lib.byteCells l)[j]? = some u → w.cell? (ad.add j) = some u) (hlen : bs.length + l.length ≤ 140737488355328) :
    Calls Tryz.prog 37 #[.pointer (some ⟨b, 0, none⟩), .slice (some ad) n c] w fun x w' => x = .returned (.tuple #[]) ∧ WS w' b (laidOn bs l e) e ∧ Tch (WT b w) w w' := by
  subst hn
  by_cases he : e = 0
  · subst he
    exact lay_ok b bs l ad c w h hcells hlen
  · refine (lay_bad b bs e _ w h he).mono ?_
    rintro x w' ⟨rfl, rfl⟩
    refine ⟨rfl, ?_, Tch.refl _ _⟩
    unfold laidOn; rw [if_neg he]; exact h

def failB (bs : List UInt8) (e : Int) : List UInt8 := if e = 0 then [] else bs
def failE (e c : Int) : Int := if e = 0 then c else e
theorem wfail_any (b : Nat) (bs : List UInt8) (e c : Int) (w : World) (h : WS w b bs e) (hc : c ≠ 0) :
    Calls Tryz.prog 36 #[.pointer (some ⟨b, 0, none⟩), .int .i64 c] w fun x w' => x = .returned (.tuple #[]) ∧ WS w' b (failB bs e) (failE e c) ∧ Tch (WT b w) w w' := by
  obtain ⟨v, c0, hown⟩ := h.row
  have c1 := h.c1; have f0 := h.f0; have f1 := h.f1
  by_cases he : e = 0
  · subst he
    rw [errV_zero] at c1
    obtain ⟨ao, cp, hv⟩ := slice_of hown
    subst hv
    go_enter Tryz.func36, Tryz.ntmps36
    go_wp2
    go_end0
    refine ⟨rfl, ?_, Tch.setCellR (Tch.setCell (WT b w) w ⟨b, 1, none⟩ _ (Or.inl rfl)) ⟨b, 0, none⟩ _ (Or.inl rfl)⟩
    have k0 : (w.setCell ⟨b, 1, none⟩ (.iface 80 (.agg #[.int .i64 c]))).cell? ⟨b, 0, none⟩ = some (.slice ao bs.length cp) := by
      rw [World.cell?_setCell_other (h := by simp)]; exact c0
    show WS _ b [] c
    refine ⟨⟨.slice none 0 0, World.cell?_setCell_same _ _ _ k0, rfl, Or.inl ⟨rfl, rfl⟩⟩, ?_, by simpa using f0, by simpa using f1, fun _ => rfl⟩
    rw [World.cell?_setCell_other (h := by simp), World.cell?_setCell_same (h := c1)]
    rw [errV_ne hc]
  · rw [errV_ne he] at c1
    have HW : Hid (WS w b (failB bs e) (failE e c)) := by show WS _ _ _ _; unfold failB failE; rw [if_neg he, if_neg he]; exact h
    go_enter Tryz.func36, Tryz.ntmps36
    go_wp2
    go_end0
    exact ⟨rfl, HW.out, Tch.refl _ _⟩
end Go.Proofs.YtmegkmhcfehnkaaGreatDoor
