import Derived.Test.YtjambfbibeihiaaGreatEn
/- FilesPlays: the state between the steps. -/
namespace Go.Proofs.YtjambfbibeihiaaGreat
set_option maxRecDepth 100000
open Go.RowKit Go.ChangeMaps Go.Sort

/-- Between the steps: wL: the world ahead of the first one. -/
structure PS (wL : World) (ωL : Nat → Nat) (m1 m2 bb T : Nat) (W : World) (ω : Nat → Nat) (d1 d2 : Dsk) (db1 rb1 db2 rb2 : Nat) (c1 c2 : Int) : Prop where
  bo : ∃ hN wN hF wF, BO W ω bb T hN wN hF wF
  p1 : PR W ω 1 db1 rb1 d1
  p2 : PR W ω 3 db2 rb2 d2
  x1 : W.heap[m1]? = some (.cells (pairC db1 rb1 c1) 26 (0, 0)) ∧ ω m1 = 0
  x2 : W.heap[m2]? = some (.cells (pairC db2 rb2 c2) 26 (0, 0)) ∧ ω m2 = 0
  z : ∀ i, i < wL.heap.size → ωL i = 0 → i ≠ m1 → i ≠ m2 → W.heap[i]? = wL.heap[i]? ∧ ω i = 0
  h : Tch (fun _ => True) wL W
  l : (d1.m.length ≤ T + 1 ∧ d2.m.length ≤ T + 1) ∧ Nok d1 ∧ Nok d2
  c : (1 ≤ c1 ∧ c1 ≤ 1000000000) ∧ 1 ≤ c2 ∧ c2 ≤ 1000000000
section
variable {wL : World} {ωL : Nat → Nat} {m1 m2 bb T : Nat} {W W' : World} {ω ω' : Nat → Nat} {d1 d2 : Dsk} {db1 rb1 db2 rb2 : Nat} {c1 c2 : Int}
/-- Nobody's blocks are turned, none of the boxes, none that stood. -/
theorem PS.zero (h : PS wL ωL m1 m2 bb T W ω d1 d2 db1 rb1 db2 rb2 c1 c2) (S : Nat → Prop) (t : Tch S W W') (hS : ∀ i, i < W.heap.size → S i → ω i = 0 ∧ wL.heap.size ≤ i ∧ i ≠ m1 ∧ i ≠ m2) : PS wL ωL m1 m2 bb T W' (ext ω W.heap.size 0) d1 d2 db1 rb1 db2 rb2 c1 c2 := by
  have e : Ev (fun i => i = 0) W ω W' (ext ω W.heap.size 0) := Ev.ofTch 0 rfl (t.mono (fun i hi h => (hS i hi h).1))
  obtain ⟨hN, wN, hF, wF, hb⟩ := h.bo
  have hsz := h.h.size
  have l1 := blk_lt h.x1.1
  have l2 := blk_lt h.x2.1
  refine ⟨⟨hN, wN, hF, wF, hb.ev e (fun i h1 _ h => by omega)⟩, h.p1.ev e (by omega) (by omega), h.p2.ev e (by omega) (by omega), ⟨(t.block _ l1 (fun hs => (hS _ l1 hs).2.2.1 rfl)).trans h.x1.1, by rw [ext_lt l1]; exact h.x1.2⟩, ⟨(t.block _ l2 (fun hs => (hS _ l2 hs).2.2.2 rfl)).trans h.x2.1, by rw [ext_lt l2]; exact h.x2.2⟩, fun i hi h0 h1 h2 => ?_, h.h.trans t (fun _ _ _ => trivial), h.l, h.c⟩
  obtain ⟨q1, q2⟩ := h.z i hi h0 h1 h2
  exact ⟨(t.block i (by omega) (fun hs => by have := (hS i (by omega) hs).2.1; omega)).trans q1, by rw [ext_lt (by omega)]; exact q2⟩
theorem PS.no (h : PS wL ωL m1 m2 bb T W ω d1 d2 db1 rb1 db2 rb2 c1 c2) (t : Tch (fun _ => False) W W') : PS wL ωL m1 m2 bb T W' (ext ω W.heap.size 0) d1 d2 db1 rb1 db2 rb2 c1 c2 := h.zero (fun _ => False) t (fun _ _ h => h.elim)
/-- A step of the first pair, and its box is stored. -/
theorem PS.step1 {db rb : Nat} {c : Int} (h : PS wL ωL m1 m2 bb T W ω d1 d2 db1 rb1 db2 rb2 c1 c2) (hs : Stepped W ω bb T 1 d1 W' db rb) (hc : 1 ≤ c ∧ c ≤ 1000000000) (hm : m1 ≠ m2) : ∃ ω' d', PS wL ωL m1 m2 bb (T + 1) (((W'.setCell ⟨m1, 0, none⟩ (.pointer (some ⟨db, 0, none⟩))).setCell ⟨m1, 1, none⟩ (.pointer (some ⟨rb, 0, none⟩))).setCell ⟨m1, 2, none⟩ (.int .i64 c)) ω' d' d2 db rb db2 rb2 c c2 := by
  obtain ⟨ω', hN, wN, hF, wF, d', hb, hp, ⟨hl, hn⟩, e, k0⟩ := hs
  have hsz := h.h.size
  have l1 := blk_lt h.x1.1
  have l2 := blk_lt h.x2.1
  have p2 := h.p2.ev e (by show ¬ (3 = 0 ∨ 3 = 1 ∨ 3 = 1 + 1 ∨ 5 ≤ 3); omega) (by show ¬ (3 + 1 = 0 ∨ 3 + 1 = 1 ∨ 3 + 1 = 1 + 1 ∨ 5 ≤ 3 + 1); omega)
  obtain ⟨y1, y2⟩ := k0 m1 l1 h.x1.2
  obtain ⟨y3, y4⟩ := k0 m2 l2 h.x2.2
  have hz : ∀ i, i < wL.heap.size → ωL i = 0 → i ≠ m1 → i ≠ m2 → W'.heap[i]? = wL.heap[i]? ∧ ω' i = 0 := fun i hi h0 h1 h2 => by
    obtain ⟨q1, q2⟩ := h.z i hi h0 h1 h2
    obtain ⟨q3, q4⟩ := k0 i (by omega) q2
    exact ⟨q3.trans q1, q4⟩
  have t : Tch (fun i => i = m1) W' (((W'.setCell ⟨m1, 0, none⟩ (.pointer (some ⟨db, 0, none⟩))).setCell ⟨m1, 1, none⟩ (.pointer (some ⟨rb, 0, none⟩))).setCell ⟨m1, 2, none⟩ (.int .i64 c)) := ((Tch.setCell (fun i => i = m1) W' ⟨m1, 0, none⟩ _ rfl).setCellR ⟨m1, 1, none⟩ _ rfl).setCellR ⟨m1, 2, none⟩ _ rfl
  have e' : Ev (fun i => i = 0) W' ω' _ (ext ω' W'.heap.size 0) := Ev.ofTch 0 rfl (t.mono (fun i hi hh => by rw [hh]; exact y2))
  have l3 : m1 < W'.heap.size := Nat.lt_of_lt_of_le l1 e.tch.size
  have l4 : m2 < W'.heap.size := Nat.lt_of_lt_of_le l2 e.tch.size
  refine ⟨ext ω' W'.heap.size 0, d', ⟨hN, wN, hF, wF, hb.ev e' (fun i h1 _ h => by omega)⟩, hp.ev e' (by omega) (by omega), p2.ev e' (by omega) (by omega), ⟨?_, by rw [ext_lt l3]; exact y2⟩, ⟨(t.block _ l4 (fun hs => hm hs.symm)).trans (y3.trans h.x2.1), by rw [ext_lt l4]; exact y4⟩, fun i hi h0 h1 h2 => ?_, (h.h.trans e.tch (fun _ _ _ => trivial)).trans t (fun _ _ _ => trivial), ⟨⟨by have := h.l.1.1; omega, by have := h.l.1.2; omega⟩, hn h.l.2.1, h.l.2.2⟩, hc, h.c.2⟩
  · rw [blk_set (blk_set (blk_set (y1.trans h.x1.1) _) _) _]; rfl
  · obtain ⟨q1, q2⟩ := hz i hi h0 h1 h2
    have := e.tch.size
    exact ⟨(t.block i (by omega) h1).trans q1, by rw [ext_lt (by omega)]; exact q2⟩
theorem PS.step2 {db rb : Nat} {c : Int} (h : PS wL ωL m1 m2 bb T W ω d1 d2 db1 rb1 db2 rb2 c1 c2) (hs : Stepped W ω bb T 3 d2 W' db rb) (hc : 1 ≤ c ∧ c ≤ 1000000000) (hm : m1 ≠ m2) : ∃ ω' d', PS wL ωL m1 m2 bb (T + 1) (((W'.setCell ⟨m2, 0, none⟩ (.pointer (some ⟨db, 0, none⟩))).setCell ⟨m2, 1, none⟩ (.pointer (some ⟨rb, 0, none⟩))).setCell ⟨m2, 2, none⟩ (.int .i64 c)) ω' d1 d' db1 rb1 db rb c1 c := by
  obtain ⟨ω', hN, wN, hF, wF, d', hb, hp, ⟨hl, hn⟩, e, k0⟩ := hs
  have hsz := h.h.size
  have l1 := blk_lt h.x1.1
  have l2 := blk_lt h.x2.1
  have p1 := h.p1.ev e (by show ¬ (1 = 0 ∨ 1 = 3 ∨ 1 = 3 + 1 ∨ 5 ≤ 1); omega) (by show ¬ (1 + 1 = 0 ∨ 1 + 1 = 3 ∨ 1 + 1 = 3 + 1 ∨ 5 ≤ 1 + 1); omega)
  obtain ⟨y1, y2⟩ := k0 m1 l1 h.x1.2
  obtain ⟨y3, y4⟩ := k0 m2 l2 h.x2.2
  have hz : ∀ i, i < wL.heap.size → ωL i = 0 → i ≠ m1 → i ≠ m2 → W'.heap[i]? = wL.heap[i]? ∧ ω' i = 0 := fun i hi h0 h1 h2 => by
    obtain ⟨q1, q2⟩ := h.z i hi h0 h1 h2
    obtain ⟨q3, q4⟩ := k0 i (by omega) q2
    exact ⟨q3.trans q1, q4⟩
  have t : Tch (fun i => i = m2) W' (((W'.setCell ⟨m2, 0, none⟩ (.pointer (some ⟨db, 0, none⟩))).setCell ⟨m2, 1, none⟩ (.pointer (some ⟨rb, 0, none⟩))).setCell ⟨m2, 2, none⟩ (.int .i64 c)) := ((Tch.setCell (fun i => i = m2) W' ⟨m2, 0, none⟩ _ rfl).setCellR ⟨m2, 1, none⟩ _ rfl).setCellR ⟨m2, 2, none⟩ _ rfl
  have e' : Ev (fun i => i = 0) W' ω' _ (ext ω' W'.heap.size 0) := Ev.ofTch 0 rfl (t.mono (fun i hi hh => by rw [hh]; exact y4))
  have l3 : m1 < W'.heap.size := Nat.lt_of_lt_of_le l1 e.tch.size
  have l4 : m2 < W'.heap.size := Nat.lt_of_lt_of_le l2 e.tch.size
  refine ⟨ext ω' W'.heap.size 0, d', ⟨hN, wN, hF, wF, hb.ev e' (fun i h1 _ h => by omega)⟩, p1.ev e' (by omega) (by omega), hp.ev e' (by omega) (by omega), ⟨(t.block _ l3 (fun hs => hm hs)).trans (y1.trans h.x1.1), by rw [ext_lt l3]; exact y2⟩, ⟨?_, by rw [ext_lt l4]; exact y4⟩, fun i hi h0 h1 h2 => ?_, (h.h.trans e.tch (fun _ _ _ => trivial)).trans t (fun _ _ _ => trivial), ⟨⟨by have := h.l.1.1; omega, by have := h.l.1.2; omega⟩, h.l.2.1, hn h.l.2.2⟩, h.c.1, hc⟩
  · rw [blk_set (blk_set (blk_set (y3.trans h.x2.1) _) _) _]; rfl
  · obtain ⟨q1, q2⟩ := hz i hi h0 h1 h2
    have := e.tch.size
    exact ⟨(t.block i (by omega) h2).trans q1, by rw [ext_lt (by omega)]; exact q2⟩
end
end Go.Proofs.YtjambfbibeihiaaGreat
