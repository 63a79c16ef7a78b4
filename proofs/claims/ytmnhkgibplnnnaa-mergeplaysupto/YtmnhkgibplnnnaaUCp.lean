import Derived.Test.YtmnhkgibplnnnaaULk
import Derived.Lib.BufferMore
/- copied: a change with rows of its own. -/
namespace Go.Proofs.Ytmnhkgibplnnnaa
open Go.RowKit Go

theorem cpy_row (ao : Option Addr) (n c : Nat) (cs : List Value) (w : World) (h : RdR w ao n c cs) : ∃ ro rc w', (Builtin.append_ #[25, 25] 25 #[.slice none 0 0, .slice ao n c]).run Try.prog w = .ok (.slice ro n rc) w' ∧ w'.ownsRow w.heap.size 76 3 (.slice ro n rc) n cs ∧ Tch (fun _ => False) w w' := by
  obtain ⟨i0, hi, hz0, hz1, hz2⟩ := info_parts info_val
  rcases h.at' with ⟨rfl, rfl, rfl⟩ | ⟨a, rfl, hc⟩
  · obtain rfl : cs = [] := List.length_eq_zero_iff.1 h.len
    exact ⟨none, 0, w, run_append_owned_none (P := Try.prog) (w := w) w.heap.size 25 25 76 i0 3 Try.underlying25 hi _ 0 [] (World.ownsRow_nil _ _ _ _), World.ownsRow_nil _ _ _ _, Tch.refl _ _⟩
  · obtain ⟨v1, w1, hr1, hown1, hgr1, _, _⟩ := run_append_own_at (P := Try.prog) w w.heap.size 25 25 76 i0 _ 3 32 Try.underlying25 hi hz0 hz1 hz2 rfl (by decide) _ _ _ (World.ownsRow_nil w w.heap.size 76 3) a n c cs h.len hc h.one (by have := h.sm; unfold maxLen; omega) (by have := h.sm; omega) (Nat.le_refl _)
    rw [Nat.zero_add, List.nil_append] at hown1
    obtain ⟨o1, c1, rfl⟩ := row_slice hown1
    exact ⟨o1, c1, w1, hr1, hown1, Tch.of_grown hgr1 (fun g e => by simp [Value.ownBlock] at e)⟩
theorem rs_cp : Try.f9.results = #[.cell 2 27] := by kernel_rfl
set_option maxHeartbeats 4000000 in
set_option maxRecDepth 1000000 in
theorem copied_any (c : Rc) (ocs ncs : List Value) (w : World) (ho : RdR w c.oa c.ol c.oc ocs) (hn : RdR w c.na c.nl c.nc ncs) : Calls Try.prog 9 #[rcV c] w fun e w' => ∃ c', e = .returned (rcV c') ∧ Sm c c' ∧ OwnC w.heap.size w' c' ocs ncs ∧ Tch (fun _ => False) w w' := by
  obtain ⟨w1, hw1⟩ : ∃ w1, w1 = (w.alloc (.cells #[.int .i64 c.l, .int .i64 c.x, .int .i64 c.k, .int .i64 c.t, .slice c.oa c.ol c.oc, .slice c.na c.nl c.nc] 27)).alloc (.cells #[.int .i64 0, .int .i64 0, .int .i64 0, .int .i64 0, .slice none 0 0, .slice none 0 0] 27) := ⟨_, rfl⟩
  have t1 : Tch (fun _ => False) w w1 := by rw [hw1]; exact (Tch.alloc _ _ _).allocR _
  have hs1 : w1.heap.size = w.heap.size + 2 := by rw [hw1, World.size_alloc, World.size_alloc]
  have b0 : w1.heap[w.heap.size]? = some (.cells #[.int .i64 c.l, .int .i64 c.x, .int .i64 c.k, .int .i64 c.t, .slice c.oa c.ol c.oc, .slice c.na c.nl c.nc] 27 (0, 0)) := by
    rw [hw1, (Tch.alloc (fun _ => False) _ _).block _ (by simp) (fun h => h)]; exact alloc_new _ _
  have b1 : w1.heap[w.heap.size + 1]? = some (.cells #[.int .i64 0, .int .i64 0, .int .i64 0, .int .i64 0, .slice none 0 0, .slice none 0 0] 27 (0, 0)) := by
    rw [hw1, ← World.size_alloc]; exact alloc_new _ _
  obtain ⟨ro, rc, w2, hr2, ho2, t2⟩ := cpy_row _ _ _ _ w1 (ho.no t1)
  have b02 := (t2.block _ (blk_lt b0) (fun h => h)).trans b0
  have b12 := (t2.block _ (blk_lt b1) (fun h => h)).trans b1
  obtain ⟨w3, hw3⟩ : ∃ w3, w3 = w2.setCell ⟨w.heap.size, 4, none⟩ (.slice ro c.ol rc) := ⟨_, rfl⟩
  have t3 : Tch (fun i => i = w.heap.size) w2 w3 := by rw [hw3]; exact Tch.setCell (fun i => i = w.heap.size) _ _ _ rfl
  have b03 : w3.heap[w.heap.size]? = some (.cells #[.int .i64 c.l, .int .i64 c.x, .int .i64 c.k, .int .i64 c.t, .slice ro c.ol rc, .slice c.na c.nl c.nc] 27 (0, 0)) := by rw [hw3, blk_set b02]; rfl
  have b13 := (t3.block _ (blk_lt b12) (by omega)).trans b12
  have tw3 : Tch (fun _ => False) w w3 := (t1.trans' t2).trans t3 (fun i hi e => by omega)
  obtain ⟨so, sc, w4, hr4, ho4, t4⟩ := cpy_row _ _ _ _ w3 (hn.no tw3)
  have b04 := (t4.block _ (blk_lt b03) (fun h => h)).trans b03
  have b14 := (t4.block _ (blk_lt b13) (fun h => h)).trans b13
  obtain ⟨w5, hw5⟩ : ∃ w5, w5 = w4.setCell ⟨w.heap.size, 5, none⟩ (.slice so c.nl sc) := ⟨_, rfl⟩
  have t5 : Tch (fun i => i = w.heap.size) w4 w5 := by rw [hw5]; exact Tch.setCell (fun i => i = w.heap.size) _ _ _ rfl
  have b05 : w5.heap[w.heap.size]? = some (.cells #[.int .i64 c.l, .int .i64 c.x, .int .i64 c.k, .int .i64 c.t, .slice ro c.ol rc, .slice so c.nl sc] 27 (0, 0)) := by rw [hw5, blk_set b04]; rfl
  have b15 := (t5.block _ (blk_lt b14) (by omega)).trans b14
  have hs3 : w1.heap.size ≤ w3.heap.size := Nat.le_trans t2.size t3.size
  have HE : Hid (∀ W, Tch (fun i => i = w.heap.size + 1) w5 W → ∃ c', Ending.returned (.agg #[.int .i64 c.l, .int .i64 c.x, .int .i64 c.k, .int .i64 c.t, .slice ro c.ol rc, .slice so c.nl sc]) = .returned (.agg #[.int .i64 c'.l, .int .i64 c'.x, .int .i64 c'.k, .int .i64 c'.t, .slice c'.oa c'.ol c'.oc, .slice c'.na c'.nl c'.nc]) ∧ Sm c c' ∧ OwnC w.heap.size W c' ocs ncs ∧ Tch (fun _ => False) w W) := fun W tW => by
    refine ⟨⟨c.l, c.x, c.k, c.t, ro, c.ol, rc, so, c.nl, sc⟩, rfl, ⟨rfl, rfl, rfl, rfl, rfl, rfl⟩, ⟨?_, ?_, fun g e e2 => ?_⟩, ((tw3.trans' t4).trans t5 (fun i hi e => by omega)).trans tW (fun i hi e => by omega)⟩
    · have h1 := own_tch (own_tch (own_tch (own_tch ho2 t3 (fun g e e2 => by have := (ho2.lt g e).1; omega)) t4 (fun _ _ h => h)) t5 (fun g e e2 => by have := (ho2.lt g e).1; omega)) tW (fun g e e2 => by have := (ho2.lt g e).1; omega)
      exact own_low h1 (by omega)
    · have h1 := own_tch (own_tch ho4 t5 (fun g e e2 => by have := (ho4.lt g e).1; omega)) tW (fun g e e2 => by have := (ho4.lt g e).1; omega)
      exact own_low h1 (by omega)
    · have h1 := (ho2.lt g e).2
      have h2 := (ho4.lt g e2).1
      have := t3.size
      omega
  have a4 : w1.cell? ⟨w.heap.size, 4, none⟩ = some (.slice c.oa c.ol c.oc) := blk_cell b0 4
  have x4 : w2.cell? ⟨w.heap.size, 4, none⟩ = some (.slice c.oa c.ol c.oc) := blk_cell b02 4
  have f2 := blk_frozen b02
  have a5 : w3.cell? ⟨w.heap.size, 5, none⟩ = some (.slice c.na c.nl c.nc) := blk_cell b03 5
  have x5 : w4.cell? ⟨w.heap.size, 5, none⟩ = some (.slice c.na c.nl c.nc) := blk_cell b04 5
  have f4 := blk_frozen b04
  obtain ⟨d0, d1, d2, d3, d4, d5⟩ := get6 b05
  obtain ⟨e0, e1, e2, e3, e4, e5⟩ := get6 b15
  have f5 := blk_frozen b15
  have HB : Hid _ := b15
  have HW1 : Hid (w1 = _) := hw1
  have HW3 : Hid (w3 = _) := hw3
  have HW5 : Hid (w5 = _) := hw5
  clear ho hn hw1 t1 hs1 b0 b1 ho2 t2 b02 b12 hw3 t3 b03 b13 tw3 ho4 t4 b04 b14 hw5 t5 b05 b15 hs3
  unfold rcV
  go_enter Try.func9, Try.ntmps9
  go_upto_region 1 with (fail)
  rw [← HW1.out]
  go_upto_region 2 with (at_builtin; refine wpList_app _ rfl _ _ 25 rfl rfl _ _ rfl rfl hr2 ?_)
  rw [← HW3.out]
  clear a4 x4 f2 hr2
  go_upto_region 3 with (at_builtin; refine wpList_app _ rfl _ _ 25 rfl rfl _ _ rfl rfl hr4 ?_)
  rw [← HW5.out]
  clear a5 x5 f4 hr4
  go_wp2
  refine bodyPost_ret (res_ch rs_cp rfl (set6 HB.out _ _ _ _ _ _)) rfl ?_
  exact HE.out _ (tch6 _ _ _ _ _ _ _ _)
end Go.Proofs.Ytmnhkgibplnnnaa
