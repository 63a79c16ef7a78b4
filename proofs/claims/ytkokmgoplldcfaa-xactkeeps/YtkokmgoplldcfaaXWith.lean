/- beginWithin. -/
import Derived.Test.YtkokmgoplldcfaaXBeg2
import Derived.Test.YtkokmgoplldcfaaOrdv
namespace Go.Proofs.Ytkokmgoplldcfaa
open Go.RowKit Go Go.Sort

theorem info_part : (Try.prog.info? 93).map (fun i => (i.zero, i.size, i.bytes)) = some (some (.agg #[.int .i64 0, .int .i64 0, .int .i64 0]), 3, 24) := by kernel_rfl
set_option maxHeartbeats 2000000 in
set_option maxRecDepth 100000 in
theorem within_begin (mb nn tb n : Nat) (D : DataW Unit) (k i : Int) (xv sv pv : Value) (xs : List Value) (w : World) (hD : w.ownsMap Try.prog 3 numElem mb nn D) (hn : nn ≤ 2147483648) (h1 : -9223372036854775808 ≤ k) (h2 : k ≤ 9223372036854775807)
    (hX : w.heap[tb]? = some (.cells #[xv, sv, pv] 77 (0, 0))) (hP : w.ownsRow 0 93 3 pv n xs) (hn6 : n ≤ 64) :
    Calls Try.prog 35 #[.map (some mb), .agg #[.pointer (some ⟨tb, 0, none⟩), .int .i64 i], .int .i64 k] w fun x w' => x = .returned (.tuple #[]) ∧ ∃ v', w'.ownsMap Try.prog 3 numElem mb (nn + 1) (D.put (.int .i64 k) (encN (tb, n))) ∧ w'.heap[tb]? = some (.cells #[xv, sv, v'] 77 (0, 0)) ∧ w'.ownsRow 0 93 3 v' (n + 1) (xs ++ [.int .i64 k, .int .i64 i, .int .i64 0]) ∧ (v'.ownBlock = pv.ownBlock ∨ ∃ g, v'.ownBlock = some g ∧ w.heap.size ≤ g) ∧ Tch (fun j => j = mb ∨ j = tb ∨ pv.ownBlock = some j) w w' := by
  obtain ⟨i0, hi0, hz0, hz1, hz2⟩ := info_parts info_part
  have htl := blk_lt hX
  have hml := hD.lt
  have hmt : mb ≠ tb := fun e => by
    obtain ⟨es, clock, hh, _⟩ := hD
    rw [e, hX] at hh
    cases hh
  have hpt : ∀ g, pv.ownBlock = some g → g ≠ tb := fun g hg e => by
    obtain ⟨cur, hc⟩ := own_blk hP hg
    rw [e, hX] at hc
    cases hc
  have hpm : ∀ g, pv.ownBlock = some g → g ≠ mb := fun g hg e => by
    obtain ⟨cur, hc⟩ := own_blk hP hg
    obtain ⟨es, clock, hh, _⟩ := hD
    rw [e, hh] at hc
    cases hc
  have hpl : ∀ g, pv.ownBlock = some g → g < w.heap.size := fun g hg => by
    obtain ⟨cur, hc⟩ := own_blk hP hg
    exact blk_lt hc
  obtain ⟨N, hN⟩ : ∃ N, N = w.heap.size := ⟨_, rfl⟩
  obtain ⟨w0, hw0⟩ : ∃ w0, w0 = w.alloc (.cells #[.pointer (some ⟨tb, 0, none⟩), .int .i64 i] 72) := ⟨_, rfl⟩
  have t0 : Tch (fun _ => False) w w0 := by rw [hw0]; exact Tch.alloc _ _ _
  have hb0 : w0.heap[N]? = some (.cells #[.pointer (some ⟨tb, 0, none⟩), .int .i64 i] 72 (0, 0)) := by rw [hw0, hN]; exact alloc_new _ _
  obtain ⟨po, pc, rfl⟩ := row_slice hP
  have hX0 := (t0.block tb htl (fun h => h)).trans hX
  have c2 : w0.cell? ⟨tb, 2, none⟩ = some (.slice po n pc) := by rw [blk_cell hX0]; rfl
  have hP0 := own_tch hP t0 (fun _ _ h => h)
  obtain ⟨w1, hrun, hD1, hg1⟩ := (ownsMap_tch hD t0 (fun h => h)).update law_int Try.underlying64 (by unfold maxLen; omega) (Maps.keyOf_int_mk Try.underlying3 (int_wf h1 h2)) (numElem_some tb n)
  have t1 : Tch (fun j => j = mb) w0 w1 := Tch.of_grown hg1 (fun g hg => by cases hg; rfl)
  have hs0 : w0.heap.size = N + 1 := by rw [hw0, hN]; simp
  have hX1 := (t1.block tb (blk_lt hX0) (fun e => hmt e.symm)).trans hX0
  have hb1 := (t1.block N (blk_lt hb0) (by omega)).trans hb0
  have hP1 := own_tch hP0 t1 hpm
  rw [hw0] at hrun c2
  simp only [numV] at hrun
  have HS : Hid (∀ W, Tch (fun j => (Value.slice po n pc).ownBlock = some j) w1 W → W.heap[tb]? = some (.cells #[xv, sv, .slice po n pc] 77 (0, 0)) ∧ W.cell? ⟨N, 1, none⟩ = some (.int .i64 i)) := fun W tW => by
    have hl : N < w1.heap.size := blk_lt hb1
    have h1 := (tW.block tb (blk_lt hX1) (fun e => hpt tb e rfl)).trans hX1
    have h2 := (tW.block N hl (fun e => by have := hpl N e; omega)).trans hb1
    exact ⟨h1, by rw [blk_cell h2]; rfl⟩
  have HP1 : Hid _ := hP1
  have HD1 : Hid _ := hD1
  have HG : Hid (Tch (fun j => j = mb ∨ j = tb ∨ (Value.slice po n pc).ownBlock = some j) w w1 ∧ w.heap.size ≤ w1.heap.size ∧ mb ≠ tb ∧ (∀ g, (Value.slice po n pc).ownBlock = some g → g ≠ tb) ∧ (∀ g, (Value.slice po n pc).ownBlock = some g → g ≠ mb) ∧ tb < w.heap.size) := ⟨(t0.mono (fun _ _ h => h.elim)).trans (t1.mono (fun j _ e => Or.inl e)) (fun _ _ h => h), Nat.le_trans t0.size t1.size, hmt, hpt, hpm, htl⟩
  have HN : Hid (N = w.heap.size) := hN
  clear hX hP hD hpt hpm hpl hP0 hX0 hX1 hb0 hb1 hD1 hg1 t0 t1 hP1 hmt hml htl hN hw0 hs0
  go_enter Try.func35, Try.ntmps35
  go_wp2_with fail
  rw [← HN.out]
  clear c2 hrun
  obtain ⟨C, hC⟩ : ∃ C : List Value → World → Prop, C = fun s W => match s with
    | [] => Tch (fun _ => False) w1 W
    | [y] => Tch (fun _ => False) w1 W ∧ ∃ g, y = .slice (some ⟨g, 0, none⟩) 1 1 ∧ ∀ j u, ([.int .i64 k, .int .i64 i, .int .i64 0] : List Value)[j]? = some u → W.cell? ((⟨g, 0, none⟩ : Addr).add j) = some u
    | [_, z] => Tch (fun j => (Value.slice po n pc).ownBlock = some j) w1 W ∧ ∃ o5 c5, z = .slice o5 (n + 1) c5 ∧ W.ownsRow 0 93 3 z (n + 1) (xs ++ [.int .i64 k, .int .i64 i, .int .i64 0]) ∧ (z.ownBlock = (Value.slice po n pc).ownBlock ∨ ∃ g, z.ownBlock = some g ∧ w1.heap.size ≤ g)
    | _ => False := ⟨_, rfl⟩
  have hK : ∀ s W, C s W → W.cell? ⟨tb, 2, none⟩ = some (.slice po n pc) ∧ W.cell? ⟨N, 1, none⟩ = some (.int .i64 i) := fun s W h => by
    have hT : Tch (fun j => (Value.slice po n pc).ownBlock = some j) w1 W := by
      rw [hC] at h
      match s, h with
      | [], h => exact h.mono (fun _ _ h => h.elim)
      | [_], h => exact h.1.mono (fun _ _ h => h.elim)
      | [_, _], h => exact h.1
    obtain ⟨h1, h2⟩ := HS.out W hT
    exact ⟨by rw [blk_cell h1]; rfl, h2⟩
  have h6 : ∀ W, C [] W → C [.slice (some ⟨W.heap.size, 0, none⟩) 1 1] (W.alloc (.cells #[.int .i64 k, .int .i64 i, .int .i64 0] 93)) := fun W h => by
    rw [hC] at h ⊢
    refine ⟨Tch.allocR h _, W.heap.size, rfl, fun j u hu => ?_⟩
    rw [add_plain, blk_cell (alloc_new _ _)]
    simpa using hu
  have h7 : ∀ g W, C [.slice (some ⟨g, 0, none⟩) 1 1] W → ∃ o5 c5 w', (Builtin.append_ #[75, 75] 75 #[.slice po n pc, .slice (some ⟨g, 0, none⟩) 1 1]).run Try.prog W = .ok (.slice o5 (n + 1) c5) w' ∧ C [.slice (some ⟨g, 0, none⟩) 1 1, .slice o5 (n + 1) c5] w' := fun g W h => by
    rw [hC] at h
    obtain ⟨tW, g', e, hg⟩ := h
    have e' : g = g' := by simpa using e
    subst e'
    obtain ⟨v', w', hr, hown, hgr, hat, _⟩ := run_append_keeps (P := Try.prog) W 0 75 75 93 i0 (.agg #[.int .i64 0, .int .i64 0, .int .i64 0]) 3 24 Try.underlying75 hi0 hz0 hz1 hz2 rfl (by decide) (.slice po n pc) n xs (own_tch HP1.out tW (fun _ _ h => h)) ⟨g, 0, none⟩ 1 1 [.int .i64 k, .int .i64 i, .int .i64 0] rfl hg (by simp [Value.oneCell']) (by unfold maxLen; omega) (by omega) (Nat.zero_le _)
    obtain ⟨o5, c5, rfl⟩ := row_slice hown
    refine ⟨o5, c5, w', hr, ?_⟩
    rw [hC]
    exact ⟨(tW.mono (fun _ _ h => h.elim)).trans' (grown_at (Tch.refl (fun _ => False) W) hgr), o5, c5, rfl, hown, hat.imp id (fun e => ⟨_, e, tW.size⟩)⟩
  have h0' : C [] w1.drew := by rw [hC]; exact (Tch.refl _ _).drew
  have hsh1 : ∀ y W, C [y] W → ∃ g, y = .slice (some ⟨g, 0, none⟩) 1 1 := fun y W h => by
    rw [hC] at h
    obtain ⟨_, g, e, _⟩ := h
    exact ⟨g, e⟩
  have hsh2 : ∀ y z W, C [y, z] W → ∃ o5 c5, z = .slice o5 (n + 1) c5 := fun y z W h => by
    rw [hC] at h
    obtain ⟨_, o5, c5, e, _⟩ := h
    exact ⟨o5, c5, e⟩
  have Hfin : Hid (∀ y z W, C [y, z] W → Tch (fun j => (Value.slice po n pc).ownBlock = some j) w1 W ∧ W.ownsRow 0 93 3 z (n + 1) (xs ++ [.int .i64 k, .int .i64 i, .int .i64 0]) ∧ (z.ownBlock = (Value.slice po n pc).ownBlock ∨ ∃ g, z.ownBlock = some g ∧ w1.heap.size ≤ g)) := fun y z W h => by
    rw [hC] at h
    obtain ⟨h1, _, _, _, h2, h3⟩ := h
    exact ⟨h1, h2, h3⟩
  clear hC
  refine wp_region_ordv [9, 10] C 11 [0, 1, 2, 3, 4, 5, 6, 7, 8, 9, 10] (by kernel_rfl) (by kernel_rfl) h0' ?_
  clear h0'
  refine ordv_read rfl (by go_simp) (by rfl) ?_
  apply Exists.intro
  refine ⟨fun s' W hW b K Q hK' => ?_, fun K hK' => ?_⟩
  · obtain ⟨q0, x0⟩ := hK _ W hW
    go_simp
    exact hK' W hW
  go_simp
  refine hK' _ ?_
  clear hK' K
  refine ordv_read rfl (by go_simp) (by rfl) ?_
  apply Exists.intro
  refine ⟨fun s' W hW b K Q hK' => ?_, fun K hK' => ?_⟩
  · obtain ⟨q0, x0⟩ := hK _ W hW
    go_simp
    exact hK' W hW
  go_simp
  refine hK' _ ?_
  clear hK' K
  refine ordv_read rfl (by go_simp) (by rfl) ?_
  apply Exists.intro
  refine ⟨fun s' W hW b K Q hK' => ?_, fun K hK' => ?_⟩
  · obtain ⟨q0, x0⟩ := hK _ W hW
    go_simp
    exact hK' W hW
  go_simp
  refine hK' _ ?_
  clear hK' K
  refine ordv_read rfl (by go_simp) (by rfl) ?_
  apply Exists.intro
  refine ⟨fun s' W hW b K Q hK' => ?_, fun K hK' => ?_⟩
  · obtain ⟨q0, x0⟩ := hK _ W hW
    go_simp
    exact hK' W hW
  go_simp
  refine hK' _ ?_
  clear hK' K
  refine ordv_read rfl (by go_simp) (by rfl) ?_
  apply Exists.intro
  refine ⟨fun s' W hW b K Q hK' => ?_, fun K hK' => ?_⟩
  · obtain ⟨q0, x0⟩ := hK _ W hW
    go_simp
    exact hK' W hW
  go_simp
  refine hK' _ ?_
  clear hK' K
  refine ordv_read rfl (by go_simp) (by rfl) ?_
  apply Exists.intro
  refine ⟨fun s' W hW b K Q hK' => ?_, fun K hK' => ?_⟩
  · obtain ⟨q0, x0⟩ := hK _ W hW
    go_simp
    exact hK' W hW
  go_simp
  refine hK' _ ?_
  clear hK' K
  refine ordv_read rfl (by go_simp) (by rfl) ?_
  apply Exists.intro
  refine ⟨fun s' W hW b K Q hK' => ?_, fun K hK' => ?_⟩
  · obtain ⟨q0, x0⟩ := hK _ W hW
    go_simp
    exact hK' W hW
  go_simp
  refine hK' _ ?_
  clear hK' K
  refine ordv_read rfl (by go_simp) (by rfl) ?_
  apply Exists.intro
  refine ⟨fun s' W hW b K Q hK' => ?_, fun K hK' => ?_⟩
  · obtain ⟨q0, x0⟩ := hK _ W hW
    go_simp
    exact hK' W hW
  go_simp
  refine hK' _ ?_
  clear hK' K
  refine ordv_read rfl (by go_simp) (by rfl) ?_
  apply Exists.intro
  refine ⟨fun s' W hW b K Q hK' => ?_, fun K hK' => ?_⟩
  · obtain ⟨q0, x0⟩ := hK _ W hW
    go_simp
    exact hK' W hW
  go_simp
  refine hK' _ ?_
  clear hK' K
  refine ordv_turn rfl (by go_simp) (by rfl) (fun W hW b K Q hK' => ?_) (fun u hu K hK' => ?_)
  · go_simp
    exact hK' _ _ (h6 W hW)
  obtain ⟨g, rfl⟩ : ∃ g, u = .slice (some ⟨g, 0, none⟩) 1 1 := by
    obtain ⟨W', hW'⟩ := hu
    exact hsh1 u W' hW'
  clear hu h6
  go_simp
  refine hK' _ ?_
  clear hK' K
  refine ordv_turn rfl (by go_simp) (by rfl) (fun W hW => ?_) (fun u hu K hK' => ?_)
  · obtain ⟨to', tc', w', hr, h1⟩ := h7 g W hW
    exact yv_append (.tmp 22) (.tmp 27) 75 rfl (.slice po n pc) (.slice (some ⟨g, 0, none⟩) 1 1) rfl rfl hr h1
  obtain ⟨o5, c5, rfl⟩ : ∃ o5 c5, u = .slice o5 (n + 1) c5 := by
    obtain ⟨W', hW'⟩ := hu
    exact hsh2 _ u W' hW'
  clear hu h7 hsh1 hsh2
  go_simp
  refine hK' _ ?_
  clear hK' K
  refine ordv_nil ?_
  intro w5 hw5
  obtain ⟨T5, hO5, hat5⟩ := Hfin.out _ _ w5 hw5
  obtain ⟨hX5, _⟩ := HS.out w5 T5
  have c2 : w5.cell? ⟨tb, 2, none⟩ = some (.slice po n pc) := by rw [blk_cell hX5]; rfl
  have f2 := blk_frozen hX5 2
  obtain ⟨tw, hsw, hmt, hpt, hpm, htl⟩ := HG.out
  have tE : Tch (fun j => j = tb) w5 (w5.setCell ⟨tb, 2, none⟩ (.slice o5 (n + 1) c5)) := Tch.setCell _ _ _ _ rfl
  have HEnd : Hid (∃ v', (w5.setCell ⟨tb, 2, none⟩ (.slice o5 (n + 1) c5)).ownsMap Try.prog 3 numElem mb (nn + 1) (D.put (.int .i64 k) (encN (tb, n))) ∧ (w5.setCell ⟨tb, 2, none⟩ (.slice o5 (n + 1) c5)).heap[tb]? = some (.cells #[xv, sv, v'] 77 (0, 0)) ∧ (w5.setCell ⟨tb, 2, none⟩ (.slice o5 (n + 1) c5)).ownsRow 0 93 3 v' (n + 1) (xs ++ [.int .i64 k, .int .i64 i, .int .i64 0]) ∧ (v'.ownBlock = (Value.slice po n pc).ownBlock ∨ ∃ g, v'.ownBlock = some g ∧ w.heap.size ≤ g) ∧ Tch (fun j => j = mb ∨ j = tb ∨ (Value.slice po n pc).ownBlock = some j) w (w5.setCell ⟨tb, 2, none⟩ (.slice o5 (n + 1) c5))) := by
    refine ⟨.slice o5 (n + 1) c5, ownsMap_tch (ownsMap_tch HD1.out T5 (fun e => hpm mb e rfl)) tE hmt, blk_set hX5 _, own_tch hO5 tE (fun g hg e => ?_), hat5.imp id (fun ⟨g, h1, h2⟩ => ⟨g, h1, by omega⟩), (tw.trans T5 (fun j _ e => Or.inr (Or.inr e))).trans tE (fun j _ e => Or.inr (Or.inl e))⟩
    rcases hat5 with e1 | ⟨g', e1, e2⟩
    · rw [e1] at hg; exact hpt g hg e
    · rw [e1] at hg
      injection hg with hg
      omega
  clear hK hw5 Hfin hX5 T5 hO5 hat5 tw hsw hmt hpt hpm htl tE
  go_wp2_with fail
  go_end0
  exact ⟨rfl, HEnd.out⟩
end Go.Proofs.Ytkokmgoplldcfaa
