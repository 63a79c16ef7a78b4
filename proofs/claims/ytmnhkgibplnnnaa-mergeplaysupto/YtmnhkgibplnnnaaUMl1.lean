import Derived.Test.YtmnhkgibplnnnaaUMl0
/- MergeLists: a list is done; what comes behind the first loop. -/
namespace Go.Proofs.Ytmnhkgibplnnnaa
open Go.RowKit Go

/-- What the end of a round gives. -/
structure Cl (W : World) (gO : Nat) (ls : List (List Rc)) (i : Nat) (wr : World) (oc : Array Value) (hr : List Value) (ls' : List (List Rc)) (u u' : List Rc) (wq : World) (ao : Option Addr) (m cp : Nat) (ra : Option Addr) (rc : Nat) (g c1 : Nat) (w1 : World) (gr rc' : Nat) (w2 : World) : Prop where
  load : wq.cell? ⟨gO, i, none⟩ = some (.slice ao m cp)
  run1 : (Builtin.append_ #[28, 28] 28 #[.slice ao m cp, .slice (some ⟨wq.heap.size, 0, none⟩) 1 1]).run Try.prog (wq.alloc (.cells #[.int .i64 (-77), .int .i64 0, .int .i64 0, .int .i64 0, .slice none 0 0, .slice none 0 0] 27)) = .ok (.slice (some ⟨g, 0, none⟩) (m + 1) c1) w1
  run2 : (Builtin.append_ #[23, 23] 23 #[.slice ra i rc, .slice (some ⟨w1.heap.size, 0, none⟩) 1 1]).run Try.prog (w1.alloc (.cells #[.slice (some ⟨g, 0, none⟩) (m + 1) c1] 28)) = .ok (.slice (some ⟨gr, 0, none⟩) (i + 1) rc') w2
  rd : w2.cell? ⟨gr, i, none⟩ = some (.slice (some ⟨g, 0, none⟩) (m + 1) c1)
  le : m + 1 ≤ c1
  mx : c1 ≤ maxLen
  wl : w2.cell? ⟨gO, i, none⟩ = some (.slice ao m cp)
  fz : ∀ j, w2.frozen? ⟨gO, j, none⟩ = false
  tch : Tch (fun g => gO ≤ g) W w2
  out : ∀ wz, Tch (fun _ => False) w2 wz → P1 W gO ls (i + 1) (wz.setCell ⟨gO, i, none⟩ (.slice (some ⟨g, 0, none⟩) m c1)) (oc.setIfInBounds i (.slice (some ⟨g, 0, none⟩) m c1)) (hr ++ [.slice (some ⟨g, 0, none⟩) (m + 1) c1]) (ls' ++ [u']) ∧ (wz.setCell ⟨gO, i, none⟩ (.slice (some ⟨g, 0, none⟩) m c1)).ownsRow (gO + 1) 28 1 (.slice (some ⟨gr, 0, none⟩) (i + 1) rc') (i + 1) (hr ++ [.slice (some ⟨g, 0, none⟩) (m + 1) c1])
theorem P2.close {W : World} {gO : Nat} {ls : List (List Rc)} {i : Nat} {wr : World} {oc : Array Value} {hr : List Value} {ls' : List (List Rc)} (h1 : P1 W gO ls i wr oc hr ls') (hge : gO = W.heap.size) {u : List Rc} (hu : ls[i]? = some u) {wq : World} {ao : Option Addr} {cp : Nat} {u' : List Rc} (h : P2 W gO i u wr oc wq ao u.length cp u')
    {ra : Option Addr} {rc : Nat} (hR : wr.ownsRow (gO + 1) 28 1 (.slice ra i rc) i hr) (hs : u.length ≤ 2000000) (hi2 : i ≤ 2000000) : ∃ g c1 w1 gr rc' w2, Cl W gO ls i wr oc hr ls' u u' wq ao u.length cp ra rc g c1 w1 gr rc' w2 := by
  have hi : i < ls.length := (List.getElem?_eq_some_iff.1 hu).1
  obtain ⟨i0, hi0, hz0, hz1, hz2⟩ := info_parts info_ch
  obtain ⟨i1, hi1, hy0, hy1, hy2⟩ := info_parts info_sl
  obtain ⟨m, hm⟩ : ∃ m, m = u.length := ⟨_, rfl⟩
  rw [← hm] at h hs ⊢
  have hgO : gO < wr.heap.size := blk_lt h1.blk
  have hu'l : u'.length = m := by rw [← h.el.len, hm, List.take_length]
  obtain ⟨wa, hwa⟩ : ∃ wa, wa = wq.alloc (.cells #[.int .i64 (-77), .int .i64 0, .int .i64 0, .int .i64 0, .slice none 0 0, .slice none 0 0] 27) := ⟨_, rfl⟩
  have ta : Tch (fun _ => False) wq wa := by rw [hwa]; exact Tch.alloc _ _ _
  have ba : wa.heap[wq.heap.size]? = some (.cells (kc6 r77).toArray 27 (0, 0)) := by rw [hwa]; exact alloc_new _ _
  have hoa := own_tch h.own ta (fun _ _ h => h)
  have hsq := h.tch.size
  obtain ⟨v1, w1, hr1, hown1, hgr1, hat1, _⟩ := run_append_own_at (P := Try.prog) wa wr.heap.size 28 28 27 i0 _ 6 80 Try.underlying28 hi0 hz0 hz1 hz2 rfl (by decide) _ _ _ hoa ⟨wq.heap.size, 0, none⟩ 1 1 (kc6 r77) rfl (fun j u hu => by rw [add_plain, Nat.zero_add, blk_cell ba, List.getElem?_toArray]; exact hu) (kc6_one _) (by unfold maxLen; omega) (by omega) (Nat.le_trans hsq ta.size)
  have t1 : Tch (fun i => (Value.slice ao m cp).ownBlock = some i) wa w1 := Tch.of_grown hgr1 (fun g e => e)
  obtain ⟨g, c1, cur1, rfl, hg1, hbk1, hle1, hmx1, _⟩ := own_open hown1 (by omega)
  rw [← kcl_snoc] at hown1
  obtain ⟨wb, hwb⟩ : ∃ wb, wb = w1.alloc (.cells #[.slice (some ⟨g, 0, none⟩) (m + 1) c1] 28) := ⟨_, rfl⟩
  have tb : Tch (fun _ => False) w1 wb := by rw [hwb]; exact Tch.alloc _ _ _
  have bb : wb.heap[w1.heap.size]? = some (.cells #[.slice (some ⟨g, 0, none⟩) (m + 1) c1] 28 (0, 0)) := by rw [hwb]; exact alloc_new _ _
  have tr1 : Tch (fun g => g = gO ∨ wr.heap.size ≤ g) wr w1 := (h.tch.trans ta (fun _ _ h => h.elim)).trans t1 (fun g _ e => .inr (h.own.lt g e).1)
  have trb : Tch (fun g => g = gO ∨ wr.heap.size ≤ g) wr wb := tr1.trans tb (fun _ _ h => h.elim)
  have hRb : wb.ownsRow (gO + 1) 28 1 (.slice ra i rc) i hr := own_tch hR trb (fun g e e2 => by have := hR.lt g e; omega)
  obtain ⟨v2, w2, hr2, hown2, hgr2, hat2, _⟩ := run_append_own_at (P := Try.prog) wb (gO + 1) 23 23 28 i1 _ 1 24 Try.underlying23 hi1 hy0 hy1 hy2 rfl (by decide) _ _ _ hRb ⟨w1.heap.size, 0, none⟩ 1 1 [.slice (some ⟨g, 0, none⟩) (m + 1) c1] rfl (fun j u hu => by rw [add_plain, Nat.zero_add, blk_cell bb, List.getElem?_toArray]; exact hu) (fun u hu => by simp only [List.mem_cons, List.not_mem_nil, or_false] at hu; rw [hu]; rfl) (by unfold maxLen; omega) (by omega) (by have := trb.size; omega)
  have t2 : Tch (fun i_1 => (Value.slice ra i rc).ownBlock = some i_1) wb w2 := Tch.of_grown hgr2 (fun g e => e)
  obtain ⟨gr, rc', cur2, rfl, hg2, hbk2, hle2, hmx2, _⟩ := own_open hown2 (by omega)
  have tr2 : Tch (fun k => k = gO ∨ wr.heap.size ≤ k ∨ (Value.slice ra i rc).ownBlock = some k) wr w2 := (trb.mono (fun k _ e => e.imp id .inl)).trans t2 (fun k _ e => .inr (.inr e))
  have hbO : w1.heap[gO]? = some (.cells (oc.setIfInBounds i (.slice ao m cp)) 28 (0, 0)) := by
    rw [t1.block gO (by have := ta.size; omega) (fun e => by have := (h.own.lt gO e).1; omega), ta.block gO (blk_lt h.blk) (fun h => h)]; exact h.blk
  have hbO2 : w2.heap[gO]? = some (.cells (oc.setIfInBounds i (.slice ao m cp)) 28 (0, 0)) := by
    rw [t2.block gO (by have := trb.size; omega) (fun e => by have := (hRb.lt gO e).1; omega), tb.block gO (blk_lt hbO) (fun h => h)]; exact hbO
  have hsz1 := h1.osz
  have ei : (oc.setIfInBounds i (.slice ao m cp))[i]? = some (.slice ao m cp) := by rw [Array.getElem?_setIfInBounds]; simp; omega
  have hW1 : Tch (fun g => gO ≤ g) W w2 := h1.tch.trans tr2 (fun k hk e => by
    rcases e with e | e | e
    · omega
    · omega
    · have := (hR.lt k e).1; omega)
  have Hel : A2 (Cpy W (gO + 1) w2) u u' := by
    have e0 : A2 (Cpy W (gO + 1) wq) u u' := by have := h.el; rwa [hm, List.take_length] at this
    have e1 := e0.mono (fun a b r => r.tch ta (fun _ _ _ h => h))
    have e2 := e1.mono (fun a b r => r.tch t1 (fun k cur hk e => by obtain ⟨cu, hc⟩ := own_ty hoa e; exact ne_ty hk hc (by decide) rfl))
    have e3 := e2.mono (fun a b r => r.tch tb (fun _ _ _ h => h))
    exact e3.mono (fun a b r => r.tch t2 (fun k cur hk e => by obtain ⟨cu, hc⟩ := own_ty hRb e; exact ne_ty hk hc (by decide) rfl))
  have hown1' : w2.ownsRow (gO + 1) 27 6 (.slice (some ⟨g, 0, none⟩) (m + 1) c1) (m + 1) (kcl (u' ++ [r77])) := by
    have e1 := own_tch (own_low hown1 (show gO + 1 ≤ wr.heap.size by omega)) tb (fun _ _ h => h)
    exact own_tch e1 t2 (fun k e e2 => by obtain ⟨cu, hc⟩ := own_ty hRb e2; obtain ⟨cu', hc'⟩ := own_ty e1 e; exact ne_ty hc hc' (by decide) rfl)
  have hlen2 := hown2.1
  refine ⟨g, c1, w1, gr, rc', w2, (blk_cell h.blk i).trans ei, by rw [← hwa]; exact hr1, by rw [← hwb]; exact hr2, ?_, hle1, hmx1, (blk_cell hbO2 i).trans ei, blk_frozen hbO2, hW1, fun wz tz => ?_⟩
  · have := hown2.cells (g := gr) rfl i (.slice (some ⟨g, 0, none⟩) (m + 1) c1) (by rw [List.getElem?_append_right (by rw [h1.hl]; omega), h1.hl, Nat.sub_self]; rfl)
    rw [add_plain, Nat.zero_add] at this; exact this
  · have hbz := (tz.block gO (blk_lt hbO2) (fun h => h)).trans hbO2
    obtain ⟨w3, hw3⟩ : ∃ w3, w3 = wz.setCell ⟨gO, i, none⟩ (.slice (some ⟨g, 0, none⟩) m c1) := ⟨_, rfl⟩
    have t3 : Tch (fun k => k = gO) wz w3 := by rw [hw3]; exact Tch.setCell (fun k => k = gO) _ _ _ rfl
    have nO : ∀ k cur, wz.heap[k]? = some (.cells cur 27 (0, 0)) → ¬ k = gO := fun k cur hk e => by subst e; exact ne_ty hk hbz (by decide) rfl
    have nV : ∀ k cur, wz.heap[k]? = some (.cells cur 76 (0, 0)) → ¬ k = gO := fun k cur hk e => by subst e; exact ne_ty hk hbz (by decide) rfl
    have tr3 : Tch (fun k => k = gO ∨ wr.heap.size ≤ k ∨ (Value.slice ra i rc).ownBlock = some k) wr w3 := (tr2.trans tz (fun _ _ h => h.elim)).trans t3 (fun k _ e => .inl e)
    rw [← hw3]
    refine ⟨⟨?_, by rw [Array.size_setIfInBounds]; exact h1.osz, fun j h2 h3 => ?_, by rw [List.length_append, h1.hl]; rfl, by rw [List.length_append, h1.len]; rfl, fun j v v' hv hv' => ?_, ?_⟩, ?_⟩
    · rw [hw3, blk_set hbz]; simp
    · rw [Array.getElem?_setIfInBounds, if_neg (by omega)]; exact h1.oz j (by omega) h3
    · rcases Nat.lt_or_ge j i with hj | hj
      · rw [List.getElem?_append_left (by rw [h1.len]; exact hj)] at hv'
        obtain ⟨g', cp', e1, e2, e3⟩ := h1.el j v v' hv hv'
        refine ⟨g', cp', by rw [Array.getElem?_setIfInBounds, if_neg (by omega)]; exact e1, by rw [List.getElem?_append_left (by rw [h1.hl]; exact hj)]; exact e2, e3.tch tr3 (fun k cur hk e => ?_) (fun k cur hk e => ?_)⟩
        · rcases e with e | e | e
          · subst e; exact ne_ty hk h1.blk (by decide) rfl
          · have := blk_lt hk; omega
          · obtain ⟨cu, hc⟩ := own_ty hR e; exact ne_ty hk hc (by decide) rfl
        · rcases e with e | e | e
          · subst e; exact ne_ty hk h1.blk (by decide) rfl
          · have := blk_lt hk; omega
          · obtain ⟨cu, hc⟩ := own_ty hR e; exact ne_ty hk hc (by decide) rfl
      · obtain rfl : j = i := by
          have := (List.getElem?_eq_some_iff.1 hv').1
          rw [List.length_append, h1.len, List.length_singleton] at this; omega
        rw [hu] at hv
        obtain rfl : u = v := by simpa using hv
        rw [List.getElem?_append_right (by rw [h1.len]; omega), h1.len, Nat.sub_self] at hv'
        obtain rfl : u' = v' := by simpa using hv'
        refine ⟨g, c1, ?_, ?_, ?_, ?_⟩
        · rw [← hm, Array.getElem?_setIfInBounds]; simp; omega
        · rw [← hm, List.getElem?_append_right (by rw [h1.hl]; omega), h1.hl, Nat.sub_self]; rfl
        · rw [← hm]
          have hoz := own_tch hown1' tz (fun _ _ h => h)
          exact own_tch hoz t3 (fun k e => by obtain ⟨cu, hc⟩ := own_ty hoz e; exact nO k cu hc)
        · exact (Hel.mono (fun a b r => r.tch tz (fun _ _ _ h => h))).mono (fun a b r => r.tch t3 nV)
    · exact (hW1.trans tz (fun _ _ h => h.elim)).trans t3 (fun k _ e => by show gO ≤ k; rw [e]; exact Nat.le_refl _)
    · exact own_tch (own_tch hown2 tz (fun _ _ h => h)) t3 (fun k e e2 => by have := (hown2.lt k e).1; omega)
end Go.Proofs.Ytmnhkgibplnnnaa
