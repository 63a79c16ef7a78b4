import Derived.Test.YtmnhkgibplnnnaaGPush
/- pop: the first item, and the others. -/
namespace Go.Proofs.Ytmnhkgibplnnnaa
open Go.RowKit Go

theorem HR.cut {w : World} {g cap : Nat} {l : List It} (h : HR w g cap l) (hl : 0 < l.length) (vs : List Value) (hv : vs.length = 3) : HR (w.setCells g ((l.length - 1) * 3) vs) g cap (l.take (l.length - 1)) := by
  obtain ⟨cur, ty, h1, h2, h3⟩ := h.blk
  have hlen := h.len
  have hc : cur.toList.length = cap * 3 := by simpa using h2
  have hs := set_blk vs ((l.length - 1) * 3) w cur h1 (by rw [hv]; omega)
  have ht : icl (l.take (l.length - 1)) = (icl l).take ((l.length - 1) * 3) := by
    have e := List.take_append_drop (l.length - 1) l
    have e2 : icl l = icl (l.take (l.length - 1)) ++ icl (l.drop (l.length - 1)) := by rw [← icl_append, e]
    rw [e2]
    have e3 : (l.length - 1) * 3 = (icl (l.take (l.length - 1))).length := by rw [icl_len, List.length_take]; congr 1; omega
    rw [e3, List.take_left]
  have hm : (l.take (l.length - 1)).length = l.length - 1 := by rw [List.length_take]; omega
  refine ⟨⟨_, ty, hs, ?_, ?_⟩, by rw [hm]; omega, h.cap, ty_of hs (h.ty _ _ _ h1)⟩
  · simp only [List.size_toArray, List.length_append, List.length_take, List.length_drop, hc, hv]
    omega
  · rw [hm, ht, ← h3, List.take_take, Nat.min_eq_left (by omega), List.append_assoc]
    have : (cur.toList.take ((l.length - 1) * 3)).length = (l.length - 1) * 3 := by rw [List.length_take]; omega
    show List.take _ (List.take _ _ ++ _) = _
    rw [List.take_append_of_le_length (by omega), List.take_take, Nat.min_self]
theorem rs_pop : Try.f27.results = #[.cell 2 72, .tmp 3] := by kernel_rfl
theorem res_pop {fn : Func} {tmps : Array Value} {W : World} {B k j : Nat} {a b c v : Value} (hrs : fn.results = #[.cell k 72, .tmp j]) (hk : tmps[k]?.getD undef = .pointer (some ⟨B, 0, none⟩)) (hj : tmps[j]?.getD undef = v)
    (hb : W.heap[B]? = some (.cells #[a, b, c] 72 (0, 0))) :
    (results fn tmps).run Try.prog W = .ok (.tuple #[.agg #[a, b, c], v]) W := by
  have c0 : W.cell? ⟨B, 0, none⟩ = some a := by rw [blk_cell hb]; rfl
  have c1 : W.cell? ⟨B, 1, none⟩ = some b := by rw [blk_cell hb]; rfl
  have c2 : W.cell? ⟨B, 2, none⟩ = some c := by rw [blk_cell hb]; rfl
  simp only [results, hrs]
  go_simp
set_option maxHeartbeats 4000000 in
set_option maxRecDepth 1000000 in
theorem pop_any (l : List It) (g cap : Nat) (w : World) (h : HR w g cap l) (hs : l.length ≤ 1000000000000) (hl : 0 < l.length) (hr : Heap l) :
    Calls Try.prog 27 #[hV g cap l] w fun e w' => ∃ l', e = .returned (.tuple #[itV (hat l 0), hV g cap l']) ∧ l'.Perm (popL l) ∧ Heap l' ∧ HR w' g cap l' ∧ Tch (fun i => i = g) w w' := by
  obtain ⟨n, hn⟩ : ∃ n, n + 1 = l.length := ⟨l.length - 1, by omega⟩
  have hcap : n + 1 ≤ cap := by rw [hn]; exact h.len
  have hcm : cap ≤ 9223372036854775807 := by have := h.cap; unfold maxLen at this; omega
  have hs' : n + 1 ≤ 1000000000000 := by omega
  obtain ⟨x, hx⟩ : ∃ x, x = hat l 0 := ⟨_, rfl⟩
  obtain ⟨y, hy⟩ : ∃ y, y = hat l n := ⟨_, rfl⟩
  obtain ⟨w0, hw0⟩ : ∃ w0, w0 = w.alloc (.cells #[.int .i64 0, .int .i64 0, .pointer none] 72) := ⟨_, rfl⟩
  obtain ⟨w1, hw1⟩ : ∃ w1, w1 = w0.alloc (.cells #[.int .i64 x.r, .int .i64 x.t, .pointer (some ⟨x.p, 0, none⟩)] 72) := ⟨_, rfl⟩
  have t0 : Tch (fun _ => False) w w0 := by rw [hw0]; exact Tch.alloc _ _ _
  have t1 : Tch (fun _ => False) w w1 := by rw [hw1]; exact t0.allocR _
  have hg : g < w.heap.size := h.lt
  have hz0 : w0.heap.size = w.heap.size + 1 := by rw [hw0, World.size_alloc]
  have b2 : w1.heap[w.heap.size]? = some (.cells #[.int .i64 0, .int .i64 0, .pointer none] 72 (0, 0)) := by
    rw [hw1, (Tch.alloc (fun _ => False) w0 _).block _ (by omega) (fun h => h), hw0]; exact alloc_new _ _
  have b4 : w1.heap[w.heap.size + 1]? = some (.cells #[.int .i64 x.r, .int .i64 x.t, .pointer (some ⟨x.p, 0, none⟩)] 72 (0, 0)) := by
    rw [hw1, ← hz0]; exact alloc_new _ _
  obtain ⟨c0, c1, c2⟩ := (h.no t0).cells (k := 0) (by omega)
  rw [← hx] at c0 c1 c2
  simp only [Nat.zero_mul, Nat.zero_add] at c0 c1 c2
  obtain ⟨d0, d1, d2⟩ := (h.no t1).cells (k := n) (by omega)
  rw [← hy] at d0 d1 d2
  obtain ⟨e0, e1, e2⟩ := (h.no t1).cells (k := 0) (by omega)
  rw [← hx] at e0 e1 e2
  simp only [Nat.zero_mul, Nat.zero_add] at e0 e1 e2
  have f0 := (h.no t1).frozen
  obtain ⟨z, hz⟩ : ∃ z, z = hat (l.set 0 y) n := ⟨_, rfl⟩
  have hW2 := (h.no t1).set (k := 0) (by omega) y
  obtain ⟨k0, k1, k2⟩ := hW2.cells (k := n) (by rw [List.length_set]; omega)
  rw [← hz] at k0 k1 k2
  have f2 := hW2.frozen
  have eW2 : w1.setCells g (0 * 3) (ic y) = ((w1.setCell ⟨g, 0, none⟩ (.int .i64 y.r)).setCell ⟨g, 1, none⟩ (.int .i64 y.t)).setCell ⟨g, 2, none⟩ (.pointer (some ⟨y.p, 0, none⟩)) := rfl
  obtain ⟨w2, hw2⟩ : ∃ w2, w2 = w1.setCells g (0 * 3) (ic y) := ⟨_, rfl⟩
  rw [← hw2] at k0 k1 k2 f2
  have HP : Hid (∀ W, W = (w1.setCells g (0 * 3) (ic y)).setCells g (n * 3) [.int .i64 0, .int .i64 0, .pointer none] → HR W g cap (popL l) ∧ Tch (fun i => i = g) w1 W) := fun W e => by
    have h2 := (h.no t1).set (k := 0) (by omega) y
    have h3 := h2.cut (by simpa using hl) [.int .i64 0, .int .i64 0, .pointer none] rfl
    rw [List.length_set, ← hn, Nat.add_sub_cancel] at h3
    refine ⟨?_, by rw [e]; exact (tch_cells g _ _ _).trans' (tch_cells g _ _ _)⟩
    rw [e]
    have : popL l = (l.set 0 y).take n := by unfold popL; rw [← hn, Nat.add_sub_cancel, hy]
    rw [this]; exact h3
  have HW2 : Hid (w2 = ((w1.setCell ⟨g, 0, none⟩ (.int .i64 y.r)).setCell ⟨g, 1, none⟩ (.int .i64 y.t)).setCell ⟨g, 2, none⟩ (.pointer (some ⟨y.p, 0, none⟩))) := hw2.trans eW2
  have HP : Hid (∀ W, W = w2.setCells g (n * 3) [.int .i64 0, .int .i64 0, .pointer none] → HR W g cap (popL l) ∧ Tch (fun i => i = g) w1 W) := fun W e => HP.out W (by rw [e, hw2])
  have HN : Hid (l.length = n + 1 ∧ x = hat l 0 ∧ Heap l) := ⟨hn.symm, hx, hr⟩
  have HT1 : Hid (Tch (fun _ => False) w w1) := t1
  have H24 : Hid (w1.heap[w.heap.size]? = some (.cells #[.int .i64 0, .int .i64 0, .pointer none] 72 (0, 0)) ∧ w1.heap[w.heap.size + 1]? = some (.cells #[.int .i64 x.r, .int .i64 x.t, .pointer (some ⟨x.p, 0, none⟩)] 72 (0, 0))) := ⟨b2, b4⟩
  unfold hV
  rw [← hn, ← hx]
  rw [hw0] at c0 c1 c2
  have HW1 : Hid (w1 = (w.alloc (.cells #[.int .i64 0, .int .i64 0, .pointer none] 72)).alloc (.cells #[.int .i64 x.r, .int .i64 x.t, .pointer (some ⟨x.p, 0, none⟩)] 72)) := by show _ = _; rw [hw1, hw0]
  have hn0 : (0 : Int) < (n : Int) + 1 := by omega
  clear h hs hl hr hn hx hy hz hW2 eW2 hw2 hw0 hw1 t0 t1 b2 b4 hz0
  go_enter Try.func27, Try.ntmps27
  iterate 42 (first | go_values | go_skip | go_guarded | go_step | go_upon | go_in | go_back)
  rw [← HW1.out]
  clear c0 c1 c2
  iterate 30 (first | go_values | go_skip | go_guarded | go_step | go_upon | go_in | go_back)
  rw [← HW2.out]
  clear d0 d1 d2 e0 e1 e2 f0
  have hnc : n ≤ cap := by omega
  go_wp2_with fail
  clear k0 k1 k2 f2
  obtain ⟨w3, hw3⟩ : ∃ w3, w3 = ((w2.setCell ⟨g, n * 3, none⟩ (.int .i64 0)).setCell ⟨g, n * 3 + 1, none⟩ (.int .i64 0)).setCell ⟨g, n * 3 + 2, none⟩ (.pointer none) := ⟨_, rfl⟩
  rw [← hw3]
  obtain ⟨hR3, t3⟩ := HP.out w3 hw3
  have q := sink_any (popL l) g cap w3 hR3 (by rw [popL_len, HN.out.1]; omega) HN.out.2.2.pop
  have e : hV g cap (popL l) = .slice (some ⟨g, 0, none⟩) n cap := by unfold hV; rw [popL_len, HN.out.1, Nat.add_sub_cancel]
  rw [e] at q
  have T3 : Hid (Tch (fun i => i = g) w1 w3) := t3
  clear hw3 hR3 t3 e
  refine q.mono ?_
  rintro e w4 ⟨rfl, l', p, hh, h4, t4⟩
  have HL : Hid (l'.Perm (popL l) ∧ Heap l' ∧ HR w4 g cap l') := ⟨p, hh, h4⟩
  have T4 : Hid (Tch (fun i => i = g) w1 w4) := T3.out.trans' t4
  have b2 := (T4.out.block w.heap.size (blk_lt H24.out.1) (by omega)).trans H24.out.1
  have b4 := (T4.out.block (w.heap.size + 1) (blk_lt H24.out.2) (by omega)).trans H24.out.2
  have x0 : w4.cell? ⟨w.heap.size + 1, 0, none⟩ = some (.int .i64 x.r) := blk_cell b4 0
  have x1 : w4.cell? ⟨w.heap.size + 1, 1, none⟩ = some (.int .i64 x.t) := blk_cell b4 1
  have x2 : w4.cell? ⟨w.heap.size + 1, 2, none⟩ = some (.pointer (some ⟨x.p, 0, none⟩)) := blk_cell b4 2
  have y0 : w4.cell? ⟨w.heap.size, 0, none⟩ = some (.int .i64 0) := blk_cell b2 0
  have y1 : w4.cell? ⟨w.heap.size, 1, none⟩ = some (.int .i64 0) := blk_cell b2 1
  have y2 : w4.cell? ⟨w.heap.size, 2, none⟩ = some (.pointer none) := blk_cell b2 2
  have f4 := blk_frozen b2
  have B2 : Hid _ := b2
  clear q p hh h4 t4 b2 b4 HP
  go_wp2_with fail
  go_big_region
  clear x0 x1 x2 y0 y1 y2 f4
  obtain ⟨w5, hw5⟩ : ∃ w5, w5 = (((w4.setCell ⟨w.heap.size, 0, none⟩ (.int .i64 x.r)).setCell ⟨w.heap.size, 1, none⟩ (.int .i64 x.t)).setCell ⟨w.heap.size, 2, none⟩ (.pointer (some ⟨x.p, 0, none⟩))).drew := ⟨_, rfl⟩
  rw [← hw5]
  have t5 : Tch (fun i => i = w.heap.size) w4 w5 := by rw [hw5]; exact (((Tch.setCell (fun i => i = w.heap.size) _ _ _ rfl).setCellR _ _ rfl).setCellR _ _ rfl).drew
  have b5 : w5.heap[w.heap.size]? = some (.cells #[.int .i64 x.r, .int .i64 x.t, .pointer (some ⟨x.p, 0, none⟩)] 72 (0, 0)) := by
    rw [hw5]; exact blk_set (blk_set (blk_set B2.out _) _) _
  have HE : Hid (∃ l', (Ending.returned (.tuple #[.agg #[.int .i64 x.r, .int .i64 x.t, .pointer (some ⟨x.p, 0, none⟩)], .slice (some ⟨g, 0, none⟩) n cap]) : Ending) = .returned (.tuple #[itV x, .slice (some ⟨g, 0, none⟩) l'.length cap]) ∧ l'.Perm (popL l) ∧ Heap l' ∧ HR w5 g cap l' ∧ Tch (fun i => i = g) w w5) := by
    obtain ⟨p, hh, h4⟩ := HL.out
    refine ⟨l', ?_, p, hh, h4.tch t5 (by omega), ?_⟩
    · rw [p.length_eq, popL_len, HN.out.1, Nat.add_sub_cancel]; rfl
    · exact ((HT1.out.mono (fun _ _ h => h.elim)).trans' T4.out).trans t5 (fun i hi e => by omega)
  have B5 : Hid _ := b5
  clear hw5 t5 b5
  go_wp2
  refine bodyPost_ret (res_pop rs_pop rfl rfl B5.out) rfl ?_
  exact HE.out
end Go.Proofs.Ytmnhkgibplnnnaa
