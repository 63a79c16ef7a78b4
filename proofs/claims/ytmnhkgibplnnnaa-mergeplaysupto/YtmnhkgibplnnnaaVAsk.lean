import Derived.Test.YtmnhkgibplnnnaaVSrcN
/- MergePlays: ask of a source's row. -/
namespace Go.Proofs.Ytmnhkgibplnnnaa
open Go.RowKit Go

def fS (sb : Nat) : Value := .func (.func 11) #[.pointer (some ⟨sb, 0, none⟩)] #[]
def rwS (sb : Nat) (c : Rc) : Array Value := #[fS sb, .int .i64 c.l, .int .i64 c.x, .int .i64 c.k, .int .i64 c.t, .slice c.oa c.ol c.oc, .slice c.na c.nl c.nc]
theorem SW.oty {W w : World} {sb : Nat} {la : Option Addr} {lc : Nat} {L L' : List Rc} {k : Nat} (h : SW W w sb la lc L L' k) {g : Nat} (hg : Ov L' k g) : ∃ cur, w.heap[g]? = some (.cells cur 76 (0, 0)) := by
  obtain ⟨j, d, hj, hd, hb⟩ := hg
  have r := h.el j _ d (List.getElem?_eq_getElem (by rw [h.len]; exact (List.getElem?_eq_some_iff.1 hd).1)) hd (by omega)
  exact hb.elim (fun e => own_ty r.own.o e) (fun e => own_ty r.own.n e)
set_option maxHeartbeats 1000000 in
set_option maxRecDepth 100000 in
theorem vask_nil (W : World) (mb p sb : Nat) (num : Int) (c0 : Rc) (la : Option Addr) (lc : Nat) (LL LL' : List Rc) (k : Nat) (w : World) (hp : w.heap[p]? = some (.cells (rwS sb c0) 69 (0, 0))) (hsw : SW W w sb la lc LL LL' k) (hk : k = LL'.length) (hn : LL'.length ≤ 2000000) :
    Calls Try.prog 25 #[.pointer (some ⟨mb, 0, none⟩), .pointer (some ⟨p, 0, none⟩), .int .i64 num] w fun e w' => e = .returned (.tuple #[]) ∧ w'.heap[sb]? = some (.cells #[.slice la LL'.length lc, .int .i64 ((k + 1 : Nat) : Int), .bool false] 48 (0, 0)) ∧ Tch (fun g => g = sb ∨ Ov LL' k g) w w' := by
  have c0 : w.cell? ⟨p, 0, none⟩ = some (.func (.func 11) #[.pointer (some ⟨sb, 0, none⟩)] #[]) := blk_cell hp 0
  have q := src_none W w sb la lc LL LL' k hsw hk hn
  unfold zV at q
  clear hp hsw
  go_enter Try.func25, Try.ntmps25
  go_wp2_with fail
  refine q.mono ?_
  rintro e w1 ⟨rfl, b1, t1⟩
  have T1 : Hid _ := And.intro b1 t1
  clear q t1 b1 c0
  go_wp2
  refine bodyPost_ret (results_none rfl _ _ _) rfl ?_
  exact ⟨rfl, ((Tch.alloc (fun _ => False) _ _).block sb (blk_lt T1.out.1) (fun h => h)).trans T1.out.1, T1.out.2.allocR _⟩
/-- What ask of a source that has something leaves. -/
structure AV (W w w' : World) (mb p sb : Nat) (la : Option Addr) (lc : Nat) (LL LL' : List Rc) (k : Nat) (g cap : Nat) (rows num : Int) (L : List It) (c : Rc) (g' cap' : Nat) (L' : List It) (hc : Rc) : Prop where
  pm : L'.Perm (L ++ [⟨c.l, num, p⟩])
  hp : Heap L'
  hr : HR w' g' cap' L'
  mbk : w'.heap[mb]? = some (.cells #[hV g' cap' L', .int .i64 rows] 66 (0, 0))
  rowb : w'.heap[p]? = some (.cells (rwS sb hc) 69 (0, 0))
  sm : Sm c hc
  ownh : OwnC w.heap.size w' hc (DW W c).1 (DW W c).2
  src : SW W w' sb la lc LL LL' (k + 1)
  at' : g' = g ∨ w.heap.size ≤ g'
  tch : Tch (fun i => i = mb ∨ i = p ∨ (i = sb ∨ Ov LL' k i) ∨ i = g) w w'
set_option maxHeartbeats 4000000 in
set_option maxRecDepth 1000000 in
theorem vask_cons (W : World) (mb p sb g cap : Nat) (rows num : Int) (L : List It) (la : Option Addr) (lc : Nat) (LL LL' : List Rc) (k : Nat) (c c0 : Rc) (w : World) (hm : w.heap[mb]? = some (.cells #[hV g cap L, .int .i64 rows] 66 (0, 0))) (hr : HR w g cap L) (hh : Heap L) (hs : L.length < 1000000000000)
    (hp : w.heap[p]? = some (.cells (rwS sb c0) 69 (0, 0))) (hsw : SW W w sb la lc LL LL' k) (hc : LL[k]? = some c) (hn2 : LL'.length ≤ 2000000) :
    Calls Try.prog 25 #[.pointer (some ⟨mb, 0, none⟩), .pointer (some ⟨p, 0, none⟩), .int .i64 num] w fun e w' => e = .returned (.tuple #[]) ∧ ∃ g' cap' L' hc, AV W w w' mb p sb la lc LL LL' k g cap rows num L c g' cap' L' hc := by
  have z0 : w.cell? ⟨p, 0, none⟩ = some (.func (.func 11) #[.pointer (some ⟨sb, 0, none⟩)] #[]) := blk_cell hp 0
  have hkl : k < LL'.length := by rw [← hsw.len]; exact (List.getElem?_eq_some_iff.1 hc).1
  have q := src_some W w sb la lc LL LL' k hsw hkl hn2
  obtain ⟨T, hT⟩ : ∃ T : Nat → Prop, T = fun g => g = sb ∨ Ov LL' k g := ⟨_, rfl⟩
  have nT : ∀ i cur t, w.heap[i]? = some (.cells cur t (0, 0)) → t ≠ 48 → t ≠ 76 → ¬ T i := fun i cur t hi h1 h2 e => by
    rw [hT] at e
    rcases e with e | e
    · subst e; exact ne_ty hi hsw.blk h1 rfl
    · obtain ⟨cv, hcv⟩ := hsw.oty e
      exact ne_ty hi hcv h2 rfl
  rw [← hT] at q
  have npb := nT _ _ _ hp (by decide) (by decide)
  have nmb := nT _ _ _ hm (by decide) (by decide)
  have nbg : ¬ T g := fun e => by
    rw [hT] at e
    rcases e with e | e
    · subst e; exact hr.ne hsw.blk (by decide) (by decide) rfl
    · obtain ⟨cv, hcv⟩ := hsw.oty e
      exact hr.ne hcv (by decide) (by decide) rfl
  have nmp := ne_ty hm hp (by decide)
  have npg := hr.ne hp (by decide) (by decide)
  have nmg := hr.ne hm (by decide) (by decide)
  have hpl := blk_lt hp
  have hml := blk_lt hm
  have hgl := hr.lt
  have HN : Hid (¬ T p ∧ ¬ T mb ∧ mb ≠ p ∧ ¬ T g ∧ p ≠ g ∧ mb ≠ g) := ⟨npb, nmb, nmp, nbg, npg, nmg⟩
  have HTT : Hid (T = _) := hT
  have HC : Hid (LL[k]? = some c) := hc
  have HH : Hid _ := And.intro hm (And.intro hr (And.intro hh (And.intro hs hp)))
  unfold rcV at q
  clear hm hr hh hs hp hsw npb nmb nmp nbg npg nmg hT hc nT hkl
  go_enter Try.func25, Try.ntmps25
  go_wp2_with fail
  refine q.mono ?_
  rintro e w1 ⟨c1, hc1, rfl, hs1, t1⟩
  have r1 : Cpy W 0 w1 c c1 := hs1.el k c c1 HC.out hc1 (Nat.le_refl _)
  clear q z0
  obtain ⟨npb, nmb, nmp, nbg, npg, nmg⟩ := HN.out
  obtain ⟨hm, hr, hh, hs, hp⟩ := HH.out
  obtain ⟨w2, hw2⟩ : ∃ w2, w2 = w1.alloc (.cells #[.int .i64 c1.l, .int .i64 c1.x, .int .i64 c1.k, .int .i64 c1.t, .slice c1.oa c1.ol c1.oc, .slice c1.na c1.nl c1.nc] 27) := ⟨_, rfl⟩
  have t2 : Tch T w w2 := by rw [hw2]; exact t1.allocR _
  have b6 : w2.heap[w1.heap.size]? = some (.cells #[.int .i64 c1.l, .int .i64 c1.x, .int .i64 c1.k, .int .i64 c1.t, .slice c1.oa c1.ol c1.oc, .slice c1.na c1.nl c1.nc] 27 (0, 0)) := by rw [hw2]; exact alloc_new _ _
  have hp2 := (t2.block p hpl npb).trans hp
  have hm2 := (t2.block mb hml nmb).trans hm
  have hr2 := hr.tch t2 nbg
  have hs2 : SW W w2 sb la lc LL LL' (k + 1) := by rw [hw2]; exact hs1.tch (Tch.alloc (fun _ => False) _ _) (fun _ _ h => h)
  have r2 : Cpy W 0 w2 c c1 := by rw [hw2]; exact r1.keep (Tch.alloc (fun _ => False) _ _) (fun _ _ h => h)
  obtain ⟨d0, d1, d2, d3, d4, d5⟩ := get6 b6
  have q2 := own_any c1 (DW W c).1 (DW W c).2 w2 r2.ro r2.rn
  unfold rcV at q2
  have HW2 : Hid (w2 = _) := hw2
  obtain ⟨N1, hN1⟩ : ∃ N1, N1 = w1.heap.size := ⟨_, rfl⟩
  have hN : w.heap.size ≤ N1 := by rw [hN1]; exact t1.size
  rw [← hN1] at d0 d1 d2 d3 d4 d5 b6
  have H2 : Hid _ := And.intro hp2 (And.intro hm2 (And.intro hr2 (And.intro hs2 (And.intro r2.sm (And.intro b6 t2)))))
  have HN1 : Hid (N1 = _) := hN1
  clear hw2 t1 t2 b6 hp2 hm2 hr2 hs2 r2 r1 hs1 hc1 hm hr hh hs hp npb nmb nmp nbg npg nmg hN1
  go_upto_region 2 with (fail)
  rw [← HW2.out, ← HN1.out]
  go_wp2_with fail
  refine q2.mono ?_
  rintro e w3 ⟨c', rfl, sl, sx, sk, st, so, sn, hoc, t3⟩
  clear q2 d0 d1 d2 d3 d4 d5
  obtain ⟨npb, nmb, nmp, nbg, npg, nmg⟩ := HN.out
  obtain ⟨hp2, hm2, hr2, hs2, s2, b6, t2⟩ := H2.out
  have hp3 := (t3.block p (blk_lt hp2) (fun h => h)).trans hp2
  have b63 := (t3.block N1 (blk_lt b6) (fun h => h)).trans b6
  have hm3 := (t3.block mb (blk_lt hm2) (fun h => h)).trans hm2
  have p1 : w3.cell? ⟨p, 1, none⟩ = some (.int .i64 c0.l) := blk_cell hp3 1
  have p2 : w3.cell? ⟨p, 2, none⟩ = some (.int .i64 c0.x) := blk_cell hp3 2
  have p3 : w3.cell? ⟨p, 3, none⟩ = some (.int .i64 c0.k) := blk_cell hp3 3
  have p4 : w3.cell? ⟨p, 4, none⟩ = some (.int .i64 c0.t) := blk_cell hp3 4
  have p5 : w3.cell? ⟨p, 5, none⟩ = some (.slice c0.oa c0.ol c0.oc) := blk_cell hp3 5
  have p6 : w3.cell? ⟨p, 6, none⟩ = some (.slice c0.na c0.nl c0.nc) := blk_cell hp3 6
  have fp := blk_frozen hp3
  obtain ⟨w4, hw4⟩ : ∃ w4, w4 = (((((w3.setCell ⟨p, 1, none⟩ (.int .i64 c'.l)).setCell ⟨p, 2, none⟩ (.int .i64 c'.x)).setCell ⟨p, 3, none⟩ (.int .i64 c'.k)).setCell ⟨p, 4, none⟩ (.int .i64 c'.t)).setCell ⟨p, 5, none⟩ (.slice c'.oa c'.ol c'.oc)).setCell ⟨p, 6, none⟩ (.slice c'.na c'.nl c'.nc) := ⟨_, rfl⟩
  have t34 : Tch (fun i => i = p) w3 w4 := by rw [hw4]; exact (((((Tch.setCell (fun i => i = p) _ _ _ rfl).setCellR _ _ rfl).setCellR _ _ rfl).setCellR _ _ rfl).setCellR _ _ rfl).setCellR _ _ rfl
  have t4 : Tch (fun i => i = p) w2 w4 := (t3.mono (fun _ _ h => h.elim)).trans' t34
  have hp4 : w4.heap[p]? = some (.cells (rwS sb c') 69 (0, 0)) := by
    rw [hw4, blk_set (blk_set (blk_set (blk_set (blk_set (blk_set hp3 _) _) _) _) _) _]; rfl
  have hpN : p ≠ N1 := ne_ty hp3 b63 (by decide)
  have b64 := (t34.block N1 (blk_lt b63) (fun e => hpN e.symm)).trans b63
  have hm4 := (t34.block mb (blk_lt hm3) nmp).trans hm3
  have hr4 := hr2.tch t4 (fun e => npg e.symm)
  have hs4 : SW W w4 sb la lc LL LL' (k + 1) := hs2.tch t4 (fun g hg e => by
    obtain ⟨cv, tv, hcv, h1⟩ := hs2.fty hg
    subst e
    rcases h1 with h1 | h1 | h1 <;> (subst h1; exact ne_ty hcv hp2 (by decide) rfl))
  have hoc4 := hoc.tch t34 (fun g cur hg e => ne_ty hg hp3 (by decide) e)
  have HSM : Hid (Sm c c' ∧ OwnC w2.heap.size w4 c' (DW W c).1 (DW W c).2) := ⟨s2.trans ⟨sl, sx, sk, st, so, sn⟩, hoc4⟩
  have HS2 : Hid (Sm c c1) := s2
  have H4 : Hid _ := And.intro hp4 (And.intro hm4 (And.intro hr4 (And.intro hs4 t4)))
  have B64 : Hid _ := b64
  have HW4 : Hid (w4 = _) := hw4
  clear sl sx sk st so sn hoc hoc4 hw4 t3 t34 t4 t2 hp2 hm2 hr2 hs2 s2 b6 hp3 hp4 b63 b64 hm3 hm4 hr4 hs4 npb nmb nmp nbg npg nmg hpN
  go_wp2_with fail
  rw [← HW4.out]
  clear p1 p2 p3 p4 p5 p6 fp
  obtain ⟨hp4, hm4, hr4, hs4, t4⟩ := H4.out
  obtain ⟨n, hn⟩ : ∃ n, n = L.length := ⟨_, rfl⟩
  have m0 : w4.cell? ⟨mb, 0, none⟩ = some (.slice (some ⟨g, 0, none⟩) n cap) := by rw [blk_cell hm4, hn]; rfl
  have m1 : w4.cell? ⟨N1, 0, none⟩ = some (.int .i64 c.l) := by rw [← HS2.out.l]; exact blk_cell B64.out 0
  have hNg : N1 ≠ g := hr4.ne B64.out (by decide) (by decide)
  have hmg := HN.out.2.2.2.2.2
  obtain ⟨C, hC⟩ : ∃ C : List Value → World → Prop, C = fun s W => match s with
    | [] => Tch (fun _ => False) w4 W
    | [v] => ∃ g' cap' L', v = .slice (some ⟨g', 0, none⟩) L'.length cap' ∧ L'.Perm (L ++ [⟨c.l, num, p⟩]) ∧ Heap L' ∧ HR W g' cap' L' ∧ (g' = g ∨ w4.heap.size ≤ g') ∧ Tch (fun i => i = g) w4 W
    | _ => False := ⟨_, rfl⟩
  have hK : ∀ s W, C s W → W.cell? ⟨mb, 0, none⟩ = some (.slice (some ⟨g, 0, none⟩) n cap) ∧ W.cell? ⟨N1, 0, none⟩ = some (.int .i64 c.l) := fun s W h => by
    rw [hC] at h
    match s, h with
    | [], h => exact ⟨(h.cell (p := ⟨mb, 0, none⟩) (cell_lt m0) (fun h => h)).trans m0, (h.cell (p := ⟨N1, 0, none⟩) (cell_lt m1) (fun h => h)).trans m1⟩
    | [_], ⟨_, _, _, _, _, _, _, _, h⟩ => exact ⟨(h.cell (p := ⟨mb, 0, none⟩) (cell_lt m0) hmg).trans m0, (h.cell (p := ⟨N1, 0, none⟩) (cell_lt m1) hNg).trans m1⟩
  have h0 : C [] w4.drew := by rw [hC]; exact (Tch.refl _ _).drew
  have c1 : ∀ W, C [] W → Calls Try.prog 30 #[.slice (some ⟨g, 0, none⟩) n cap, .agg #[.int .i64 c.l, .int .i64 num, .pointer (some ⟨p, 0, none⟩)]] W fun x w' => ∃ g' n' cap', x = .returned (.slice (some ⟨g', 0, none⟩) n' cap') ∧ C [.slice (some ⟨g', 0, none⟩) n' cap'] w' := fun W h => by
    rw [hC] at h
    have q := push_any L ⟨c.l, num, p⟩ g cap W (hr4.no h) HH.out.2.2.2.1 HH.out.2.2.1
    unfold hV itV at q
    rw [← hn] at q
    refine q.mono ?_
    rintro x w' ⟨g', cap', L', rfl, h1, h2, h3, h4, h5⟩
    exact ⟨g', L'.length, cap', rfl, by rw [hC]; exact ⟨g', cap', L', rfl, h1, h2, h3, h4.imp id (fun e => Nat.le_trans h.size e), (h.mono (fun _ _ h => h.elim)).trans' h5⟩⟩
  have HF : Hid (∀ v W, C [v] W → ∃ g' cap' L', v = .slice (some ⟨g', 0, none⟩) L'.length cap' ∧ L'.Perm (L ++ [⟨c.l, num, p⟩]) ∧ Heap L' ∧ HR W g' cap' L' ∧ (g' = g ∨ w4.heap.size ≤ g') ∧ Tch (fun i => i = g) w4 W) := fun v W h => by rw [hC] at h; exact h
  have HN1' : Hid (w.heap.size ≤ N1) := hN
  clear hC hNg hmg hn hr4 hp4 hm4 hs4 t4 hN
  refine wp_region_ordv [10] C 11 [0, 1, 2, 3, 4, 5, 6, 7, 8, 9, 10] (by kernel_rfl) (by kernel_rfl) h0 ?_
  clear h0 m0 m1
  refine ordv_read rfl (by go_simp) (by rfl) ?_
  apply Exists.intro
  refine ⟨fun s' Wy hW b K Q hK' => ?_, fun K hK' => ?_⟩
  · obtain ⟨y0, y1⟩ := hK _ Wy hW
    go_simp
    exact hK' Wy hW
  go_simp
  refine hK' _ ?_
  clear hK' K
  refine ordv_read rfl (by go_simp) (by rfl) ?_
  apply Exists.intro
  refine ⟨fun s' Wy hW b K Q hK' => ?_, fun K hK' => ?_⟩
  · obtain ⟨y0, y1⟩ := hK _ Wy hW
    go_simp
    exact hK' Wy hW
  go_simp
  refine hK' _ ?_
  clear hK' K
  refine ordv_read rfl (by go_simp) (by rfl) ?_
  apply Exists.intro
  refine ⟨fun s' Wy hW b K Q hK' => ?_, fun K hK' => ?_⟩
  · obtain ⟨y0, y1⟩ := hK _ Wy hW
    go_simp
    exact hK' Wy hW
  go_simp
  refine hK' _ ?_
  clear hK' K
  refine ordv_read rfl (by go_simp) (by rfl) ?_
  apply Exists.intro
  refine ⟨fun s' Wy hW b K Q hK' => ?_, fun K hK' => ?_⟩
  · obtain ⟨y0, y1⟩ := hK _ Wy hW
    go_simp
    exact hK' Wy hW
  go_simp
  refine hK' _ ?_
  clear hK' K
  refine ordv_read rfl (by go_simp) (by rfl) ?_
  apply Exists.intro
  refine ⟨fun s' Wy hW b K Q hK' => ?_, fun K hK' => ?_⟩
  · obtain ⟨y0, y1⟩ := hK _ Wy hW
    go_simp
    exact hK' Wy hW
  go_simp
  refine hK' _ ?_
  clear hK' K
  refine ordv_read rfl (by go_simp) (by rfl) ?_
  apply Exists.intro
  refine ⟨fun s' Wy hW b K Q hK' => ?_, fun K hK' => ?_⟩
  · obtain ⟨y0, y1⟩ := hK _ Wy hW
    go_simp
    exact hK' Wy hW
  go_simp
  refine hK' _ ?_
  clear hK' K
  refine ordv_read rfl (by go_simp) (by rfl) ?_
  apply Exists.intro
  refine ⟨fun s' Wy hW b K Q hK' => ?_, fun K hK' => ?_⟩
  · obtain ⟨y0, y1⟩ := hK _ Wy hW
    go_simp
    exact hK' Wy hW
  go_simp
  refine hK' _ ?_
  clear hK' K
  refine ordv_read rfl (by go_simp) (by rfl) ?_
  apply Exists.intro
  refine ⟨fun s' Wy hW b K Q hK' => ?_, fun K hK' => ?_⟩
  · obtain ⟨y0, y1⟩ := hK _ Wy hW
    go_simp
    exact hK' Wy hW
  go_simp
  refine hK' _ ?_
  clear hK' K
  refine ordv_read rfl (by go_simp) (by rfl) ?_
  apply Exists.intro
  refine ⟨fun s' Wy hW b K Q hK' => ?_, fun K hK' => ?_⟩
  · obtain ⟨y0, y1⟩ := hK _ Wy hW
    go_simp
    exact hK' Wy hW
  go_simp
  refine hK' _ ?_
  clear hK' K
  refine ordv_read rfl (by go_simp) (by rfl) ?_
  apply Exists.intro
  refine ⟨fun s' Wy hW b K Q hK' => ?_, fun K hK' => ?_⟩
  · obtain ⟨y0, y1⟩ := hK _ Wy hW
    go_simp
    exact hK' Wy hW
  go_simp
  refine hK' _ ?_
  clear hK' K
  refine ordv_turn rfl (by go_simp) (by rfl) (fun W hW b K Q hK' => ?_) (fun y hy K hK' => ?_)
  · go_simp
    go_at_call 30
    refine (c1 W hW).mono ?_
    rintro x w' ⟨g', n', cap', rfl, h1⟩
    exact hK' _ w' h1
  obtain ⟨g', n', cap', rfl⟩ : ∃ g' n' cap', y = .slice (some ⟨g', 0, none⟩) n' cap' := by
    obtain ⟨W', hW'⟩ := hy
    obtain ⟨g', cap', L', e, _⟩ := HF.out y W' hW'
    exact ⟨g', _, cap', e⟩
  clear hy c1
  go_simp
  refine hK' _ ?_
  clear hK' K
  refine ordv_nil ?_
  intro w5 hw5
  obtain ⟨g2, cap2, L', e, pm, hh5, hr5, hat, t5⟩ := HF.out _ w5 hw5
  simp only [Value.slice.injEq, Option.some.injEq, Addr.mk.injEq, and_true] at e
  obtain ⟨rfl, hn', rfl⟩ := e
  clear hK HF hw5 C
  obtain ⟨npb, nmb, nmp, nbg, npg, nmg⟩ := HN.out
  obtain ⟨hp4, hm4, hr4, hs4, t4⟩ := H4.out
  have hm5 := (t5.block mb (blk_lt hm4) nmg).trans hm4
  have k0 : w5.cell? ⟨mb, 0, none⟩ = some (.slice (some ⟨g, 0, none⟩) L.length cap) := blk_cell hm5 0
  have fk := blk_frozen hm5
  obtain ⟨w6, hw6⟩ : ∃ w6, w6 = w5.setCell ⟨mb, 0, none⟩ (.slice (some ⟨g', 0, none⟩) n' cap') := ⟨_, rfl⟩
  have t6 : Tch (fun i => i = mb) w5 w6 := by rw [hw6]; exact Tch.setCell (fun i => i = mb) _ _ _ rfl
  have HE : Hid (∃ g' cap' L' hc, AV W w w6 mb p sb la lc LL LL' k g cap rows num L c g' cap' L' hc) := by
    have tb : Tch T w w2 := by obtain ⟨_, _, _, _, _, _, t2⟩ := H2.out; exact t2
    have t46 : Tch (fun i => i = mb ∨ i = g) w4 w6 := (t5.mono (fun _ _ e => .inr e)).trans t6 (fun _ _ e => .inl e)
    have hg5 : mb ≠ g' := hr5.ne hm5 (by decide) (by decide)
    refine ⟨g', cap', L', c', pm, hh5, hr5.tch t6 (fun e => hg5 e.symm), ?_, ?_, HSM.out.1, ?_, ?_, ?_, ?_⟩
    · rw [hw6, blk_set hm5, hn']; rfl
    · exact (t46.block p (blk_lt hp4) (by omega)).trans hp4
    · have h6 := HSM.out.2.tch t46 (fun i cur hi e => by
        rcases e with e | e
        · exact ne_ty hi hm4 (by decide) e
        · exact hr4.ne hi (by decide) (by decide) e)
      exact ⟨own_low h6.o tb.size, own_low h6.n tb.size, h6.ne⟩
    · exact hs4.tch t46 (fun i hi e => by
        obtain ⟨cv, tv, hcv, h1⟩ := hs4.fty hi
        rcases e with e | e
        · subst e
          rcases h1 with h1 | h1 | h1 <;> (subst h1; exact ne_ty hcv hm4 (by decide) rfl)
        · subst e
          rcases h1 with h1 | h1 | h1 <;> (subst h1; exact hr4.ne hcv (by decide) (by decide) rfl))
    · exact hat.imp id (fun e => Nat.le_trans (Nat.le_trans tb.size t4.size) e)
    · have tb' : Tch (fun g => g = sb ∨ Ov LL' k g) w w2 := by rw [← HTT.out]; exact tb
      exact ((tb'.mono (fun _ _ e => .inr (.inr (.inl e)))).trans (t4.mono (T := fun i => i = mb ∨ i = p ∨ (i = sb ∨ Ov LL' k i) ∨ i = g) (fun _ _ e => .inr (.inl e))) (fun _ _ e => e)).trans t46 (fun _ _ e => e.elim .inl (fun e => .inr (.inr (.inr e))))
  have HW6 : Hid (w6 = _) := hw6
  clear hw6 t6 hm5 hn' hp4 hm4 hr4 hs4 t4 t5 pm hh5 hr5 hat npb nmb nmp nbg npg nmg
  go_wp2
  go_end0
  rw [← HW6.out]
  exact ⟨rfl, HE.out⟩
end Go.Proofs.Ytmnhkgibplnnnaa
