import Derived.Test.YtmnhkgibplnnnaaUOver
import Derived.Test.YtmnhkgibplnnnaaOrdv
/- ask. -/
namespace Go.Proofs.Ytmnhkgibplnnnaa
open Go.RowKit Go

/-- The same change, its rows elsewhere. -/
structure Sm (c d : Rc) : Prop where
  l : d.l = c.l
  x : d.x = c.x
  k : d.k = c.k
  t : d.t = c.t
  o : d.ol = c.ol
  n : d.nl = c.nl
theorem OwnC.tch {S : Nat → Prop} {base : Nat} {w w' : World} {c : Rc} {a b : List Value} (h : OwnC base w c a b) (t : Tch S w w') (hS : ∀ g cur, w.heap[g]? = some (.cells cur 76 (0, 0)) → ¬ S g) : OwnC base w' c a b := by
  refine ⟨own_tch h.o t (fun g e => ?_), own_tch h.n t (fun g e => ?_), h.ne⟩
  · rcases h.o.2 with ⟨e2, _⟩ | ⟨g2, _, cur, e2, _, hg2, _⟩
    · rw [e2] at e; cases e
    · rw [e2] at e
      have : g2 = g := by simpa [Value.ownBlock] using e
      subst this
      exact hS g2 cur hg2
  · rcases h.n.2 with ⟨e2, _⟩ | ⟨g2, _, cur, e2, _, hg2, _⟩
    · rw [e2] at e; cases e
    · rw [e2] at e
      have : g2 = g := by simpa [Value.ownBlock] using e
      subst this
      exact hS g2 cur hg2
def rwC (b : Nat) (c : Rc) : Array Value := #[fV b, .int .i64 c.l, .int .i64 c.x, .int .i64 c.k, .int .i64 c.t, .slice c.oa c.ol c.oc, .slice c.na c.nl c.nc]
set_option maxHeartbeats 1000000 in
set_option maxRecDepth 100000 in
theorem ask_nil (mb p b : Nat) (num : Int) (c : Rc) (ao : Option Addr) (cp : Nat) (w : World) (hp : w.heap[p]? = some (.cells (rwC b c) 69 (0, 0))) (hb : w.heap[b]? = some (.cells #[.slice ao 0 cp] 28 (0, 0))) :
    Calls Try.prog 25 #[.pointer (some ⟨mb, 0, none⟩), .pointer (some ⟨p, 0, none⟩), .int .i64 num] w fun e w' => e = .returned (.tuple #[]) ∧ Tch (fun _ => False) w w' := by
  have c0 : w.cell? ⟨p, 0, none⟩ = some (.func (.func 28) #[] #[.pointer (some ⟨b, 0, none⟩)]) := blk_cell hp 0
  have q := over1_nil b ao cp w hb
  unfold zV at q
  clear hp hb
  go_enter Try.func25, Try.ntmps25
  go_wp2_with fail
  refine q.mono ?_
  rintro e w1 ⟨rfl, t1⟩
  have T1 : Hid _ := t1
  clear q t1 c0
  go_wp2
  refine bodyPost_ret (results_none rfl _ _ _) rfl ?_
  exact ⟨rfl, T1.out.allocR _⟩
theorem ne_ty {w : World} {b b' : Nat} {cur cur' : Array Value} {t t' : TypeId} {fr fr' : Nat × Nat} (h : w.heap[b]? = some (.cells cur t fr)) (h' : w.heap[b']? = some (.cells cur' t' fr')) (ht : t ≠ t') : b ≠ b' := fun e => by
  subst e; rw [h] at h'; simp only [Option.some.injEq, Obj.cells.injEq] at h'; exact ht h'.2.1
theorem HR.ne {w : World} {g cap b : Nat} {l : List It} {cur : Array Value} {t : TypeId} {fr : Nat × Nat} (h : HR w g cap l) (hb : w.heap[b]? = some (.cells cur t fr)) (h1 : t ≠ 72) (h2 : t ≠ 77) : b ≠ g := fun e => by
  subst e; rcases h.ty _ _ _ hb with e | e
  · exact h1 e
  · exact h2 e
/-- What ask of a row that has something leaves. -/
structure AO (D : Rc → List Value × List Value) (M : Nat) (w w' : World) (mb p b g cap : Nat) (rows num : Int) (L : List It) (c : Rc) (u : List Rc) (g' cap' : Nat) (L' : List It) (hc : Rc) : Prop where
  pm : L'.Perm (L ++ [⟨c.l, num, p⟩])
  hp : Heap L'
  hr : HR w' g' cap' L'
  mbk : w'.heap[mb]? = some (.cells #[hV g' cap' L', .int .i64 rows] 66 (0, 0))
  rowb : w'.heap[p]? = some (.cells (rwC b hc) 69 (0, 0))
  sm : Sm c hc
  ownh : OwnC w.heap.size w' hc (D c).1 (D c).2
  box : ∃ ao cp, w'.heap[b]? = some (.cells #[.slice ao u.length cp] 28 (0, 0)) ∧ RL D M w' ao cp u
  at' : g' = g ∨ w.heap.size ≤ g'
  tch : Tch (fun i => i = mb ∨ i = p ∨ i = b ∨ i = g) w w'
set_option maxHeartbeats 4000000 in
set_option maxRecDepth 1000000 in
theorem ask_cons (D : Rc → List Value × List Value) (M : Nat) (mb p b g cap : Nat) (rows num : Int) (L : List It) (c c0 : Rc) (u : List Rc) (ao : Option Addr) (cp : Nat) (w : World) (hm : w.heap[mb]? = some (.cells #[hV g cap L, .int .i64 rows] 66 (0, 0))) (hr : HR w g cap L) (hh : Heap L) (hs : L.length < 1000000000000)
    (hp : w.heap[p]? = some (.cells (rwC b c0) 69 (0, 0))) (hb : w.heap[b]? = some (.cells #[.slice ao (u.length + 1) cp] 28 (0, 0))) (hl : RL D M w ao cp (c :: u)) (hMm : M ≤ mb) (hMp : M ≤ p) (hMb : M ≤ b) (hMg : M ≤ g) :
    Calls Try.prog 25 #[.pointer (some ⟨mb, 0, none⟩), .pointer (some ⟨p, 0, none⟩), .int .i64 num] w fun e w' => e = .returned (.tuple #[]) ∧ ∃ g' cap' L' hc, AO D M w w' mb p b g cap rows num L c u g' cap' L' hc := by
  have z0 : w.cell? ⟨p, 0, none⟩ = some (.func (.func 28) #[] #[.pointer (some ⟨b, 0, none⟩)]) := blk_cell hp 0
  have q := over1_cons D M b ao cp c u w hb hl hMb
  have npb := ne_ty hp hb (by decide)
  have nmb := ne_ty hm hb (by decide)
  have nmp := ne_ty hm hp (by decide)
  have nbg := hr.ne hb (by decide) (by decide)
  have npg := hr.ne hp (by decide) (by decide)
  have nmg := hr.ne hm (by decide) (by decide)
  have hpl := blk_lt hp
  have hml := blk_lt hm
  have hgl := hr.lt
  have hbl := blk_lt hb
  have HRD : Hid _ := hl.rd c (List.mem_cons_self ..)
  have HN : Hid (p ≠ b ∧ mb ≠ b ∧ mb ≠ p ∧ b ≠ g ∧ p ≠ g ∧ mb ≠ g) := ⟨npb, nmb, nmp, nbg, npg, nmg⟩
  have HH : Hid _ := And.intro hm (And.intro hr (And.intro hh (And.intro hs hp)))
  unfold rcV at q
  clear hm hr hh hs hp hb hl npb nmb nmp nbg npg nmg
  go_enter Try.func25, Try.ntmps25
  go_wp2_with fail
  refine q.mono ?_
  rintro e w1 ⟨rfl, t1, ao', cp', hb1, hl1⟩
  clear q z0
  obtain ⟨npb, nmb, nmp, nbg, npg, nmg⟩ := HN.out
  obtain ⟨hm, hr, hh, hs, hp⟩ := HH.out
  obtain ⟨w2, hw2⟩ : ∃ w2, w2 = w1.alloc (.cells #[.int .i64 c.l, .int .i64 c.x, .int .i64 c.k, .int .i64 c.t, .slice c.oa c.ol c.oc, .slice c.na c.nl c.nc] 27) := ⟨_, rfl⟩
  have t2 : Tch (fun i => i = b) w w2 := by rw [hw2]; exact t1.allocR _
  have b6 : w2.heap[w1.heap.size]? = some (.cells #[.int .i64 c.l, .int .i64 c.x, .int .i64 c.k, .int .i64 c.t, .slice c.oa c.ol c.oc, .slice c.na c.nl c.nc] 27 (0, 0)) := by rw [hw2]; exact alloc_new _ _
  have hp2 := (t2.block p hpl npb).trans hp
  have hm2 := (t2.block mb hml nmb).trans hm
  have hr2 := hr.tch t2 (fun e => nbg e.symm)
  have hb2 := ((Tch.alloc (fun _ => False) w1 (.cells #[.int .i64 c.l, .int .i64 c.x, .int .i64 c.k, .int .i64 c.t, .slice c.oa c.ol c.oc, .slice c.na c.nl c.nc] 27)).block b (blk_lt hb1) (fun h => h)).trans hb1
  rw [← hw2] at hb2
  have hl2 : RL D M w2 ao' cp' u := by rw [hw2]; exact hl1.no (Tch.alloc _ _ _)
  obtain ⟨d0, d1, d2, d3, d4, d5⟩ := get6 b6
  have q2 := own_any c (D c).1 (D c).2 w2 (HRD.out.1.tch t2 (fun a e e2 => by have := HRD.out.2.2.1 a e; omega)) (HRD.out.2.1.tch t2 (fun a e e2 => by have := HRD.out.2.2.2 a e; omega))
  unfold rcV at q2
  have HW2 : Hid (w2 = _) := hw2
  obtain ⟨N1, hN1⟩ : ∃ N1, N1 = w1.heap.size := ⟨_, rfl⟩
  have hN : w.heap.size ≤ N1 := by rw [hN1]; exact t1.size
  rw [← hN1] at d0 d1 d2 d3 d4 d5 b6
  have H2 : Hid _ := And.intro hp2 (And.intro hm2 (And.intro hr2 (And.intro hb2 (And.intro hl2 (And.intro b6 t2)))))
  have HN1 : Hid (N1 = _) := hN1
  clear hw2 t1 t2 b6 hp2 hm2 hr2 hb2 hl2 hb1 hl1 hm hr hh hs hp npb nmb nmp nbg npg nmg hN1
  go_upto_region 2 with (fail)
  rw [← HW2.out, ← HN1.out]
  go_wp2_with fail
  refine q2.mono ?_
  rintro e w3 ⟨c', rfl, sl, sx, sk, st, so, sn, hoc, t3⟩
  clear q2 d0 d1 d2 d3 d4 d5
  obtain ⟨npb, nmb, nmp, nbg, npg, nmg⟩ := HN.out
  obtain ⟨hp2, hm2, hr2, hb2, hl2, b6, t2⟩ := H2.out
  have hp3 := (t3.block p (blk_lt hp2) (fun h => h)).trans hp2
  have b63 := (t3.block N1 (blk_lt b6) (fun h => h)).trans b6
  have hm3 := (t3.block mb (blk_lt hm2) (fun h => h)).trans hm2
  have p1 : w3.cell? ⟨p, 1, none⟩ = some (.int .i64 c0.l) := blk_cell hp3 1
  have p2 : w3.cell? ⟨p, 2, none⟩ = some (.int .i64 c0.x) := blk_cell hp3 2
  have p3 : w3.cell? ⟨p, 3, none⟩ = some (.int .i64 c0.k) := blk_cell hp3 3
  have p4 : w3.cell? ⟨p, 4, none⟩ = some (.int .i64 c0.t) := blk_cell hp3 4
  have p5 : w3.cell? ⟨p, 5, none⟩ = some (.slice c0.oa c0.ol c0.oc) := blk_cell hp3 5
  have p6 : w3.cell? ⟨p, 6, none⟩ = some (.slice c0.na c0.nl c0.nc) := blk_cell hp3 6
  have fp := blk_frozen hp3
  obtain ⟨w4, hw4⟩ : ∃ w4, w4 = (((((w3.setCell ⟨p, 1, none⟩ (.int .i64 c'.l)).setCell ⟨p, 2, none⟩ (.int .i64 c'.x)).setCell ⟨p, 3, none⟩ (.int .i64 c'.k)).setCell ⟨p, 4, none⟩ (.int .i64 c'.t)).setCell ⟨p, 5, none⟩ (.slice c'.oa c'.ol c'.oc)).setCell ⟨p, 6, none⟩ (.slice c'.na c'.nl c'.nc) := ⟨_, rfl⟩
  have t34 : Tch (fun i => i = p) w3 w4 := by rw [hw4]; exact (((((Tch.setCell (fun i => i = p) _ _ _ rfl).setCellR _ _ rfl).setCellR _ _ rfl).setCellR _ _ rfl).setCellR _ _ rfl).setCellR _ _ rfl
  have t4 : Tch (fun i => i = p) w2 w4 := (t3.mono (fun _ _ h => h.elim)).trans' t34
  have hp4 : w4.heap[p]? = some (.cells (rwC b c') 69 (0, 0)) := by
    rw [hw4, blk_set (blk_set (blk_set (blk_set (blk_set (blk_set hp3 _) _) _) _) _) _]; rfl
  have hpN : p ≠ N1 := ne_ty hp3 b63 (by decide)
  have b64 := (t34.block N1 (blk_lt b63) (fun e => hpN e.symm)).trans b63
  have hm4 := (t34.block mb (blk_lt hm3) nmp).trans hm3
  have hr4 := hr2.tch t4 (fun e => npg e.symm)
  have hb4 := (t4.block b (blk_lt hb2) (fun e => npb e.symm)).trans hb2
  have hl4 : RL D M w4 ao' cp' u := hl2.tch t4 (fun g hg e => by omega)
  have hoc4 := hoc.tch t34 (fun g cur hg e => ne_ty hg hp3 (by decide) e)
  have HSM : Hid (Sm c c' ∧ OwnC w2.heap.size w4 c' (D c).1 (D c).2) := ⟨⟨sl, sx, sk, st, so, sn⟩, hoc4⟩
  have H4 : Hid _ := And.intro hp4 (And.intro hm4 (And.intro hr4 (And.intro hb4 (And.intro hl4 t4))))
  have B64 : Hid _ := b64
  have HW4 : Hid (w4 = _) := hw4
  clear sl sx sk st so sn hoc hoc4 hw4 t3 t34 t4 t2 hp2 hm2 hr2 hb2 hl2 b6 hp3 hp4 b63 b64 hm3 hm4 hr4 hb4 hl4 npb nmb nmp nbg npg nmg hpN
  go_wp2_with fail
  rw [← HW4.out]
  clear p1 p2 p3 p4 p5 p6 fp
  obtain ⟨hp4, hm4, hr4, hb4, hl4, t4⟩ := H4.out
  obtain ⟨n, hn⟩ : ∃ n, n = L.length := ⟨_, rfl⟩
  have m0 : w4.cell? ⟨mb, 0, none⟩ = some (.slice (some ⟨g, 0, none⟩) n cap) := by rw [blk_cell hm4, hn]; rfl
  have m1 : w4.cell? ⟨N1, 0, none⟩ = some (.int .i64 c.l) := blk_cell B64.out 0
  have hNg : N1 ≠ g := hr4.ne B64.out (by decide) (by decide)
  have hmg := HN.out.2.2.2.2.2
  obtain ⟨C, hC⟩ : ∃ C : List Value → World → Prop, C = fun s W => match s with
    | [] => Tch (fun _ => False) w4 W
    | [v] => ∃ g' cap' L', v = .slice (some ⟨g', 0, none⟩) L'.length cap' ∧ L'.Perm (L ++ [⟨c.l, num, p⟩]) ∧ Heap L' ∧ HR W g' cap' L' ∧ (g' = g ∨ w4.heap.size ≤ g') ∧ Tch (fun i => i = g) w4 W
    | _ => False := ⟨_, rfl⟩
  have hK : ∀ s W, C s W → W.cell? ⟨mb, 0, none⟩ = some (.slice (some ⟨g, 0, none⟩) n cap) ∧ W.cell? ⟨N1, 0, none⟩ = some (.int .i64 c.l) := fun s W h => by
    rw [hC] at h
    match s, h with
    | [], h => exact ⟨(h.cell (p := ⟨mb, 0, none⟩) (cell_lt m0) (fun h => h)).trans m0, (h.cell (p := ⟨N1, 0, none⟩) (cell_lt m1) (fun h => h)).trans m1⟩
    | [_], ⟨_, _, _, _, _, _, _, _, h⟩ => exact ⟨(h.cell (p := ⟨mb, 0, none⟩) (cell_lt m0) hmg).trans m0, (h.cell (p := ⟨N1, 0, none⟩) (cell_lt m1) hNg).trans m1⟩
  have h0 : C [] w4.drew := by rw [hC]; exact (Tch.refl _ _).drew
  have c1 : ∀ W, C [] W → Calls Try.prog 30 #[.slice (some ⟨g, 0, none⟩) n cap, .agg #[.int .i64 c.l, .int .i64 num, .pointer (some ⟨p, 0, none⟩)]] W fun x w' => ∃ g' n' cap', x = .returned (.slice (some ⟨g', 0, none⟩) n' cap') ∧ C [.slice (some ⟨g', 0, none⟩) n' cap'] w' := fun W h => by
    rw [hC] at h
    have q := push_any L ⟨c.l, num, p⟩ g cap W (hr4.no h) HH.out.2.2.2.1 HH.out.2.2.1
    unfold hV itV at q
    rw [← hn] at q
    refine q.mono ?_
    rintro x w' ⟨g', cap', L', rfl, h1, h2, h3, h4, h5⟩
    exact ⟨g', L'.length, cap', rfl, by rw [hC]; exact ⟨g', cap', L', rfl, h1, h2, h3, h4.imp id (fun e => Nat.le_trans h.size e), (h.mono (fun _ _ h => h.elim)).trans' h5⟩⟩
  have HF : Hid (∀ v W, C [v] W → ∃ g' cap' L', v = .slice (some ⟨g', 0, none⟩) L'.length cap' ∧ L'.Perm (L ++ [⟨c.l, num, p⟩]) ∧ Heap L' ∧ HR W g' cap' L' ∧ (g' = g ∨ w4.heap.size ≤ g') ∧ Tch (fun i => i = g) w4 W) := fun v W h => by rw [hC] at h; exact h
  have HN1' : Hid (w.heap.size ≤ N1) := hN
  clear hC hNg hmg hn hr4 hp4 hm4 hb4 hl4 t4 hN
  refine wp_region_ordv [10] C 11 [0, 1, 2, 3, 4, 5, 6, 7, 8, 9, 10] (by kernel_rfl) (by kernel_rfl) h0 ?_
  clear h0 m0 m1
  refine ordv_read rfl (by go_simp) (by rfl) ?_
  apply Exists.intro
  refine ⟨fun s' Wy hW b K Q hK' => ?_, fun K hK' => ?_⟩
  · obtain ⟨y0, y1⟩ := hK _ Wy hW
    go_simp
    exact hK' Wy hW
  go_simp
  refine hK' _ ?_
  clear hK' K
  refine ordv_read rfl (by go_simp) (by rfl) ?_
  apply Exists.intro
  refine ⟨fun s' Wy hW b K Q hK' => ?_, fun K hK' => ?_⟩
  · obtain ⟨y0, y1⟩ := hK _ Wy hW
    go_simp
    exact hK' Wy hW
  go_simp
  refine hK' _ ?_
  clear hK' K
  refine ordv_read rfl (by go_simp) (by rfl) ?_
  apply Exists.intro
  refine ⟨fun s' Wy hW b K Q hK' => ?_, fun K hK' => ?_⟩
  · obtain ⟨y0, y1⟩ := hK _ Wy hW
    go_simp
    exact hK' Wy hW
  go_simp
  refine hK' _ ?_
  clear hK' K
  refine ordv_read rfl (by go_simp) (by rfl) ?_
  apply Exists.intro
  refine ⟨fun s' Wy hW b K Q hK' => ?_, fun K hK' => ?_⟩
  · obtain ⟨y0, y1⟩ := hK _ Wy hW
    go_simp
    exact hK' Wy hW
  go_simp
  refine hK' _ ?_
  clear hK' K
  refine ordv_read rfl (by go_simp) (by rfl) ?_
  apply Exists.intro
  refine ⟨fun s' Wy hW b K Q hK' => ?_, fun K hK' => ?_⟩
  · obtain ⟨y0, y1⟩ := hK _ Wy hW
    go_simp
    exact hK' Wy hW
  go_simp
  refine hK' _ ?_
  clear hK' K
  refine ordv_read rfl (by go_simp) (by rfl) ?_
  apply Exists.intro
  refine ⟨fun s' Wy hW b K Q hK' => ?_, fun K hK' => ?_⟩
  · obtain ⟨y0, y1⟩ := hK _ Wy hW
    go_simp
    exact hK' Wy hW
  go_simp
  refine hK' _ ?_
  clear hK' K
  refine ordv_read rfl (by go_simp) (by rfl) ?_
  apply Exists.intro
  refine ⟨fun s' Wy hW b K Q hK' => ?_, fun K hK' => ?_⟩
  · obtain ⟨y0, y1⟩ := hK _ Wy hW
    go_simp
    exact hK' Wy hW
  go_simp
  refine hK' _ ?_
  clear hK' K
  refine ordv_read rfl (by go_simp) (by rfl) ?_
  apply Exists.intro
  refine ⟨fun s' Wy hW b K Q hK' => ?_, fun K hK' => ?_⟩
  · obtain ⟨y0, y1⟩ := hK _ Wy hW
    go_simp
    exact hK' Wy hW
  go_simp
  refine hK' _ ?_
  clear hK' K
  refine ordv_read rfl (by go_simp) (by rfl) ?_
  apply Exists.intro
  refine ⟨fun s' Wy hW b K Q hK' => ?_, fun K hK' => ?_⟩
  · obtain ⟨y0, y1⟩ := hK _ Wy hW
    go_simp
    exact hK' Wy hW
  go_simp
  refine hK' _ ?_
  clear hK' K
  refine ordv_read rfl (by go_simp) (by rfl) ?_
  apply Exists.intro
  refine ⟨fun s' Wy hW b K Q hK' => ?_, fun K hK' => ?_⟩
  · obtain ⟨y0, y1⟩ := hK _ Wy hW
    go_simp
    exact hK' Wy hW
  go_simp
  refine hK' _ ?_
  clear hK' K
  refine ordv_turn rfl (by go_simp) (by rfl) (fun W hW b K Q hK' => ?_) (fun y hy K hK' => ?_)
  · go_simp
    go_at_call 30
    refine (c1 W hW).mono ?_
    rintro x w' ⟨g', n', cap', rfl, h1⟩
    exact hK' _ w' h1
  obtain ⟨g', n', cap', rfl⟩ : ∃ g' n' cap', y = .slice (some ⟨g', 0, none⟩) n' cap' := by
    obtain ⟨W', hW'⟩ := hy
    obtain ⟨g', cap', L', e, _⟩ := HF.out y W' hW'
    exact ⟨g', _, cap', e⟩
  clear hy c1
  go_simp
  refine hK' _ ?_
  clear hK' K
  refine ordv_nil ?_
  intro w5 hw5
  obtain ⟨g2, cap2, L', e, pm, hh5, hr5, hat, t5⟩ := HF.out _ w5 hw5
  simp only [Value.slice.injEq, Option.some.injEq, Addr.mk.injEq, and_true] at e
  obtain ⟨rfl, hn', rfl⟩ := e
  clear hK HF hw5 C
  obtain ⟨npb, nmb, nmp, nbg, npg, nmg⟩ := HN.out
  obtain ⟨hp4, hm4, hr4, hb4, hl4, t4⟩ := H4.out
  have hm5 := (t5.block mb (blk_lt hm4) nmg).trans hm4
  have k0 : w5.cell? ⟨mb, 0, none⟩ = some (.slice (some ⟨g, 0, none⟩) L.length cap) := blk_cell hm5 0
  have fk := blk_frozen hm5
  obtain ⟨w6, hw6⟩ : ∃ w6, w6 = w5.setCell ⟨mb, 0, none⟩ (.slice (some ⟨g', 0, none⟩) n' cap') := ⟨_, rfl⟩
  have t6 : Tch (fun i => i = mb) w5 w6 := by rw [hw6]; exact Tch.setCell (fun i => i = mb) _ _ _ rfl
  have HE : Hid (∃ g' cap' L' hc, AO D M w w6 mb p b g cap rows num L c u g' cap' L' hc) := by
    have tb : Tch (fun i => i = b) w w2 := by obtain ⟨_, _, _, _, _, _, t2⟩ := H2.out; exact t2
    have t46 : Tch (fun i => i = mb ∨ i = g) w4 w6 := (t5.mono (fun _ _ e => .inr e)).trans t6 (fun _ _ e => .inl e)
    have hg5 : mb ≠ g' := hr5.ne hm5 (by decide) (by decide)
    refine ⟨g', cap', L', c', pm, hh5, hr5.tch t6 (fun e => hg5 e.symm), ?_, ?_, HSM.out.1, ?_, ⟨ao', cp', ?_, ?_⟩, ?_, ?_⟩
    · rw [hw6, blk_set hm5, hn']; rfl
    · exact (t46.block p (blk_lt hp4) (by omega)).trans hp4
    · have h6 := HSM.out.2.tch t46 (fun i cur hi e => by
        rcases e with e | e
        · exact ne_ty hi hm4 (by decide) e
        · exact hr4.ne hi (by decide) (by decide) e)
      exact ⟨own_low h6.o tb.size, own_low h6.n tb.size, h6.ne⟩
    · exact (t46.block b (blk_lt hb4) (by omega)).trans hb4
    · exact hl4.tch t46 (fun i hi e => by omega)
    · exact hat.imp id (fun e => Nat.le_trans (Nat.le_trans tb.size t4.size) e)
    · exact ((tb.mono (fun _ _ e => .inr (.inr (.inl e)))).trans (t4.mono (T := fun i => i = mb ∨ i = p ∨ i = b ∨ i = g) (fun _ _ e => .inr (.inl e))) (fun _ _ e => e)).trans t46 (fun _ _ e => by omega)
  have HW6 : Hid (w6 = _) := hw6
  clear hw6 t6 hm5 hn' hp4 hm4 hr4 hb4 hl4 t4 t5 pm hh5 hr5 hat npb nmb nmp nbg npg nmg
  go_wp2
  go_end0
  rw [← HW6.out]
  exact ⟨rfl, HE.out⟩
end Go.Proofs.Ytmnhkgibplnnnaa
