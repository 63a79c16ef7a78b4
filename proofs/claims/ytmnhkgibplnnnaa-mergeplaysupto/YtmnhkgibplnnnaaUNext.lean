import Derived.Test.YtmnhkgibplnnnaaUAdd
/- Next. -/
namespace Go.Proofs.Ytmnhkgibplnnnaa
open Go.RowKit Go

theorem MS.popped {D : Rc → List Value × List Value} {N : Nat} {w w' : World} {mb g cap : Nat} {L L1 : List It} {P B : Nat → Nat} {H : Nat → Rc} {rs : List (List Rc)} {j : Nat} {c : Rc} {u : List Rc} (h : MS D N w mb g cap L P B H rs) (hL : L ≠ []) (hj : rs[j]? = some (c :: u)) (hx : hat L 0 = ⟨c.l, tn1 j, P j⟩) (p : L1.Perm (popL L)) (hh : Heap L1) (hr : HR w' g cap L1) (hm : w'.heap[mb]? = some (.cells #[hV g cap L1, .int .i64 rs.length] 66 (0, 0))) (t : Tch (fun i => i = mb ∨ i = g) w w') : MS D N w' mb g cap L1 P B H (rs.set j []) ∧ RB D N w' (P j) (B j) (H j) c u := by
  have nS : ∀ i cur t, w.heap[i]? = some (.cells cur t (0, 0)) → t ≠ 66 → t ≠ 72 → t ≠ 77 → ¬ (i = mb ∨ i = g) := fun i cur t hi h1 h4 h5 e => by
    rcases e with e | e
    · exact ne_ty hi h.mbk h1 e
    · exact h.hr.ne hi h4 h5 e
  have kR : ∀ i d v, rs[i]? = some (d :: v) → RB D N w' (P i) (B i) (H i) d v := fun i d v e => by
    have hR := h.row i d v e
    obtain ⟨ao, cp, hbi, _⟩ := hR.box
    exact hR.tch t (nS _ _ _ hR.blk (by decide) (by decide) (by decide)) (nS _ _ _ hbi (by decide) (by decide) (by decide)) (fun g0 hg e => by have := h.lo.1; have := h.lo.2.1; omega) (fun g0 cur hg => nS _ _ _ hg (by decide) (by decide) (by decide))
  refine ⟨⟨by rw [List.length_set]; exact hm, hr, hh, ?_, ?_, by rw [List.length_set]; exact h.injP, by rw [List.length_set]; exact h.injB, ?_, ?_, ?_⟩, kR j c u hj⟩
  · exact (h.its.perm (popL_perm hL)).pop (tn1_up _) hj hx p
  · intro i d v e
    have hij : i ≠ j := fun e' => by
      subst e'
      rw [List.getElem?_set_self (List.getElem?_eq_some_iff.1 hj).1] at e
      simp at e
    rw [List.getElem?_set_ne (Ne.symm hij)] at e
    exact kR i d v e
  · intro i hi
    rw [List.length_set] at hi
    exact ⟨Nat.lt_of_lt_of_le (h.lt i hi).1 t.size, Nat.lt_of_lt_of_le (h.lt i hi).2 t.size⟩
  · exact ⟨h.lo.1, h.lo.2.1, fun i hi => by rw [List.length_set] at hi; exact h.lo.2.2 i hi⟩
  · have back : ∀ (i : Nat) (d : Rc) (v : List Rc), (rs.set j [])[i]? = some (d :: v) → rs[i]? = some (d :: v) := fun i d v e => by
      have hij : i ≠ j := fun e' => by
        subst e'
        rw [List.getElem?_set_self (List.getElem?_eq_some_iff.1 hj).1] at e
        simp at e
      rw [List.getElem?_set_ne (Ne.symm hij)] at e
      exact e
    intro i i' d d' v v' e e' hne
    exact h.dis i i' d d' v v' (back i d v e) (back i' d' v' e') hne
/-- ask of a row of lists, whatever it has. -/
theorem MS.ask {D : Rc → List Value × List Value} {N : Nat} {w : World} {mb g cap : Nat} {L : List It} {P B : Nat → Nat} {H : Nat → Rc} {rs : List (List Rc)} {j : Nat} {c : Rc} {u : List Rc} (h : MS D N w mb g cap L P B H rs) (hj : rs[j]? = some []) (hR : RB D N w (P j) (B j) (H j) c u) (hs : rs.length < 1000000000000) :
    Calls Try.prog 25 #[.pointer (some ⟨mb, 0, none⟩), .pointer (some ⟨P j, 0, none⟩), .int .i64 (tn1 j)] w fun e w' => e = .returned (.tuple #[]) ∧ (∃ g' cap' L' H', MS D N w' mb g' cap' L' P B H' (rs.set j u) ∧ (∀ i, i ≠ j → H' i = H i) ∧ (u ≠ [] → ∀ g, Bk (H' j) g → w.heap.size ≤ g)) ∧ Tch (fun i => i = mb ∨ i = P j ∨ i = B j ∨ i = g) w w' := by
  obtain ⟨hp, ⟨ao, cp, hb, hl⟩, _, _⟩ := hR
  have hjl : j < rs.length := (List.getElem?_eq_some_iff.1 hj).1
  cases u with
  | nil =>
    refine (ask_nil mb (P j) (B j) (tn1 j) (H j) ao cp w hp hb).mono ?_
    rintro e w' ⟨rfl, t⟩
    have e2 : rs.set j [] = rs := by
      apply List.ext_getElem?
      intro i
      by_cases hij : i = j
      · subst hij; rw [List.getElem?_set_self hjl, hj]
      · rw [List.getElem?_set_ne (Ne.symm hij)]
    rw [e2]
    exact ⟨rfl, ⟨g, cap, L, H, h.no t, fun _ _ => rfl, fun h => absurd rfl h⟩, t.mono (fun _ _ h => h.elim)⟩
  | cons d v =>
    have hL : L.length ≤ rs.length := its_len h.its
    refine (ask_cons D N mb (P j) (B j) g cap (rs.length : Nat) (tn1 j) L d (H j) v ao cp w h.mbk h.hr h.hp (by omega) hp hb hl h.lo.1 (h.lo.2.2 j hjl).1 (h.lo.2.2 j hjl).2 h.lo.2.1).mono ?_
    rintro e w' ⟨rfl, g', cap', L', hc, a⟩
    exact ⟨rfl, ⟨g', cap', L', _, h.asked hj hp hb a, fun i hi => upH_ne _ _ hi, fun _ g0 hg => by rw [upH_at] at hg; exact (a.ownh.lt hg).1⟩, a.tch⟩
/-- A change's block of nobody's is turned. -/
theorem MS.aside {D : Rc → List Value × List Value} {N : Nat} {w w' : World} {mb g cap : Nat} {L : List It} {P B : Nat → Nat} {H : Nat → Rc} {rs : List (List Rc)} {z : Nat} {cs : Array Value} (h : MS D N w mb g cap L P B H rs) (hz : w.heap[z]? = some (.cells cs 27 (0, 0))) (hN : N ≤ z) (t : Tch (fun i => i = z) w w') : MS D N w' mb g cap L P B H rs :=
  ⟨(t.block mb (blk_lt h.mbk) (ne_ty h.mbk hz (by decide))).trans h.mbk, h.hr.tch t (fun e => h.hr.ne hz (by decide) (by decide) e.symm), h.hp, h.its, fun j c u e => by
    have hR := h.row j c u e
    obtain ⟨ao, cp, hbi, _⟩ := hR.box
    exact hR.tch t (ne_ty hR.blk hz (by decide)) (ne_ty hbi hz (by decide)) (fun g0 hg => by omega) (fun g0 cur hg => ne_ty hg hz (by decide)), h.injP, h.injB, fun j hj => ⟨Nat.lt_of_lt_of_le (h.lt j hj).1 t.size, Nat.lt_of_lt_of_le (h.lt j hj).2 t.size⟩, h.lo, h.dis⟩
theorem rs_nx : Try.f13.results = #[.cell 2 27, .tmp 3] := by kernel_rfl
set_option maxHeartbeats 4000000 in
set_option maxRecDepth 100000 in
theorem next_nil {D : Rc → List Value × List Value} {N : Nat} {w : World} {mb g cap : Nat} {P B : Nat → Nat} {H : Nat → Rc} {rs : List (List Rc)} (h : MS D N w mb g cap [] P B H rs) :
    Calls Try.prog 13 #[.pointer (some ⟨mb, 0, none⟩)] w fun e w' => e = .returned (.tuple #[zV, .bool false]) ∧ Tch (fun _ => False) w w' := by
  obtain ⟨w0, hw0⟩ : ∃ w0, w0 = w.alloc (.cells #[.int .i64 0, .int .i64 0, .int .i64 0, .int .i64 0, .slice none 0 0, .slice none 0 0] 27) := ⟨_, rfl⟩
  have t0 : Tch (fun _ => False) w w0 := by rw [hw0]; exact Tch.alloc _ _ _
  have b0 : w0.heap[w.heap.size]? = some (.cells #[.int .i64 0, .int .i64 0, .int .i64 0, .int .i64 0, .slice none 0 0, .slice none 0 0] 27 (0, 0)) := by rw [hw0]; exact alloc_new _ _
  have c0 : w0.cell? ⟨mb, 0, none⟩ = some (.slice (some ⟨g, 0, none⟩) 0 cap) := by rw [blk_cell ((t0.block mb (blk_lt h.mbk) (fun h => h)).trans h.mbk)]; rfl
  obtain ⟨e0, e1, e2, e3, e4, e5⟩ := get6 b0
  have f0 := blk_frozen b0
  have HB : Hid _ := And.intro b0 t0
  have HW : Hid (w0 = _) := hw0
  clear t0 b0 h hw0
  go_enter Try.func13, Try.ntmps13
  go_upto_region 1 with (fail)
  rw [← HW.out]
  go_wp2
  refine bodyPost_ret (res_ch2 rs_nx rfl rfl (set6 HB.out.1 _ _ _ _ _ _)) rfl ?_
  exact ⟨rfl, HB.out.2.trans (tch6 _ _ _ _ _ _ _ _) (fun i hi e => by omega)⟩
set_option maxHeartbeats 4000000 in
set_option maxRecDepth 100000 in
theorem next_some {D : Rc → List Value × List Value} {N : Nat} {w : World} {mb g cap : Nat} {L : List It} {P B : Nat → Nat} {H : Nat → Rc} {rs : List (List Rc)} (h : MS D N w mb g cap L P B H rs) (hL : L ≠ []) (hs : rs.length < 1000000000000) :
    Calls Try.prog 13 #[.pointer (some ⟨mb, 0, none⟩)] w fun e w' => ∃ j c u, Pk Rc.l rs j c u ∧ e = .returned (.tuple #[rcV (H j), .bool true]) ∧ Sm c (H j) ∧ OwnC N w (H j) (D c).1 (D c).2 ∧ (∃ g' cap' L' H', MS D N w' mb g' cap' L' P B H' (rs.set j u) ∧ (∀ i, i ≠ j → H' i = H i) ∧ (u ≠ [] → ∀ g, Bk (H' j) g → w.heap.size ≤ g)) ∧ Tch (fun i => N ≤ i) w w' ∧ (∀ (z : Nat) (cs : Array Value), w.heap[z]? = some (.cells cs 76 (0, 0)) → w'.heap[z]? = some (.cells cs 76 (0, 0))) ∧ ∀ (z : Nat) (cs : Array Value), w.heap[z]? = some (.cells cs 27 (0, 0)) → w'.heap[z]? = some (.cells cs 27 (0, 0)) := by
  obtain ⟨j, c, u, hpk, hx⟩ := h.its.least h.hp (tn1_up _) hL
  have hjl : j < rs.length := (List.getElem?_eq_some_iff.1 hpk.1).1
  have hlen : L.length ≤ rs.length := its_len h.its
  have hL0 : 0 < L.length := List.length_pos_iff.2 hL
  obtain ⟨w0, hw0⟩ : ∃ w0, w0 = w.alloc (.cells #[.int .i64 0, .int .i64 0, .int .i64 0, .int .i64 0, .slice none 0 0, .slice none 0 0] 27) := ⟨_, rfl⟩
  have t0 : Tch (fun _ => False) w w0 := by rw [hw0]; exact Tch.alloc _ _ _
  have b0 : w0.heap[w.heap.size]? = some (.cells #[.int .i64 0, .int .i64 0, .int .i64 0, .int .i64 0, .slice none 0 0, .slice none 0 0] 27 (0, 0)) := by rw [hw0]; exact alloc_new _ _
  have h0 := h.no t0
  obtain ⟨n, hn⟩ : ∃ n, n = L.length := ⟨_, rfl⟩
  have c0 : w0.cell? ⟨mb, 0, none⟩ = some (.slice (some ⟨g, 0, none⟩) n cap) := by rw [blk_cell h0.mbk, hn]; rfl
  have q := pop_any L g cap w0 h0.hr (by omega) hL0 h0.hp
  rw [hx] at q
  unfold itV hV at q
  rw [← hn] at q
  have hn0 : ¬ (n : Int) = 0 := by omega
  have hgb : g < w.heap.size := h.hr.lt
  have hml : mb < w.heap.size := blk_lt h.mbk
  have hmg : mb ≠ g := h.hr.ne h.mbk (by decide) (by decide)
  have hrow := h.row j c u hpk.1
  have HRW : Hid (Sm c (H j) ∧ OwnC N w (H j) (D c).1 (D c).2) := ⟨hrow.sm, hrow.own⟩
  have HW : Hid (w0 = _) := hw0
  have H0 : Hid _ := And.intro h0 (And.intro b0 (And.intro t0 (And.intro hpk (And.intro hx (And.intro hL hs)))))
  have HM : Hid (mb ≠ g ∧ N ≤ mb ∧ N ≤ g ∧ N ≤ w.heap.size) := ⟨hmg, h.lo.1, h.lo.2.1, by have := h.lo.1; omega⟩
  clear hrow h h0 b0 t0 hw0 hpk hx hL hs hn hL0 hlen hmg
  go_enter Try.func13, Try.ntmps13
  go_upto_region 1 with (fail)
  rw [← HW.out]
  go_wp2_with fail
  refine q.mono ?_
  rintro e w1 ⟨L1, rfl, pm, hh1, hr1, t1⟩
  clear q c0
  obtain ⟨hd, hhd⟩ : ∃ hd, hd = H j := ⟨_, rfl⟩
  obtain ⟨n1, hn1⟩ : ∃ n1, n1 = L1.length := ⟨_, rfl⟩
  rw [← hn1]
  obtain ⟨N1, hN1⟩ : ∃ N1, N1 = w1.heap.size := ⟨_, rfl⟩
  obtain ⟨w2, hw2⟩ : ∃ w2, w2 = w1.alloc (.cells #[.int .i64 c.l, .int .i64 (tn1 j), .pointer (some ⟨P j, 0, none⟩)] 72) := ⟨_, rfl⟩
  obtain ⟨w3, hw3⟩ : ∃ w3, w3 = w2.setCell ⟨mb, 0, none⟩ (.slice (some ⟨g, 0, none⟩) n1 cap) := ⟨_, rfl⟩
  obtain ⟨N3, hN3⟩ : ∃ N3, N3 = w3.heap.size := ⟨_, rfl⟩
  obtain ⟨w4, hw4⟩ : ∃ w4, w4 = w3.alloc (.cells #[.int .i64 hd.l, .int .i64 hd.x, .int .i64 hd.k, .int .i64 hd.t, .slice hd.oa hd.ol hd.oc, .slice hd.na hd.nl hd.nc] 27) := ⟨_, rfl⟩
  obtain ⟨h0, b0, t0, hpk, hx, hL, hs⟩ := H0.out
  obtain ⟨hmg, hNm, hNg, hNw⟩ := HM.out
  have t2 : Tch (fun i => i = g) w0 w2 := by rw [hw2]; exact t1.allocR _
  have hm2 := (t2.block mb (blk_lt h0.mbk) hmg).trans h0.mbk
  have bI2 : w2.heap[N1]? = some (.cells #[.int .i64 c.l, .int .i64 (tn1 j), .pointer (some ⟨P j, 0, none⟩)] 72 (0, 0)) := by rw [hw2, hN1]; exact alloc_new _ _
  have m0 : w2.cell? ⟨mb, 0, none⟩ = some (.slice (some ⟨g, 0, none⟩) L.length cap) := blk_cell hm2 0
  have fm := blk_frozen hm2
  have t3' : Tch (fun i => i = mb) w2 w3 := by rw [hw3]; exact Tch.setCell (fun i => i = mb) _ _ _ rfl
  have t3 : Tch (fun i => i = mb ∨ i = g) w0 w3 := (t2.mono (fun _ _ e => .inr e)).trans t3' (fun _ _ e => .inl e)
  have hr3 : HR w3 g cap L1 := (hr1.no (by rw [hw2]; exact Tch.alloc _ _ _)).tch t3' (fun e => hmg e.symm)
  have hm3 : w3.heap[mb]? = some (.cells #[hV g cap L1, .int .i64 rs.length] 66 (0, 0)) := by rw [hw3, blk_set hm2, hn1]; rfl
  obtain ⟨h3, hR3⟩ := h0.popped hL hpk.1 hx pm hh1 hr3 hm3 t3
  have bI3 := (t3'.block N1 (blk_lt bI2) (ne_ty bI2 hm2 (by decide))).trans bI2
  have i1 : w3.cell? ⟨N1, 1, none⟩ = some (.int .i64 (tn1 j)) := blk_cell bI3 1
  have i2 : w3.cell? ⟨N1, 2, none⟩ = some (.pointer (some ⟨P j, 0, none⟩)) := blk_cell bI3 2
  have r1 : w3.cell? ⟨P j, 1, none⟩ = some (.int .i64 hd.l) := by rw [blk_cell hR3.blk, hhd]; rfl
  have r2 : w3.cell? ⟨P j, 2, none⟩ = some (.int .i64 hd.x) := by rw [blk_cell hR3.blk, hhd]; rfl
  have r3 : w3.cell? ⟨P j, 3, none⟩ = some (.int .i64 hd.k) := by rw [blk_cell hR3.blk, hhd]; rfl
  have r4 : w3.cell? ⟨P j, 4, none⟩ = some (.int .i64 hd.t) := by rw [blk_cell hR3.blk, hhd]; rfl
  have r5 : w3.cell? ⟨P j, 5, none⟩ = some (.slice hd.oa hd.ol hd.oc) := by rw [blk_cell hR3.blk, hhd]; rfl
  have r6 : w3.cell? ⟨P j, 6, none⟩ = some (.slice hd.na hd.nl hd.nc) := by rw [blk_cell hR3.blk, hhd]; rfl
  have t4 : Tch (fun _ => False) w3 w4 := by rw [hw4]; exact Tch.alloc _ _ _
  have h4 := h3.no t4
  have hR4 := hR3.tch t4 (fun h => h) (fun h => h) (fun _ _ h => h) (fun _ _ _ h => h)
  have bI4 := (t4.block N1 (blk_lt bI3) (fun h => h)).trans bI3
  have j1 : w4.cell? ⟨N1, 1, none⟩ = some (.int .i64 (tn1 j)) := blk_cell bI4 1
  have j2 : w4.cell? ⟨N1, 2, none⟩ = some (.pointer (some ⟨P j, 0, none⟩)) := blk_cell bI4 2
  have bC4 : w4.heap[N3]? = some (.cells #[.int .i64 hd.l, .int .i64 hd.x, .int .i64 hd.k, .int .i64 hd.t, .slice hd.oa hd.ol hd.oc, .slice hd.na hd.nl hd.nc] 27 (0, 0)) := by rw [hw4, hN3]; exact alloc_new _ _
  have hjj : (rs.set j [])[j]? = some [] := List.getElem?_set_self hjl
  have q4 := h4.ask hjj hR4 (by rw [List.length_set]; exact hs)
  rw [List.set_set] at q4
  have bZ3 := (t3.block w.heap.size (blk_lt b0) (by omega)).trans b0
  have bZ4 := (t4.block w.heap.size (blk_lt bZ3) (fun h => h)).trans bZ3
  obtain ⟨ao, cp, hbx, _⟩ := hR4.box
  have nS : ∀ i cur, w4.heap[i]? = some (.cells cur 27 (0, 0)) ∨ w4.heap[i]? = some (.cells cur 76 (0, 0)) → ¬ (i = mb ∨ i = P j ∨ i = B j ∨ i = g) := fun i cur hi e => by
    rcases hi with hi | hi
    · rcases e with e | e | e | e
      · exact ne_ty hi h4.mbk (by decide) e
      · exact ne_ty hi hR4.blk (by decide) e
      · exact ne_ty hi hbx (by decide) e
      · exact h4.hr.ne hi (by decide) (by decide) e
    · rcases e with e | e | e | e
      · exact ne_ty hi h4.mbk (by decide) e
      · exact ne_ty hi hR4.blk (by decide) e
      · exact ne_ty hi hbx (by decide) e
      · exact h4.hr.ne hi (by decide) (by decide) e
  have hlj := h4.lo.2.2 j (by rw [List.length_set]; exact hjl)
  have H4 : Hid (∀ w5, Tch (fun i => i = mb ∨ i = P j ∨ i = B j ∨ i = g) w4 w5 → w5.heap[w.heap.size]? = some (.cells #[.int .i64 0, .int .i64 0, .int .i64 0, .int .i64 0, .slice none 0 0, .slice none 0 0] 27 (0, 0)) ∧ w5.heap[N3]? = some (.cells #[.int .i64 hd.l, .int .i64 hd.x, .int .i64 hd.k, .int .i64 hd.t, .slice hd.oa hd.ol hd.oc, .slice hd.na hd.nl hd.nc] 27 (0, 0)) ∧ Tch (fun i => N ≤ i) w w5 ∧ (∀ (z : Nat) (cs : Array Value), w.heap[z]? = some (.cells cs 76 (0, 0)) → w5.heap[z]? = some (.cells cs 76 (0, 0))) ∧ ∀ (z : Nat) (cs : Array Value), w.heap[z]? = some (.cells cs 27 (0, 0)) → w5.heap[z]? = some (.cells cs 27 (0, 0))) := fun w5 t5 =>
    ⟨(t5.block _ (blk_lt bZ4) (nS _ _ (.inl bZ4))).trans bZ4, (t5.block _ (blk_lt bC4) (nS _ _ (.inl bC4))).trans bC4, (((t0.mono (T := fun i => N ≤ i) (fun _ _ h => h.elim)).trans t3 (fun i _ e => by omega)).trans t4 (fun _ _ h => h.elim)).trans t5 (fun i _ e => by omega), fun z cs hz => by
      have z0 := (t0.block z (blk_lt hz) (fun h => h)).trans hz
      have z3 := (t3.block z (blk_lt z0) (fun e => by
        rcases e with e | e
        · exact ne_ty z0 h0.mbk (by decide) e
        · exact h0.hr.ne z0 (by decide) (by decide) e)).trans z0
      have z4 := (t4.block z (blk_lt z3) (fun h => h)).trans z3
      exact (t5.block z (blk_lt z4) (nS _ _ (.inr z4))).trans z4, fun z cs hz => by
      have z0 := (t0.block z (blk_lt hz) (fun h => h)).trans hz
      have z3 := (t3.block z (blk_lt z0) (fun e => by
        rcases e with e | e
        · exact ne_ty z0 h0.mbk (by decide) e
        · exact h0.hr.ne z0 (by decide) (by decide) e)).trans z0
      have z4 := (t4.block z (blk_lt z3) (fun h => h)).trans z3
      exact (t5.block z (blk_lt z4) (nS _ _ (.inl z4))).trans z4⟩
  have HW2 : Hid (w2 = _) := hw2
  have HW3 : Hid (w3 = _) := hw3
  have HW4 : Hid (w4 = _) := hw4
  have HN1 : Hid (N1 = _) := hN1
  have HN3 : Hid (N3 = _) := hN3
  have HPK : Hid _ := hpk
  have HHD : Hid (hd = H j) := hhd
  have hw34 : w.heap.size ≤ w4.heap.size := Nat.le_trans (Nat.le_trans t0.size t3.size) t4.size
  have H34 : Hid (w.heap.size ≤ w4.heap.size) := hw34
  clear hhd hw34 h0 b0 t0 hpk hx hL hs hmg hNm hNg hNw t1 t2 t3' t3 hr1 hr3 hm2 hm3 h3 hR3 bI2 bI3 bI4 t4 h4 hR4 bC4 bZ3 bZ4 hbx nS hlj hw2 hw3 hw4 pm hh1 hn1 hN1 hN3
  go_upto_region 4 with (fail)
  rw [← HW2.out, ← HN1.out]
  go_upto_region 5 with (fail)
  rw [← HW3.out]
  clear m0 fm
  go_upto_region 6 with (fail)
  rw [← HW4.out, ← HN3.out]
  clear r1 r2 r3 r4 r5 r6 i1 i2
  go_wp2_with fail
  refine q4.mono ?_
  rintro e w5 ⟨rfl, h5, t5⟩
  obtain ⟨z5, k5, T5, Z76, Z27⟩ := H4.out w5 t5
  have H5 : Hid _ := And.intro h5 (And.intro T5 (And.intro Z76 Z27))
  obtain ⟨e0, e1, e2, e3, e4, e5⟩ := get6 z5
  obtain ⟨d0, d1, d2, d3, d4, d5⟩ := get6 k5
  have f5 := blk_frozen z5
  have Z5 : Hid _ := z5
  clear q4 j1 j2 h5 t5 z5 k5 T5 Z76 Z27
  go_wp2
  refine bodyPost_ret (res_ch2 rs_nx rfl rfl (set6 Z5.out _ _ _ _ _ _)) rfl ?_
  obtain ⟨⟨g', cap', L', H', h5, hH1, hH2⟩, T5, Z76, Z27⟩ := H5.out
  have hNw := HM.out.2.2.2
  obtain ⟨hsm, how⟩ := HRW.out
  refine ⟨j, c, u, HPK.out, by rw [← HHD.out]; rfl, hsm, how, ⟨g', cap', L', H', h5.aside Z5.out hNw (tch6 _ _ _ _ _ _ _ _), hH1, fun hu g0 hg => Nat.le_trans H34.out (hH2 hu g0 hg)⟩, T5.trans (tch6 _ _ _ _ _ _ _ _) (fun i hi e => by omega), fun z cs hz => ((tch6 _ _ _ _ _ _ _ _).block z (blk_lt (Z76 z cs hz)) (by have := blk_lt hz; omega)).trans (Z76 z cs hz), fun z cs hz => ((tch6 _ _ _ _ _ _ _ _).block z (blk_lt (Z27 z cs hz)) (by have := blk_lt hz; omega)).trans (Z27 z cs hz)⟩
end Go.Proofs.Ytmnhkgibplnnnaa
