import Derived.Test.YtolamjipigfocaaCRPutB
/- The document's Put: rput_in. -/
namespace Go.Proofs.Ytolamjipigfocaa
open Go.RowKit Go

set_option maxHeartbeats 4000000 in
set_option maxRecDepth 100000 in
theorem rput_in (b : Nat) (L : List Tbl) (gv : Int) (P : List (Tbl × Value)) (tv : Value) (t : Tbl) (ao : Option Addr) (c : Nat) (w : World) (h : RO w 0 b L (gv + 1) P tv) (ht : SL w ao (ccl t.cols)) (hno : ao = none → t.cols = [] ∧ c = 0) (hl : P.length ≤ 16) (h0 : 0 ≤ gv) (h1 : gv ≤ 2147483647) (hEE : putE L gv t = 0) (k : Nat) (hk : k < P.length) (hin : posP (fun u => decide (u.id = t.id)) P = k) :
    Calls Try.prog 50 #[.pointer (some ⟨b, 0, none⟩), tA t.id t.ver t.nm (.slice ao t.cols.length c) t.key] w fun x w' => RPut b (putE L gv t) (putL L t) (putG L gv t + 1) P tv w x w' := by
  obtain ⟨i0, hi0, hz0, hz1, hz2⟩ := info_parts info_tbl
  obtain ⟨to, tc, htv⟩ := row_slice h.to.own
  subst htv
  obtain ⟨N, hN⟩ : ∃ N, N = w.heap.size := ⟨_, rfl⟩
  obtain ⟨w0, hw0⟩ : ∃ w0, w0 = w.alloc (.cells #[.int .i64 t.id, .int .i64 t.ver, .string t.nm, .slice ao t.cols.length c, .int .i64 t.key] 36) := ⟨_, rfl⟩
  have t0 : Tch (fun _ => False) w w0 := by rw [hw0]; exact Tch.alloc _ _ _
  have hX : w0.heap[N]? = some (.cells #[.int .i64 t.id, .int .i64 t.ver, .string t.nm, .slice ao t.cols.length c, .int .i64 t.key] 36 (0, 0)) := by rw [hw0, hN]; exact alloc_new _ _
  have hbN : b < N := by rw [hN]; exact blk_lt h.blk
  have H0 : Hid (RO w0 0 b L (gv + 1) P (.slice to P.length tc)) := h.tch t0 (fun _ _ _ h => h)
  have HQ : Hid (∀ W, Tch (fun _ => False) w0 W → W.heap[N]? = some (.cells #[.int .i64 t.id, .int .i64 t.ver, .string t.nm, .slice ao t.cols.length c, .int .i64 t.key] 36 (0, 0)) ∧ RO W 0 b L (gv + 1) P (.slice to P.length tc) ∧ SL W ao (ccl t.cols)) := fun W tW => ⟨by rw [tW.block N (blk_lt hX) (fun h => h)]; exact hX, H0.out.tch tW (fun _ _ _ h => h), (ht.no t0).no tW⟩
  have HC : Hid (∀ W, Tch (fun _ => False) w0 W → (W.cell? ⟨N, 0, none⟩ = some (.int .i64 t.id) ∧ W.cell? ⟨N, 1, none⟩ = some (.int .i64 t.ver) ∧ W.cell? ⟨N, 2, none⟩ = some (.string t.nm) ∧ W.cell? ⟨N, 3, none⟩ = some (.slice ao t.cols.length c) ∧ W.cell? ⟨N, 4, none⟩ = some (.int .i64 t.key)) ∧ W.cell? ⟨b, 0, none⟩ = some (.slice to P.length tc) ∧ W.cell? ⟨b, 1, none⟩ = some (.int .i64 (gv + 1))) := fun W tW => by
    obtain ⟨a1, a3, _⟩ := HQ.out W tW
    exact ⟨⟨by rw [blk_cell a1]; rfl, by rw [blk_cell a1]; rfl, by rw [blk_cell a1]; rfl, by rw [blk_cell a1]; rfl, by rw [blk_cell a1]; rfl⟩, by rw [blk_cell a3.blk]; rfl, by rw [blk_cell a3.blk]; rfl⟩
  have Hq1 : Hid (∀ W, Tch (fun _ => False) w0 W → Calls Try.prog 57 #[.pointer (some ⟨b, 0, none⟩), .int .i64 t.id] W fun x w' => x = .returned (.int .i64 (posP (fun u => decide (u.id = t.id)) P)) ∧ w' = W) := fun W tW => rat_any b to tc P _ t.id W (HC.out W tW).2.1 (HQ.out W tW).2.1.tl (by omega)
  have Hq2 : Hid (∀ W, Tch (fun _ => False) w0 W → Calls Try.prog 41 #[.pointer (some ⟨b, 0, none⟩), .string t.nm] W fun x w' => x = .returned (.int .i64 (posP (fun u => decide (u.nm = t.nm)) P)) ∧ w' = W) := fun W tW => rplace_any b to tc P _ t.nm W (HC.out W tW).2.1 (HQ.out W tW).2.1.tl (by omega)
  obtain ⟨r1, hr1⟩ : ∃ r1, r1 = posP (fun u => decide (u.id = t.id)) P := ⟨_, rfl⟩
  obtain ⟨r2, hr2⟩ : ∃ r2, r2 = posP (fun u => decide (u.nm = t.nm)) P := ⟨_, rfl⟩
  rw [← hr1] at Hq1
  rw [← hr2] at Hq2
  have hLl : L.length = P.length := by rw [← h.eq]; simp
  have HPE : Hid (putE L gv t = if rightE t ≠ 0 then rightE t else if r1 < 0 ∧ t.id ≠ gv + 1 then 52 else if 0 ≤ r2 ∧ r2 ≠ r1 then 51 else if r1 < 0 ∧ P.length = 16 then 53 else 0) := by
    show _ = _
    unfold putE
    rw [hr1, hr2, posP_L, posP_L, h.eq, hLl]
  have HPL : Hid (putL L t = if r1 < 0 then L ++ [t] else L.set r1.toNat t) := by
    show _ = _
    unfold putL
    rw [hr1, posP_L, h.eq]
  have HPG : Hid (putG L gv t = if r1 < 0 then gv + 1 else gv) := by
    show _ = _
    unfold putG
    rw [hr1, posP_L, h.eq]
  have q1 := rright_any t ao c w0 (ht.no t0)
  obtain ⟨E, hE⟩ : ∃ E, E = putE L gv t := ⟨_, rfl⟩
  have HE : Hid (E = putE L gv t) := hE
  have Hw0 : Hid _ := hw0
  have HN : Hid (N = w.heap.size) := hN
  have Ht0 : Hid (Tch (fun _ => False) w w0) := t0
  have H : Hid (RO w 0 b L (gv + 1) P (.slice to P.length tc)) := h
  have _u := hno
  have _u2 := h0
  have _u3 := h1
  have _u4 := hi0
  have _u5 := hz0
  have _u6 := hz1
  have _u7 := hz2
  clear _u _u2 _u3 _u4 _u5 _u6 _u7
  have HE0 : Hid (putE L gv t = 0) := hEE
  have hPE := HPE.out
  rw [hEE] at hPE
  have hR0 : rightE t = 0 := by
    refine Classical.byContradiction fun e => ?_
    rw [if_pos e] at hPE
    exact e hPE.symm
  rw [if_neg (by simp [hR0])] at hPE
  have h52 : ¬ (r1 < 0 ∧ t.id ≠ gv + 1) := fun e => by rw [if_pos e] at hPE; simp at hPE
  rw [if_neg h52] at hPE
  have h51 : ¬ (0 ≤ r2 ∧ r2 ≠ r1) := fun e => by rw [if_pos e] at hPE; simp at hPE
  rw [if_neg h51] at hPE
  have h53 : ¬ (r1 < 0 ∧ P.length = 16) := fun e => by rw [if_pos e] at hPE; simp at hPE
  rw [hR0] at q1
  have h8 := (right_len hR0).2
  have Hcp : Hid (∀ W, Tch (fun _ => False) w0 W → Calls Try.prog 28 #[tA t.id t.ver t.nm (.slice ao t.cols.length c) t.key] W fun x w' => (∃ v, x = .returned (tA t.id t.ver t.nm v t.key) ∧ w'.ownsRow W.heap.size 43 3 v t.cols.length (ccl t.cols)) ∧ Tch (fun _ => False) W w') := fun W tW => rcopied_any t ao c W (HQ.out W tW).2.2 hno (by omega)
  clear hEE hPE HPE hR0
  rw [← hr1] at hin
  have hr1n : ¬ r1 < 0 := by omega
  have hr1k : r1 = k := hin
  have HPL2 : Hid (putL L t = L.set k t ∧ putG L gv t = gv) := ⟨by rw [HPL.out, if_neg hr1n, hr1k]; simp, by rw [HPG.out, if_neg hr1n]⟩
  obtain ⟨T, hT0⟩ : ∃ T, to = some ⟨T, 0, none⟩ := by
    rcases H.out.to.own.2 with ⟨h1, h2⟩ | ⟨g, cap, cur, hv, _⟩
    · exfalso; omega
    · injection hv with hv; exact ⟨g, hv⟩
  subst hT0
  have h51' : r2 < 0 ∨ r2 = r1 := by omega
  have hkI : (k : Int) < P.length := by omega
  have hkn : (0 : Int) ≤ k := by omega
  clear h52 h51 h53 h8 HPL HPG hin hi0 hz0 hz1 hz2
  subst hr1k
  clear hr1n
  clear hr1 hr2 h hw0 hN hX ht t0 hE
  obtain ⟨⟨x0, x1, x2, x3, x4⟩, d0, d1⟩ := HC.out w0 (Tch.refl _ _)
  go_enter Try.func50, Try.ntmps50
  go_wp2_with fail
  rw [← HN.out]
  have hw0 := Hw0.out
  rw [← hw0]
  clear hw0
  refine q1.mono ?_
  rintro y w1 ⟨rfl, t1⟩
  clear q1 x0 x1 x2 x3 x4 d0 d1
  obtain ⟨⟨x0, x1, x2, x3, x4⟩, d0, d1⟩ := HC.out w1 t1
  have q2 := Hq1.out w1 t1
  have q3 := Hq2.out w1 t1
  go_wp2_with fail
  refine q2.mono ?_
  rintro y wy ⟨rfl, hwy⟩
  obtain rfl := hwy.symm
  clear hwy q2
  go_wp2_with fail
  refine q3.mono ?_
  rintro y wy ⟨rfl, hwy⟩
  obtain rfl := hwy.symm
  clear hwy q3
  rcases h51' with hlt | heq
  · have hr2n : ¬ (0 : Int) ≤ r2 := by omega
    clear hlt
    obtain ⟨C, hC⟩ : ∃ C : List Value → World → Prop, C = fun s W => match s with
      | [] => Tch (fun _ => False) w1 W
      | [y] => Tch (fun _ => False) w1 W ∧ ∃ vo vc, y = tA t.id t.ver t.nm (.slice vo t.cols.length vc) t.key ∧ W.ownsRow w1.heap.size 43 3 (.slice vo t.cols.length vc) t.cols.length (ccl t.cols)
      | _ => False := ⟨_, rfl⟩
    have hK : ∀ s W, C s W → (W.cell? ⟨N, 0, none⟩ = some (.int .i64 t.id) ∧ W.cell? ⟨N, 1, none⟩ = some (.int .i64 t.ver) ∧ W.cell? ⟨N, 2, none⟩ = some (.string t.nm) ∧ W.cell? ⟨N, 3, none⟩ = some (.slice ao t.cols.length c) ∧ W.cell? ⟨N, 4, none⟩ = some (.int .i64 t.key)) ∧ W.cell? ⟨b, 0, none⟩ = some (.slice (some ⟨T, 0, none⟩) P.length tc) := fun s W h => by
      have tW : Tch (fun _ => False) w1 W := by
        rw [hC] at h
        match s, h with
        | [], h => exact h
        | [_], h => exact h.1
      obtain ⟨h5, h6, _⟩ := HC.out W (t1.trans' tW)
      exact ⟨h5, h6⟩
    have h6 : ∀ W, C [] W → Calls Try.prog 28 #[tA t.id t.ver t.nm (.slice ao t.cols.length c) t.key] W fun x w' => ∃ vo vc, x = .returned (tA t.id t.ver t.nm (.slice vo t.cols.length vc) t.key) ∧ C [tA t.id t.ver t.nm (.slice vo t.cols.length vc) t.key] w' := fun W h => by
      rw [hC] at h ⊢
      refine (Hcp.out W (t1.trans' h)).mono ?_
      rintro x w' ⟨⟨v, rfl, hv⟩, t'⟩
      obtain ⟨vo, vc, rfl⟩ := row_slice hv
      exact ⟨vo, vc, rfl, Tch.trans' h t', vo, vc, rfl, own_low hv (Tch.size h)⟩
    have h0' : C [] w1.drew := by rw [hC]; exact (Tch.refl _ _).drew
    have hsh1 : ∀ y W, C [y] W → ∃ vo vc, y = tA t.id t.ver t.nm (.slice vo t.cols.length vc) t.key := fun y W h => by
      rw [hC] at h
      obtain ⟨_, vo, vc, e, _⟩ := h
      exact ⟨vo, vc, e⟩
    have Hfin : Hid (∀ vo vc W, C [tA t.id t.ver t.nm (.slice vo t.cols.length vc) t.key] W → Tch (fun _ => False) w1 W ∧ W.ownsRow w1.heap.size 43 3 (.slice vo t.cols.length vc) t.cols.length (ccl t.cols)) := fun vo vc W h => by
      rw [hC] at h
      obtain ⟨h1, vo', vc', e, h2⟩ := h
      have e' : vo = vo' ∧ vc = vc' := by simpa using e
      obtain ⟨rfl, rfl⟩ := e'
      exact ⟨h1, h2⟩
    have Ht1 : Hid _ := t1
    clear hC x0 x1 x2 x3 x4 d0 d1 t1
    go_wp2_with fail
    refine wp_region_ordv [6] C 7 [0, 1, 2, 3, 4, 5, 6] (by kernel_rfl) (by kernel_rfl) h0' ?_
    clear h0'
    refine ordv_read rfl (by go_simp) (by rfl) ?_
    apply Exists.intro
    refine ⟨fun s' W hW b K Q hK' => ?_, fun K hK' => ?_⟩
    · obtain ⟨⟨x0, x1, x2, x3, x4⟩, d0⟩ := hK _ W hW
      go_simp
      exact hK' W hW
    go_simp
    refine hK' _ ?_
    clear hK' K
    refine ordv_read rfl (by go_simp) (by rfl) ?_
    apply Exists.intro
    refine ⟨fun s' W hW b K Q hK' => ?_, fun K hK' => ?_⟩
    · obtain ⟨⟨x0, x1, x2, x3, x4⟩, d0⟩ := hK _ W hW
      go_simp
      exact hK' W hW
    go_simp
    refine hK' _ ?_
    clear hK' K
    refine ordv_read rfl (by go_simp) (by rfl) ?_
    apply Exists.intro
    refine ⟨fun s' W hW b K Q hK' => ?_, fun K hK' => ?_⟩
    · obtain ⟨⟨x0, x1, x2, x3, x4⟩, d0⟩ := hK _ W hW
      go_simp
      exact hK' W hW
    go_simp
    refine hK' _ ?_
    clear hK' K
    refine ordv_read rfl (by go_simp) (by rfl) ?_
    apply Exists.intro
    refine ⟨fun s' W hW b K Q hK' => ?_, fun K hK' => ?_⟩
    · obtain ⟨⟨x0, x1, x2, x3, x4⟩, d0⟩ := hK _ W hW
      go_simp
      exact hK' W hW
    go_simp
    refine hK' _ ?_
    clear hK' K
    refine ordv_read rfl (by go_simp) (by rfl) ?_
    apply Exists.intro
    refine ⟨fun s' W hW b K Q hK' => ?_, fun K hK' => ?_⟩
    · obtain ⟨⟨x0, x1, x2, x3, x4⟩, d0⟩ := hK _ W hW
      go_simp
      exact hK' W hW
    go_simp
    refine hK' _ ?_
    clear hK' K
    refine ordv_read rfl (by go_simp) (by rfl) ?_
    apply Exists.intro
    refine ⟨fun s' W hW b K Q hK' => ?_, fun K hK' => ?_⟩
    · obtain ⟨⟨x0, x1, x2, x3, x4⟩, d0⟩ := hK _ W hW
      go_simp
      exact hK' W hW
    go_simp
    refine hK' _ ?_
    clear hK' K
    refine ordv_turn rfl (by go_simp) (by rfl) (fun W hW b K Q hK' => ?_) (fun u hu K hK' => ?_)
    · go_simp
      go_at_call 28
      refine (h6 W hW).mono ?_
      rintro x w' ⟨vo, vc, rfl, h1⟩
      exact hK' _ w' h1
    obtain ⟨vo, vc, rfl⟩ : ∃ vo vc, u = tA t.id t.ver t.nm (.slice vo t.cols.length vc) t.key := by
      obtain ⟨W', hW'⟩ := hu
      exact hsh1 u W' hW'
    clear hu h6 hsh1
    go_simp
    refine hK' _ ?_
    clear hK' K
    refine ordv_nil ?_
    intro w5 hw5
    obtain ⟨t5, hv5⟩ := Hfin.out vo vc w5 hw5
    clear hK hw5 Hfin
    have V5 : Tch (fun _ => False) w0 w5 := Ht1.out.trans' t5
    have hRO5 := (HQ.out w5 V5).2.1
    obtain ⟨w4, hw4⟩ : ∃ w4, w4 = (((((w5.setCell ⟨T, k * 5, none⟩ (.int .i64 t.id)).setCell ⟨T, k * 5 + 1, none⟩ (.int .i64 t.ver)).setCell ⟨T, k * 5 + 2, none⟩ (.string t.nm)).setCell ⟨T, k * 5 + 3, none⟩ (.slice vo t.cols.length vc)).setCell ⟨T, k * 5 + 4, none⟩ (.int .i64 t.key)) := ⟨_, rfl⟩
    have hsz1 : w.heap.size ≤ w1.heap.size := (Ht0.out.trans' Ht1.out).size
    obtain ⟨hTO4, t4⟩ := hRO5.to.set5 (M := w1.heap.size) hk (t, .slice vo t.cols.length vc) hv5 (Nat.zero_le _) (fun g hg => by have := (H.out.bl_lt hg).1; omega) hw4
    have hdT : b ≠ T := fun e => hRO5.nb.1 (by rw [e]; rfl)
    obtain ⟨P', hP'⟩ : ∃ P', P' = P.set k (t, .slice vo t.cols.length vc) := ⟨_, rfl⟩
    obtain ⟨tv', htv'⟩ : ∃ tv', tv' = Value.slice (some ⟨T, 0, none⟩) P'.length tc := ⟨_, rfl⟩
    rw [← hP', ← htv'] at hTO4
    have hPl : P'.length = P.length := by rw [hP', List.length_set]
    have hBL4 : ∀ g, BL tv' P' g → BL (.slice (some ⟨T, 0, none⟩) P.length tc) P g ∨ w1.heap.size ≤ g := fun g hg => by
      rcases hg with e | ⟨i, hi, e⟩
      · rw [htv'] at e; exact Or.inl (Or.inl e)
      · have hiP : i < P.length := by omega
        have e2 : P'[i] = if k = i then (t, .slice vo t.cols.length vc) else P[i] := by simp only [hP', List.getElem_set]
        rw [e2] at e
        split at e
        · exact Or.inr (hv5.lt g e).1
        · exact Or.inl (Or.inr ⟨i, hiP, e⟩)
    have hdB : ∀ g, BL tv' P' g → g ≠ b := fun g hg e => by
      rcases hBL4 g hg with h | h
      · exact (H.out.bl_lt h).2 e
      · have := blk_lt H.out.blk; omega
    have HFin : Hid (RPut b (putE L gv t) (putL L t) (putG L gv t + 1) P (.slice (some ⟨T, 0, none⟩) P.length tc) w (.returned (.int .i64 0)) w4) := by
      rw [HE0.out, HPL2.out.1, HPL2.out.2]
      refine ⟨rfl, fun _ => ⟨P', tv', ⟨?_, Nat.zero_le _, ?_, hTO4, fun e => hdB b (Or.inl e) rfl, fun i hi e => hdB b (Or.inr ⟨i, hi, e⟩) rfl⟩, fun g hg => (hBL4 g hg).imp id (fun h => by omega), ?_⟩, fun e => absurd rfl e⟩
      · rw [t4.block b (blk_lt hRO5.blk) hdT, hRO5.blk, htv', hPl]
      · rw [hP', List.map_set, H.out.eq]
      · exact ((Ht0.out.trans' V5).mono (fun _ _ h => h.elim)).trans' (t4.mono (fun i _ h => Or.inr (Or.inl (by have h3 : i = T := h; rw [h3]; rfl))))
    obtain ⟨cur5, hc5b, hc5s, hkt⟩ : ∃ cur : Array Value, w5.heap[T]? = some (.cells cur 36 (0, 0)) ∧ cur.size = tc * 5 ∧ k < tc := by
      rcases hRO5.to.own.2 with ⟨h1, _⟩ | ⟨g, cap, cur, hv, hb0, hg, hnc, hcm, hcs, htk⟩
      · injection h1 with h1; cases h1
      · injection hv with e1 e2 e3
        injection e1 with e1
        injection e1 with e1
        subst e1 e3
        exact ⟨cur, hg, hcs, by omega⟩
    obtain ⟨⟨y0, e0⟩, ⟨y1, e1⟩, ⟨y2, e2⟩, ⟨y3, e3⟩, ⟨y4, e4⟩, hf⟩ := set5_cells hc5b hc5s hkt (.int .i64 t.id) (.int .i64 t.ver) (.string t.nm) (.slice vo t.cols.length vc)
    have f0 := hf (k * 5); have f1 := hf (k * 5 + 1); have f2 := hf (k * 5 + 2); have f3 := hf (k * 5 + 3); have f4 := hf (k * 5 + 4)
    have Hw4 : Hid _ := hw4
    clear hf hc5b hc5s hw4 t5 hv5 V5 hRO5 hTO4 t4 hdT hP' htv' hPl hBL4 hdB
    rw [Hw4.out] at HFin
    clear Hw4
    go_wp2_with fail
    go_ret
    exact HFin.out
  · subst heq
    have hne : ((k : Int) != (k : Int)) = false := by simp
    obtain ⟨C, hC⟩ : ∃ C : List Value → World → Prop, C = fun s W => match s with
      | [] => Tch (fun _ => False) w1 W
      | [y] => Tch (fun _ => False) w1 W ∧ ∃ vo vc, y = tA t.id t.ver t.nm (.slice vo t.cols.length vc) t.key ∧ W.ownsRow w1.heap.size 43 3 (.slice vo t.cols.length vc) t.cols.length (ccl t.cols)
      | _ => False := ⟨_, rfl⟩
    have hK : ∀ s W, C s W → (W.cell? ⟨N, 0, none⟩ = some (.int .i64 t.id) ∧ W.cell? ⟨N, 1, none⟩ = some (.int .i64 t.ver) ∧ W.cell? ⟨N, 2, none⟩ = some (.string t.nm) ∧ W.cell? ⟨N, 3, none⟩ = some (.slice ao t.cols.length c) ∧ W.cell? ⟨N, 4, none⟩ = some (.int .i64 t.key)) ∧ W.cell? ⟨b, 0, none⟩ = some (.slice (some ⟨T, 0, none⟩) P.length tc) := fun s W h => by
      have tW : Tch (fun _ => False) w1 W := by
        rw [hC] at h
        match s, h with
        | [], h => exact h
        | [_], h => exact h.1
      obtain ⟨h5, h6, _⟩ := HC.out W (t1.trans' tW)
      exact ⟨h5, h6⟩
    have h6 : ∀ W, C [] W → Calls Try.prog 28 #[tA t.id t.ver t.nm (.slice ao t.cols.length c) t.key] W fun x w' => ∃ vo vc, x = .returned (tA t.id t.ver t.nm (.slice vo t.cols.length vc) t.key) ∧ C [tA t.id t.ver t.nm (.slice vo t.cols.length vc) t.key] w' := fun W h => by
      rw [hC] at h ⊢
      refine (Hcp.out W (t1.trans' h)).mono ?_
      rintro x w' ⟨⟨v, rfl, hv⟩, t'⟩
      obtain ⟨vo, vc, rfl⟩ := row_slice hv
      exact ⟨vo, vc, rfl, Tch.trans' h t', vo, vc, rfl, own_low hv (Tch.size h)⟩
    have h0' : C [] w1.drew := by rw [hC]; exact (Tch.refl _ _).drew
    have hsh1 : ∀ y W, C [y] W → ∃ vo vc, y = tA t.id t.ver t.nm (.slice vo t.cols.length vc) t.key := fun y W h => by
      rw [hC] at h
      obtain ⟨_, vo, vc, e, _⟩ := h
      exact ⟨vo, vc, e⟩
    have Hfin : Hid (∀ vo vc W, C [tA t.id t.ver t.nm (.slice vo t.cols.length vc) t.key] W → Tch (fun _ => False) w1 W ∧ W.ownsRow w1.heap.size 43 3 (.slice vo t.cols.length vc) t.cols.length (ccl t.cols)) := fun vo vc W h => by
      rw [hC] at h
      obtain ⟨h1, vo', vc', e, h2⟩ := h
      have e' : vo = vo' ∧ vc = vc' := by simpa using e
      obtain ⟨rfl, rfl⟩ := e'
      exact ⟨h1, h2⟩
    have Ht1 : Hid _ := t1
    clear hC x0 x1 x2 x3 x4 d0 d1 t1
    go_wp2_with fail
    refine wp_region_ordv [6] C 7 [0, 1, 2, 3, 4, 5, 6] (by kernel_rfl) (by kernel_rfl) h0' ?_
    clear h0'
    refine ordv_read rfl (by go_simp) (by rfl) ?_
    apply Exists.intro
    refine ⟨fun s' W hW b K Q hK' => ?_, fun K hK' => ?_⟩
    · obtain ⟨⟨x0, x1, x2, x3, x4⟩, d0⟩ := hK _ W hW
      go_simp
      exact hK' W hW
    go_simp
    refine hK' _ ?_
    clear hK' K
    refine ordv_read rfl (by go_simp) (by rfl) ?_
    apply Exists.intro
    refine ⟨fun s' W hW b K Q hK' => ?_, fun K hK' => ?_⟩
    · obtain ⟨⟨x0, x1, x2, x3, x4⟩, d0⟩ := hK _ W hW
      go_simp
      exact hK' W hW
    go_simp
    refine hK' _ ?_
    clear hK' K
    refine ordv_read rfl (by go_simp) (by rfl) ?_
    apply Exists.intro
    refine ⟨fun s' W hW b K Q hK' => ?_, fun K hK' => ?_⟩
    · obtain ⟨⟨x0, x1, x2, x3, x4⟩, d0⟩ := hK _ W hW
      go_simp
      exact hK' W hW
    go_simp
    refine hK' _ ?_
    clear hK' K
    refine ordv_read rfl (by go_simp) (by rfl) ?_
    apply Exists.intro
    refine ⟨fun s' W hW b K Q hK' => ?_, fun K hK' => ?_⟩
    · obtain ⟨⟨x0, x1, x2, x3, x4⟩, d0⟩ := hK _ W hW
      go_simp
      exact hK' W hW
    go_simp
    refine hK' _ ?_
    clear hK' K
    refine ordv_read rfl (by go_simp) (by rfl) ?_
    apply Exists.intro
    refine ⟨fun s' W hW b K Q hK' => ?_, fun K hK' => ?_⟩
    · obtain ⟨⟨x0, x1, x2, x3, x4⟩, d0⟩ := hK _ W hW
      go_simp
      exact hK' W hW
    go_simp
    refine hK' _ ?_
    clear hK' K
    refine ordv_read rfl (by go_simp) (by rfl) ?_
    apply Exists.intro
    refine ⟨fun s' W hW b K Q hK' => ?_, fun K hK' => ?_⟩
    · obtain ⟨⟨x0, x1, x2, x3, x4⟩, d0⟩ := hK _ W hW
      go_simp
      exact hK' W hW
    go_simp
    refine hK' _ ?_
    clear hK' K
    refine ordv_turn rfl (by go_simp) (by rfl) (fun W hW b K Q hK' => ?_) (fun u hu K hK' => ?_)
    · go_simp
      go_at_call 28
      refine (h6 W hW).mono ?_
      rintro x w' ⟨vo, vc, rfl, h1⟩
      exact hK' _ w' h1
    obtain ⟨vo, vc, rfl⟩ : ∃ vo vc, u = tA t.id t.ver t.nm (.slice vo t.cols.length vc) t.key := by
      obtain ⟨W', hW'⟩ := hu
      exact hsh1 u W' hW'
    clear hu h6 hsh1
    go_simp
    refine hK' _ ?_
    clear hK' K
    refine ordv_nil ?_
    intro w5 hw5
    obtain ⟨t5, hv5⟩ := Hfin.out vo vc w5 hw5
    clear hK hw5 Hfin
    have V5 : Tch (fun _ => False) w0 w5 := Ht1.out.trans' t5
    have hRO5 := (HQ.out w5 V5).2.1
    obtain ⟨w4, hw4⟩ : ∃ w4, w4 = (((((w5.setCell ⟨T, k * 5, none⟩ (.int .i64 t.id)).setCell ⟨T, k * 5 + 1, none⟩ (.int .i64 t.ver)).setCell ⟨T, k * 5 + 2, none⟩ (.string t.nm)).setCell ⟨T, k * 5 + 3, none⟩ (.slice vo t.cols.length vc)).setCell ⟨T, k * 5 + 4, none⟩ (.int .i64 t.key)) := ⟨_, rfl⟩
    have hsz1 : w.heap.size ≤ w1.heap.size := (Ht0.out.trans' Ht1.out).size
    obtain ⟨hTO4, t4⟩ := hRO5.to.set5 (M := w1.heap.size) hk (t, .slice vo t.cols.length vc) hv5 (Nat.zero_le _) (fun g hg => by have := (H.out.bl_lt hg).1; omega) hw4
    have hdT : b ≠ T := fun e => hRO5.nb.1 (by rw [e]; rfl)
    obtain ⟨P', hP'⟩ : ∃ P', P' = P.set k (t, .slice vo t.cols.length vc) := ⟨_, rfl⟩
    obtain ⟨tv', htv'⟩ : ∃ tv', tv' = Value.slice (some ⟨T, 0, none⟩) P'.length tc := ⟨_, rfl⟩
    rw [← hP', ← htv'] at hTO4
    have hPl : P'.length = P.length := by rw [hP', List.length_set]
    have hBL4 : ∀ g, BL tv' P' g → BL (.slice (some ⟨T, 0, none⟩) P.length tc) P g ∨ w1.heap.size ≤ g := fun g hg => by
      rcases hg with e | ⟨i, hi, e⟩
      · rw [htv'] at e; exact Or.inl (Or.inl e)
      · have hiP : i < P.length := by omega
        have e2 : P'[i] = if k = i then (t, .slice vo t.cols.length vc) else P[i] := by simp only [hP', List.getElem_set]
        rw [e2] at e
        split at e
        · exact Or.inr (hv5.lt g e).1
        · exact Or.inl (Or.inr ⟨i, hiP, e⟩)
    have hdB : ∀ g, BL tv' P' g → g ≠ b := fun g hg e => by
      rcases hBL4 g hg with h | h
      · exact (H.out.bl_lt h).2 e
      · have := blk_lt H.out.blk; omega
    have HFin : Hid (RPut b (putE L gv t) (putL L t) (putG L gv t + 1) P (.slice (some ⟨T, 0, none⟩) P.length tc) w (.returned (.int .i64 0)) w4) := by
      rw [HE0.out, HPL2.out.1, HPL2.out.2]
      refine ⟨rfl, fun _ => ⟨P', tv', ⟨?_, Nat.zero_le _, ?_, hTO4, fun e => hdB b (Or.inl e) rfl, fun i hi e => hdB b (Or.inr ⟨i, hi, e⟩) rfl⟩, fun g hg => (hBL4 g hg).imp id (fun h => by omega), ?_⟩, fun e => absurd rfl e⟩
      · rw [t4.block b (blk_lt hRO5.blk) hdT, hRO5.blk, htv', hPl]
      · rw [hP', List.map_set, H.out.eq]
      · exact ((Ht0.out.trans' V5).mono (fun _ _ h => h.elim)).trans' (t4.mono (fun i _ h => Or.inr (Or.inl (by have h3 : i = T := h; rw [h3]; rfl))))
    obtain ⟨cur5, hc5b, hc5s, hkt⟩ : ∃ cur : Array Value, w5.heap[T]? = some (.cells cur 36 (0, 0)) ∧ cur.size = tc * 5 ∧ k < tc := by
      rcases hRO5.to.own.2 with ⟨h1, _⟩ | ⟨g, cap, cur, hv, hb0, hg, hnc, hcm, hcs, htk⟩
      · injection h1 with h1; cases h1
      · injection hv with e1 e2 e3
        injection e1 with e1
        injection e1 with e1
        subst e1 e3
        exact ⟨cur, hg, hcs, by omega⟩
    obtain ⟨⟨y0, e0⟩, ⟨y1, e1⟩, ⟨y2, e2⟩, ⟨y3, e3⟩, ⟨y4, e4⟩, hf⟩ := set5_cells hc5b hc5s hkt (.int .i64 t.id) (.int .i64 t.ver) (.string t.nm) (.slice vo t.cols.length vc)
    have f0 := hf (k * 5); have f1 := hf (k * 5 + 1); have f2 := hf (k * 5 + 2); have f3 := hf (k * 5 + 3); have f4 := hf (k * 5 + 4)
    have Hw4 : Hid _ := hw4
    clear hf hc5b hc5s hw4 t5 hv5 V5 hRO5 hTO4 t4 hdT hP' htv' hPl hBL4 hdB
    rw [Hw4.out] at HFin
    clear Hw4
    go_wp2_with fail
    go_ret
    exact HFin.out
end Go.Proofs.Ytolamjipigfocaa
