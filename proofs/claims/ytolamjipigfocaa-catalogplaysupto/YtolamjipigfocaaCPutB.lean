import Derived.Test.YtolamjipigfocaaCPutP
import Derived.Test.YtolamjipigfocaaCRef12
/- putting.on of the code: putOn_no. -/
namespace Go.Proofs.Ytolamjipigfocaa
open Go.RowKit Go

set_option maxHeartbeats 4000000 in
set_option maxRecDepth 100000 in
theorem putOn_no (base d : Nat) (L : List Tbl) (gv : Int) (P : List (Tbl × Value)) (tv : Value) (t : Tbl) (ao : Option Addr) (c : Nat) (w : World) (h : CO w base d L gv P tv) (ht : SL w ao (ccl t.cols)) (hno : ao = none → t.cols = [] ∧ c = 0) (hcap : t.cols.length ≤ c) (hcl : t.cols.length ≤ 9223372036854775807) (hl : P.length ≤ 16) (h0 : 0 ≤ gv) (h1 : gv ≤ 2147483647) (hbase : base ≤ w.heap.size) (hEE : putE L gv t ≠ 0) :
    Calls Try.prog 69 #[tA t.id t.ver t.nm (.slice ao t.cols.length c) t.key, .pointer (some ⟨d, 0, none⟩)] w fun x w' => OnOut base d (putE L gv t) (fun _ v => v = tA t.id t.ver t.nm (.slice ao t.cols.length c) t.key) (putL L t) (putG L gv t) x w' ∧ Tch (fun i => base ≤ i) w w' := by
  obtain ⟨to, tc, htv⟩ := row_slice h.to.own
  subst htv
  obtain ⟨N, hN⟩ : ∃ N, N = w.heap.size := ⟨_, rfl⟩
  obtain ⟨w0, hw0⟩ : ∃ w0, w0 = (w.alloc (.cells #[.int .i64 t.id, .int .i64 t.ver, .string t.nm, .slice ao t.cols.length c, .int .i64 t.key] 104)).alloc (.cells #[.int .i64 0, .int .i64 0, .string ⟨#[]⟩, .slice none 0 0, .int .i64 0] 36) := ⟨_, rfl⟩
  have t0 : Tch (fun _ => False) w w0 := by rw [hw0]; exact (Tch.alloc _ _ _).allocR _
  have hX : w0.heap[N]? = some (.cells #[.int .i64 t.id, .int .i64 t.ver, .string t.nm, .slice ao t.cols.length c, .int .i64 t.key] 104 (0, 0)) := by
    rw [hw0, hN]; exact (Tch.alloc (fun _ => False) _ _).block _ (by simp) (fun h => h) |>.trans (alloc_new _ _)
  have hY : w0.heap[N + 1]? = some (.cells #[.int .i64 0, .int .i64 0, .string ⟨#[]⟩, .slice none 0 0, .int .i64 0] 36 (0, 0)) := by
    rw [hw0, hN, ← World.size_alloc]; exact alloc_new _ _
  have hdN : d < N := by rw [hN]; exact blk_lt h.blk
  have H0 : Hid (CO w0 base d L gv P (.slice to P.length tc)) := h.tch t0 (fun _ _ _ h => h)
  have HQ : Hid (∀ W, Tch (fun _ => False) w0 W → W.heap[N]? = some (.cells #[.int .i64 t.id, .int .i64 t.ver, .string t.nm, .slice ao t.cols.length c, .int .i64 t.key] 104 (0, 0)) ∧ W.heap[N + 1]? = some (.cells #[.int .i64 0, .int .i64 0, .string ⟨#[]⟩, .slice none 0 0, .int .i64 0] 36 (0, 0)) ∧ CO W base d L gv P (.slice to P.length tc) ∧ SL W ao (ccl t.cols)) := fun W tW => ⟨by rw [tW.block N (blk_lt hX) (fun h => h)]; exact hX, by rw [tW.block (N + 1) (blk_lt hY) (fun h => h)]; exact hY, H0.out.tch tW (fun _ _ _ h => h), (ht.no t0).no tW⟩
  have HC : Hid (∀ W, Tch (fun _ => False) w0 W → Tch (fun _ => False) w0 W ∧ (W.cell? ⟨N, 0, none⟩ = some (.int .i64 t.id) ∧ W.cell? ⟨N, 1, none⟩ = some (.int .i64 t.ver) ∧ W.cell? ⟨N, 2, none⟩ = some (.string t.nm) ∧ W.cell? ⟨N, 3, none⟩ = some (.slice ao t.cols.length c) ∧ W.cell? ⟨N, 4, none⟩ = some (.int .i64 t.key)) ∧ W.cell? ⟨d, 0, none⟩ = some (.slice to P.length tc) ∧ W.cell? ⟨d, 1, none⟩ = some (.int .i64 gv)) := fun W tW => by
    obtain ⟨a1, a2, a3, _⟩ := HQ.out W tW
    exact ⟨tW, ⟨by rw [blk_cell a1]; rfl, by rw [blk_cell a1]; rfl, by rw [blk_cell a1]; rfl, by rw [blk_cell a1]; rfl, by rw [blk_cell a1]; rfl⟩, by rw [blk_cell a3.blk]; rfl, by rw [blk_cell a3.blk]; rfl⟩
  have HZ : Hid (∀ W, Tch (fun _ => False) w0 W → (W.cell? ⟨N + 1, 0, none⟩ = some (.int .i64 0) ∧ W.cell? ⟨N + 1, 1, none⟩ = some (.int .i64 0) ∧ W.cell? ⟨N + 1, 2, none⟩ = some (.string ⟨#[]⟩) ∧ W.cell? ⟨N + 1, 3, none⟩ = some (.slice none 0 0) ∧ W.cell? ⟨N + 1, 4, none⟩ = some (.int .i64 0)) ∧ ∀ j, W.frozen? ⟨N + 1, j, none⟩ = false) := fun W tW => by
    obtain ⟨a1, a2, a3, _⟩ := HQ.out W tW
    exact ⟨⟨by rw [blk_cell a2]; rfl, by rw [blk_cell a2]; rfl, by rw [blk_cell a2]; rfl, by rw [blk_cell a2]; rfl, by rw [blk_cell a2]; rfl⟩, fun j => blk_frozen a2 j⟩
  have hrs : Try.f69.results = #[.cell 4 36, .tmp 5] := by kernel_rfl
  have Hrs : Hid _ := hrs
  have Hq1 : Hid (∀ W, Tch (fun _ => False) w0 W → Calls Try.prog 56 #[.pointer (some ⟨d, 0, none⟩), .int .i64 t.id] W fun x w' => x = .returned (.int .i64 (posP (fun u => decide (u.id = t.id)) P)) ∧ Tch (fun _ => False) W w') := fun W tW => id3_any d to tc P _ t.id W (HC.out W tW).2.2.1 (HQ.out W tW).2.2.1.to.toTL hl
  have Hq2 : Hid (∀ W, Tch (fun _ => False) w0 W → Calls Try.prog 55 #[.pointer (some ⟨d, 0, none⟩), .string t.nm] W fun x w' => x = .returned (.int .i64 (posP (fun u => decide (u.nm = t.nm)) P)) ∧ Tch (fun _ => False) W w') := fun W tW => nm3_any d to tc P _ t.nm W (HC.out W tW).2.2.1 (HQ.out W tW).2.2.1.to.toTL hl
  have Hq3 : Hid (∀ W, Tch (fun _ => False) w0 W → Calls Try.prog 15 #[.pointer (some ⟨d, 0, none⟩)] W fun x w' => x = .returned (.int .i64 (gv + 1)) ∧ w' = W) := fun W tW => next_any d gv W (HC.out W tW).2.2.2 h0 (by omega)
  obtain ⟨r1, hr1⟩ : ∃ r1, r1 = posP (fun u => decide (u.id = t.id)) P := ⟨_, rfl⟩
  obtain ⟨r2, hr2⟩ : ∃ r2, r2 = posP (fun u => decide (u.nm = t.nm)) P := ⟨_, rfl⟩
  rw [← hr1] at Hq1
  rw [← hr2] at Hq2
  have hLl : L.length = P.length := by rw [← h.eq]; simp
  have HPE : Hid (putE L gv t = if rightE t ≠ 0 then rightE t else if r1 < 0 ∧ t.id ≠ gv + 1 then 52 else if 0 ≤ r2 ∧ r2 ≠ r1 then 51 else if r1 < 0 ∧ P.length = 16 then 53 else 0) := by
    show _ = _
    unfold putE
    rw [hr1, hr2, posP_L, posP_L, h.eq, hLl]
  have HPL : Hid (putL L t = if r1 < 0 then L ++ [t] else L.set r1.toNat t) := by
    show _ = _
    unfold putL
    rw [hr1, posP_L, h.eq]
  have HPG : Hid (putG L gv t = if r1 < 0 then gv + 1 else gv) := by
    show _ = _
    unfold putG
    rw [hr1, posP_L, h.eq]
  have Hr1 : Hid (r1 = posP (fun u => decide (u.id = t.id)) P) := hr1
  obtain ⟨E, hE⟩ : ∃ E, E = putE L gv t := ⟨_, rfl⟩
  have HE : Hid (E = putE L gv t) := hE
  have Hw0 : Hid _ := hw0
  have HN : Hid (N = w.heap.size) := hN
  have Ht0 : Hid (Tch (fun _ => False) w w0) := t0
  have H : Hid (CO w base d L gv P (.slice to P.length tc)) := h
  have HErr : Hid (∀ W, Tch (fun _ => False) w0 W → E ≠ 0 → ∀ W', W' = ((((W.setCell ⟨N + 1, 0, none⟩ (.int .i64 0)).setCell ⟨N + 1, 1, none⟩ (.int .i64 0)).setCell ⟨N + 1, 2, none⟩ (.string ⟨#[]⟩)).setCell ⟨N + 1, 3, none⟩ (.slice none 0 0)).setCell ⟨N + 1, 4, none⟩ (.int .i64 0) → (∀ tmps : Array Value, tmps[4]?.getD undef = .pointer (some ⟨N + 1, 0, none⟩) → tmps[5]?.getD undef = .int .i64 E → (results Try.f69 tmps).run Try.prog W' = .ok (.tuple #[zA, .int .i64 E]) W') ∧ OnOut base d (putE L gv t) (fun _ v => v = tA t.id t.ver t.nm (.slice ao t.cols.length c) t.key) (putL L t) (putG L gv t) (.returned (.tuple #[zA, .int .i64 E])) W' ∧ Tch (fun i => base ≤ i) w W') := fun W tW hE0 W' hW' => by
    obtain ⟨_, a2, a3, _⟩ := HQ.out W tW
    have tE : Tch (fun i => i = N + 1) W W' := by rw [hW']; exact ((((Tch.setCell (fun i => i = N + 1) W ⟨N + 1, 0, none⟩ _ rfl).setCellR ⟨N + 1, 1, none⟩ _ rfl).setCellR ⟨N + 1, 2, none⟩ _ rfl).setCellR ⟨N + 1, 3, none⟩ _ rfl).setCellR ⟨N + 1, 4, none⟩ _ rfl
    have hb : W'.heap[N + 1]? = some (.cells #[.int .i64 0, .int .i64 0, .string ⟨#[]⟩, .slice none 0 0, .int .i64 0] 36 (0, 0)) := by
      rw [hW', blk_set (blk_set (blk_set (blk_set (blk_set a2 _) _) _) _) _]; rfl
    refine ⟨fun tmps h4 h5 => res_pair Hrs.out h4 h5 (by rw [blk_cell hb]; rfl) (by rw [blk_cell hb]; rfl) (by rw [blk_cell hb]; rfl) (by rw [blk_cell hb]; rfl) (by rw [blk_cell hb]; rfl), ⟨fun e => absurd (hE.trans e) hE0, fun _ => ⟨by rw [hE], ?_⟩⟩, ?_⟩
    · exact ⟨.slice to P.length tc, gv, P.length, tcl P, by rw [tE.block d (blk_lt a3.blk) (by omega)]; exact a3.blk, a3.ge, own_tch a3.to.own tE (fun g e e2 => by have := (h.to.own.lt g e).2; omega), a3.nb.1, by omega⟩
    · exact ((t0.trans' tW).mono (T := fun i => base ≤ i) (fun _ _ h => h.elim)).trans tE (fun i hi e => by omega)
  have _u := hno
  have _u2 := hbase
  clear _u _u2
  have HE0 : Hid (E ≠ 0) := by show _ ≠ _; rw [hE]; exact hEE
  have q1 := right_any t ao c w0 (HQ.out w0 (Tch.refl _ _)).2.2.2 hcap hcl
  obtain ⟨R, hR⟩ : ∃ R, R = rightE t := ⟨_, rfl⟩
  rw [← hR] at q1 HPE
  rw [← hE] at HPE
  clear hEE hR
  clear h hw0 hN hX hY ht t0 hr1 hr2 hE hrs
  obtain ⟨_, ⟨x0, x1, x2, x3, x4⟩, d0, d1⟩ := HC.out w0 (Tch.refl _ _)
  go_enter Try.func69, Try.ntmps69
  go_wp2_with fail
  rw [← HN.out]
  have hw0 := Hw0.out
  rw [← hw0]
  clear hw0
  refine q1.mono ?_
  rintro y w1 ⟨rfl, t1⟩
  clear q1 x0 x1 x2 x3 x4 d0 d1
  have hzz : ∀ W, Tch (fun _ => False) w0 W → _ := fun W tW => HZ.out W tW
  by_cases hR0 : R = 0
  · subst hR0
    have hPE := HPE.out
    rw [if_neg (by simp)] at hPE
    obtain ⟨_, ⟨x0, x1, x2, x3, x4⟩, d0, d1⟩ := HC.out w1 t1
    go_wp2_with fail
    go_region_held3 (fun W => Tch (fun _ => False) w0 W ∧ (W.cell? ⟨N, 0, none⟩ = some (.int .i64 t.id) ∧ W.cell? ⟨N, 1, none⟩ = some (.int .i64 t.ver) ∧ W.cell? ⟨N, 2, none⟩ = some (.string t.nm) ∧ W.cell? ⟨N, 3, none⟩ = some (.slice ao t.cols.length c) ∧ W.cell? ⟨N, 4, none⟩ = some (.int .i64 t.key)) ∧ W.cell? ⟨d, 0, none⟩ = some (.slice to P.length tc) ∧ W.cell? ⟨d, 1, none⟩ = some (.int .i64 gv))
      ((refine HC.out _ ?_; first | assumption | exact Tch.drew t1))
      (first
        | (go_at_call 56; refine (Hq1.out _ (show _ ∧ _ by assumption).1).mono ?_; rintro y v1 ⟨rfl, s1⟩; have V1 := Tch.trans' (show _ ∧ _ by assumption).1 s1)
        | (go_at_call 55; refine (Hq2.out _ V1).mono ?_; rintro y w2 ⟨rfl, s2⟩; have V2 := Tch.trans' V1 s2))
    clear x0 x1 x2 x3 x4 d0 d1
    obtain ⟨_, ⟨x0, x1, x2, x3, x4⟩, d0, d1⟩ := HC.out w2 V2
    have g2' := (HZ.out w2 V2)
    obtain ⟨⟨z0, z1, z2, z3, z4⟩, hzf⟩ := g2'
    have g0 := hzf 0; have g1 := hzf 1; have g2 := hzf 2; have g3 := hzf 3; have g4 := hzf 4
    clear hzf
    have HnxQ : Hid (∀ nq : Nat, Calls Try.prog 15 #[.pointer (some ⟨d, 0, none⟩)] (w2.drewN nq) fun x w' => x = .returned (.int .i64 (gv + 1)) ∧ w' = w2.drewN nq) := fun nq => Hq3.out _ (V2.drewN _)
    have HV : Hid (Tch (fun _ => False) w0 w2) := V2
    clear V2 V1 s1 s2 t1 hzz
    by_cases h52 : r1 < 0
    · by_cases hid : t.id = gv + 1
      · -- named or many
        rw [if_neg (by omega)] at hPE
        have hb1 : (t.id != gv + 1) = false := by simpa using hid
        have hr1n : ¬ (0 : Int) ≤ r1 := by omega
        clear hid
        by_cases h51 : 0 ≤ r2
        · have hne : (r2 != r1) = true := by simp; omega
          rw [if_pos ⟨h51, by omega⟩] at hPE
          have HE5 : Hid (E = 51) := hPE
          clear hPE HPE
          go_wp2_with fail
          go_quiet ((go_at_call 15; exact Calls.quiet_of_same (HnxQ.out _)))
          have hEr := HErr.out (w2.drewN nq) (HV.out.drewN _) HE0.out
          rw [HE5.out] at hEr
          have HEr : Hid _ := hEr
          clear hEr
          obtain ⟨⟨z0, z1, z2, z3, z4⟩, hzf⟩ := HZ.out (w2.drewN nq) (HV.out.drewN _)
          have g0 := hzf 0; have g1 := hzf 1; have g2 := hzf 2; have g3 := hzf 3; have g4 := hzf 4
          clear hzf
          go_wp2_with fail
          refine bodyPost_ret ((HEr.out _ rfl).1 _ ?_ ?_) rfl (HEr.out _ rfl).2 <;> rfl
        · rw [if_neg (by omega)] at hPE
          have h16 : P.length = 16 := by
            refine Classical.byContradiction fun e => ?_
            rw [if_neg (by omega)] at hPE
            exact HE0.out hPE
          rw [if_pos ⟨h52, h16⟩] at hPE
          have HE5 : Hid (E = 53) := hPE
          have h16b : ((P.length : Int) == 16) = true := by simp; omega
          clear hPE HPE h16
          go_wp2_with fail
          go_quiet ((go_at_call 15; exact Calls.quiet_of_same (HnxQ.out _)))
          have hEr := HErr.out (w2.drewN nq) (HV.out.drewN _) HE0.out
          rw [HE5.out] at hEr
          have HEr : Hid _ := hEr
          clear hEr
          obtain ⟨⟨z0, z1, z2, z3, z4⟩, hzf⟩ := HZ.out (w2.drewN nq) (HV.out.drewN _)
          have g0 := hzf 0; have g1 := hzf 1; have g2 := hzf 2; have g3 := hzf 3; have g4 := hzf 4
          obtain ⟨_, ⟨x0, x1, x2, x3, x4⟩, d0, d1⟩ := HC.out (w2.drewN nq) (HV.out.drewN _)
          clear hzf
          go_wp2_with fail
          refine bodyPost_ret ((HEr.out _ rfl).1 _ ?_ ?_) rfl (HEr.out _ rfl).2 <;> rfl
      · rw [if_pos ⟨h52, hid⟩] at hPE
        have hb1 : (t.id != gv + 1) = true := by simpa using hid
        have HE5 : Hid (E = 52) := hPE
        clear hPE HPE hid
        go_wp2_with fail
        go_quiet ((go_at_call 15; exact Calls.quiet_of_same (HnxQ.out _)))
        have hEr := HErr.out (w2.drewN nq) (HV.out.drewN _) HE0.out
        rw [HE5.out] at hEr
        have HEr : Hid _ := hEr
        clear hEr
        obtain ⟨⟨z0, z1, z2, z3, z4⟩, hzf⟩ := HZ.out (w2.drewN nq) (HV.out.drewN _)
        have g0 := hzf 0; have g1 := hzf 1; have g2 := hzf 2; have g3 := hzf 3; have g4 := hzf 4
        clear hzf
        go_wp2_with fail
        refine bodyPost_ret ((HEr.out _ rfl).1 _ ?_ ?_) rfl (HEr.out _ rfl).2 <;> rfl
    · rw [if_neg (by omega)] at hPE
      have h51 : 0 ≤ r2 ∧ r2 ≠ r1 := by
        refine Classical.byContradiction fun e => ?_
        rw [if_neg e, if_neg (by omega)] at hPE
        exact HE0.out hPE
      rw [if_pos h51] at hPE
      have HE5 : Hid (E = 51) := hPE
      have hne : (r2 != r1) = true := by simpa using h51.2
      have h510 : 0 ≤ r2 := h51.1
      clear hPE HPE h51
      go_wp2_with fail
      have h52' : ¬ r1 < 0 := by omega
      go_quiet ((go_at_call 15; exact Calls.quiet_of_same (HnxQ.out _)))
      have hEr := HErr.out (w2.drewN nq) (HV.out.drewN _) HE0.out
      rw [HE5.out] at hEr
      have HEr : Hid _ := hEr
      clear hEr
      obtain ⟨⟨z0, z1, z2, z3, z4⟩, hzf⟩ := HZ.out (w2.drewN nq) (HV.out.drewN _)
      have g0 := hzf 0; have g1 := hzf 1; have g2 := hzf 2; have g3 := hzf 3; have g4 := hzf 4
      clear hzf
      go_wp2_with fail
      refine bodyPost_ret ((HEr.out _ rfl).1 _ ?_ ?_) rfl (HEr.out _ rfl).2 <;> rfl
  · have hPE := HPE.out
    rw [if_pos hR0] at hPE
    have HE5 : Hid (E = R) := hPE
    have hb4 : (R != 0) = true := by simpa using hR0
    have hEr := HErr.out w1 t1 HE0.out
    rw [HE5.out] at hEr
    have HEr : Hid _ := hEr
    obtain ⟨⟨z0, z1, z2, z3, z4⟩, hzf⟩ := HZ.out w1 t1
    have g0 := hzf 0; have g1 := hzf 1; have g2 := hzf 2; have g3 := hzf 3; have g4 := hzf 4
    clear hEr hPE HPE hzz hzf hR0
    go_wp2_with fail
    refine bodyPost_ret ((HEr.out _ rfl).1 _ ?_ ?_) rfl (HEr.out _ rfl).2 <;> rfl
end Go.Proofs.Ytolamjipigfocaa
/- putting.on of the code: putOn_new. -/
namespace Go.Proofs.Ytolamjipigfocaa
open Go.RowKit Go

set_option maxHeartbeats 4000000 in
set_option maxRecDepth 100000 in
theorem putOn_new (base d : Nat) (L : List Tbl) (gv : Int) (P : List (Tbl × Value)) (tv : Value) (t : Tbl) (ao : Option Addr) (c : Nat) (w : World) (h : CO w base d L gv P tv) (ht : SL w ao (ccl t.cols)) (hno : ao = none → t.cols = [] ∧ c = 0) (hcap : t.cols.length ≤ c) (hcl : t.cols.length ≤ 9223372036854775807) (hl : P.length ≤ 16) (h0 : 0 ≤ gv) (h1 : gv ≤ 2147483647) (hbase : base ≤ w.heap.size) (hEE : putE L gv t = 0) (hnew : posP (fun u => decide (u.id = t.id)) P < 0) :
    Calls Try.prog 69 #[tA t.id t.ver t.nm (.slice ao t.cols.length c) t.key, .pointer (some ⟨d, 0, none⟩)] w fun x w' => OnOut base d (putE L gv t) (fun _ v => v = tA t.id t.ver t.nm (.slice ao t.cols.length c) t.key) (putL L t) (putG L gv t) x w' ∧ Tch (fun i => base ≤ i) w w' := by
  obtain ⟨to, tc, htv⟩ := row_slice h.to.own
  subst htv
  obtain ⟨N, hN⟩ : ∃ N, N = w.heap.size := ⟨_, rfl⟩
  obtain ⟨w0, hw0⟩ : ∃ w0, w0 = (w.alloc (.cells #[.int .i64 t.id, .int .i64 t.ver, .string t.nm, .slice ao t.cols.length c, .int .i64 t.key] 104)).alloc (.cells #[.int .i64 0, .int .i64 0, .string ⟨#[]⟩, .slice none 0 0, .int .i64 0] 36) := ⟨_, rfl⟩
  have t0 : Tch (fun _ => False) w w0 := by rw [hw0]; exact (Tch.alloc _ _ _).allocR _
  have hX : w0.heap[N]? = some (.cells #[.int .i64 t.id, .int .i64 t.ver, .string t.nm, .slice ao t.cols.length c, .int .i64 t.key] 104 (0, 0)) := by
    rw [hw0, hN]; exact (Tch.alloc (fun _ => False) _ _).block _ (by simp) (fun h => h) |>.trans (alloc_new _ _)
  have hY : w0.heap[N + 1]? = some (.cells #[.int .i64 0, .int .i64 0, .string ⟨#[]⟩, .slice none 0 0, .int .i64 0] 36 (0, 0)) := by
    rw [hw0, hN, ← World.size_alloc]; exact alloc_new _ _
  have hdN : d < N := by rw [hN]; exact blk_lt h.blk
  have H0 : Hid (CO w0 base d L gv P (.slice to P.length tc)) := h.tch t0 (fun _ _ _ h => h)
  have HQ : Hid (∀ W, Tch (fun _ => False) w0 W → W.heap[N]? = some (.cells #[.int .i64 t.id, .int .i64 t.ver, .string t.nm, .slice ao t.cols.length c, .int .i64 t.key] 104 (0, 0)) ∧ W.heap[N + 1]? = some (.cells #[.int .i64 0, .int .i64 0, .string ⟨#[]⟩, .slice none 0 0, .int .i64 0] 36 (0, 0)) ∧ CO W base d L gv P (.slice to P.length tc) ∧ SL W ao (ccl t.cols)) := fun W tW => ⟨by rw [tW.block N (blk_lt hX) (fun h => h)]; exact hX, by rw [tW.block (N + 1) (blk_lt hY) (fun h => h)]; exact hY, H0.out.tch tW (fun _ _ _ h => h), (ht.no t0).no tW⟩
  have HC : Hid (∀ W, Tch (fun _ => False) w0 W → Tch (fun _ => False) w0 W ∧ (W.cell? ⟨N, 0, none⟩ = some (.int .i64 t.id) ∧ W.cell? ⟨N, 1, none⟩ = some (.int .i64 t.ver) ∧ W.cell? ⟨N, 2, none⟩ = some (.string t.nm) ∧ W.cell? ⟨N, 3, none⟩ = some (.slice ao t.cols.length c) ∧ W.cell? ⟨N, 4, none⟩ = some (.int .i64 t.key)) ∧ W.cell? ⟨d, 0, none⟩ = some (.slice to P.length tc) ∧ W.cell? ⟨d, 1, none⟩ = some (.int .i64 gv)) := fun W tW => by
    obtain ⟨a1, a2, a3, _⟩ := HQ.out W tW
    exact ⟨tW, ⟨by rw [blk_cell a1]; rfl, by rw [blk_cell a1]; rfl, by rw [blk_cell a1]; rfl, by rw [blk_cell a1]; rfl, by rw [blk_cell a1]; rfl⟩, by rw [blk_cell a3.blk]; rfl, by rw [blk_cell a3.blk]; rfl⟩
  have HZ : Hid (∀ W, Tch (fun _ => False) w0 W → (W.cell? ⟨N + 1, 0, none⟩ = some (.int .i64 0) ∧ W.cell? ⟨N + 1, 1, none⟩ = some (.int .i64 0) ∧ W.cell? ⟨N + 1, 2, none⟩ = some (.string ⟨#[]⟩) ∧ W.cell? ⟨N + 1, 3, none⟩ = some (.slice none 0 0) ∧ W.cell? ⟨N + 1, 4, none⟩ = some (.int .i64 0)) ∧ ∀ j, W.frozen? ⟨N + 1, j, none⟩ = false) := fun W tW => by
    obtain ⟨a1, a2, a3, _⟩ := HQ.out W tW
    exact ⟨⟨by rw [blk_cell a2]; rfl, by rw [blk_cell a2]; rfl, by rw [blk_cell a2]; rfl, by rw [blk_cell a2]; rfl, by rw [blk_cell a2]; rfl⟩, fun j => blk_frozen a2 j⟩
  have hrs : Try.f69.results = #[.cell 4 36, .tmp 5] := by kernel_rfl
  have Hrs : Hid _ := hrs
  have Hq1 : Hid (∀ W, Tch (fun _ => False) w0 W → Calls Try.prog 56 #[.pointer (some ⟨d, 0, none⟩), .int .i64 t.id] W fun x w' => x = .returned (.int .i64 (posP (fun u => decide (u.id = t.id)) P)) ∧ Tch (fun _ => False) W w') := fun W tW => id3_any d to tc P _ t.id W (HC.out W tW).2.2.1 (HQ.out W tW).2.2.1.to.toTL hl
  have Hq2 : Hid (∀ W, Tch (fun _ => False) w0 W → Calls Try.prog 55 #[.pointer (some ⟨d, 0, none⟩), .string t.nm] W fun x w' => x = .returned (.int .i64 (posP (fun u => decide (u.nm = t.nm)) P)) ∧ Tch (fun _ => False) W w') := fun W tW => nm3_any d to tc P _ t.nm W (HC.out W tW).2.2.1 (HQ.out W tW).2.2.1.to.toTL hl
  have Hq3 : Hid (∀ W, Tch (fun _ => False) w0 W → Calls Try.prog 15 #[.pointer (some ⟨d, 0, none⟩)] W fun x w' => x = .returned (.int .i64 (gv + 1)) ∧ w' = W) := fun W tW => next_any d gv W (HC.out W tW).2.2.2 h0 (by omega)
  obtain ⟨r1, hr1⟩ : ∃ r1, r1 = posP (fun u => decide (u.id = t.id)) P := ⟨_, rfl⟩
  obtain ⟨r2, hr2⟩ : ∃ r2, r2 = posP (fun u => decide (u.nm = t.nm)) P := ⟨_, rfl⟩
  rw [← hr1] at Hq1
  rw [← hr2] at Hq2
  have hLl : L.length = P.length := by rw [← h.eq]; simp
  have HPE : Hid (putE L gv t = if rightE t ≠ 0 then rightE t else if r1 < 0 ∧ t.id ≠ gv + 1 then 52 else if 0 ≤ r2 ∧ r2 ≠ r1 then 51 else if r1 < 0 ∧ P.length = 16 then 53 else 0) := by
    show _ = _
    unfold putE
    rw [hr1, hr2, posP_L, posP_L, h.eq, hLl]
  have HPL : Hid (putL L t = if r1 < 0 then L ++ [t] else L.set r1.toNat t) := by
    show _ = _
    unfold putL
    rw [hr1, posP_L, h.eq]
  have HPG : Hid (putG L gv t = if r1 < 0 then gv + 1 else gv) := by
    show _ = _
    unfold putG
    rw [hr1, posP_L, h.eq]
  have Hr1 : Hid (r1 = posP (fun u => decide (u.id = t.id)) P) := hr1
  obtain ⟨E, hE⟩ : ∃ E, E = putE L gv t := ⟨_, rfl⟩
  have HE : Hid (E = putE L gv t) := hE
  have Hw0 : Hid _ := hw0
  have HN : Hid (N = w.heap.size) := hN
  have Ht0 : Hid (Tch (fun _ => False) w w0) := t0
  have H : Hid (CO w base d L gv P (.slice to P.length tc)) := h
  have HE0 : Hid (putE L gv t = 0) := hEE
  have hPE := HPE.out
  rw [hEE] at hPE
  have hR0 : rightE t = 0 := by
    refine Classical.byContradiction fun e => ?_
    rw [if_pos e] at hPE
    exact e hPE.symm
  rw [if_neg (by simp [hR0])] at hPE
  have h52 : ¬ (r1 < 0 ∧ t.id ≠ gv + 1) := fun e => by rw [if_pos e] at hPE; simp at hPE
  rw [if_neg h52] at hPE
  have h51 : ¬ (0 ≤ r2 ∧ r2 ≠ r1) := fun e => by rw [if_pos e] at hPE; simp at hPE
  rw [if_neg h51] at hPE
  have h53 : ¬ (r1 < 0 ∧ P.length = 16) := fun e => by rw [if_pos e] at hPE; simp at hPE
  have q1 := right_any t ao c w0 (HQ.out w0 (Tch.refl _ _)).2.2.2 hcap hcl
  rw [hR0] at q1
  have h8 := (right_len hR0).2
  clear hEE hPE HPE hR0
  rw [← hr1] at hnew
  have hid : t.id = gv + 1 := Classical.byContradiction fun e => h52 ⟨hnew, e⟩
  have hb1 : (t.id != gv + 1) = false := by simpa using hid
  have hr2n : r2 < 0 := by
    refine Classical.byContradiction fun e => h51 ⟨by omega, by omega⟩
  have hr2n' : ¬ (0 : Int) ≤ r2 := by omega
  have h16 : ¬ P.length = 16 := fun e => h53 ⟨hnew, e⟩
  have h16b : ((P.length : Int) == 16) = false := beq_eq_false_iff_ne.2 (by omega)
  have hP15 : P.length ≤ 15 := by omega
  have Hid1 : Hid (t.id = gv + 1) := hid
  have HPL2 : Hid (putL L t = L ++ [t] ∧ putG L gv t = gv + 1) := ⟨by rw [HPL.out, if_pos hnew], by rw [HPG.out, if_pos hnew]⟩
  have H8 : Hid (t.cols.length ≤ 8) := h8
  have Hta : Hid (∀ W, Tch (fun _ => False) w0 W → TA W t ao c) := fun W tW => ⟨(HQ.out W tW).2.2.2, hno, hcap⟩
  clear h52 h51 h53 hid h16 h8 HPL HPG
  clear h hw0 hN hX hY ht t0 hr1 hr2 hE hrs
  obtain ⟨_, ⟨x0, x1, x2, x3, x4⟩, d0, d1⟩ := HC.out w0 (Tch.refl _ _)
  go_enter Try.func69, Try.ntmps69
  go_wp2_with fail
  rw [← HN.out]
  have hw0 := Hw0.out
  rw [← hw0]
  clear hw0
  refine q1.mono ?_
  rintro y w1 ⟨rfl, t1⟩
  clear q1 x0 x1 x2 x3 x4 d0 d1
  obtain ⟨_, ⟨x0, x1, x2, x3, x4⟩, d0, d1⟩ := HC.out w1 t1
  go_wp2_with fail
  go_region_held3 (fun W => Tch (fun _ => False) w0 W ∧ (W.cell? ⟨N, 0, none⟩ = some (.int .i64 t.id) ∧ W.cell? ⟨N, 1, none⟩ = some (.int .i64 t.ver) ∧ W.cell? ⟨N, 2, none⟩ = some (.string t.nm) ∧ W.cell? ⟨N, 3, none⟩ = some (.slice ao t.cols.length c) ∧ W.cell? ⟨N, 4, none⟩ = some (.int .i64 t.key)) ∧ W.cell? ⟨d, 0, none⟩ = some (.slice to P.length tc) ∧ W.cell? ⟨d, 1, none⟩ = some (.int .i64 gv))
    ((refine HC.out _ ?_; first | assumption | exact Tch.drew t1))
    (first
      | (go_at_call 56; refine (Hq1.out _ (show _ ∧ _ by assumption).1).mono ?_; rintro y v1 ⟨rfl, s1⟩; have V1 := Tch.trans' (show _ ∧ _ by assumption).1 s1)
      | (go_at_call 55; refine (Hq2.out _ V1).mono ?_; rintro y w2 ⟨rfl, s2⟩; have V2 := Tch.trans' V1 s2))
  clear x0 x1 x2 x3 x4 d0 d1
  obtain ⟨_, ⟨x0, x1, x2, x3, x4⟩, d0, d1⟩ := HC.out w2 V2
  have HnxQ : Hid (∀ nq : Nat, Calls Try.prog 15 #[.pointer (some ⟨d, 0, none⟩)] (w2.drewN nq) fun x w' => x = .returned (.int .i64 (gv + 1)) ∧ w' = w2.drewN nq) := fun nq => Hq3.out _ (V2.drewN _)
  have HV : Hid (Tch (fun _ => False) w0 w2) := V2
  clear V2 V1 s1 s2 t1
  go_wp2_with fail
  go_quiet ((go_at_call 15; exact Calls.quiet_of_same (HnxQ.out _)))
  obtain ⟨w3, hw3⟩ : ∃ w3, w3 = w2.drewN nq := ⟨_, rfl⟩
  have V3 : Tch (fun _ => False) w0 w3 := by rw [hw3]; exact HV.out.drewN _
  rw [← hw3]
  clear x0 x1 x2 x3 x4 d0 d1 hw3
  obtain ⟨_, ⟨x0, x1, x2, x3, x4⟩, d0, d1⟩ := HC.out w3 V3
  have q5 := add_any base d L gv P (.slice to P.length tc) t ao c w3 (HQ.out w3 V3).2.2.1 (Hta.out w3 V3) H8.out hl (by have := Ht0.out.size; have := V3.size; omega)
  have HV3 : Hid _ := V3
  clear V3
  go_wp2_with fail
  refine q5.mono ?_
  rintro y w4 ⟨rfl, ⟨P', tv', hCO4', hPl, hBL4⟩, t4⟩
  clear q5 x0 x1 x2 x3 x4 d0 d1
  have hCO4 : CO w4 base d (putL L t) (putG L gv t) P' tv' := by
    rw [HPL2.out.1, HPL2.out.2, ← Hid1.out]; exact hCO4'
  have hob : ∀ g, (Value.slice to P.length tc).ownBlock = some g → g < N := fun g e => by rw [HN.out]; exact (H.out.to.own.lt g e).2
  have hNn : ∀ j, N ≤ j → ¬ (j = d ∨ (Value.slice to P.length tc).ownBlock = some j) := fun j hj hh => by
    rcases hh with hh | hh
    · omega
    · have := hob _ hh; omega
  have hX4 : w4.heap[N]? = some (.cells #[.int .i64 t.id, .int .i64 t.ver, .string t.nm, .slice ao t.cols.length c, .int .i64 t.key] 104 (0, 0)) := by
    rw [t4.block N (blk_lt (HQ.out w3 HV3.out).1) (hNn _ (by omega))]; exact (HQ.out w3 HV3.out).1
  have hY4 : w4.heap[N + 1]? = some (.cells #[.int .i64 0, .int .i64 0, .string ⟨#[]⟩, .slice none 0 0, .int .i64 0] 36 (0, 0)) := by
    rw [t4.block (N + 1) (blk_lt (HQ.out w3 HV3.out).2.1) (hNn _ (by omega))]; exact (HQ.out w3 HV3.out).2.1
  have hN1 : ∀ g, BL tv' P' g → g ≠ N + 1 := fun g hg e => by
    have h3 := blk_lt (HQ.out w3 HV3.out).2.1
    rcases hBL4 g hg with (h | ⟨i, hi, h⟩) | h
    · have := hob g h; omega
    · have := ((H.out.to.col i hi).lt g h).2; have := HN.out; omega
    · omega
  have hT4 : Tch (fun i => base ≤ i) w w4 := by
    have h1 : Tch (fun i => base ≤ i) w w3 := (Ht0.out.trans' HV3.out).mono (fun _ _ h => h.elim)
    refine h1.trans' (t4.mono (fun i _ h => ?_))
    rcases h with h | h
    · have := H.out.ge; omega
    · exact (World.ownsRow.lt H.out.to.own i h).1
  clear hCO4' hBL4 t4 hob hNn hPl
  have HFin : Hid (∀ W', W' = ((((w4.setCell ⟨N + 1, 0, none⟩ (.int .i64 t.id)).setCell ⟨N + 1, 1, none⟩ (.int .i64 t.ver)).setCell ⟨N + 1, 2, none⟩ (.string t.nm)).setCell ⟨N + 1, 3, none⟩ (.slice ao t.cols.length c)).setCell ⟨N + 1, 4, none⟩ (.int .i64 t.key) → (∀ tmps : Array Value, tmps[4]?.getD undef = .pointer (some ⟨N + 1, 0, none⟩) → tmps[5]?.getD undef = .int .i64 0 → (results Try.f69 tmps).run Try.prog W' = .ok (.tuple #[tA t.id t.ver t.nm (.slice ao t.cols.length c) t.key, .int .i64 0]) W') ∧ OnOut base d (putE L gv t) (fun _ v => v = tA t.id t.ver t.nm (.slice ao t.cols.length c) t.key) (putL L t) (putG L gv t) (.returned (.tuple #[tA t.id t.ver t.nm (.slice ao t.cols.length c) t.key, .int .i64 0])) W' ∧ Tch (fun i => base ≤ i) w W') := fun W' hW' => by
    have tE : Tch (fun i => i = N + 1) w4 W' := by rw [hW']; exact ((((Tch.setCell (fun i => i = N + 1) w4 ⟨N + 1, 0, none⟩ _ rfl).setCellR ⟨N + 1, 1, none⟩ _ rfl).setCellR ⟨N + 1, 2, none⟩ _ rfl).setCellR ⟨N + 1, 3, none⟩ _ rfl).setCellR ⟨N + 1, 4, none⟩ _ rfl
    have hb : W'.heap[N + 1]? = some (.cells #[.int .i64 t.id, .int .i64 t.ver, .string t.nm, .slice ao t.cols.length c, .int .i64 t.key] 36 (0, 0)) := by
      rw [hW', blk_set (blk_set (blk_set (blk_set (blk_set hY4 _) _) _) _) _]; rfl
    refine ⟨fun tmps h4 h5 => res_pair Hrs.out h4 h5 (by rw [blk_cell hb]; rfl) (by rw [blk_cell hb]; rfl) (by rw [blk_cell hb]; rfl) (by rw [blk_cell hb]; rfl) (by rw [blk_cell hb]; rfl), ⟨fun _ => ⟨_, P', tv', rfl, rfl, ?_⟩, fun e => absurd HE0.out e⟩, ?_⟩
    · refine ⟨by rw [tE.block d (blk_lt hCO4.blk) (by omega)]; exact hCO4.blk, hCO4.ge, hCO4.eq, ⟨own_tch hCO4.to.own tE (fun g e => hN1 g (Or.inl e)), fun i hi => own_tch (hCO4.to.col i hi) tE (fun g e => hN1 g (Or.inr ⟨i, hi, e⟩)), hCO4.to.sep, hCO4.to.dis⟩, hCO4.nb⟩
    · exact hT4.trans tE (fun i hi e => by have := HN.out; omega)
  obtain ⟨z0, z1, z2, z3, z4⟩ : w4.cell? ⟨N + 1, 0, none⟩ = some (.int .i64 0) ∧ w4.cell? ⟨N + 1, 1, none⟩ = some (.int .i64 0) ∧ w4.cell? ⟨N + 1, 2, none⟩ = some (.string ⟨#[]⟩) ∧ w4.cell? ⟨N + 1, 3, none⟩ = some (.slice none 0 0) ∧ w4.cell? ⟨N + 1, 4, none⟩ = some (.int .i64 0) := ⟨by rw [blk_cell hY4]; rfl, by rw [blk_cell hY4]; rfl, by rw [blk_cell hY4]; rfl, by rw [blk_cell hY4]; rfl, by rw [blk_cell hY4]; rfl⟩
  have g0 := blk_frozen hY4 0; have g1 := blk_frozen hY4 1; have g2 := blk_frozen hY4 2; have g3 := blk_frozen hY4 3; have g4 := blk_frozen hY4 4
  obtain ⟨x0, x1, x2, x3, x4⟩ : w4.cell? ⟨N, 0, none⟩ = some (.int .i64 t.id) ∧ w4.cell? ⟨N, 1, none⟩ = some (.int .i64 t.ver) ∧ w4.cell? ⟨N, 2, none⟩ = some (.string t.nm) ∧ w4.cell? ⟨N, 3, none⟩ = some (.slice ao t.cols.length c) ∧ w4.cell? ⟨N, 4, none⟩ = some (.int .i64 t.key) := ⟨by rw [blk_cell hX4]; rfl, by rw [blk_cell hX4]; rfl, by rw [blk_cell hX4]; rfl, by rw [blk_cell hX4]; rfl, by rw [blk_cell hX4]; rfl⟩
  clear hCO4 hY4 hX4 hN1 hT4
  go_wp2_with fail
  refine bodyPost_ret ((HFin.out _ rfl).1 _ ?_ ?_) rfl (HFin.out _ rfl).2 <;> rfl
end Go.Proofs.Ytolamjipigfocaa
