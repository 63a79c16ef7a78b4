import Derived.Test.YtolamjipigfocaaCPutP
import Derived.Test.YtolamjipigfocaaCRef12
/- putting.on of the code: putOn_in. -/
namespace Go.Proofs.Ytolamjipigfocaa
open Go.RowKit Go

set_option maxHeartbeats 4000000 in
set_option maxRecDepth 100000 in
theorem putOn_in (base d : Nat) (L : List Tbl) (gv : Int) (P : List (Tbl × Value)) (tv : Value) (t : Tbl) (ao : Option Addr) (c : Nat) (w : World) (h : CO w base d L gv P tv) (ht : SL w ao (ccl t.cols)) (hno : ao = none → t.cols = [] ∧ c = 0) (hcap : t.cols.length ≤ c) (hcl : t.cols.length ≤ 9223372036854775807) (hl : P.length ≤ 16) (h0 : 0 ≤ gv) (h1 : gv ≤ 2147483647) (hbase : base ≤ w.heap.size) (hEE : putE L gv t = 0) (k : Nat) (hk : k < P.length) (hin : posP (fun u => decide (u.id = t.id)) P = k) :
    Calls Try.prog 69 #[tA t.id t.ver t.nm (.slice ao t.cols.length c) t.key, .pointer (some ⟨d, 0, none⟩)] w fun x w' => OnOut base d (putE L gv t) (fun _ v => v = tA t.id t.ver t.nm (.slice ao t.cols.length c) t.key) (putL L t) (putG L gv t) x w' ∧ Tch (fun i => base ≤ i) w w' := by
  obtain ⟨to, tc, htv⟩ := row_slice h.to.own
  subst htv
  obtain ⟨N, hN⟩ : ∃ N, N = w.heap.size := ⟨_, rfl⟩
  obtain ⟨w0, hw0⟩ : ∃ w0, w0 = (w.alloc (.cells #[.int .i64 t.id, .int .i64 t.ver, .string t.nm, .slice ao t.cols.length c, .int .i64 t.key] 104)).alloc (.cells #[.int .i64 0, .int .i64 0, .string ⟨#[]⟩, .slice none 0 0, .int .i64 0] 36) := ⟨_, rfl⟩
  have t0 : Tch (fun _ => False) w w0 := by rw [hw0]; exact (Tch.alloc _ _ _).allocR _
  have hX : w0.heap[N]? = some (.cells #[.int .i64 t.id, .int .i64 t.ver, .string t.nm, .slice ao t.cols.length c, .int .i64 t.key] 104 (0, 0)) := by
    rw [hw0, hN]; exact (Tch.alloc (fun _ => False) _ _).block _ (by simp) (fun h => h) |>.trans (alloc_new _ _)
  have hY : w0.heap[N + 1]? = some (.cells #[.int .i64 0, .int .i64 0, .string ⟨#[]⟩, .slice none 0 0, .int .i64 0] 36 (0, 0)) := by
    rw [hw0, hN, ← World.size_alloc]; exact alloc_new _ _
  have hdN : d < N := by rw [hN]; exact blk_lt h.blk
  have H0 : Hid (CO w0 base d L gv P (.slice to P.length tc)) := h.tch t0 (fun _ _ _ h => h)
  have HQ : Hid (∀ W, Tch (fun _ => False) w0 W → W.heap[N]? = some (.cells #[.int .i64 t.id, .int .i64 t.ver, .string t.nm, .slice ao t.cols.length c, .int .i64 t.key] 104 (0, 0)) ∧ W.heap[N + 1]? = some (.cells #[.int .i64 0, .int .i64 0, .string ⟨#[]⟩, .slice none 0 0, .int .i64 0] 36 (0, 0)) ∧ CO W base d L gv P (.slice to P.length tc) ∧ SL W ao (ccl t.cols)) := fun W tW => ⟨by rw [tW.block N (blk_lt hX) (fun h => h)]; exact hX, by rw [tW.block (N + 1) (blk_lt hY) (fun h => h)]; exact hY, H0.out.tch tW (fun _ _ _ h => h), (ht.no t0).no tW⟩
  have HC : Hid (∀ W, Tch (fun _ => False) w0 W → Tch (fun _ => False) w0 W ∧ (W.cell? ⟨N, 0, none⟩ = some (.int .i64 t.id) ∧ W.cell? ⟨N, 1, none⟩ = some (.int .i64 t.ver) ∧ W.cell? ⟨N, 2, none⟩ = some (.string t.nm) ∧ W.cell? ⟨N, 3, none⟩ = some (.slice ao t.cols.length c) ∧ W.cell? ⟨N, 4, none⟩ = some (.int .i64 t.key)) ∧ W.cell? ⟨d, 0, none⟩ = some (.slice to P.length tc) ∧ W.cell? ⟨d, 1, none⟩ = some (.int .i64 gv)) := fun W tW => by
    obtain ⟨a1, a2, a3, _⟩ := HQ.out W tW
    exact ⟨tW, ⟨by rw [blk_cell a1]; rfl, by rw [blk_cell a1]; rfl, by rw [blk_cell a1]; rfl, by rw [blk_cell a1]; rfl, by rw [blk_cell a1]; rfl⟩, by rw [blk_cell a3.blk]; rfl, by rw [blk_cell a3.blk]; rfl⟩
  have HZ : Hid (∀ W, Tch (fun _ => False) w0 W → (W.cell? ⟨N + 1, 0, none⟩ = some (.int .i64 0) ∧ W.cell? ⟨N + 1, 1, none⟩ = some (.int .i64 0) ∧ W.cell? ⟨N + 1, 2, none⟩ = some (.string ⟨#[]⟩) ∧ W.cell? ⟨N + 1, 3, none⟩ = some (.slice none 0 0) ∧ W.cell? ⟨N + 1, 4, none⟩ = some (.int .i64 0)) ∧ ∀ j, W.frozen? ⟨N + 1, j, none⟩ = false) := fun W tW => by
    obtain ⟨a1, a2, a3, _⟩ := HQ.out W tW
    exact ⟨⟨by rw [blk_cell a2]; rfl, by rw [blk_cell a2]; rfl, by rw [blk_cell a2]; rfl, by rw [blk_cell a2]; rfl, by rw [blk_cell a2]; rfl⟩, fun j => blk_frozen a2 j⟩
  have hrs : Try.f69.results = #[.cell 4 36, .tmp 5] := by kernel_rfl
  have Hrs : Hid _ := hrs
  have Hq1 : Hid (∀ W, Tch (fun _ => False) w0 W → Calls Try.prog 56 #[.pointer (some ⟨d, 0, none⟩), .int .i64 t.id] W fun x w' => x = .returned (.int .i64 (posP (fun u => decide (u.id = t.id)) P)) ∧ Tch (fun _ => False) W w') := fun W tW => id3_any d to tc P _ t.id W (HC.out W tW).2.2.1 (HQ.out W tW).2.2.1.to.toTL hl
  have Hq2 : Hid (∀ W, Tch (fun _ => False) w0 W → Calls Try.prog 55 #[.pointer (some ⟨d, 0, none⟩), .string t.nm] W fun x w' => x = .returned (.int .i64 (posP (fun u => decide (u.nm = t.nm)) P)) ∧ Tch (fun _ => False) W w') := fun W tW => nm3_any d to tc P _ t.nm W (HC.out W tW).2.2.1 (HQ.out W tW).2.2.1.to.toTL hl
  have Hq3 : Hid (∀ W, Tch (fun _ => False) w0 W → Calls Try.prog 15 #[.pointer (some ⟨d, 0, none⟩)] W fun x w' => x = .returned (.int .i64 (gv + 1)) ∧ w' = W) := fun W tW => next_any d gv W (HC.out W tW).2.2.2 h0 (by omega)
  obtain ⟨r1, hr1⟩ : ∃ r1, r1 = posP (fun u => decide (u.id = t.id)) P := ⟨_, rfl⟩
  obtain ⟨r2, hr2⟩ : ∃ r2, r2 = posP (fun u => decide (u.nm = t.nm)) P := ⟨_, rfl⟩
  rw [← hr1] at Hq1
  rw [← hr2] at Hq2
  have hLl : L.length = P.length := by rw [← h.eq]; simp
  have HPE : Hid (putE L gv t = if rightE t ≠ 0 then rightE t else if r1 < 0 ∧ t.id ≠ gv + 1 then 52 else if 0 ≤ r2 ∧ r2 ≠ r1 then 51 else if r1 < 0 ∧ P.length = 16 then 53 else 0) := by
    show _ = _
    unfold putE
    rw [hr1, hr2, posP_L, posP_L, h.eq, hLl]
  have HPL : Hid (putL L t = if r1 < 0 then L ++ [t] else L.set r1.toNat t) := by
    show _ = _
    unfold putL
    rw [hr1, posP_L, h.eq]
  have HPG : Hid (putG L gv t = if r1 < 0 then gv + 1 else gv) := by
    show _ = _
    unfold putG
    rw [hr1, posP_L, h.eq]
  have Hr1 : Hid (r1 = posP (fun u => decide (u.id = t.id)) P) := hr1
  obtain ⟨E, hE⟩ : ∃ E, E = putE L gv t := ⟨_, rfl⟩
  have HE : Hid (E = putE L gv t) := hE
  have Hw0 : Hid _ := hw0
  have HN : Hid (N = w.heap.size) := hN
  have Ht0 : Hid (Tch (fun _ => False) w w0) := t0
  have H : Hid (CO w base d L gv P (.slice to P.length tc)) := h
  have HE0 : Hid (putE L gv t = 0) := hEE
  have hPE := HPE.out
  rw [hEE] at hPE
  have hR0 : rightE t = 0 := by
    refine Classical.byContradiction fun e => ?_
    rw [if_pos e] at hPE
    exact e hPE.symm
  rw [if_neg (by simp [hR0])] at hPE
  have h52 : ¬ (r1 < 0 ∧ t.id ≠ gv + 1) := fun e => by rw [if_pos e] at hPE; simp at hPE
  rw [if_neg h52] at hPE
  have h51 : ¬ (0 ≤ r2 ∧ r2 ≠ r1) := fun e => by rw [if_pos e] at hPE; simp at hPE
  rw [if_neg h51] at hPE
  have h53 : ¬ (r1 < 0 ∧ P.length = 16) := fun e => by rw [if_pos e] at hPE; simp at hPE
  have q1 := right_any t ao c w0 (HQ.out w0 (Tch.refl _ _)).2.2.2 hcap hcl
  rw [hR0] at q1
  have h8 := (right_len hR0).2
  clear hEE hPE HPE hR0
  rw [← hr1] at hin
  have hr1n : ¬ r1 < 0 := by omega
  have hr1k : r1 = k := hin
  have hr1n' : (0 : Int) ≤ r1 := by omega
  have HPL2 : Hid (putL L t = L.set k t ∧ putG L gv t = gv) := ⟨by rw [HPL.out, if_neg hr1n, hr1k]; simp, by rw [HPG.out, if_neg hr1n]⟩
  obtain ⟨T, hT0⟩ : ∃ T, to = some ⟨T, 0, none⟩ := by
    rcases H.out.to.own.2 with ⟨h1, h2⟩ | ⟨g, cap, cur, hv, _⟩
    · exfalso; omega
    · injection hv with hv; exact ⟨g, hv⟩
  subst hT0
  have H8 : Hid (t.cols.length ≤ 8) := h8
  have Hcp : Hid (∀ W, Tch (fun _ => False) w0 W → Calls Try.prog 51 #[tA t.id t.ver t.nm (.slice ao t.cols.length c) t.key] W fun x w' => (∃ v, x = .returned (tA t.id t.ver t.nm v t.key) ∧ w'.ownsRow W.heap.size 43 3 v t.cols.length (ccl t.cols)) ∧ Tch (fun _ => False) W w') := fun W tW => copied_any t ao c W (HQ.out W tW).2.2.2 hno (by omega)
  have h51' : r2 < 0 ∨ r2 = r1 := by omega
  clear h52 h51 h53 h8 HPL HPG hin
  clear h hw0 hN hX hY ht t0 hr1 hr2 hE hrs
  obtain ⟨_, ⟨x0, x1, x2, x3, x4⟩, d0, d1⟩ := HC.out w0 (Tch.refl _ _)
  go_enter Try.func69, Try.ntmps69
  go_wp2_with fail
  rw [← HN.out]
  have hw0 := Hw0.out
  rw [← hw0]
  clear hw0
  refine q1.mono ?_
  rintro y w1 ⟨rfl, t1⟩
  clear q1 x0 x1 x2 x3 x4 d0 d1
  obtain ⟨_, ⟨x0, x1, x2, x3, x4⟩, d0, d1⟩ := HC.out w1 t1
  go_wp2_with fail
  go_region_held3 (fun W => Tch (fun _ => False) w0 W ∧ (W.cell? ⟨N, 0, none⟩ = some (.int .i64 t.id) ∧ W.cell? ⟨N, 1, none⟩ = some (.int .i64 t.ver) ∧ W.cell? ⟨N, 2, none⟩ = some (.string t.nm) ∧ W.cell? ⟨N, 3, none⟩ = some (.slice ao t.cols.length c) ∧ W.cell? ⟨N, 4, none⟩ = some (.int .i64 t.key)) ∧ W.cell? ⟨d, 0, none⟩ = some (.slice (some ⟨T, 0, none⟩) P.length tc) ∧ W.cell? ⟨d, 1, none⟩ = some (.int .i64 gv))
    ((refine HC.out _ ?_; first | assumption | exact Tch.drew t1))
    (first
      | (go_at_call 56; refine (Hq1.out _ (show _ ∧ _ by assumption).1).mono ?_; rintro y v1 ⟨rfl, s1⟩; have V1 := Tch.trans' (show _ ∧ _ by assumption).1 s1)
      | (go_at_call 55; refine (Hq2.out _ V1).mono ?_; rintro y w2 ⟨rfl, s2⟩; have V2 := Tch.trans' V1 s2))
  clear x0 x1 x2 x3 x4 d0 d1
  obtain ⟨_, ⟨x0, x1, x2, x3, x4⟩, d0, d1⟩ := HC.out w2 V2
  have HnxQ : Hid (∀ nq : Nat, Calls Try.prog 15 #[.pointer (some ⟨d, 0, none⟩)] (w2.drewN nq) fun x w' => x = .returned (.int .i64 (gv + 1)) ∧ w' = w2.drewN nq) := fun nq => Hq3.out _ (V2.drewN _)
  have HV : Hid (Tch (fun _ => False) w0 w2) := V2
  clear V2 V1 s1 s2 t1
  go_wp2_with fail
  have hr1m : ¬ r1 < 0 := by omega
  go_quiet ((go_at_call 15; exact Calls.quiet_of_same (HnxQ.out _)))
  obtain ⟨w3, hw3⟩ : ∃ w3, w3 = w2.drewN nq := ⟨_, rfl⟩
  have V3 : Tch (fun _ => False) w0 w3 := by rw [hw3]; exact HV.out.drewN _
  rw [← hw3]
  clear x0 x1 x2 x3 x4 d0 d1 hw3
  obtain ⟨_, ⟨x0, x1, x2, x3, x4⟩, d0, d1⟩ := HC.out w3 V3
  have HV3 : Hid _ := V3
  clear V3
  subst hr1k
  have hkI : (k : Int) < P.length := by omega
  rcases h51' with hlt | heq
  · have hr2n : ¬ (0 : Int) ≤ r2 := by omega
    clear hlt
    have hkn : ¬ (k : Int) < 0 := by omega
    obtain ⟨C, hC⟩ : ∃ C : List Value → World → Prop, C = fun s W => match s with
      | [] => Tch (fun _ => False) w3 W
      | [y] => Tch (fun _ => False) w3 W ∧ ∃ vo vc, y = tA t.id t.ver t.nm (.slice vo t.cols.length vc) t.key ∧ W.ownsRow w3.heap.size 43 3 (.slice vo t.cols.length vc) t.cols.length (ccl t.cols)
      | _ => False := ⟨_, rfl⟩
    have hK : ∀ s W, C s W → (W.cell? ⟨N, 0, none⟩ = some (.int .i64 t.id) ∧ W.cell? ⟨N, 1, none⟩ = some (.int .i64 t.ver) ∧ W.cell? ⟨N, 2, none⟩ = some (.string t.nm) ∧ W.cell? ⟨N, 3, none⟩ = some (.slice ao t.cols.length c) ∧ W.cell? ⟨N, 4, none⟩ = some (.int .i64 t.key)) ∧ W.cell? ⟨d, 0, none⟩ = some (.slice (some ⟨T, 0, none⟩) P.length tc) := fun s W h => by
      have tW : Tch (fun _ => False) w3 W := by
        rw [hC] at h
        match s, h with
        | [], h => exact h
        | [_], h => exact h.1
      obtain ⟨_, h5, h6, _⟩ := HC.out W (HV3.out.trans' tW)
      exact ⟨h5, h6⟩
    have h6 : ∀ W, C [] W → Calls Try.prog 51 #[tA t.id t.ver t.nm (.slice ao t.cols.length c) t.key] W fun x w' => ∃ vo vc, x = .returned (tA t.id t.ver t.nm (.slice vo t.cols.length vc) t.key) ∧ C [tA t.id t.ver t.nm (.slice vo t.cols.length vc) t.key] w' := fun W h => by
      rw [hC] at h ⊢
      refine (Hcp.out W (HV3.out.trans' h)).mono ?_
      rintro x w' ⟨⟨v, rfl, hv⟩, t'⟩
      obtain ⟨vo, vc, rfl⟩ := row_slice hv
      exact ⟨vo, vc, rfl, Tch.trans' h t', vo, vc, rfl, own_low hv (Tch.size h)⟩
    have h0' : C [] w3.drew := by rw [hC]; exact (Tch.refl _ _).drew
    have hsh1 : ∀ y W, C [y] W → ∃ vo vc, y = tA t.id t.ver t.nm (.slice vo t.cols.length vc) t.key := fun y W h => by
      rw [hC] at h
      obtain ⟨_, vo, vc, e, _⟩ := h
      exact ⟨vo, vc, e⟩
    have Hfin : Hid (∀ vo vc W, C [tA t.id t.ver t.nm (.slice vo t.cols.length vc) t.key] W → Tch (fun _ => False) w3 W ∧ W.ownsRow w3.heap.size 43 3 (.slice vo t.cols.length vc) t.cols.length (ccl t.cols)) := fun vo vc W h => by
      rw [hC] at h
      obtain ⟨h1, vo', vc', e, h2⟩ := h
      have e' : (Value.slice vo t.cols.length vc) = .slice vo' t.cols.length vc' := by
        injection e with e
        injection e with e
        simp at e
        rw [e.1, e.2]
      rw [e']
      exact ⟨h1, h2⟩
    clear hC x0 x1 x2 x3 x4 d0 d1
    go_wp2_with fail
    refine wp_region_ordv [7] C 8 [0, 1, 2, 3, 4, 5, 6, 7] (by kernel_rfl) (by kernel_rfl) h0' ?_
    clear h0'
    refine ordv_read rfl (by go_simp) (by rfl) ?_
    apply Exists.intro
    refine ⟨fun s' W hW b K Q hK' => ?_, fun K hK' => ?_⟩
    · obtain ⟨⟨x0, x1, x2, x3, x4⟩, d0⟩ := hK _ W hW
      go_simp
      exact hK' W hW
    go_simp
    refine hK' _ ?_
    clear hK' K
    refine ordv_read rfl (by go_simp) (by rfl) ?_
    apply Exists.intro
    refine ⟨fun s' W hW b K Q hK' => ?_, fun K hK' => ?_⟩
    · obtain ⟨⟨x0, x1, x2, x3, x4⟩, d0⟩ := hK _ W hW
      go_simp
      exact hK' W hW
    go_simp
    refine hK' _ ?_
    clear hK' K
    refine ordv_read rfl (by go_simp) (by rfl) ?_
    apply Exists.intro
    refine ⟨fun s' W hW b K Q hK' => ?_, fun K hK' => ?_⟩
    · obtain ⟨⟨x0, x1, x2, x3, x4⟩, d0⟩ := hK _ W hW
      go_simp
      exact hK' W hW
    go_simp
    refine hK' _ ?_
    clear hK' K
    refine ordv_read rfl (by go_simp) (by rfl) ?_
    apply Exists.intro
    refine ⟨fun s' W hW b K Q hK' => ?_, fun K hK' => ?_⟩
    · obtain ⟨⟨x0, x1, x2, x3, x4⟩, d0⟩ := hK _ W hW
      go_simp
      exact hK' W hW
    go_simp
    refine hK' _ ?_
    clear hK' K
    refine ordv_read rfl (by go_simp) (by rfl) ?_
    apply Exists.intro
    refine ⟨fun s' W hW b K Q hK' => ?_, fun K hK' => ?_⟩
    · obtain ⟨⟨x0, x1, x2, x3, x4⟩, d0⟩ := hK _ W hW
      go_simp
      exact hK' W hW
    go_simp
    refine hK' _ ?_
    clear hK' K
    refine ordv_read rfl (by go_simp) (by rfl) ?_
    apply Exists.intro
    refine ⟨fun s' W hW b K Q hK' => ?_, fun K hK' => ?_⟩
    · obtain ⟨⟨x0, x1, x2, x3, x4⟩, d0⟩ := hK _ W hW
      go_simp
      exact hK' W hW
    go_simp
    refine hK' _ ?_
    clear hK' K
    refine ordv_read rfl (by go_simp) (by rfl) ?_
    apply Exists.intro
    refine ⟨fun s' W hW b K Q hK' => ?_, fun K hK' => ?_⟩
    · obtain ⟨⟨x0, x1, x2, x3, x4⟩, d0⟩ := hK _ W hW
      go_simp
      exact hK' W hW
    go_simp
    refine hK' _ ?_
    clear hK' K
    refine ordv_turn rfl (by go_simp) (by rfl) (fun W hW b K Q hK' => ?_) (fun u hu K hK' => ?_)
    · go_simp
      go_at_call 51
      refine (h6 W hW).mono ?_
      rintro x w' ⟨vo, vc, rfl, h1⟩
      exact hK' _ w' h1
    obtain ⟨vo, vc, rfl⟩ : ∃ vo vc, u = tA t.id t.ver t.nm (.slice vo t.cols.length vc) t.key := by
      obtain ⟨W', hW'⟩ := hu
      exact hsh1 u W' hW'
    clear hu h6 hsh1
    go_simp
    refine hK' _ ?_
    clear hK' K
    refine ordv_nil ?_
    intro w5 hw5
    obtain ⟨t5, hv5⟩ := Hfin.out vo vc w5 hw5
    clear hK hw5 Hfin
    have V5 : Tch (fun _ => False) w0 w5 := HV3.out.trans' t5
    have hCO5 := (HQ.out w5 V5).2.2.1
    have hlt5 : ∀ g, BL (.slice (some ⟨T, 0, none⟩) P.length tc) P g → g < N := fun g hg => by
      rw [HN.out]
      rcases hg with e | ⟨i, hi, e⟩
      · exact (H.out.to.own.lt g e).2
      · exact ((H.out.to.col i hi).lt g e).2
    have hN3 : N + 1 < w3.heap.size := blk_lt (HQ.out w3 HV3.out).2.1
    have hTN : T < N := hlt5 T (Or.inl rfl)
    obtain ⟨w4, hw4⟩ : ∃ w4, w4 = (((((w5.setCell ⟨T, k * 5, none⟩ (.int .i64 t.id)).setCell ⟨T, k * 5 + 1, none⟩ (.int .i64 t.ver)).setCell ⟨T, k * 5 + 2, none⟩ (.string t.nm)).setCell ⟨T, k * 5 + 3, none⟩ (.slice vo t.cols.length vc)).setCell ⟨T, k * 5 + 4, none⟩ (.int .i64 t.key)) := ⟨_, rfl⟩
    obtain ⟨hTO4, t4⟩ := hCO5.to.set5 (M := w3.heap.size) hk (t, .slice vo t.cols.length vc) hv5 (by have := Ht0.out.size; have := HV3.out.size; omega) (fun g hg => by have := hlt5 g hg; omega) hw4
    have hdT : d ≠ T := fun e => hCO5.nb.1 (by rw [e]; rfl)
    obtain ⟨P', hP'⟩ : ∃ P', P' = P.set k (t, .slice vo t.cols.length vc) := ⟨_, rfl⟩
    obtain ⟨tv', htv'⟩ : ∃ tv', tv' = Value.slice (some ⟨T, 0, none⟩) P'.length tc := ⟨_, rfl⟩
    rw [← hP', ← htv'] at hTO4
    have hPl : P'.length = P.length := by rw [hP', List.length_set]
    have hBL4 : ∀ g, BL tv' P' g → BL (.slice (some ⟨T, 0, none⟩) P.length tc) P g ∨ w3.heap.size ≤ g := fun g hg => by
      rcases hg with e | ⟨i, hi, e⟩
      · rw [htv'] at e; exact Or.inl (Or.inl e)
      · have hiP : i < P.length := by omega
        have e2 : P'[i] = if k = i then (t, .slice vo t.cols.length vc) else P[i] := by simp only [hP', List.getElem_set]
        rw [e2] at e
        split at e
        · exact Or.inr (hv5.lt g e).1
        · exact Or.inl (Or.inr ⟨i, hiP, e⟩)
    have hdB : ∀ g, BL tv' P' g → g ≠ d := fun g hg e => by
      rcases hBL4 g hg with h | h
      · rcases h with h | ⟨i, hi, h⟩
        · exact hCO5.nb.1 (by rw [← e]; exact h)
        · exact hCO5.nb.2 i hi (by rw [← e]; exact h)
      · omega
    have hCO4 : CO w4 base d (putL L t) (putG L gv t) P' tv' := by
      rw [HPL2.out.1, HPL2.out.2]
      refine ⟨?_, H.out.ge, ?_, hTO4, fun e => hdB d (Or.inl e) rfl, fun i hi e => hdB d (Or.inr ⟨i, hi, e⟩) rfl⟩
      · rw [t4.block d (blk_lt hCO5.blk) hdT, hCO5.blk, htv', hPl]
      · rw [hP', List.map_set, H.out.eq]
    have hX4 : w4.heap[N]? = some (.cells #[.int .i64 t.id, .int .i64 t.ver, .string t.nm, .slice ao t.cols.length c, .int .i64 t.key] 104 (0, 0)) := by
      rw [t4.block N (blk_lt (HQ.out w5 V5).1) (by omega)]; exact (HQ.out w5 V5).1
    have hY4 : w4.heap[N + 1]? = some (.cells #[.int .i64 0, .int .i64 0, .string ⟨#[]⟩, .slice none 0 0, .int .i64 0] 36 (0, 0)) := by
      rw [t4.block (N + 1) (blk_lt (HQ.out w5 V5).2.1) (by omega)]; exact (HQ.out w5 V5).2.1
    have hN1 : ∀ g, BL tv' P' g → g ≠ N + 1 := fun g hg e => by
      rcases hBL4 g hg with h | h
      · have := hlt5 g h; omega
      · omega
    have hT4 : Tch (fun i => base ≤ i) w w4 := by
      have h1 : Tch (fun i => base ≤ i) w w5 := (Ht0.out.trans' V5).mono (fun _ _ h => h.elim)
      refine h1.trans' (t4.mono (fun i _ h => ?_))
      have h2 := (World.ownsRow.lt H.out.to.own T rfl).1
      show base ≤ i
      have h3 : i = T := h
      omega
    obtain ⟨cur5, hc5b, hc5s, hkt⟩ : ∃ cur : Array Value, w5.heap[T]? = some (.cells cur 36 (0, 0)) ∧ cur.size = tc * 5 ∧ k < tc := by
      rcases hCO5.to.own.2 with ⟨h1, _⟩ | ⟨g, cap, cur, hv, hb0, hg, hnc, hcm, hcs, htk⟩
      · injection h1 with h1; cases h1
      · injection hv with e1 e2 e3
        injection e1 with e1
        injection e1 with e1
        subst e1 e3
        exact ⟨cur, hg, hcs, by omega⟩
    obtain ⟨⟨y0, e0⟩, ⟨y1, e1⟩, ⟨y2, e2⟩, ⟨y3, e3⟩, ⟨y4, e4⟩, hf⟩ := set5_cells hc5b hc5s hkt (.int .i64 t.id) (.int .i64 t.ver) (.string t.nm) (.slice vo t.cols.length vc)
    have f0 := hf (k * 5); have f1 := hf (k * 5 + 1); have f2 := hf (k * 5 + 2); have f3 := hf (k * 5 + 3); have f4 := hf (k * 5 + 4)
    have Hw4 : Hid _ := hw4
    clear hf hc5b hc5s hw4 t5 hv5 V5 hCO5 hTO4 t4 hdT hP' htv' hPl hBL4 hdB hlt5
    have HFin : Hid (∀ W', W' = ((((w4.setCell ⟨N + 1, 0, none⟩ (.int .i64 t.id)).setCell ⟨N + 1, 1, none⟩ (.int .i64 t.ver)).setCell ⟨N + 1, 2, none⟩ (.string t.nm)).setCell ⟨N + 1, 3, none⟩ (.slice ao t.cols.length c)).setCell ⟨N + 1, 4, none⟩ (.int .i64 t.key) → (∀ tmps : Array Value, tmps[4]?.getD undef = .pointer (some ⟨N + 1, 0, none⟩) → tmps[5]?.getD undef = .int .i64 0 → (results Try.f69 tmps).run Try.prog W' = .ok (.tuple #[tA t.id t.ver t.nm (.slice ao t.cols.length c) t.key, .int .i64 0]) W') ∧ OnOut base d (putE L gv t) (fun _ v => v = tA t.id t.ver t.nm (.slice ao t.cols.length c) t.key) (putL L t) (putG L gv t) (.returned (.tuple #[tA t.id t.ver t.nm (.slice ao t.cols.length c) t.key, .int .i64 0])) W' ∧ Tch (fun i => base ≤ i) w W') := fun W' hW' => by
      have tE : Tch (fun i => i = N + 1) w4 W' := by rw [hW']; exact ((((Tch.setCell (fun i => i = N + 1) w4 ⟨N + 1, 0, none⟩ _ rfl).setCellR ⟨N + 1, 1, none⟩ _ rfl).setCellR ⟨N + 1, 2, none⟩ _ rfl).setCellR ⟨N + 1, 3, none⟩ _ rfl).setCellR ⟨N + 1, 4, none⟩ _ rfl
      have hb : W'.heap[N + 1]? = some (.cells #[.int .i64 t.id, .int .i64 t.ver, .string t.nm, .slice ao t.cols.length c, .int .i64 t.key] 36 (0, 0)) := by
        rw [hW', blk_set (blk_set (blk_set (blk_set (blk_set hY4 _) _) _) _) _]; rfl
      refine ⟨fun tmps h4 h5 => res_pair Hrs.out h4 h5 (by rw [blk_cell hb]; rfl) (by rw [blk_cell hb]; rfl) (by rw [blk_cell hb]; rfl) (by rw [blk_cell hb]; rfl) (by rw [blk_cell hb]; rfl), ⟨fun _ => ⟨_, P', tv', rfl, rfl, ?_⟩, fun e => absurd HE0.out e⟩, ?_⟩
      · refine ⟨by rw [tE.block d (blk_lt hCO4.blk) (by omega)]; exact hCO4.blk, hCO4.ge, hCO4.eq, ⟨own_tch hCO4.to.own tE (fun g e => hN1 g (Or.inl e)), fun i hi => own_tch (hCO4.to.col i hi) tE (fun g e => hN1 g (Or.inr ⟨i, hi, e⟩)), hCO4.to.sep, hCO4.to.dis⟩, hCO4.nb⟩
      · exact hT4.trans tE (fun i hi e => by have := HN.out; omega)
    obtain ⟨z0, z1, z2, z3, z4⟩ : w4.cell? ⟨N + 1, 0, none⟩ = some (.int .i64 0) ∧ w4.cell? ⟨N + 1, 1, none⟩ = some (.int .i64 0) ∧ w4.cell? ⟨N + 1, 2, none⟩ = some (.string ⟨#[]⟩) ∧ w4.cell? ⟨N + 1, 3, none⟩ = some (.slice none 0 0) ∧ w4.cell? ⟨N + 1, 4, none⟩ = some (.int .i64 0) := ⟨by rw [blk_cell hY4]; rfl, by rw [blk_cell hY4]; rfl, by rw [blk_cell hY4]; rfl, by rw [blk_cell hY4]; rfl, by rw [blk_cell hY4]; rfl⟩
    have g0 := blk_frozen hY4 0; have g1 := blk_frozen hY4 1; have g2 := blk_frozen hY4 2; have g3 := blk_frozen hY4 3; have g4 := blk_frozen hY4 4
    obtain ⟨x0, x1, x2, x3, x4⟩ : w4.cell? ⟨N, 0, none⟩ = some (.int .i64 t.id) ∧ w4.cell? ⟨N, 1, none⟩ = some (.int .i64 t.ver) ∧ w4.cell? ⟨N, 2, none⟩ = some (.string t.nm) ∧ w4.cell? ⟨N, 3, none⟩ = some (.slice ao t.cols.length c) ∧ w4.cell? ⟨N, 4, none⟩ = some (.int .i64 t.key) := ⟨by rw [blk_cell hX4]; rfl, by rw [blk_cell hX4]; rfl, by rw [blk_cell hX4]; rfl, by rw [blk_cell hX4]; rfl, by rw [blk_cell hX4]; rfl⟩
    clear hCO4 hY4 hX4 hN1 hT4
    rw [Hw4.out] at x0 x1 x2 x3 x4 z0 z1 z2 z3 z4 g0 g1 g2 g3 g4 HFin
    clear Hw4
    go_wp2_with fail
    refine bodyPost_ret ((HFin.out _ rfl).1 _ ?_ ?_) rfl (HFin.out _ rfl).2 <;> rfl
  · subst heq
    have hne : ((k : Int) != (k : Int)) = false := by simp
    have hkn : ¬ (k : Int) < 0 := by omega
    obtain ⟨C, hC⟩ : ∃ C : List Value → World → Prop, C = fun s W => match s with
      | [] => Tch (fun _ => False) w3 W
      | [y] => Tch (fun _ => False) w3 W ∧ ∃ vo vc, y = tA t.id t.ver t.nm (.slice vo t.cols.length vc) t.key ∧ W.ownsRow w3.heap.size 43 3 (.slice vo t.cols.length vc) t.cols.length (ccl t.cols)
      | _ => False := ⟨_, rfl⟩
    have hK : ∀ s W, C s W → (W.cell? ⟨N, 0, none⟩ = some (.int .i64 t.id) ∧ W.cell? ⟨N, 1, none⟩ = some (.int .i64 t.ver) ∧ W.cell? ⟨N, 2, none⟩ = some (.string t.nm) ∧ W.cell? ⟨N, 3, none⟩ = some (.slice ao t.cols.length c) ∧ W.cell? ⟨N, 4, none⟩ = some (.int .i64 t.key)) ∧ W.cell? ⟨d, 0, none⟩ = some (.slice (some ⟨T, 0, none⟩) P.length tc) := fun s W h => by
      have tW : Tch (fun _ => False) w3 W := by
        rw [hC] at h
        match s, h with
        | [], h => exact h
        | [_], h => exact h.1
      obtain ⟨_, h5, h6, _⟩ := HC.out W (HV3.out.trans' tW)
      exact ⟨h5, h6⟩
    have h6 : ∀ W, C [] W → Calls Try.prog 51 #[tA t.id t.ver t.nm (.slice ao t.cols.length c) t.key] W fun x w' => ∃ vo vc, x = .returned (tA t.id t.ver t.nm (.slice vo t.cols.length vc) t.key) ∧ C [tA t.id t.ver t.nm (.slice vo t.cols.length vc) t.key] w' := fun W h => by
      rw [hC] at h ⊢
      refine (Hcp.out W (HV3.out.trans' h)).mono ?_
      rintro x w' ⟨⟨v, rfl, hv⟩, t'⟩
      obtain ⟨vo, vc, rfl⟩ := row_slice hv
      exact ⟨vo, vc, rfl, Tch.trans' h t', vo, vc, rfl, own_low hv (Tch.size h)⟩
    have h0' : C [] w3.drew := by rw [hC]; exact (Tch.refl _ _).drew
    have hsh1 : ∀ y W, C [y] W → ∃ vo vc, y = tA t.id t.ver t.nm (.slice vo t.cols.length vc) t.key := fun y W h => by
      rw [hC] at h
      obtain ⟨_, vo, vc, e, _⟩ := h
      exact ⟨vo, vc, e⟩
    have Hfin : Hid (∀ vo vc W, C [tA t.id t.ver t.nm (.slice vo t.cols.length vc) t.key] W → Tch (fun _ => False) w3 W ∧ W.ownsRow w3.heap.size 43 3 (.slice vo t.cols.length vc) t.cols.length (ccl t.cols)) := fun vo vc W h => by
      rw [hC] at h
      obtain ⟨h1, vo', vc', e, h2⟩ := h
      have e' : (Value.slice vo t.cols.length vc) = .slice vo' t.cols.length vc' := by
        injection e with e
        injection e with e
        simp at e
        rw [e.1, e.2]
      rw [e']
      exact ⟨h1, h2⟩
    clear hC x0 x1 x2 x3 x4 d0 d1
    go_wp2_with fail
    refine wp_region_ordv [7] C 8 [0, 1, 2, 3, 4, 5, 6, 7] (by kernel_rfl) (by kernel_rfl) h0' ?_
    clear h0'
    refine ordv_read rfl (by go_simp) (by rfl) ?_
    apply Exists.intro
    refine ⟨fun s' W hW b K Q hK' => ?_, fun K hK' => ?_⟩
    · obtain ⟨⟨x0, x1, x2, x3, x4⟩, d0⟩ := hK _ W hW
      go_simp
      exact hK' W hW
    go_simp
    refine hK' _ ?_
    clear hK' K
    refine ordv_read rfl (by go_simp) (by rfl) ?_
    apply Exists.intro
    refine ⟨fun s' W hW b K Q hK' => ?_, fun K hK' => ?_⟩
    · obtain ⟨⟨x0, x1, x2, x3, x4⟩, d0⟩ := hK _ W hW
      go_simp
      exact hK' W hW
    go_simp
    refine hK' _ ?_
    clear hK' K
    refine ordv_read rfl (by go_simp) (by rfl) ?_
    apply Exists.intro
    refine ⟨fun s' W hW b K Q hK' => ?_, fun K hK' => ?_⟩
    · obtain ⟨⟨x0, x1, x2, x3, x4⟩, d0⟩ := hK _ W hW
      go_simp
      exact hK' W hW
    go_simp
    refine hK' _ ?_
    clear hK' K
    refine ordv_read rfl (by go_simp) (by rfl) ?_
    apply Exists.intro
    refine ⟨fun s' W hW b K Q hK' => ?_, fun K hK' => ?_⟩
    · obtain ⟨⟨x0, x1, x2, x3, x4⟩, d0⟩ := hK _ W hW
      go_simp
      exact hK' W hW
    go_simp
    refine hK' _ ?_
    clear hK' K
    refine ordv_read rfl (by go_simp) (by rfl) ?_
    apply Exists.intro
    refine ⟨fun s' W hW b K Q hK' => ?_, fun K hK' => ?_⟩
    · obtain ⟨⟨x0, x1, x2, x3, x4⟩, d0⟩ := hK _ W hW
      go_simp
      exact hK' W hW
    go_simp
    refine hK' _ ?_
    clear hK' K
    refine ordv_read rfl (by go_simp) (by rfl) ?_
    apply Exists.intro
    refine ⟨fun s' W hW b K Q hK' => ?_, fun K hK' => ?_⟩
    · obtain ⟨⟨x0, x1, x2, x3, x4⟩, d0⟩ := hK _ W hW
      go_simp
      exact hK' W hW
    go_simp
    refine hK' _ ?_
    clear hK' K
    refine ordv_read rfl (by go_simp) (by rfl) ?_
    apply Exists.intro
    refine ⟨fun s' W hW b K Q hK' => ?_, fun K hK' => ?_⟩
    · obtain ⟨⟨x0, x1, x2, x3, x4⟩, d0⟩ := hK _ W hW
      go_simp
      exact hK' W hW
    go_simp
    refine hK' _ ?_
    clear hK' K
    refine ordv_turn rfl (by go_simp) (by rfl) (fun W hW b K Q hK' => ?_) (fun u hu K hK' => ?_)
    · go_simp
      go_at_call 51
      refine (h6 W hW).mono ?_
      rintro x w' ⟨vo, vc, rfl, h1⟩
      exact hK' _ w' h1
    obtain ⟨vo, vc, rfl⟩ : ∃ vo vc, u = tA t.id t.ver t.nm (.slice vo t.cols.length vc) t.key := by
      obtain ⟨W', hW'⟩ := hu
      exact hsh1 u W' hW'
    clear hu h6 hsh1
    go_simp
    refine hK' _ ?_
    clear hK' K
    refine ordv_nil ?_
    intro w5 hw5
    obtain ⟨t5, hv5⟩ := Hfin.out vo vc w5 hw5
    clear hK hw5 Hfin
    have V5 : Tch (fun _ => False) w0 w5 := HV3.out.trans' t5
    have hCO5 := (HQ.out w5 V5).2.2.1
    have hlt5 : ∀ g, BL (.slice (some ⟨T, 0, none⟩) P.length tc) P g → g < N := fun g hg => by
      rw [HN.out]
      rcases hg with e | ⟨i, hi, e⟩
      · exact (H.out.to.own.lt g e).2
      · exact ((H.out.to.col i hi).lt g e).2
    have hN3 : N + 1 < w3.heap.size := blk_lt (HQ.out w3 HV3.out).2.1
    have hTN : T < N := hlt5 T (Or.inl rfl)
    obtain ⟨w4, hw4⟩ : ∃ w4, w4 = (((((w5.setCell ⟨T, k * 5, none⟩ (.int .i64 t.id)).setCell ⟨T, k * 5 + 1, none⟩ (.int .i64 t.ver)).setCell ⟨T, k * 5 + 2, none⟩ (.string t.nm)).setCell ⟨T, k * 5 + 3, none⟩ (.slice vo t.cols.length vc)).setCell ⟨T, k * 5 + 4, none⟩ (.int .i64 t.key)) := ⟨_, rfl⟩
    obtain ⟨hTO4, t4⟩ := hCO5.to.set5 (M := w3.heap.size) hk (t, .slice vo t.cols.length vc) hv5 (by have := Ht0.out.size; have := HV3.out.size; omega) (fun g hg => by have := hlt5 g hg; omega) hw4
    have hdT : d ≠ T := fun e => hCO5.nb.1 (by rw [e]; rfl)
    obtain ⟨P', hP'⟩ : ∃ P', P' = P.set k (t, .slice vo t.cols.length vc) := ⟨_, rfl⟩
    obtain ⟨tv', htv'⟩ : ∃ tv', tv' = Value.slice (some ⟨T, 0, none⟩) P'.length tc := ⟨_, rfl⟩
    rw [← hP', ← htv'] at hTO4
    have hPl : P'.length = P.length := by rw [hP', List.length_set]
    have hBL4 : ∀ g, BL tv' P' g → BL (.slice (some ⟨T, 0, none⟩) P.length tc) P g ∨ w3.heap.size ≤ g := fun g hg => by
      rcases hg with e | ⟨i, hi, e⟩
      · rw [htv'] at e; exact Or.inl (Or.inl e)
      · have hiP : i < P.length := by omega
        have e2 : P'[i] = if k = i then (t, .slice vo t.cols.length vc) else P[i] := by simp only [hP', List.getElem_set]
        rw [e2] at e
        split at e
        · exact Or.inr (hv5.lt g e).1
        · exact Or.inl (Or.inr ⟨i, hiP, e⟩)
    have hdB : ∀ g, BL tv' P' g → g ≠ d := fun g hg e => by
      rcases hBL4 g hg with h | h
      · rcases h with h | ⟨i, hi, h⟩
        · exact hCO5.nb.1 (by rw [← e]; exact h)
        · exact hCO5.nb.2 i hi (by rw [← e]; exact h)
      · omega
    have hCO4 : CO w4 base d (putL L t) (putG L gv t) P' tv' := by
      rw [HPL2.out.1, HPL2.out.2]
      refine ⟨?_, H.out.ge, ?_, hTO4, fun e => hdB d (Or.inl e) rfl, fun i hi e => hdB d (Or.inr ⟨i, hi, e⟩) rfl⟩
      · rw [t4.block d (blk_lt hCO5.blk) hdT, hCO5.blk, htv', hPl]
      · rw [hP', List.map_set, H.out.eq]
    have hX4 : w4.heap[N]? = some (.cells #[.int .i64 t.id, .int .i64 t.ver, .string t.nm, .slice ao t.cols.length c, .int .i64 t.key] 104 (0, 0)) := by
      rw [t4.block N (blk_lt (HQ.out w5 V5).1) (by omega)]; exact (HQ.out w5 V5).1
    have hY4 : w4.heap[N + 1]? = some (.cells #[.int .i64 0, .int .i64 0, .string ⟨#[]⟩, .slice none 0 0, .int .i64 0] 36 (0, 0)) := by
      rw [t4.block (N + 1) (blk_lt (HQ.out w5 V5).2.1) (by omega)]; exact (HQ.out w5 V5).2.1
    have hN1 : ∀ g, BL tv' P' g → g ≠ N + 1 := fun g hg e => by
      rcases hBL4 g hg with h | h
      · have := hlt5 g h; omega
      · omega
    have hT4 : Tch (fun i => base ≤ i) w w4 := by
      have h1 : Tch (fun i => base ≤ i) w w5 := (Ht0.out.trans' V5).mono (fun _ _ h => h.elim)
      refine h1.trans' (t4.mono (fun i _ h => ?_))
      have h2 := (World.ownsRow.lt H.out.to.own T rfl).1
      show base ≤ i
      have h3 : i = T := h
      omega
    obtain ⟨cur5, hc5b, hc5s, hkt⟩ : ∃ cur : Array Value, w5.heap[T]? = some (.cells cur 36 (0, 0)) ∧ cur.size = tc * 5 ∧ k < tc := by
      rcases hCO5.to.own.2 with ⟨h1, _⟩ | ⟨g, cap, cur, hv, hb0, hg, hnc, hcm, hcs, htk⟩
      · injection h1 with h1; cases h1
      · injection hv with e1 e2 e3
        injection e1 with e1
        injection e1 with e1
        subst e1 e3
        exact ⟨cur, hg, hcs, by omega⟩
    obtain ⟨⟨y0, e0⟩, ⟨y1, e1⟩, ⟨y2, e2⟩, ⟨y3, e3⟩, ⟨y4, e4⟩, hf⟩ := set5_cells hc5b hc5s hkt (.int .i64 t.id) (.int .i64 t.ver) (.string t.nm) (.slice vo t.cols.length vc)
    have f0 := hf (k * 5); have f1 := hf (k * 5 + 1); have f2 := hf (k * 5 + 2); have f3 := hf (k * 5 + 3); have f4 := hf (k * 5 + 4)
    have Hw4 : Hid _ := hw4
    clear hf hc5b hc5s hw4 t5 hv5 V5 hCO5 hTO4 t4 hdT hP' htv' hPl hBL4 hdB hlt5
    have HFin : Hid (∀ W', W' = ((((w4.setCell ⟨N + 1, 0, none⟩ (.int .i64 t.id)).setCell ⟨N + 1, 1, none⟩ (.int .i64 t.ver)).setCell ⟨N + 1, 2, none⟩ (.string t.nm)).setCell ⟨N + 1, 3, none⟩ (.slice ao t.cols.length c)).setCell ⟨N + 1, 4, none⟩ (.int .i64 t.key) → (∀ tmps : Array Value, tmps[4]?.getD undef = .pointer (some ⟨N + 1, 0, none⟩) → tmps[5]?.getD undef = .int .i64 0 → (results Try.f69 tmps).run Try.prog W' = .ok (.tuple #[tA t.id t.ver t.nm (.slice ao t.cols.length c) t.key, .int .i64 0]) W') ∧ OnOut base d (putE L gv t) (fun _ v => v = tA t.id t.ver t.nm (.slice ao t.cols.length c) t.key) (putL L t) (putG L gv t) (.returned (.tuple #[tA t.id t.ver t.nm (.slice ao t.cols.length c) t.key, .int .i64 0])) W' ∧ Tch (fun i => base ≤ i) w W') := fun W' hW' => by
      have tE : Tch (fun i => i = N + 1) w4 W' := by rw [hW']; exact ((((Tch.setCell (fun i => i = N + 1) w4 ⟨N + 1, 0, none⟩ _ rfl).setCellR ⟨N + 1, 1, none⟩ _ rfl).setCellR ⟨N + 1, 2, none⟩ _ rfl).setCellR ⟨N + 1, 3, none⟩ _ rfl).setCellR ⟨N + 1, 4, none⟩ _ rfl
      have hb : W'.heap[N + 1]? = some (.cells #[.int .i64 t.id, .int .i64 t.ver, .string t.nm, .slice ao t.cols.length c, .int .i64 t.key] 36 (0, 0)) := by
        rw [hW', blk_set (blk_set (blk_set (blk_set (blk_set hY4 _) _) _) _) _]; rfl
      refine ⟨fun tmps h4 h5 => res_pair Hrs.out h4 h5 (by rw [blk_cell hb]; rfl) (by rw [blk_cell hb]; rfl) (by rw [blk_cell hb]; rfl) (by rw [blk_cell hb]; rfl) (by rw [blk_cell hb]; rfl), ⟨fun _ => ⟨_, P', tv', rfl, rfl, ?_⟩, fun e => absurd HE0.out e⟩, ?_⟩
      · refine ⟨by rw [tE.block d (blk_lt hCO4.blk) (by omega)]; exact hCO4.blk, hCO4.ge, hCO4.eq, ⟨own_tch hCO4.to.own tE (fun g e => hN1 g (Or.inl e)), fun i hi => own_tch (hCO4.to.col i hi) tE (fun g e => hN1 g (Or.inr ⟨i, hi, e⟩)), hCO4.to.sep, hCO4.to.dis⟩, hCO4.nb⟩
      · exact hT4.trans tE (fun i hi e => by have := HN.out; omega)
    obtain ⟨z0, z1, z2, z3, z4⟩ : w4.cell? ⟨N + 1, 0, none⟩ = some (.int .i64 0) ∧ w4.cell? ⟨N + 1, 1, none⟩ = some (.int .i64 0) ∧ w4.cell? ⟨N + 1, 2, none⟩ = some (.string ⟨#[]⟩) ∧ w4.cell? ⟨N + 1, 3, none⟩ = some (.slice none 0 0) ∧ w4.cell? ⟨N + 1, 4, none⟩ = some (.int .i64 0) := ⟨by rw [blk_cell hY4]; rfl, by rw [blk_cell hY4]; rfl, by rw [blk_cell hY4]; rfl, by rw [blk_cell hY4]; rfl, by rw [blk_cell hY4]; rfl⟩
    have g0 := blk_frozen hY4 0; have g1 := blk_frozen hY4 1; have g2 := blk_frozen hY4 2; have g3 := blk_frozen hY4 3; have g4 := blk_frozen hY4 4
    obtain ⟨x0, x1, x2, x3, x4⟩ : w4.cell? ⟨N, 0, none⟩ = some (.int .i64 t.id) ∧ w4.cell? ⟨N, 1, none⟩ = some (.int .i64 t.ver) ∧ w4.cell? ⟨N, 2, none⟩ = some (.string t.nm) ∧ w4.cell? ⟨N, 3, none⟩ = some (.slice ao t.cols.length c) ∧ w4.cell? ⟨N, 4, none⟩ = some (.int .i64 t.key) := ⟨by rw [blk_cell hX4]; rfl, by rw [blk_cell hX4]; rfl, by rw [blk_cell hX4]; rfl, by rw [blk_cell hX4]; rfl, by rw [blk_cell hX4]; rfl⟩
    clear hCO4 hY4 hX4 hN1 hT4
    rw [Hw4.out] at x0 x1 x2 x3 x4 z0 z1 z2 z3 z4 g0 g1 g2 g3 g4 HFin
    clear Hw4
    go_wp2_with fail
    refine bodyPost_ret ((HFin.out _ rfl).1 _ ?_ ?_) rfl (HFin.out _ rfl).2 <;> rfl
end Go.Proofs.Ytolamjipigfocaa
