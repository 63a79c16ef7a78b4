import Derived.Test.YteaagnlhkopgdaaGreatDoorDYd1
set_option maxHeartbeats 8000000
set_option maxRecDepth 100000
namespace Go.Proofs.YteaagnlhkopgdaaGreatDoor.C
open Go.RowKit Go Go.Sort
theorem ddec_2 (S : ByteArray) (w : World) (hsz : S.size ≤ 140737488351232) (hk : ((dByte (bl S, false)).1 : Int) = 2) : Calls Tryz.prog 22 #[.string S] w fun x w' => DyOut S w x w' := by
  have HNS : Hid _ := @dy_no S 2 2 hk (by rfl)
  obtain ⟨N, hN⟩ : ∃ N, N = w.heap.size := ⟨_, rfl⟩
  obtain ⟨w0, hw0⟩ : ∃ w0, w0 = (w.alloc (.cells #[.int .i64 0, .int .i64 0, .int .i64 0, .int .i64 0, .int .i64 0, .int .i64 0, .int .i64 0, .string ⟨#[]⟩, .slice none 0 0, .int .i64 0, .slice none 0 0, .slice none 0 0] 28)).alloc (.cells #[.string S, .bool false] 99) := ⟨_, rfl⟩
  have t0 : Tch (fun _ => False) w w0 := by rw [hw0]; exact (Tch.alloc _ _ _).allocR _
  have hz0 : w0.heap.size = N + 2 := by rw [hw0, hN, World.size_alloc, World.size_alloc]
  have bR : w0.heap[N]? = some (.cells #[.int .i64 0, .int .i64 0, .int .i64 0, .int .i64 0, .int .i64 0, .int .i64 0, .int .i64 0, .string ⟨#[]⟩, .slice none 0 0, .int .i64 0, .slice none 0 0, .slice none 0 0] 28 (0, 0)) := by
    rw [hw0, hN]; exact ((Tch.alloc (fun _ => False) _ _).block _ (by simp) (fun h => h)).trans (heap_new w _)
  have h0 : DB w0 (N + 1) (bl S, false) := by
    unfold DB
    rw [bB_bl, hw0, hN, ← World.size_alloc]; exact heap_new _ _
  have q0 := dbyte_any (N + 1) (bl S, false) w0 h0
  obtain ⟨P0, hP0⟩ : ∃ P, P = (dByte (bl S, false)).2 := ⟨_, rfl⟩
  have hl0 : P0.1.length ≤ 140737488351232 := by
    have h1 := dByte_len (bl S, false)
    have h2 := bl_size S
    rw [hP0]
    simp only at h1
    omega
  rw [hk, ← hP0] at q0
  rw [← hP0] at HNS
  obtain ⟨A1, hA1⟩ : ∃ A, A = dTab P0 := ⟨_, rfl⟩
  have HA1 : Hid (A1 = dTab P0) := hA1
  obtain ⟨r, hr⟩ : ∃ r : Rc, r = { rc0 2 with tb := A1.1 } := ⟨_, rfl⟩
  have HDC : Hid (dC 2 2 P0 = (r, A1.2)) := by
    show _ = _
    rw [hr, hA1]
    rfl
  rw [HDC.out] at HNS
  have ho : ∀ v ∈ r.o, v.i64 := fun v hv => by
    rw [hr] at hv
    exact absurd hv List.not_mem_nil
  have hn : ∀ v ∈ r.n, v.i64 := fun v hv => by
    rw [hr] at hv
    exact absurd hv List.not_mem_nil
  have HSY : Hid (encI r = 0 → encS r = S → Says S r) := fun h1 h2 => enc_says h1 h2 ho hn
  have HRR : Hid (r = { rc0 2 with tb := A1.1 } ∧ (∀ v ∈ r.o, v.i64) ∧ ∀ v ∈ r.n, v.i64) := ⟨hr, ho, hn⟩
  have HW0 : Hid (w0 = (w.alloc (.cells #[.int .i64 0, .int .i64 0, .int .i64 0, .int .i64 0, .int .i64 0, .int .i64 0, .int .i64 0, .string ⟨#[]⟩, .slice none 0 0, .int .i64 0, .slice none 0 0, .slice none 0 0] 28)).alloc (.cells #[.string S, .bool false] 99)) := hw0
  have HT0 : Hid (Tch (fun _ => False) w w0 ∧ w0.heap[N]? = some (.cells #[.int .i64 0, .int .i64 0, .int .i64 0, .int .i64 0, .int .i64 0, .int .i64 0, .int .i64 0, .string ⟨#[]⟩, .slice none 0 0, .int .i64 0, .slice none 0 0, .slice none 0 0] 28 (0, 0))) := ⟨t0, bR⟩
  have HNN : Hid (N = w.heap.size) := hN
  rw [hw0, hN] at q0
  clear hk hP0 hA1 hr ho hn hw0 t0 bR h0 hN 
  go_enter Tryz.func22, Tryz.ntmps22
  go_wp2_with fail
  refine q0.mono ?_
  rintro x w1 ⟨rfl, h1, t1⟩
  rw [← HW0.out, ← HNN.out] at t1
  rw [← HNN.out] at h1 ⊢
  have hz1 := t1.size
  clear q0
  obtain ⟨B, hB⟩ : ∃ B, B = w1.heap.size := ⟨_, rfl⟩
  obtain ⟨u0, hu0⟩ : ∃ u, u = w1.alloc (.cells #[.int .i64 2, .int .i64 0, .int .i64 0, .int .i64 0, .int .i64 0, .int .i64 0, .int .i64 0, .string ⟨#[]⟩, .slice none 0 0, .int .i64 0, .slice none 0 0, .slice none 0 0] 28) := ⟨_, rfl⟩
  have s0 : Tch (fun _ => False) w1 u0 := by rw [hu0]; exact Tch.alloc _ _ _
  have c0 : u0.heap[B]? = some (.cells #[.int .i64 2, .int .i64 0, .int .i64 0, .int .i64 0, .int .i64 0, .int .i64 0, .int .i64 0, .string ⟨#[]⟩, .slice none 0 0, .int .i64 0, .slice none 0 0, .slice none 0 0] 28 (0, 0)) := by rw [hu0, hB]; exact heap_new w1 _
  have d0 : DB u0 (N + 1) P0 := h1.no s0
  have T0 : Tch (fun i => i = N + 1 ∨ B ≤ i) w0 u0 := (t1.mono (fun _ _ h => Or.inl h)).trans' (s0.mono (fun _ _ h => h.elim))
  have hzB : N + 2 ≤ B := by omega
  have hzu : B < u0.heap.size := blk_lt c0
  have HU0 : Hid (u0 = w1.alloc (.cells #[.int .i64 2, .int .i64 0, .int .i64 0, .int .i64 0, .int .i64 0, .int .i64 0, .int .i64 0, .string ⟨#[]⟩, .slice none 0 0, .int .i64 0, .slice none 0 0, .slice none 0 0] 28)) := hu0
  have HBB : Hid (B = w1.heap.size) := hB
  clear hu0 hB h1 t1 s0 hz1
  have q1 := dtab_any (N + 1) P0 u0 d0
  rw [← HA1.out] at q1
  rw [HU0.out] at q1
  go_wp2_with fail
  refine q1.mono ?_
  rintro x v1 ⟨⟨v, rfl, own1⟩, e1, t1⟩
  obtain ⟨ro1, rc1, ev⟩ := row_slice own1
  subst ev
  rw [← HU0.out] at t1 own1
  rw [← HBB.out]
  have hz1 := t1.size
  have b1 : v1.heap[B]? = some (.cells #[.int .i64 2, .int .i64 0, .int .i64 0, .int .i64 0, .int .i64 0, .int .i64 0, .int .i64 0, .string ⟨#[]⟩, .slice none 0 0, .int .i64 0, .slice none 0 0, .slice none 0 0] 28 (0, 0)) := (t1.block _ (blk_lt c0) (by omega)).trans c0
  obtain ⟨u1, hu1⟩ : ∃ u, u = (((((v1.setCell ⟨B, 5, none⟩ (.int .i64 A1.1.id)).setCell ⟨B, 6, none⟩ (.int .i64 A1.1.ver)).setCell ⟨B, 7, none⟩ (.string A1.1.nm)).setCell ⟨B, 8, none⟩ (.slice ro1 A1.1.cols.length rc1)).setCell ⟨B, 9, none⟩ (.int .i64 A1.1.key)) := ⟨_, rfl⟩
  have g1 : Tch (fun i => i = B) v1 u1 := by rw [hu1]; exact ((((Tch.setCell (fun i => i = B) v1 ⟨B, 5, none⟩ _ rfl).setCellR ⟨B, 6, none⟩ _ rfl).setCellR ⟨B, 7, none⟩ _ rfl).setCellR ⟨B, 8, none⟩ _ rfl).setCellR ⟨B, 9, none⟩ _ rfl
  have c1 : u1.heap[B]? = some (.cells #[.int .i64 2, .int .i64 0, .int .i64 0, .int .i64 0, .int .i64 0, .int .i64 A1.1.id, .int .i64 A1.1.ver, .string A1.1.nm, .slice ro1 A1.1.cols.length rc1, .int .i64 A1.1.key, .slice none 0 0, .slice none 0 0] 28 (0, 0)) := by rw [hu1]; exact blk_set (blk_set (blk_set (blk_set (blk_set b1 _) _) _) _) _
  have d1 : DB u1 (N + 1) A1.2 := e1.tch g1 (by omega)
  have T1 : Tch (fun i => i = N + 1 ∨ B ≤ i) w0 u1 := (T0.trans' (t1.mono (fun _ _ h => Or.inl h))).trans' (g1.mono (fun _ _ h => Or.inr (by omega)))
  have x1 := g1.size
  have OW1 := own_tch own1 g1 (fun g hg h => by have := row_ge own1 hg; omega)
  have HU1 : Hid (u1 = (((((v1.setCell ⟨B, 5, none⟩ (.int .i64 A1.1.id)).setCell ⟨B, 6, none⟩ (.int .i64 A1.1.ver)).setCell ⟨B, 7, none⟩ (.string A1.1.nm)).setCell ⟨B, 8, none⟩ (.slice ro1 A1.1.cols.length rc1)).setCell ⟨B, 9, none⟩ (.int .i64 A1.1.key))) := hu1
  have y0 := blk_cell b1 0
  have y1 := blk_cell b1 1
  have y2 := blk_cell b1 2
  have y3 := blk_cell b1 3
  have y4 := blk_cell b1 4
  have y5 := blk_cell b1 5
  have y6 := blk_cell b1 6
  have y7 := blk_cell b1 7
  have y8 := blk_cell b1 8
  have y9 := blk_cell b1 9
  have y10 := blk_cell b1 10
  have y11 := blk_cell b1 11
  simp only [List.getElem?_toArray, List.getElem?_cons_succ, List.getElem?_cons_zero] at y0 y1 y2 y3 y4 y5 y6 y7 y8 y9 y10 y11
  have f5 := blk_frozen b1 5
  have f6 := blk_frozen b1 6
  have f7 := blk_frozen b1 7
  have f8 := blk_frozen b1 8
  have f9 := blk_frozen b1 9
  clear q1 b1 hu1 e1 t1 g1 c0 d0 T0 own1
  obtain ⟨co', cc', hck⟩ := own_ck9 (p := (A1.1, .slice ro1 A1.1.cols.length rc1)) OW1
  have e9 := hck.eq
  simp only [Value.slice.injEq] at e9
  obtain ⟨e91, _, e92⟩ := e9
  subst e91 e92
  have hcl : A1.1.cols.length ≤ 255 := by rw [HA1.out]; exact dTab_cols _
  have HRW : Hid (RW u1 (fun i => i ≤ N) r { sk0 with co := ro1, cc := rc1 }) := by
    show RW _ _ _ _
    rw [HRR.out.1]
    exact ⟨sl_nil _ _ rfl, sl_nil _ _ rfl, ⟨hck.eq, hck.sl, hck.no, hck.cap, fun hne g o e => ⟨fun h => (hck.nf hne g o e).1 (by omega), (hck.nf hne g o e).2⟩⟩, fun h => absurd rfl h, fun h => absurd rfl h, fun v hv => absurd hv List.not_mem_nil, fun v hv => absurd hv List.not_mem_nil, Nat.zero_le _, Nat.zero_le _, by show A1.1.cols.length ≤ _; omega⟩
  have hlc : r.tb.cols.length ≤ 4398046511104 := by rw [HRR.out.1]; show A1.1.cols.length ≤ _; omega
  have q9 := renc_all r { sk0 with co := ro1, cc := rc1 } _ u1 HRW.out hlc
  have ervr : rV r { sk0 with co := ro1, cc := rc1 } = .agg #[.int .i64 2, .int .i64 0, .int .i64 0, .int .i64 0, .int .i64 0, .int .i64 A1.1.id, .int .i64 A1.1.ver, .string A1.1.nm, .slice ro1 A1.1.cols.length rc1, .int .i64 A1.1.key, .slice none 0 0, .slice none 0 0] := by rw [HRR.out.1]; rfl
  have HRV : Hid (rV r { sk0 with co := ro1, cc := rc1 } = .agg #[.int .i64 2, .int .i64 0, .int .i64 0, .int .i64 0, .int .i64 0, .int .i64 A1.1.id, .int .i64 A1.1.ver, .string A1.1.nm, .slice ro1 A1.1.cols.length rc1, .int .i64 A1.1.key, .slice none 0 0, .slice none 0 0]) := ervr
  rw [ervr] at q9
  clear ervr
  rw [HU1.out] at q9
  obtain ⟨Y, hY⟩ : ∃ Y, Y = encS r := ⟨_, rfl⟩
  obtain ⟨E, hE⟩ : ∃ E, E = encI r := ⟨_, rfl⟩
  rw [← hY, ← hE] at q9
  rw [← hY, ← hE] at HSY HNS
  clear hY hE hlc
  go_wp2_with fail
  refine q9.mono ?_
  rintro x z ⟨rfl, t9⟩
  rw [← HU1.out] at t9
  have bz : z.heap[B]? = some (.cells #[.int .i64 2, .int .i64 0, .int .i64 0, .int .i64 0, .int .i64 0, .int .i64 A1.1.id, .int .i64 A1.1.ver, .string A1.1.nm, .slice ro1 A1.1.cols.length rc1, .int .i64 A1.1.key, .slice none 0 0, .slice none 0 0] 28 (0, 0)) := (t9.block _ (blk_lt c1) (fun h => h)).trans c1
  have dz : DB z (N + 1) A1.2 := d1.no t9
  have Tz : Tch (fun i => i = N + 1 ∨ B ≤ i) w0 z := T1.trans' (t9.mono (fun _ _ h => h.elim))
  have rz : z.heap[N]? = some (.cells #[.int .i64 0, .int .i64 0, .int .i64 0, .int .i64 0, .int .i64 0, .int .i64 0, .int .i64 0, .string ⟨#[]⟩, .slice none 0 0, .int .i64 0, .slice none 0 0, .slice none 0 0] 28 (0, 0)) := (Tz.block N (by omega) (by omega)).trans HT0.out.2
  have HWZ : Hid (∀ W, Tch (fun i => i = N) z W → Tch (fun _ => False) w W ∧ RW W (fun i => i < w.heap.size) r { sk0 with co := ro1, cc := rc1 }) := fun W t => by
    have hw := HNN.out
    have hz9 := HT0.out.1.size
    refine ⟨((HT0.out.1.mono (fun _ _ h => h.elim)).trans Tz (fun i hi h => ?_)).trans t (fun i hi h => ?_), ?_⟩
    · omega
    · omega
    · exact ((HRW.out.no t9).tch t (fun i hi h => Nat.le_of_eq h)).weak9 (fun i hi => by omega)
  have bad9 : z.cell? ⟨N + 1, 1, none⟩ = some (.bool A1.2.2) := blk_cell dz 1
  obtain ⟨bad, hbad⟩ : ∃ bad, bad = A1.2.2 := ⟨_, rfl⟩
  rw [← hbad] at bad9
  have HNS2 : Hid (¬ (bad = false ∧ E = 0 ∧ Y = S) → ∀ r, ¬ Says S r) := by rw [hbad]; exact HNS.out
  clear q9 y0 y1 y2 y3 y4 y5 y6 y7 y8 y9 y10 y11 hbad
  have y0 := blk_cell bz 0
  have y1 := blk_cell bz 1
  have y2 := blk_cell bz 2
  have y3 := blk_cell bz 3
  have y4 := blk_cell bz 4
  have y5 := blk_cell bz 5
  have y6 := blk_cell bz 6
  have y7 := blk_cell bz 7
  have y8 := blk_cell bz 8
  have y9 := blk_cell bz 9
  have y10 := blk_cell bz 10
  have y11 := blk_cell bz 11
  simp only [List.getElem?_toArray, List.getElem?_cons_succ, List.getElem?_cons_zero] at y0 y1 y2 y3 y4 y5 y6 y7 y8 y9 y10 y11
  have k0 := blk_cell rz 0
  have k1 := blk_cell rz 1
  have k2 := blk_cell rz 2
  have k3 := blk_cell rz 3
  have k4 := blk_cell rz 4
  have k5 := blk_cell rz 5
  have k6 := blk_cell rz 6
  have k7 := blk_cell rz 7
  have k8 := blk_cell rz 8
  have k9 := blk_cell rz 9
  have k10 := blk_cell rz 10
  have k11 := blk_cell rz 11
  simp only [List.getElem?_toArray, List.getElem?_cons_succ, List.getElem?_cons_zero] at k0 k1 k2 k3 k4 k5 k6 k7 k8 k9 k10 k11
  have j0 := blk_frozen rz 0
  have j1 := blk_frozen rz 1
  have j2 := blk_frozen rz 2
  have j3 := blk_frozen rz 3
  have j4 := blk_frozen rz 4
  have j5 := blk_frozen rz 5
  have j6 := blk_frozen rz 6
  have j7 := blk_frozen rz 7
  have j8 := blk_frozen rz 8
  have j9 := blk_frozen rz 9
  have j10 := blk_frozen rz 10
  have j11 := blk_frozen rz 11
  clear t9 bz dz Tz rz c1 d1 T1 HT0 HU1 HRW HNS HDC
  have hrs : Tryz.f22.results = #[.cell 2 28, .tmp 3] := by kernel_rfl
  cases bad
  · by_cases hE0 : E = 0
    · have e1 := int_eq' hE0
      by_cases hYS : Y = S
      · have e2 := bs_eq hYS
        go_wp2_with fail
        refine bodyPost_ret (v := .tuple #[.agg #[.int .i64 2, .int .i64 0, .int .i64 0, .int .i64 0, .int .i64 0, .int .i64 A1.1.id, .int .i64 A1.1.ver, .string A1.1.nm, .slice ro1 A1.1.cols.length rc1, .int .i64 A1.1.key, .slice none 0 0, .slice none 0 0], .int .i64 0]) (by simp only [results, hrs]; go_simp) rfl ?_
        obtain ⟨a1, a2⟩ := HWZ.out _ (show Tch (fun i => i = N) z _ from (((((((((((Tch.setCell (fun i => i = N) z ⟨N, 0, none⟩ _ rfl).setCellR ⟨N, 1, none⟩ _ rfl).setCellR ⟨N, 2, none⟩ _ rfl).setCellR ⟨N, 3, none⟩ _ rfl).setCellR ⟨N, 4, none⟩ _ rfl).setCellR ⟨N, 5, none⟩ _ rfl).setCellR ⟨N, 6, none⟩ _ rfl).setCellR ⟨N, 7, none⟩ _ rfl).setCellR ⟨N, 8, none⟩ _ rfl).setCellR ⟨N, 9, none⟩ _ rfl).setCellR ⟨N, 10, none⟩ _ rfl).setCellR ⟨N, 11, none⟩ _ rfl)
        exact Or.inl ⟨r, { sk0 with co := ro1, cc := rc1 }, HSY.out hE0 hYS, by rw [HRV.out], a2, a1⟩
      · have e2 := bs_ne hYS
        go_wp2_with fail
        refine bodyPost_ret (v := .tuple #[rV (rc0 0) sk0, .int .i64 181]) (by simp only [results, hrs]; go_simp; (repeat' apply And.intro) <;> rfl) rfl ?_
        exact Or.inr ⟨HNS2.out (fun e => hYS e.2.2), rfl, (HWZ.out _ (show Tch (fun i => i = N) z _ from (((((((((((Tch.setCell (fun i => i = N) z ⟨N, 0, none⟩ _ rfl).setCellR ⟨N, 1, none⟩ _ rfl).setCellR ⟨N, 2, none⟩ _ rfl).setCellR ⟨N, 3, none⟩ _ rfl).setCellR ⟨N, 4, none⟩ _ rfl).setCellR ⟨N, 5, none⟩ _ rfl).setCellR ⟨N, 6, none⟩ _ rfl).setCellR ⟨N, 7, none⟩ _ rfl).setCellR ⟨N, 8, none⟩ _ rfl).setCellR ⟨N, 9, none⟩ _ rfl).setCellR ⟨N, 10, none⟩ _ rfl).setCellR ⟨N, 11, none⟩ _ rfl)).1⟩
    · have e1 := int_ne hE0
      go_wp2_with fail
      refine bodyPost_ret (v := .tuple #[rV (rc0 0) sk0, .int .i64 181]) (by simp only [results, hrs]; go_simp; (repeat' apply And.intro) <;> rfl) rfl ?_
      exact Or.inr ⟨HNS2.out (fun e => hE0 e.2.1), rfl, (HWZ.out _ (show Tch (fun i => i = N) z _ from (((((((((((Tch.setCell (fun i => i = N) z ⟨N, 0, none⟩ _ rfl).setCellR ⟨N, 1, none⟩ _ rfl).setCellR ⟨N, 2, none⟩ _ rfl).setCellR ⟨N, 3, none⟩ _ rfl).setCellR ⟨N, 4, none⟩ _ rfl).setCellR ⟨N, 5, none⟩ _ rfl).setCellR ⟨N, 6, none⟩ _ rfl).setCellR ⟨N, 7, none⟩ _ rfl).setCellR ⟨N, 8, none⟩ _ rfl).setCellR ⟨N, 9, none⟩ _ rfl).setCellR ⟨N, 10, none⟩ _ rfl).setCellR ⟨N, 11, none⟩ _ rfl)).1⟩
  · skip
    go_wp2_with fail
    refine bodyPost_ret (v := .tuple #[rV (rc0 0) sk0, .int .i64 181]) (by simp only [results, hrs]; go_simp; (repeat' apply And.intro) <;> rfl) rfl ?_
    exact Or.inr ⟨HNS2.out (fun e => by cases e.1), rfl, (HWZ.out _ (show Tch (fun i => i = N) z _ from (((((((((((Tch.setCell (fun i => i = N) z ⟨N, 0, none⟩ _ rfl).setCellR ⟨N, 1, none⟩ _ rfl).setCellR ⟨N, 2, none⟩ _ rfl).setCellR ⟨N, 3, none⟩ _ rfl).setCellR ⟨N, 4, none⟩ _ rfl).setCellR ⟨N, 5, none⟩ _ rfl).setCellR ⟨N, 6, none⟩ _ rfl).setCellR ⟨N, 7, none⟩ _ rfl).setCellR ⟨N, 8, none⟩ _ rfl).setCellR ⟨N, 9, none⟩ _ rfl).setCellR ⟨N, 10, none⟩ _ rfl).setCellR ⟨N, 11, none⟩ _ rfl)).1⟩
end Go.Proofs.YteaagnlhkopgdaaGreatDoor.C
namespace Go.Proofs.YteaagnlhkopgdaaGreatDoor.C
open Go.RowKit Go Go.Sort
theorem ddec_3 (S : ByteArray) (w : World) (hsz : S.size ≤ 140737488351232) (hk : ((dByte (bl S, false)).1 : Int) = 3) : Calls Tryz.prog 22 #[.string S] w fun x w' => DyOut S w x w' := by
  have HNS : Hid _ := @dy_no S 3 3 hk (by rfl)
  obtain ⟨N, hN⟩ : ∃ N, N = w.heap.size := ⟨_, rfl⟩
  obtain ⟨w0, hw0⟩ : ∃ w0, w0 = (w.alloc (.cells #[.int .i64 0, .int .i64 0, .int .i64 0, .int .i64 0, .int .i64 0, .int .i64 0, .int .i64 0, .string ⟨#[]⟩, .slice none 0 0, .int .i64 0, .slice none 0 0, .slice none 0 0] 28)).alloc (.cells #[.string S, .bool false] 99) := ⟨_, rfl⟩
  have t0 : Tch (fun _ => False) w w0 := by rw [hw0]; exact (Tch.alloc _ _ _).allocR _
  have hz0 : w0.heap.size = N + 2 := by rw [hw0, hN, World.size_alloc, World.size_alloc]
  have bR : w0.heap[N]? = some (.cells #[.int .i64 0, .int .i64 0, .int .i64 0, .int .i64 0, .int .i64 0, .int .i64 0, .int .i64 0, .string ⟨#[]⟩, .slice none 0 0, .int .i64 0, .slice none 0 0, .slice none 0 0] 28 (0, 0)) := by
    rw [hw0, hN]; exact ((Tch.alloc (fun _ => False) _ _).block _ (by simp) (fun h => h)).trans (heap_new w _)
  have h0 : DB w0 (N + 1) (bl S, false) := by
    unfold DB
    rw [bB_bl, hw0, hN, ← World.size_alloc]; exact heap_new _ _
  have q0 := dbyte_any (N + 1) (bl S, false) w0 h0
  obtain ⟨P0, hP0⟩ : ∃ P, P = (dByte (bl S, false)).2 := ⟨_, rfl⟩
  have hl0 : P0.1.length ≤ 140737488351232 := by
    have h1 := dByte_len (bl S, false)
    have h2 := bl_size S
    rw [hP0]
    simp only at h1
    omega
  rw [hk, ← hP0] at q0
  rw [← hP0] at HNS
  obtain ⟨A1, hA1⟩ : ∃ A, A = dNum P0 := ⟨_, rfl⟩
  have HA1 : Hid (A1 = dNum P0) := hA1
  have hl1 : A1.2.1.length ≤ 140737488351232 := by have := dNum_len P0; rw [hA1]; omega
  obtain ⟨A2, hA2⟩ : ∃ A, A = dRow A1.2 := ⟨_, rfl⟩
  have HA2 : Hid (A2 = dRow A1.2) := hA2
  obtain ⟨r, hr⟩ : ∃ r : Rc, r = { rc0 3 with t := A1.1, n := A2.1 } := ⟨_, rfl⟩
  have HDC : Hid (dC 3 3 P0 = (r, A2.2)) := by
    show _ = _
    rw [hr, hA2, hA1]
    rfl
  rw [HDC.out] at HNS
  have ho : ∀ v ∈ r.o, v.i64 := fun v hv => by
    rw [hr] at hv
    exact absurd hv List.not_mem_nil
  have hn : ∀ v ∈ r.n, v.i64 := fun v hv => by
    rw [hr] at hv
    (rw [hA2] at hv; exact (dRow_i64 _ v hv).1)
  have HSY : Hid (encI r = 0 → encS r = S → Says S r) := fun h1 h2 => enc_says h1 h2 ho hn
  have HRR : Hid (r = { rc0 3 with t := A1.1, n := A2.1 } ∧ (∀ v ∈ r.o, v.i64) ∧ ∀ v ∈ r.n, v.i64) := ⟨hr, ho, hn⟩
  have HW0 : Hid (w0 = (w.alloc (.cells #[.int .i64 0, .int .i64 0, .int .i64 0, .int .i64 0, .int .i64 0, .int .i64 0, .int .i64 0, .string ⟨#[]⟩, .slice none 0 0, .int .i64 0, .slice none 0 0, .slice none 0 0] 28)).alloc (.cells #[.string S, .bool false] 99)) := hw0
  have HT0 : Hid (Tch (fun _ => False) w w0 ∧ w0.heap[N]? = some (.cells #[.int .i64 0, .int .i64 0, .int .i64 0, .int .i64 0, .int .i64 0, .int .i64 0, .int .i64 0, .string ⟨#[]⟩, .slice none 0 0, .int .i64 0, .slice none 0 0, .slice none 0 0] 28 (0, 0))) := ⟨t0, bR⟩
  have HNN : Hid (N = w.heap.size) := hN
  rw [hw0, hN] at q0
  clear hk hP0 hA1 hA2 hr ho hn hw0 t0 bR h0 hN 
  go_enter Tryz.func22, Tryz.ntmps22
  go_wp2_with fail
  refine q0.mono ?_
  rintro x w1 ⟨rfl, h1, t1⟩
  rw [← HW0.out, ← HNN.out] at t1
  rw [← HNN.out] at h1 ⊢
  have hz1 := t1.size
  clear q0
  obtain ⟨B, hB⟩ : ∃ B, B = w1.heap.size := ⟨_, rfl⟩
  obtain ⟨u0, hu0⟩ : ∃ u, u = w1.alloc (.cells #[.int .i64 3, .int .i64 0, .int .i64 0, .int .i64 0, .int .i64 0, .int .i64 0, .int .i64 0, .string ⟨#[]⟩, .slice none 0 0, .int .i64 0, .slice none 0 0, .slice none 0 0] 28) := ⟨_, rfl⟩
  have s0 : Tch (fun _ => False) w1 u0 := by rw [hu0]; exact Tch.alloc _ _ _
  have c0 : u0.heap[B]? = some (.cells #[.int .i64 3, .int .i64 0, .int .i64 0, .int .i64 0, .int .i64 0, .int .i64 0, .int .i64 0, .string ⟨#[]⟩, .slice none 0 0, .int .i64 0, .slice none 0 0, .slice none 0 0] 28 (0, 0)) := by rw [hu0, hB]; exact heap_new w1 _
  have d0 : DB u0 (N + 1) P0 := h1.no s0
  have T0 : Tch (fun i => i = N + 1 ∨ B ≤ i) w0 u0 := (t1.mono (fun _ _ h => Or.inl h)).trans' (s0.mono (fun _ _ h => h.elim))
  have hzB : N + 2 ≤ B := by omega
  have hzu : B < u0.heap.size := blk_lt c0
  have HU0 : Hid (u0 = w1.alloc (.cells #[.int .i64 3, .int .i64 0, .int .i64 0, .int .i64 0, .int .i64 0, .int .i64 0, .int .i64 0, .string ⟨#[]⟩, .slice none 0 0, .int .i64 0, .slice none 0 0, .slice none 0 0] 28)) := hu0
  have HBB : Hid (B = w1.heap.size) := hB
  clear hu0 hB h1 t1 s0 hz1
  have q1 := dnum_any (N + 1) P0 u0 d0
  rw [← HA1.out] at q1
  rw [HU0.out] at q1
  go_wp2_with fail
  refine q1.mono ?_
  rintro x v1 ⟨rfl, e1, t1⟩
  rw [← HU0.out] at t1
  rw [← HBB.out]
  have hz1 := t1.size
  have b1 : v1.heap[B]? = some (.cells #[.int .i64 3, .int .i64 0, .int .i64 0, .int .i64 0, .int .i64 0, .int .i64 0, .int .i64 0, .string ⟨#[]⟩, .slice none 0 0, .int .i64 0, .slice none 0 0, .slice none 0 0] 28 (0, 0)) := (t1.block _ (blk_lt c0) (by omega)).trans c0
  obtain ⟨u1, hu1⟩ : ∃ u, u = (v1.setCell ⟨B, 4, none⟩ (.int .i64 (A1.1 : Int))) := ⟨_, rfl⟩
  have g1 : Tch (fun i => i = B) v1 u1 := by rw [hu1]; exact Tch.setCell (fun i => i = B) v1 ⟨B, 4, none⟩ _ rfl
  have c1 : u1.heap[B]? = some (.cells #[.int .i64 3, .int .i64 0, .int .i64 0, .int .i64 0, .int .i64 (A1.1 : Int), .int .i64 0, .int .i64 0, .string ⟨#[]⟩, .slice none 0 0, .int .i64 0, .slice none 0 0, .slice none 0 0] 28 (0, 0)) := by rw [hu1]; exact blk_set b1 _
  have d1 : DB u1 (N + 1) A1.2 := e1.tch g1 (by omega)
  have T1 : Tch (fun i => i = N + 1 ∨ B ≤ i) w0 u1 := (T0.trans' (t1.mono (fun _ _ h => Or.inl h))).trans' (g1.mono (fun _ _ h => Or.inr (by omega)))
  have x1 := g1.size
  have HU1 : Hid (u1 = (v1.setCell ⟨B, 4, none⟩ (.int .i64 (A1.1 : Int)))) := hu1
  have y0 := blk_cell b1 0
  have y1 := blk_cell b1 1
  have y2 := blk_cell b1 2
  have y3 := blk_cell b1 3
  have y4 := blk_cell b1 4
  have y5 := blk_cell b1 5
  have y6 := blk_cell b1 6
  have y7 := blk_cell b1 7
  have y8 := blk_cell b1 8
  have y9 := blk_cell b1 9
  have y10 := blk_cell b1 10
  have y11 := blk_cell b1 11
  simp only [List.getElem?_toArray, List.getElem?_cons_succ, List.getElem?_cons_zero] at y0 y1 y2 y3 y4 y5 y6 y7 y8 y9 y10 y11
  have f4 := blk_frozen b1 4
  clear q1 b1 hu1 e1 t1 g1 c0 d0 T0
  have q2 := drow_any (N + 1) A1.2 u1 d1 (by omega)
  unfold DRo at q2
  rw [← HA2.out] at q2
  rw [HU1.out] at q2
  go_wp2_with fail
  refine q2.mono ?_
  rintro x v2 ⟨⟨ro2, rc2, rfl, sl2, ge2⟩, e2, t2⟩
  rw [← HU1.out] at t2 ge2
  have hz2 := t2.size
  have b2 : v2.heap[B]? = some (.cells #[.int .i64 3, .int .i64 0, .int .i64 0, .int .i64 0, .int .i64 (A1.1 : Int), .int .i64 0, .int .i64 0, .string ⟨#[]⟩, .slice none 0 0, .int .i64 0, .slice none 0 0, .slice none 0 0] 28 (0, 0)) := (t2.block _ (blk_lt c1) (by omega)).trans c1
  obtain ⟨u2, hu2⟩ : ∃ u, u = (v2.setCell ⟨B, 11, none⟩ (.slice ro2 A2.1.length rc2)) := ⟨_, rfl⟩
  have g2 : Tch (fun i => i = B) v2 u2 := by rw [hu2]; exact Tch.setCell (fun i => i = B) v2 ⟨B, 11, none⟩ _ rfl
  have c2 : u2.heap[B]? = some (.cells #[.int .i64 3, .int .i64 0, .int .i64 0, .int .i64 0, .int .i64 (A1.1 : Int), .int .i64 0, .int .i64 0, .string ⟨#[]⟩, .slice none 0 0, .int .i64 0, .slice none 0 0, .slice ro2 A2.1.length rc2] 28 (0, 0)) := by rw [hu2]; exact blk_set b2 _
  have d2 : DB u2 (N + 1) A2.2 := e2.tch g2 (by omega)
  have T2 : Tch (fun i => i = N + 1 ∨ B ≤ i) w0 u2 := (T1.trans' (t2.mono (fun _ _ h => Or.inl h))).trans' (g2.mono (fun _ _ h => Or.inr (by omega)))
  have x2 := g2.size
  have SL2 : SL u2 ro2 (vcl A2.1) := sl2.tch g2 (fun g o e h => by have := ge2 g o e; omega)
  have HU2 : Hid (u2 = (v2.setCell ⟨B, 11, none⟩ (.slice ro2 A2.1.length rc2))) := hu2
  have y0 := blk_cell b2 0
  have y1 := blk_cell b2 1
  have y2 := blk_cell b2 2
  have y3 := blk_cell b2 3
  have y4 := blk_cell b2 4
  have y5 := blk_cell b2 5
  have y6 := blk_cell b2 6
  have y7 := blk_cell b2 7
  have y8 := blk_cell b2 8
  have y9 := blk_cell b2 9
  have y10 := blk_cell b2 10
  have y11 := blk_cell b2 11
  simp only [List.getElem?_toArray, List.getElem?_cons_succ, List.getElem?_cons_zero] at y0 y1 y2 y3 y4 y5 y6 y7 y8 y9 y10 y11
  have f11 := blk_frozen b2 11
  clear q2 b2 hu2 e2 t2 g2 c1 d1 T1 sl2
  have HRW : Hid (RW u2 (fun i => i ≤ N) r { sk0 with no := ro2, nc := rc2 }) := by
    have i1 := HRR.out.2.1
    have i2 := HRR.out.2.2
    show RW _ _ _ _
    rw [HRR.out.1] at i1 i2 ⊢
    exact ⟨sl_nil _ _ rfl, SL2, ck_nil _ _, fun h => absurd rfl h, fun _ g o e h => by have := ge2 g o e; omega, i1, i2, Nat.zero_le _, by show A2.1.length ≤ _; rw [HA2.out]; exact Nat.le_trans (dRow_len8 _) (by omega), Nat.zero_le _⟩
  have hlc : r.tb.cols.length ≤ 4398046511104 := by rw [HRR.out.1]; exact Nat.zero_le _
  have q9 := renc_all r { sk0 with no := ro2, nc := rc2 } _ u2 HRW.out hlc
  have ervr : rV r { sk0 with no := ro2, nc := rc2 } = .agg #[.int .i64 3, .int .i64 0, .int .i64 0, .int .i64 0, .int .i64 (A1.1 : Int), .int .i64 0, .int .i64 0, .string ⟨#[]⟩, .slice none 0 0, .int .i64 0, .slice none 0 0, .slice ro2 A2.1.length rc2] := by rw [HRR.out.1]; rfl
  have HRV : Hid (rV r { sk0 with no := ro2, nc := rc2 } = .agg #[.int .i64 3, .int .i64 0, .int .i64 0, .int .i64 0, .int .i64 (A1.1 : Int), .int .i64 0, .int .i64 0, .string ⟨#[]⟩, .slice none 0 0, .int .i64 0, .slice none 0 0, .slice ro2 A2.1.length rc2]) := ervr
  rw [ervr] at q9
  clear ervr
  rw [HU2.out] at q9
  obtain ⟨Y, hY⟩ : ∃ Y, Y = encS r := ⟨_, rfl⟩
  obtain ⟨E, hE⟩ : ∃ E, E = encI r := ⟨_, rfl⟩
  rw [← hY, ← hE] at q9
  rw [← hY, ← hE] at HSY HNS
  clear hY hE hlc
  go_wp2_with fail
  refine q9.mono ?_
  rintro x z ⟨rfl, t9⟩
  rw [← HU2.out] at t9
  have bz : z.heap[B]? = some (.cells #[.int .i64 3, .int .i64 0, .int .i64 0, .int .i64 0, .int .i64 (A1.1 : Int), .int .i64 0, .int .i64 0, .string ⟨#[]⟩, .slice none 0 0, .int .i64 0, .slice none 0 0, .slice ro2 A2.1.length rc2] 28 (0, 0)) := (t9.block _ (blk_lt c2) (fun h => h)).trans c2
  have dz : DB z (N + 1) A2.2 := d2.no t9
  have Tz : Tch (fun i => i = N + 1 ∨ B ≤ i) w0 z := T2.trans' (t9.mono (fun _ _ h => h.elim))
  have rz : z.heap[N]? = some (.cells #[.int .i64 0, .int .i64 0, .int .i64 0, .int .i64 0, .int .i64 0, .int .i64 0, .int .i64 0, .string ⟨#[]⟩, .slice none 0 0, .int .i64 0, .slice none 0 0, .slice none 0 0] 28 (0, 0)) := (Tz.block N (by omega) (by omega)).trans HT0.out.2
  have HWZ : Hid (∀ W, Tch (fun i => i = N) z W → Tch (fun _ => False) w W ∧ RW W (fun i => i < w.heap.size) r { sk0 with no := ro2, nc := rc2 }) := fun W t => by
    have hw := HNN.out
    have hz9 := HT0.out.1.size
    refine ⟨((HT0.out.1.mono (fun _ _ h => h.elim)).trans Tz (fun i hi h => ?_)).trans t (fun i hi h => ?_), ?_⟩
    · omega
    · omega
    · exact ((HRW.out.no t9).tch t (fun i hi h => Nat.le_of_eq h)).weak9 (fun i hi => by omega)
  have bad9 : z.cell? ⟨N + 1, 1, none⟩ = some (.bool A2.2.2) := blk_cell dz 1
  obtain ⟨bad, hbad⟩ : ∃ bad, bad = A2.2.2 := ⟨_, rfl⟩
  rw [← hbad] at bad9
  have HNS2 : Hid (¬ (bad = false ∧ E = 0 ∧ Y = S) → ∀ r, ¬ Says S r) := by rw [hbad]; exact HNS.out
  clear q9 y0 y1 y2 y3 y4 y5 y6 y7 y8 y9 y10 y11 hbad
  have y0 := blk_cell bz 0
  have y1 := blk_cell bz 1
  have y2 := blk_cell bz 2
  have y3 := blk_cell bz 3
  have y4 := blk_cell bz 4
  have y5 := blk_cell bz 5
  have y6 := blk_cell bz 6
  have y7 := blk_cell bz 7
  have y8 := blk_cell bz 8
  have y9 := blk_cell bz 9
  have y10 := blk_cell bz 10
  have y11 := blk_cell bz 11
  simp only [List.getElem?_toArray, List.getElem?_cons_succ, List.getElem?_cons_zero] at y0 y1 y2 y3 y4 y5 y6 y7 y8 y9 y10 y11
  have k0 := blk_cell rz 0
  have k1 := blk_cell rz 1
  have k2 := blk_cell rz 2
  have k3 := blk_cell rz 3
  have k4 := blk_cell rz 4
  have k5 := blk_cell rz 5
  have k6 := blk_cell rz 6
  have k7 := blk_cell rz 7
  have k8 := blk_cell rz 8
  have k9 := blk_cell rz 9
  have k10 := blk_cell rz 10
  have k11 := blk_cell rz 11
  simp only [List.getElem?_toArray, List.getElem?_cons_succ, List.getElem?_cons_zero] at k0 k1 k2 k3 k4 k5 k6 k7 k8 k9 k10 k11
  have j0 := blk_frozen rz 0
  have j1 := blk_frozen rz 1
  have j2 := blk_frozen rz 2
  have j3 := blk_frozen rz 3
  have j4 := blk_frozen rz 4
  have j5 := blk_frozen rz 5
  have j6 := blk_frozen rz 6
  have j7 := blk_frozen rz 7
  have j8 := blk_frozen rz 8
  have j9 := blk_frozen rz 9
  have j10 := blk_frozen rz 10
  have j11 := blk_frozen rz 11
  clear t9 bz dz Tz rz c2 d2 T2 HT0 HU2 HRW HNS HDC
  have hrs : Tryz.f22.results = #[.cell 2 28, .tmp 3] := by kernel_rfl
  cases bad
  · by_cases hE0 : E = 0
    · have e1 := int_eq' hE0
      by_cases hYS : Y = S
      · have e2 := bs_eq hYS
        go_wp2_with fail
        refine bodyPost_ret (v := .tuple #[.agg #[.int .i64 3, .int .i64 0, .int .i64 0, .int .i64 0, .int .i64 (A1.1 : Int), .int .i64 0, .int .i64 0, .string ⟨#[]⟩, .slice none 0 0, .int .i64 0, .slice none 0 0, .slice ro2 A2.1.length rc2], .int .i64 0]) (by simp only [results, hrs]; go_simp) rfl ?_
        obtain ⟨a1, a2⟩ := HWZ.out _ (show Tch (fun i => i = N) z _ from (((((((((((Tch.setCell (fun i => i = N) z ⟨N, 0, none⟩ _ rfl).setCellR ⟨N, 1, none⟩ _ rfl).setCellR ⟨N, 2, none⟩ _ rfl).setCellR ⟨N, 3, none⟩ _ rfl).setCellR ⟨N, 4, none⟩ _ rfl).setCellR ⟨N, 5, none⟩ _ rfl).setCellR ⟨N, 6, none⟩ _ rfl).setCellR ⟨N, 7, none⟩ _ rfl).setCellR ⟨N, 8, none⟩ _ rfl).setCellR ⟨N, 9, none⟩ _ rfl).setCellR ⟨N, 10, none⟩ _ rfl).setCellR ⟨N, 11, none⟩ _ rfl)
        exact Or.inl ⟨r, { sk0 with no := ro2, nc := rc2 }, HSY.out hE0 hYS, by rw [HRV.out], a2, a1⟩
      · have e2 := bs_ne hYS
        go_wp2_with fail
        refine bodyPost_ret (v := .tuple #[rV (rc0 0) sk0, .int .i64 181]) (by simp only [results, hrs]; go_simp; (repeat' apply And.intro) <;> rfl) rfl ?_
        exact Or.inr ⟨HNS2.out (fun e => hYS e.2.2), rfl, (HWZ.out _ (show Tch (fun i => i = N) z _ from (((((((((((Tch.setCell (fun i => i = N) z ⟨N, 0, none⟩ _ rfl).setCellR ⟨N, 1, none⟩ _ rfl).setCellR ⟨N, 2, none⟩ _ rfl).setCellR ⟨N, 3, none⟩ _ rfl).setCellR ⟨N, 4, none⟩ _ rfl).setCellR ⟨N, 5, none⟩ _ rfl).setCellR ⟨N, 6, none⟩ _ rfl).setCellR ⟨N, 7, none⟩ _ rfl).setCellR ⟨N, 8, none⟩ _ rfl).setCellR ⟨N, 9, none⟩ _ rfl).setCellR ⟨N, 10, none⟩ _ rfl).setCellR ⟨N, 11, none⟩ _ rfl)).1⟩
    · have e1 := int_ne hE0
      go_wp2_with fail
      refine bodyPost_ret (v := .tuple #[rV (rc0 0) sk0, .int .i64 181]) (by simp only [results, hrs]; go_simp; (repeat' apply And.intro) <;> rfl) rfl ?_
      exact Or.inr ⟨HNS2.out (fun e => hE0 e.2.1), rfl, (HWZ.out _ (show Tch (fun i => i = N) z _ from (((((((((((Tch.setCell (fun i => i = N) z ⟨N, 0, none⟩ _ rfl).setCellR ⟨N, 1, none⟩ _ rfl).setCellR ⟨N, 2, none⟩ _ rfl).setCellR ⟨N, 3, none⟩ _ rfl).setCellR ⟨N, 4, none⟩ _ rfl).setCellR ⟨N, 5, none⟩ _ rfl).setCellR ⟨N, 6, none⟩ _ rfl).setCellR ⟨N, 7, none⟩ _ rfl).setCellR ⟨N, 8, none⟩ _ rfl).setCellR ⟨N, 9, none⟩ _ rfl).setCellR ⟨N, 10, none⟩ _ rfl).setCellR ⟨N, 11, none⟩ _ rfl)).1⟩
  · skip
    go_wp2_with fail
    refine bodyPost_ret (v := .tuple #[rV (rc0 0) sk0, .int .i64 181]) (by simp only [results, hrs]; go_simp; (repeat' apply And.intro) <;> rfl) rfl ?_
    exact Or.inr ⟨HNS2.out (fun e => by cases e.1), rfl, (HWZ.out _ (show Tch (fun i => i = N) z _ from (((((((((((Tch.setCell (fun i => i = N) z ⟨N, 0, none⟩ _ rfl).setCellR ⟨N, 1, none⟩ _ rfl).setCellR ⟨N, 2, none⟩ _ rfl).setCellR ⟨N, 3, none⟩ _ rfl).setCellR ⟨N, 4, none⟩ _ rfl).setCellR ⟨N, 5, none⟩ _ rfl).setCellR ⟨N, 6, none⟩ _ rfl).setCellR ⟨N, 7, none⟩ _ rfl).setCellR ⟨N, 8, none⟩ _ rfl).setCellR ⟨N, 9, none⟩ _ rfl).setCellR ⟨N, 10, none⟩ _ rfl).setCellR ⟨N, 11, none⟩ _ rfl)).1⟩
end Go.Proofs.YteaagnlhkopgdaaGreatDoor.C
