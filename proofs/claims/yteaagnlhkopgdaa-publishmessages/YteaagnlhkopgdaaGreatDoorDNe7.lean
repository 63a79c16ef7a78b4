import Derived.Test.YteaagnlhkopgdaaGreatDoorDNe2
set_option maxHeartbeats 8000000
set_option maxRecDepth 100000
namespace Go.Proofs.YteaagnlhkopgdaaGreatDoor.C
open Go.RowKit Go Go.Sort
theorem renc_3 (r : Rc) (s : Sk) (F : Nat → Prop) (w : World) (h : RW w F r s) (hl : r.tb.cols.length ≤ 4398046511104) (hk : r.k = 3) (hR : RR r) : Calls Tryz.prog 10 #[rV r s] w fun x w' => x = .returned (.tuple #[.string (bB (recL r)), .int .i64 0]) ∧ Tch (fun _ => False) w w' := by
  obtain ⟨hr0, hrl⟩ := hR.parts (c := 3) (by rw [hk]; rfl)
  have hr : rtN r.t ∧ rtRow r.n := hr0
  unfold rtN at hr
  obtain ⟨w0, hw0⟩ : ∃ w0, w0 = w.alloc (.cells #[.int .i64 r.k, .int .i64 r.x, .int .i64 r.l, .int .i64 r.e, .int .i64 r.t, .int .i64 r.tb.id, .int .i64 r.tb.ver, .string r.tb.nm, .slice s.co r.tb.cols.length s.cc, .int .i64 r.tb.key, .slice s.oo r.o.length s.oc, .slice s.no r.n.length s.nc] 28) := ⟨_, rfl⟩
  have t0 : Tch (fun _ => False) w w0 := by rw [hw0]; exact Tch.alloc _ _ _
  have b0 : w0.heap[w.heap.size]? = some (.cells #[.int .i64 r.k, .int .i64 r.x, .int .i64 r.l, .int .i64 r.e, .int .i64 r.t, .int .i64 r.tb.id, .int .i64 r.tb.ver, .string r.tb.nm, .slice s.co r.tb.cols.length s.cc, .int .i64 r.tb.key, .slice s.oo r.o.length s.oc, .slice s.no r.n.length s.nc] 28 (0, 0)) := by rw [hw0]; exact heap_new w _
  have q1 : Calls Tryz.prog 17 #[rV r s] w0 fun x w' => x = .returned (.bool true) ∧ Tch (fun _ => False) w0 w' := eqT_d (rrightM_any r s F w0 (h.no t0) hl) ⟨fun _ => hR, fun _ => rfl⟩
  rw [hw0] at q1
  have HW0 : Hid (w0 = w.alloc (.cells #[.int .i64 r.k, .int .i64 r.x, .int .i64 r.l, .int .i64 r.e, .int .i64 r.t, .int .i64 r.tb.id, .int .i64 r.tb.ver, .string r.tb.nm, .slice s.co r.tb.cols.length s.cc, .int .i64 r.tb.key, .slice s.oo r.o.length s.oc, .slice s.no r.n.length s.nc] 28)) := hw0
  have HQ0 : Hid (∀ W, Calls Tryz.prog 18 #[.int .i64 r.k] W fun x w' => x = .returned (.string (bB (bytesL [r.k]))) ∧ Tch (fun _ => False) W w') := fun W => rnum_ok r.k (by omega) (by omega) W
  have HQ1 : Hid (∀ W, Tch (fun _ => False) w W → Calls Tryz.prog 19 #[.int .i64 r.t] W fun x w' => x = .returned (.string (bB (dg r.t.toNat))) ∧ Tch (fun _ => False) W w') := fun W _ => rdig_ok r.t (by omega) (by omega) W
  have HQ2 : Hid (∀ W, Tch (fun _ => False) w W → Calls Tryz.prog 21 #[.slice s.no r.n.length s.nc] W fun x w' => x = .returned (.string (bB (rowL r.n))) ∧ Tch (fun _ => False) W w') := fun W t => rrowed_ok r.n s.no s.nc W (h.no t).n h.ni h.nl
  obtain ⟨S0, hS0⟩ : ∃ S, S = bB (bytesL [r.k]) := ⟨_, rfl⟩
  have z0 : S0.size ≤ 1 := by rw [hS0, size_bB]; exact Nat.le_refl 1
  obtain ⟨S1, hS1⟩ : ∃ S, S = bB (dg r.t.toNat) := ⟨_, rfl⟩
  have z1 : S1.size ≤ 10 := by rw [hS1, size_bB]; exact dg_len _
  obtain ⟨S2, hS2⟩ : ∃ S, S = bB (rowL r.n) := ⟨_, rfl⟩
  have z2 : S2.size ≤ 1700 := by rw [hS2, size_bB]; exact rowL_len _
  have HB : Hid (S0 ++ S1 ++ S2 = bB (recL r)) := by
    show _ = _
    apply bB_of
    rw [hrl]
    simp only [bl_app, hS0, hS1, hS2, bl_bB]
    simp only [bodyL, List.append_assoc]
  rw [← hS0] at HQ0
  rw [← hS1] at HQ1
  rw [← hS2] at HQ2
  have x1 : (S0 ++ S1).size ≤ 6000 := by simp only [size_app]; omega
  have e1 : (r.k == 1) = false := int_ne (by omega)
  have e2 : (r.k == 2) = false := int_ne (by omega)
  have e3 : (r.k == 3) = true := int_eq' hk
  have e4 : (r.k == 4) = false := int_ne (by omega)
  have e5 : (r.k == 5) = false := int_ne (by omega)
  have e6 : (r.k == 6) = false := int_ne (by omega)
  have e7 : (r.k == 7) = false := int_ne (by omega)
  have e8 : (r.k == 8) = false := int_ne (by omega)
  have e9 : (r.k == 9) = false := int_ne (by omega)
  have HBX : Hid (∀ W, Tch (fun _ => False) w0 W → W.heap[w.heap.size]? = some (.cells #[.int .i64 r.k, .int .i64 r.x, .int .i64 r.l, .int .i64 r.e, .int .i64 r.t, .int .i64 r.tb.id, .int .i64 r.tb.ver, .string r.tb.nm, .slice s.co r.tb.cols.length s.cc, .int .i64 r.tb.key, .slice s.oo r.o.length s.oc, .slice s.no r.n.length s.nc] 28 (0, 0))) := fun W t => (t.block _ (blk_lt b0) (fun h => h)).trans b0
  have HT0 : Hid (Tch (fun _ => False) w w0) := t0
  clear h hl hR hr0 hrl hr hw0 b0 t0 hk hS0 hS1 hS2
  go_enter Tryz.func10, Tryz.ntmps10
  go_wp2_with fail
  refine q1.mono ?_
  rintro x w1 ⟨rfl, t1⟩
  rw [← HW0.out] at t1
  have b1 := HBX.out w1 t1
  have y0 : w1.cell? ⟨w.heap.size, 0, none⟩ = some (.int .i64 r.k) := blk_cell b1 0
  clear q1 b1
  go_wp2_with fail
  refine (HQ0.out w1).mono ?_
  rintro x w2 ⟨rfl, t2⟩
  have T2 := t1.trans' t2
  have U2 := HT0.out.trans' T2
  have b2 := HBX.out w2 T2
  clear y0 t1 t2
  have y0 := blk_cell b2 0
  have y1 := blk_cell b2 1
  have y2 := blk_cell b2 2
  have y3 := blk_cell b2 3
  have y4 := blk_cell b2 4
  have y5 := blk_cell b2 5
  have y6 := blk_cell b2 6
  have y7 := blk_cell b2 7
  have y8 := blk_cell b2 8
  have y9 := blk_cell b2 9
  have y10 := blk_cell b2 10
  have y11 := blk_cell b2 11
  simp only [List.getElem?_toArray, List.getElem?_cons_succ, List.getElem?_cons_zero] at y0 y1 y2 y3 y4 y5 y6 y7 y8 y9 y10 y11
  clear b2
  have k0 := cell_regrown y0
  have k1 := cell_regrown y1
  have k2 := cell_regrown y2
  have k3 := cell_regrown y3
  have k4 := cell_regrown y4
  have k5 := cell_regrown y5
  have k6 := cell_regrown y6
  have k7 := cell_regrown y7
  have k8 := cell_regrown y8
  have k9 := cell_regrown y9
  have k10 := cell_regrown y10
  have k11 := cell_regrown y11
  have c1 := fun (d : Nat) (os : Array Obj) => regrown_calls (w := w2) (fun W t => HQ1.out W (U2.trans' t)) d os
  have c2 := fun (d : Nat) (os : Array Obj) => regrown_calls (w := w2) (fun W t => HQ2.out W (U2.trans' t)) d os
  go_wp2_with fail
  refine wp_region_quiet_below (by kernel_rfl) (by kernel_rfl) ?_
  quiet_step (fail)
  quiet_step (fail)
  quiet_step (fail)
  quiet_step ((go_at_call 19; exact c1 _ _))
  quiet_step ((rw [if_neg (by omega)]; exact ⟨rfl, rfl⟩))
  quiet_step (fail)
  quiet_step (fail)
  quiet_step ((go_at_call 21; exact c2 _ _))
  quiet_step ((rw [if_neg (by omega)]; exact ⟨rfl, rfl⟩))
  quiet_step (fail)
  refine wpQuiet_nil ?_
  rintro w3 ⟨p, rfl⟩
  have HE3 : Hid (Tch (fun _ => False) w (grow (redrawn w2 p.d) p.os)) := U2.trans' (Tch.regrown w2 p.d p.os)
  obtain ⟨W3, hW3⟩ : ∃ W3, W3 = grow (redrawn w2 p.d) p.os := ⟨_, rfl⟩
  rw [← hW3] at HE3 ⊢
  clear hW3 k0 k1 k2 k3 k4 k5 k6 k7 k8 k9 k10 k11 y0 y1 y2 y3 y4 y5 y6 y7 y8 y9 y10 y11 c1 c2
  go_wp2_with fail
  go_ret2
  exact ⟨by rw [← HB.out]; rfl, HE3.out⟩
end Go.Proofs.YteaagnlhkopgdaaGreatDoor.C
namespace Go.Proofs.YteaagnlhkopgdaaGreatDoor.C
open Go.RowKit Go Go.Sort
theorem renc_4 (r : Rc) (s : Sk) (F : Nat → Prop) (w : World) (h : RW w F r s) (hl : r.tb.cols.length ≤ 4398046511104) (hk : r.k = 4) (hR : RR r) : Calls Tryz.prog 10 #[rV r s] w fun x w' => x = .returned (.tuple #[.string (bB (recL r)), .int .i64 0]) ∧ Tch (fun _ => False) w w' := by
  obtain ⟨hr0, hrl⟩ := hR.parts (c := 4) (by rw [hk]; rfl)
  have hr : rtN r.t ∧ rtRow r.o ∧ rtRow r.n := hr0
  unfold rtN at hr
  obtain ⟨w0, hw0⟩ : ∃ w0, w0 = w.alloc (.cells #[.int .i64 r.k, .int .i64 r.x, .int .i64 r.l, .int .i64 r.e, .int .i64 r.t, .int .i64 r.tb.id, .int .i64 r.tb.ver, .string r.tb.nm, .slice s.co r.tb.cols.length s.cc, .int .i64 r.tb.key, .slice s.oo r.o.length s.oc, .slice s.no r.n.length s.nc] 28) := ⟨_, rfl⟩
  have t0 : Tch (fun _ => False) w w0 := by rw [hw0]; exact Tch.alloc _ _ _
  have b0 : w0.heap[w.heap.size]? = some (.cells #[.int .i64 r.k, .int .i64 r.x, .int .i64 r.l, .int .i64 r.e, .int .i64 r.t, .int .i64 r.tb.id, .int .i64 r.tb.ver, .string r.tb.nm, .slice s.co r.tb.cols.length s.cc, .int .i64 r.tb.key, .slice s.oo r.o.length s.oc, .slice s.no r.n.length s.nc] 28 (0, 0)) := by rw [hw0]; exact heap_new w _
  have q1 : Calls Tryz.prog 17 #[rV r s] w0 fun x w' => x = .returned (.bool true) ∧ Tch (fun _ => False) w0 w' := eqT_d (rrightM_any r s F w0 (h.no t0) hl) ⟨fun _ => hR, fun _ => rfl⟩
  rw [hw0] at q1
  have HW0 : Hid (w0 = w.alloc (.cells #[.int .i64 r.k, .int .i64 r.x, .int .i64 r.l, .int .i64 r.e, .int .i64 r.t, .int .i64 r.tb.id, .int .i64 r.tb.ver, .string r.tb.nm, .slice s.co r.tb.cols.length s.cc, .int .i64 r.tb.key, .slice s.oo r.o.length s.oc, .slice s.no r.n.length s.nc] 28)) := hw0
  have HQ0 : Hid (∀ W, Calls Tryz.prog 18 #[.int .i64 r.k] W fun x w' => x = .returned (.string (bB (bytesL [r.k]))) ∧ Tch (fun _ => False) W w') := fun W => rnum_ok r.k (by omega) (by omega) W
  have HQ1 : Hid (∀ W, Tch (fun _ => False) w W → Calls Tryz.prog 19 #[.int .i64 r.t] W fun x w' => x = .returned (.string (bB (dg r.t.toNat))) ∧ Tch (fun _ => False) W w') := fun W _ => rdig_ok r.t (by omega) (by omega) W
  have HQ2 : Hid (∀ W, Tch (fun _ => False) w W → Calls Tryz.prog 21 #[.slice s.oo r.o.length s.oc] W fun x w' => x = .returned (.string (bB (rowL r.o))) ∧ Tch (fun _ => False) W w') := fun W t => rrowed_ok r.o s.oo s.oc W (h.no t).o h.oi h.ol
  have HQ3 : Hid (∀ W, Tch (fun _ => False) w W → Calls Tryz.prog 21 #[.slice s.no r.n.length s.nc] W fun x w' => x = .returned (.string (bB (rowL r.n))) ∧ Tch (fun _ => False) W w') := fun W t => rrowed_ok r.n s.no s.nc W (h.no t).n h.ni h.nl
  obtain ⟨S0, hS0⟩ : ∃ S, S = bB (bytesL [r.k]) := ⟨_, rfl⟩
  have z0 : S0.size ≤ 1 := by rw [hS0, size_bB]; exact Nat.le_refl 1
  obtain ⟨S1, hS1⟩ : ∃ S, S = bB (dg r.t.toNat) := ⟨_, rfl⟩
  have z1 : S1.size ≤ 10 := by rw [hS1, size_bB]; exact dg_len _
  obtain ⟨S2, hS2⟩ : ∃ S, S = bB (rowL r.o) := ⟨_, rfl⟩
  have z2 : S2.size ≤ 1700 := by rw [hS2, size_bB]; exact rowL_len _
  obtain ⟨S3, hS3⟩ : ∃ S, S = bB (rowL r.n) := ⟨_, rfl⟩
  have z3 : S3.size ≤ 1700 := by rw [hS3, size_bB]; exact rowL_len _
  have HB : Hid (S0 ++ S1 ++ S2 ++ S3 = bB (recL r)) := by
    show _ = _
    apply bB_of
    rw [hrl]
    simp only [bl_app, hS0, hS1, hS2, hS3, bl_bB]
    simp only [bodyL, List.append_assoc]
  rw [← hS0] at HQ0
  rw [← hS1] at HQ1
  rw [← hS2] at HQ2
  rw [← hS3] at HQ3
  have x1 : (S0 ++ S1).size ≤ 6000 := by simp only [size_app]; omega
  have x2 : (S0 ++ S1 ++ S2).size ≤ 6000 := by simp only [size_app]; omega
  have e1 : (r.k == 1) = false := int_ne (by omega)
  have e2 : (r.k == 2) = false := int_ne (by omega)
  have e3 : (r.k == 3) = false := int_ne (by omega)
  have e4 : (r.k == 4) = true := int_eq' hk
  have e5 : (r.k == 5) = false := int_ne (by omega)
  have e6 : (r.k == 6) = false := int_ne (by omega)
  have e7 : (r.k == 7) = false := int_ne (by omega)
  have e8 : (r.k == 8) = false := int_ne (by omega)
  have e9 : (r.k == 9) = false := int_ne (by omega)
  have HBX : Hid (∀ W, Tch (fun _ => False) w0 W → W.heap[w.heap.size]? = some (.cells #[.int .i64 r.k, .int .i64 r.x, .int .i64 r.l, .int .i64 r.e, .int .i64 r.t, .int .i64 r.tb.id, .int .i64 r.tb.ver, .string r.tb.nm, .slice s.co r.tb.cols.length s.cc, .int .i64 r.tb.key, .slice s.oo r.o.length s.oc, .slice s.no r.n.length s.nc] 28 (0, 0))) := fun W t => (t.block _ (blk_lt b0) (fun h => h)).trans b0
  have HT0 : Hid (Tch (fun _ => False) w w0) := t0
  clear h hl hR hr0 hrl hr hw0 b0 t0 hk hS0 hS1 hS2 hS3
  go_enter Tryz.func10, Tryz.ntmps10
  go_wp2_with fail
  refine q1.mono ?_
  rintro x w1 ⟨rfl, t1⟩
  rw [← HW0.out] at t1
  have b1 := HBX.out w1 t1
  have y0 : w1.cell? ⟨w.heap.size, 0, none⟩ = some (.int .i64 r.k) := blk_cell b1 0
  clear q1 b1
  go_wp2_with fail
  refine (HQ0.out w1).mono ?_
  rintro x w2 ⟨rfl, t2⟩
  have T2 := t1.trans' t2
  have U2 := HT0.out.trans' T2
  have b2 := HBX.out w2 T2
  clear y0 t1 t2
  have y0 := blk_cell b2 0
  have y1 := blk_cell b2 1
  have y2 := blk_cell b2 2
  have y3 := blk_cell b2 3
  have y4 := blk_cell b2 4
  have y5 := blk_cell b2 5
  have y6 := blk_cell b2 6
  have y7 := blk_cell b2 7
  have y8 := blk_cell b2 8
  have y9 := blk_cell b2 9
  have y10 := blk_cell b2 10
  have y11 := blk_cell b2 11
  simp only [List.getElem?_toArray, List.getElem?_cons_succ, List.getElem?_cons_zero] at y0 y1 y2 y3 y4 y5 y6 y7 y8 y9 y10 y11
  clear b2
  have k0 := cell_regrown y0
  have k1 := cell_regrown y1
  have k2 := cell_regrown y2
  have k3 := cell_regrown y3
  have k4 := cell_regrown y4
  have k5 := cell_regrown y5
  have k6 := cell_regrown y6
  have k7 := cell_regrown y7
  have k8 := cell_regrown y8
  have k9 := cell_regrown y9
  have k10 := cell_regrown y10
  have k11 := cell_regrown y11
  have c1 := fun (d : Nat) (os : Array Obj) => regrown_calls (w := w2) (fun W t => HQ1.out W (U2.trans' t)) d os
  have c2 := fun (d : Nat) (os : Array Obj) => regrown_calls (w := w2) (fun W t => HQ2.out W (U2.trans' t)) d os
  have c3 := fun (d : Nat) (os : Array Obj) => regrown_calls (w := w2) (fun W t => HQ3.out W (U2.trans' t)) d os
  go_wp2_with fail
  refine wp_region_quiet_below (by kernel_rfl) (by kernel_rfl) ?_
  quiet_step (fail)
  quiet_step (fail)
  quiet_step (fail)
  quiet_step ((go_at_call 19; exact c1 _ _))
  quiet_step ((rw [if_neg (by omega)]; exact ⟨rfl, rfl⟩))
  quiet_step (fail)
  quiet_step (fail)
  quiet_step ((go_at_call 21; exact c2 _ _))
  quiet_step ((rw [if_neg (by omega)]; exact ⟨rfl, rfl⟩))
  quiet_step (fail)
  quiet_step (fail)
  quiet_step ((go_at_call 21; exact c3 _ _))
  quiet_step ((rw [if_neg (by omega)]; exact ⟨rfl, rfl⟩))
  quiet_step (fail)
  refine wpQuiet_nil ?_
  rintro w3 ⟨p, rfl⟩
  have HE3 : Hid (Tch (fun _ => False) w (grow (redrawn w2 p.d) p.os)) := U2.trans' (Tch.regrown w2 p.d p.os)
  obtain ⟨W3, hW3⟩ : ∃ W3, W3 = grow (redrawn w2 p.d) p.os := ⟨_, rfl⟩
  rw [← hW3] at HE3 ⊢
  clear hW3 k0 k1 k2 k3 k4 k5 k6 k7 k8 k9 k10 k11 y0 y1 y2 y3 y4 y5 y6 y7 y8 y9 y10 y11 c1 c2 c3
  go_wp2_with fail
  go_ret2
  exact ⟨by rw [← HB.out]; rfl, HE3.out⟩
end Go.Proofs.YteaagnlhkopgdaaGreatDoor.C
namespace Go.Proofs.YteaagnlhkopgdaaGreatDoor.C
open Go.RowKit Go Go.Sort
theorem renc_5 (r : Rc) (s : Sk) (F : Nat → Prop) (w : World) (h : RW w F r s) (hl : r.tb.cols.length ≤ 4398046511104) (hk : r.k = 5) (hR : RR r) : Calls Tryz.prog 10 #[rV r s] w fun x w' => x = .returned (.tuple #[.string (bB (recL r)), .int .i64 0]) ∧ Tch (fun _ => False) w w' := by
  obtain ⟨hr0, hrl⟩ := hR.parts (c := 5) (by rw [hk]; rfl)
  have hr : rtN r.t ∧ rtRow r.o := hr0
  unfold rtN at hr
  obtain ⟨w0, hw0⟩ : ∃ w0, w0 = w.alloc (.cells #[.int .i64 r.k, .int .i64 r.x, .int .i64 r.l, .int .i64 r.e, .int .i64 r.t, .int .i64 r.tb.id, .int .i64 r.tb.ver, .string r.tb.nm, .slice s.co r.tb.cols.length s.cc, .int .i64 r.tb.key, .slice s.oo r.o.length s.oc, .slice s.no r.n.length s.nc] 28) := ⟨_, rfl⟩
  have t0 : Tch (fun _ => False) w w0 := by rw [hw0]; exact Tch.alloc _ _ _
  have b0 : w0.heap[w.heap.size]? = some (.cells #[.int .i64 r.k, .int .i64 r.x, .int .i64 r.l, .int .i64 r.e, .int .i64 r.t, .int .i64 r.tb.id, .int .i64 r.tb.ver, .string r.tb.nm, .slice s.co r.tb.cols.length s.cc, .int .i64 r.tb.key, .slice s.oo r.o.length s.oc, .slice s.no r.n.length s.nc] 28 (0, 0)) := by rw [hw0]; exact heap_new w _
  have q1 : Calls Tryz.prog 17 #[rV r s] w0 fun x w' => x = .returned (.bool true) ∧ Tch (fun _ => False) w0 w' := eqT_d (rrightM_any r s F w0 (h.no t0) hl) ⟨fun _ => hR, fun _ => rfl⟩
  rw [hw0] at q1
  have HW0 : Hid (w0 = w.alloc (.cells #[.int .i64 r.k, .int .i64 r.x, .int .i64 r.l, .int .i64 r.e, .int .i64 r.t, .int .i64 r.tb.id, .int .i64 r.tb.ver, .string r.tb.nm, .slice s.co r.tb.cols.length s.cc, .int .i64 r.tb.key, .slice s.oo r.o.length s.oc, .slice s.no r.n.length s.nc] 28)) := hw0
  have HQ0 : Hid (∀ W, Calls Tryz.prog 18 #[.int .i64 r.k] W fun x w' => x = .returned (.string (bB (bytesL [r.k]))) ∧ Tch (fun _ => False) W w') := fun W => rnum_ok r.k (by omega) (by omega) W
  have HQ1 : Hid (∀ W, Tch (fun _ => False) w W → Calls Tryz.prog 19 #[.int .i64 r.t] W fun x w' => x = .returned (.string (bB (dg r.t.toNat))) ∧ Tch (fun _ => False) W w') := fun W _ => rdig_ok r.t (by omega) (by omega) W
  have HQ2 : Hid (∀ W, Tch (fun _ => False) w W → Calls Tryz.prog 21 #[.slice s.oo r.o.length s.oc] W fun x w' => x = .returned (.string (bB (rowL r.o))) ∧ Tch (fun _ => False) W w') := fun W t => rrowed_ok r.o s.oo s.oc W (h.no t).o h.oi h.ol
  obtain ⟨S0, hS0⟩ : ∃ S, S = bB (bytesL [r.k]) := ⟨_, rfl⟩
  have z0 : S0.size ≤ 1 := by rw [hS0, size_bB]; exact Nat.le_refl 1
  obtain ⟨S1, hS1⟩ : ∃ S, S = bB (dg r.t.toNat) := ⟨_, rfl⟩
  have z1 : S1.size ≤ 10 := by rw [hS1, size_bB]; exact dg_len _
  obtain ⟨S2, hS2⟩ : ∃ S, S = bB (rowL r.o) := ⟨_, rfl⟩
  have z2 : S2.size ≤ 1700 := by rw [hS2, size_bB]; exact rowL_len _
  have HB : Hid (S0 ++ S1 ++ S2 = bB (recL r)) := by
    show _ = _
    apply bB_of
    rw [hrl]
    simp only [bl_app, hS0, hS1, hS2, bl_bB]
    simp only [bodyL, List.append_assoc]
  rw [← hS0] at HQ0
  rw [← hS1] at HQ1
  rw [← hS2] at HQ2
  have x1 : (S0 ++ S1).size ≤ 6000 := by simp only [size_app]; omega
  have e1 : (r.k == 1) = false := int_ne (by omega)
  have e2 : (r.k == 2) = false := int_ne (by omega)
  have e3 : (r.k == 3) = false := int_ne (by omega)
  have e4 : (r.k == 4) = false := int_ne (by omega)
  have e5 : (r.k == 5) = true := int_eq' hk
  have e6 : (r.k == 6) = false := int_ne (by omega)
  have e7 : (r.k == 7) = false := int_ne (by omega)
  have e8 : (r.k == 8) = false := int_ne (by omega)
  have e9 : (r.k == 9) = false := int_ne (by omega)
  have HBX : Hid (∀ W, Tch (fun _ => False) w0 W → W.heap[w.heap.size]? = some (.cells #[.int .i64 r.k, .int .i64 r.x, .int .i64 r.l, .int .i64 r.e, .int .i64 r.t, .int .i64 r.tb.id, .int .i64 r.tb.ver, .string r.tb.nm, .slice s.co r.tb.cols.length s.cc, .int .i64 r.tb.key, .slice s.oo r.o.length s.oc, .slice s.no r.n.length s.nc] 28 (0, 0))) := fun W t => (t.block _ (blk_lt b0) (fun h => h)).trans b0
  have HT0 : Hid (Tch (fun _ => False) w w0) := t0
  clear h hl hR hr0 hrl hr hw0 b0 t0 hk hS0 hS1 hS2
  go_enter Tryz.func10, Tryz.ntmps10
  go_wp2_with fail
  refine q1.mono ?_
  rintro x w1 ⟨rfl, t1⟩
  rw [← HW0.out] at t1
  have b1 := HBX.out w1 t1
  have y0 : w1.cell? ⟨w.heap.size, 0, none⟩ = some (.int .i64 r.k) := blk_cell b1 0
  clear q1 b1
  go_wp2_with fail
  refine (HQ0.out w1).mono ?_
  rintro x w2 ⟨rfl, t2⟩
  have T2 := t1.trans' t2
  have U2 := HT0.out.trans' T2
  have b2 := HBX.out w2 T2
  clear y0 t1 t2
  have y0 := blk_cell b2 0
  have y1 := blk_cell b2 1
  have y2 := blk_cell b2 2
  have y3 := blk_cell b2 3
  have y4 := blk_cell b2 4
  have y5 := blk_cell b2 5
  have y6 := blk_cell b2 6
  have y7 := blk_cell b2 7
  have y8 := blk_cell b2 8
  have y9 := blk_cell b2 9
  have y10 := blk_cell b2 10
  have y11 := blk_cell b2 11
  simp only [List.getElem?_toArray, List.getElem?_cons_succ, List.getElem?_cons_zero] at y0 y1 y2 y3 y4 y5 y6 y7 y8 y9 y10 y11
  clear b2
  have k0 := cell_regrown y0
  have k1 := cell_regrown y1
  have k2 := cell_regrown y2
  have k3 := cell_regrown y3
  have k4 := cell_regrown y4
  have k5 := cell_regrown y5
  have k6 := cell_regrown y6
  have k7 := cell_regrown y7
  have k8 := cell_regrown y8
  have k9 := cell_regrown y9
  have k10 := cell_regrown y10
  have k11 := cell_regrown y11
  have c1 := fun (d : Nat) (os : Array Obj) => regrown_calls (w := w2) (fun W t => HQ1.out W (U2.trans' t)) d os
  have c2 := fun (d : Nat) (os : Array Obj) => regrown_calls (w := w2) (fun W t => HQ2.out W (U2.trans' t)) d os
  go_wp2_with fail
  refine wp_region_quiet_below (by kernel_rfl) (by kernel_rfl) ?_
  quiet_step (fail)
  quiet_step (fail)
  quiet_step (fail)
  quiet_step ((go_at_call 19; exact c1 _ _))
  quiet_step ((rw [if_neg (by omega)]; exact ⟨rfl, rfl⟩))
  quiet_step (fail)
  quiet_step (fail)
  quiet_step ((go_at_call 21; exact c2 _ _))
  quiet_step ((rw [if_neg (by omega)]; exact ⟨rfl, rfl⟩))
  quiet_step (fail)
  refine wpQuiet_nil ?_
  rintro w3 ⟨p, rfl⟩
  have HE3 : Hid (Tch (fun _ => False) w (grow (redrawn w2 p.d) p.os)) := U2.trans' (Tch.regrown w2 p.d p.os)
  obtain ⟨W3, hW3⟩ : ∃ W3, W3 = grow (redrawn w2 p.d) p.os := ⟨_, rfl⟩
  rw [← hW3] at HE3 ⊢
  clear hW3 k0 k1 k2 k3 k4 k5 k6 k7 k8 k9 k10 k11 y0 y1 y2 y3 y4 y5 y6 y7 y8 y9 y10 y11 c1 c2
  go_wp2_with fail
  go_ret2
  exact ⟨by rw [← HB.out]; rfl, HE3.out⟩
end Go.Proofs.YteaagnlhkopgdaaGreatDoor.C
namespace Go.Proofs.YteaagnlhkopgdaaGreatDoor.C
open Go.RowKit Go Go.Sort
theorem renc_6 (r : Rc) (s : Sk) (F : Nat → Prop) (w : World) (h : RW w F r s) (hl : r.tb.cols.length ≤ 4398046511104) (hk : r.k = 6) (hR : RR r) : Calls Tryz.prog 10 #[rV r s] w fun x w' => x = .returned (.tuple #[.string (bB (recL r)), .int .i64 0]) ∧ Tch (fun _ => False) w w' := by
  obtain ⟨hr0, hrl⟩ := hR.parts (c := 6) (by rw [hk]; rfl)
  have hr : rtN r.t := hr0
  unfold rtN at hr
  obtain ⟨w0, hw0⟩ : ∃ w0, w0 = w.alloc (.cells #[.int .i64 r.k, .int .i64 r.x, .int .i64 r.l, .int .i64 r.e, .int .i64 r.t, .int .i64 r.tb.id, .int .i64 r.tb.ver, .string r.tb.nm, .slice s.co r.tb.cols.length s.cc, .int .i64 r.tb.key, .slice s.oo r.o.length s.oc, .slice s.no r.n.length s.nc] 28) := ⟨_, rfl⟩
  have t0 : Tch (fun _ => False) w w0 := by rw [hw0]; exact Tch.alloc _ _ _
  have b0 : w0.heap[w.heap.size]? = some (.cells #[.int .i64 r.k, .int .i64 r.x, .int .i64 r.l, .int .i64 r.e, .int .i64 r.t, .int .i64 r.tb.id, .int .i64 r.tb.ver, .string r.tb.nm, .slice s.co r.tb.cols.length s.cc, .int .i64 r.tb.key, .slice s.oo r.o.length s.oc, .slice s.no r.n.length s.nc] 28 (0, 0)) := by rw [hw0]; exact heap_new w _
  have q1 : Calls Tryz.prog 17 #[rV r s] w0 fun x w' => x = .returned (.bool true) ∧ Tch (fun _ => False) w0 w' := eqT_d (rrightM_any r s F w0 (h.no t0) hl) ⟨fun _ => hR, fun _ => rfl⟩
  rw [hw0] at q1
  have HW0 : Hid (w0 = w.alloc (.cells #[.int .i64 r.k, .int .i64 r.x, .int .i64 r.l, .int .i64 r.e, .int .i64 r.t, .int .i64 r.tb.id, .int .i64 r.tb.ver, .string r.tb.nm, .slice s.co r.tb.cols.length s.cc, .int .i64 r.tb.key, .slice s.oo r.o.length s.oc, .slice s.no r.n.length s.nc] 28)) := hw0
  have HQ0 : Hid (∀ W, Calls Tryz.prog 18 #[.int .i64 r.k] W fun x w' => x = .returned (.string (bB (bytesL [r.k]))) ∧ Tch (fun _ => False) W w') := fun W => rnum_ok r.k (by omega) (by omega) W
  have HQ1 : Hid (∀ W, Tch (fun _ => False) w W → Calls Tryz.prog 19 #[.int .i64 r.t] W fun x w' => x = .returned (.string (bB (dg r.t.toNat))) ∧ Tch (fun _ => False) W w') := fun W _ => rdig_ok r.t (by omega) (by omega) W
  obtain ⟨S0, hS0⟩ : ∃ S, S = bB (bytesL [r.k]) := ⟨_, rfl⟩
  have z0 : S0.size ≤ 1 := by rw [hS0, size_bB]; exact Nat.le_refl 1
  obtain ⟨S1, hS1⟩ : ∃ S, S = bB (dg r.t.toNat) := ⟨_, rfl⟩
  have z1 : S1.size ≤ 10 := by rw [hS1, size_bB]; exact dg_len _
  have HB : Hid (S0 ++ S1 = bB (recL r)) := by
    show _ = _
    apply bB_of
    rw [hrl]
    simp only [bl_app, hS0, hS1, bl_bB]
    simp only [bodyL]
  rw [← hS0] at HQ0
  rw [← hS1] at HQ1
  have e1 : (r.k == 1) = false := int_ne (by omega)
  have e2 : (r.k == 2) = false := int_ne (by omega)
  have e3 : (r.k == 3) = false := int_ne (by omega)
  have e4 : (r.k == 4) = false := int_ne (by omega)
  have e5 : (r.k == 5) = false := int_ne (by omega)
  have e6 : (r.k == 6) = true := int_eq' hk
  have e7 : (r.k == 7) = false := int_ne (by omega)
  have e8 : (r.k == 8) = false := int_ne (by omega)
  have e9 : (r.k == 9) = false := int_ne (by omega)
  have HBX : Hid (∀ W, Tch (fun _ => False) w0 W → W.heap[w.heap.size]? = some (.cells #[.int .i64 r.k, .int .i64 r.x, .int .i64 r.l, .int .i64 r.e, .int .i64 r.t, .int .i64 r.tb.id, .int .i64 r.tb.ver, .string r.tb.nm, .slice s.co r.tb.cols.length s.cc, .int .i64 r.tb.key, .slice s.oo r.o.length s.oc, .slice s.no r.n.length s.nc] 28 (0, 0))) := fun W t => (t.block _ (blk_lt b0) (fun h => h)).trans b0
  have HT0 : Hid (Tch (fun _ => False) w w0) := t0
  clear h hl hR hr0 hrl hr hw0 b0 t0 hk hS0 hS1
  go_enter Tryz.func10, Tryz.ntmps10
  go_wp2_with fail
  refine q1.mono ?_
  rintro x w1 ⟨rfl, t1⟩
  rw [← HW0.out] at t1
  have b1 := HBX.out w1 t1
  have y0 : w1.cell? ⟨w.heap.size, 0, none⟩ = some (.int .i64 r.k) := blk_cell b1 0
  clear q1 b1
  go_wp2_with fail
  refine (HQ0.out w1).mono ?_
  rintro x w2 ⟨rfl, t2⟩
  have T2 := t1.trans' t2
  have U2 := HT0.out.trans' T2
  have b2 := HBX.out w2 T2
  clear y0 t1 t2
  have y0 := blk_cell b2 0
  have y1 := blk_cell b2 1
  have y2 := blk_cell b2 2
  have y3 := blk_cell b2 3
  have y4 := blk_cell b2 4
  have y5 := blk_cell b2 5
  have y6 := blk_cell b2 6
  have y7 := blk_cell b2 7
  have y8 := blk_cell b2 8
  have y9 := blk_cell b2 9
  have y10 := blk_cell b2 10
  have y11 := blk_cell b2 11
  simp only [List.getElem?_toArray, List.getElem?_cons_succ, List.getElem?_cons_zero] at y0 y1 y2 y3 y4 y5 y6 y7 y8 y9 y10 y11
  clear b2
  go_wp2_with fail
  refine (HQ1.out w2 U2).mono ?_
  rintro x w3 ⟨rfl, t3⟩
  clear y0 y1 y2 y3 y4 y5 y6 y7 y8 y9 y10 y11
  go_wp2_with fail
  go_ret2
  exact ⟨by rw [← HB.out]; rfl, U2.trans' t3⟩
end Go.Proofs.YteaagnlhkopgdaaGreatDoor.C
namespace Go.Proofs.YteaagnlhkopgdaaGreatDoor.C
open Go.RowKit Go Go.Sort
theorem renc_7 (r : Rc) (s : Sk) (F : Nat → Prop) (w : World) (h : RW w F r s) (hl : r.tb.cols.length ≤ 4398046511104) (hk : r.k = 7) (hR : RR r) : Calls Tryz.prog 10 #[rV r s] w fun x w' => x = .returned (.tuple #[.string (bB (recL r)), .int .i64 0]) ∧ Tch (fun _ => False) w w' := by
  obtain ⟨hr0, hrl⟩ := hR.parts (c := 7) (by rw [hk]; rfl)
  have hr : (rtN r.x ∧ rtP r.l) ∧ rtP r.e ∧ r.l < r.e := hr0
  unfold rtN rtP at hr
  obtain ⟨w0, hw0⟩ : ∃ w0, w0 = w.alloc (.cells #[.int .i64 r.k, .int .i64 r.x, .int .i64 r.l, .int .i64 r.e, .int .i64 r.t, .int .i64 r.tb.id, .int .i64 r.tb.ver, .string r.tb.nm, .slice s.co r.tb.cols.length s.cc, .int .i64 r.tb.key, .slice s.oo r.o.length s.oc, .slice s.no r.n.length s.nc] 28) := ⟨_, rfl⟩
  have t0 : Tch (fun _ => False) w w0 := by rw [hw0]; exact Tch.alloc _ _ _
  have b0 : w0.heap[w.heap.size]? = some (.cells #[.int .i64 r.k, .int .i64 r.x, .int .i64 r.l, .int .i64 r.e, .int .i64 r.t, .int .i64 r.tb.id, .int .i64 r.tb.ver, .string r.tb.nm, .slice s.co r.tb.cols.length s.cc, .int .i64 r.tb.key, .slice s.oo r.o.length s.oc, .slice s.no r.n.length s.nc] 28 (0, 0)) := by rw [hw0]; exact heap_new w _
  have q1 : Calls Tryz.prog 17 #[rV r s] w0 fun x w' => x = .returned (.bool true) ∧ Tch (fun _ => False) w0 w' := eqT_d (rrightM_any r s F w0 (h.no t0) hl) ⟨fun _ => hR, fun _ => rfl⟩
  rw [hw0] at q1
  have HW0 : Hid (w0 = w.alloc (.cells #[.int .i64 r.k, .int .i64 r.x, .int .i64 r.l, .int .i64 r.e, .int .i64 r.t, .int .i64 r.tb.id, .int .i64 r.tb.ver, .string r.tb.nm, .slice s.co r.tb.cols.length s.cc, .int .i64 r.tb.key, .slice s.oo r.o.length s.oc, .slice s.no r.n.length s.nc] 28)) := hw0
  have HQ0 : Hid (∀ W, Calls Tryz.prog 18 #[.int .i64 r.k] W fun x w' => x = .returned (.string (bB (bytesL [r.k]))) ∧ Tch (fun _ => False) W w') := fun W => rnum_ok r.k (by omega) (by omega) W
  have HQ1 : Hid (∀ W, Tch (fun _ => False) w W → Calls Tryz.prog 19 #[.int .i64 r.x] W fun x w' => x = .returned (.string (bB (dg r.x.toNat))) ∧ Tch (fun _ => False) W w') := fun W _ => rdig_ok r.x (by omega) (by omega) W
  have HQ2 : Hid (∀ W, Tch (fun _ => False) w W → Calls Tryz.prog 19 #[.int .i64 r.l] W fun x w' => x = .returned (.string (bB (dg r.l.toNat))) ∧ Tch (fun _ => False) W w') := fun W _ => rdig_ok r.l (by omega) (by omega) W
  have HQ3 : Hid (∀ W, Tch (fun _ => False) w W → Calls Tryz.prog 19 #[.int .i64 r.e] W fun x w' => x = .returned (.string (bB (dg r.e.toNat))) ∧ Tch (fun _ => False) W w') := fun W _ => rdig_ok r.e (by omega) (by omega) W
  obtain ⟨S0, hS0⟩ : ∃ S, S = bB (bytesL [r.k]) := ⟨_, rfl⟩
  have z0 : S0.size ≤ 1 := by rw [hS0, size_bB]; exact Nat.le_refl 1
  obtain ⟨S1, hS1⟩ : ∃ S, S = bB (dg r.x.toNat) := ⟨_, rfl⟩
  have z1 : S1.size ≤ 10 := by rw [hS1, size_bB]; exact dg_len _
  obtain ⟨S2, hS2⟩ : ∃ S, S = bB (dg r.l.toNat) := ⟨_, rfl⟩
  have z2 : S2.size ≤ 10 := by rw [hS2, size_bB]; exact dg_len _
  obtain ⟨S3, hS3⟩ : ∃ S, S = bB (dg r.e.toNat) := ⟨_, rfl⟩
  have z3 : S3.size ≤ 10 := by rw [hS3, size_bB]; exact dg_len _
  have HB : Hid (S0 ++ S1 ++ S2 ++ S3 = bB (recL r)) := by
    show _ = _
    apply bB_of
    rw [hrl]
    simp only [bl_app, hS0, hS1, hS2, hS3, bl_bB]
    simp only [bodyL, List.append_assoc]
  rw [← hS0] at HQ0
  rw [← hS1] at HQ1
  rw [← hS2] at HQ2
  rw [← hS3] at HQ3
  have x1 : (S0 ++ S1).size ≤ 6000 := by simp only [size_app]; omega
  have x2 : (S0 ++ S1 ++ S2).size ≤ 6000 := by simp only [size_app]; omega
  have e1 : (r.k == 1) = false := int_ne (by omega)
  have e2 : (r.k == 2) = false := int_ne (by omega)
  have e3 : (r.k == 3) = false := int_ne (by omega)
  have e4 : (r.k == 4) = false := int_ne (by omega)
  have e5 : (r.k == 5) = false := int_ne (by omega)
  have e6 : (r.k == 6) = false := int_ne (by omega)
  have e7 : (r.k == 7) = true := int_eq' hk
  have e8 : (r.k == 8) = false := int_ne (by omega)
  have e9 : (r.k == 9) = false := int_ne (by omega)
  have HBX : Hid (∀ W, Tch (fun _ => False) w0 W → W.heap[w.heap.size]? = some (.cells #[.int .i64 r.k, .int .i64 r.x, .int .i64 r.l, .int .i64 r.e, .int .i64 r.t, .int .i64 r.tb.id, .int .i64 r.tb.ver, .string r.tb.nm, .slice s.co r.tb.cols.length s.cc, .int .i64 r.tb.key, .slice s.oo r.o.length s.oc, .slice s.no r.n.length s.nc] 28 (0, 0))) := fun W t => (t.block _ (blk_lt b0) (fun h => h)).trans b0
  have HT0 : Hid (Tch (fun _ => False) w w0) := t0
  clear h hl hR hr0 hrl hr hw0 b0 t0 hk hS0 hS1 hS2 hS3
  go_enter Tryz.func10, Tryz.ntmps10
  go_wp2_with fail
  refine q1.mono ?_
  rintro x w1 ⟨rfl, t1⟩
  rw [← HW0.out] at t1
  have b1 := HBX.out w1 t1
  have y0 : w1.cell? ⟨w.heap.size, 0, none⟩ = some (.int .i64 r.k) := blk_cell b1 0
  clear q1 b1
  go_wp2_with fail
  refine (HQ0.out w1).mono ?_
  rintro x w2 ⟨rfl, t2⟩
  have T2 := t1.trans' t2
  have U2 := HT0.out.trans' T2
  have b2 := HBX.out w2 T2
  clear y0 t1 t2
  have y0 := blk_cell b2 0
  have y1 := blk_cell b2 1
  have y2 := blk_cell b2 2
  have y3 := blk_cell b2 3
  have y4 := blk_cell b2 4
  have y5 := blk_cell b2 5
  have y6 := blk_cell b2 6
  have y7 := blk_cell b2 7
  have y8 := blk_cell b2 8
  have y9 := blk_cell b2 9
  have y10 := blk_cell b2 10
  have y11 := blk_cell b2 11
  simp only [List.getElem?_toArray, List.getElem?_cons_succ, List.getElem?_cons_zero] at y0 y1 y2 y3 y4 y5 y6 y7 y8 y9 y10 y11
  clear b2
  have k0 := cell_regrown y0
  have k1 := cell_regrown y1
  have k2 := cell_regrown y2
  have k3 := cell_regrown y3
  have k4 := cell_regrown y4
  have k5 := cell_regrown y5
  have k6 := cell_regrown y6
  have k7 := cell_regrown y7
  have k8 := cell_regrown y8
  have k9 := cell_regrown y9
  have k10 := cell_regrown y10
  have k11 := cell_regrown y11
  have c1 := fun (d : Nat) (os : Array Obj) => regrown_calls (w := w2) (fun W t => HQ1.out W (U2.trans' t)) d os
  have c2 := fun (d : Nat) (os : Array Obj) => regrown_calls (w := w2) (fun W t => HQ2.out W (U2.trans' t)) d os
  have c3 := fun (d : Nat) (os : Array Obj) => regrown_calls (w := w2) (fun W t => HQ3.out W (U2.trans' t)) d os
  go_wp2_with fail
  refine wp_region_quiet_below (by kernel_rfl) (by kernel_rfl) ?_
  quiet_step (fail)
  quiet_step (fail)
  quiet_step (fail)
  quiet_step ((go_at_call 19; exact c1 _ _))
  quiet_step ((rw [if_neg (by omega)]; exact ⟨rfl, rfl⟩))
  quiet_step (fail)
  quiet_step (fail)
  quiet_step ((go_at_call 19; exact c2 _ _))
  quiet_step ((rw [if_neg (by omega)]; exact ⟨rfl, rfl⟩))
  quiet_step (fail)
  quiet_step (fail)
  quiet_step ((go_at_call 19; exact c3 _ _))
  quiet_step ((rw [if_neg (by omega)]; exact ⟨rfl, rfl⟩))
  quiet_step (fail)
  refine wpQuiet_nil ?_
  rintro w3 ⟨p, rfl⟩
  have HE3 : Hid (Tch (fun _ => False) w (grow (redrawn w2 p.d) p.os)) := U2.trans' (Tch.regrown w2 p.d p.os)
  obtain ⟨W3, hW3⟩ : ∃ W3, W3 = grow (redrawn w2 p.d) p.os := ⟨_, rfl⟩
  rw [← hW3] at HE3 ⊢
  clear hW3 k0 k1 k2 k3 k4 k5 k6 k7 k8 k9 k10 k11 y0 y1 y2 y3 y4 y5 y6 y7 y8 y9 y10 y11 c1 c2 c3
  go_wp2_with fail
  go_ret2
  exact ⟨by rw [← HB.out]; rfl, HE3.out⟩
end Go.Proofs.YteaagnlhkopgdaaGreatDoor.C
