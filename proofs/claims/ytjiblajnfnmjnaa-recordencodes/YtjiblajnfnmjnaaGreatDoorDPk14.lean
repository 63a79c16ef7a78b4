import Derived.Test.YtjiblajnfnmjnaaGreatDoorDPk5
set_option maxHeartbeats 16000000
set_option maxRecDepth 100000
namespace Go.Proofs.YtjiblajnfnmjnaaGreatDoor.C
open Go.RowKit Go Go.Sort
theorem rprint_10 (r : Rc) (s : Sk) (F : Nat → Prop) (w : World) (hi : RI r) (h : RW w F r s) (hr : RR r) (hk : r.k = 10) : Calls Tryz.prog 21 #[rV r s] w fun x w' => x = .returned (.string (recB r)) ∧ Tch (fun _ => False) w w' := by
  have g0 : rtN r.x ∧ nmOk r.nm = true := by have := hr.1; rw [hk] at this; exact this
  obtain ⟨g1, g2⟩ := g0
  unfold rtN at g1
  obtain ⟨X, hX⟩ : ∃ V, V = itoB r.x := ⟨_, rfl⟩
  have zX : X.size ≤ 22 := by rw [hX]; exact ito_size _ (by omega)
  have QX : Hid (∀ W, Calls Tryz.prog 50 #[.int .i64 r.x] W fun x w' => x = .returned (.string X) ∧ Tch (fun _ => False) W w') := fun W => by rw [hX]; exact told6 r.x (by omega) (by omega) W
  have zn := nm_size g2
  have HR : Hid (⟨#[112, 114, 101, 112, 97, 114, 101]⟩ ++ ⟨#[32]⟩ ++ X ++ ⟨#[32, 97, 115, 32]⟩ ++ r.nm = recB r) := by
    show _ = recB r
    apply bl_eq
    unfold recB
    rw [hk, hX, show cls 10 = 7 from rfl]
    simp only [bl_app]
    rw [bl_joinS]
    simp [wds, Lib.join_cons, Lib.joinTail, verbB, verbCells, spB, asB, bl]
  obtain ⟨RB, hRB⟩ : ∃ RB, RB = recB r := ⟨_, rfl⟩
  rw [← hRB] at HR ⊢
  obtain ⟨w0, hw0⟩ : ∃ w0, w0 = w.alloc (.cells #[.int .i64 10, .int .i64 r.x, .int .i64 r.p, .int .i64 r.t, .slice s.oo r.o.length s.oc, .slice s.no r.n.length s.nc, .string r.nm, .int .i64 r.org, .int .i64 r.tb.id, .int .i64 r.tb.ver, .string r.tb.nm, .slice s.co r.tb.cols.length s.cc, .int .i64 r.tb.key, .slice s.to s.P.length s.tc] 37) := ⟨_, rfl⟩
  have t0 : Tch (fun _ => False) w w0 := by rw [hw0]; exact Tch.alloc _ _ _
  have b0 : w0.heap[w.heap.size]? = some (.cells #[.int .i64 10, .int .i64 r.x, .int .i64 r.p, .int .i64 r.t, .slice s.oo r.o.length s.oc, .slice s.no r.n.length s.nc, .string r.nm, .int .i64 r.org, .int .i64 r.tb.id, .int .i64 r.tb.ver, .string r.tb.nm, .slice s.co r.tb.cols.length s.cc, .int .i64 r.tb.key, .slice s.to s.P.length s.tc] 37 (0, 0)) := by rw [hw0]; exact heap_new w _
  have q1 := renc_ok r s F w0 hi (h.no t0) hr
  rw [rV, hk] at q1
  rw [rV, hk]
  obtain ⟨EB, hEB⟩ : ∃ EB, EB = bB (recL r) := ⟨_, rfl⟩
  rw [← hEB] at q1
  rw [hw0] at q1
  have HW0 : Hid (w0 = w.alloc (.cells #[.int .i64 10, .int .i64 r.x, .int .i64 r.p, .int .i64 r.t, .slice s.oo r.o.length s.oc, .slice s.no r.n.length s.nc, .string r.nm, .int .i64 r.org, .int .i64 r.tb.id, .int .i64 r.tb.ver, .string r.tb.nm, .slice s.co r.tb.cols.length s.cc, .int .i64 r.tb.key, .slice s.to s.P.length s.tc] 37)) := hw0
  have HT0 : Hid (Tch (fun _ => False) w w0) := t0
  have HK : Hid (∀ W, Tch (fun _ => False) w0 W → W.heap[w.heap.size]? = some (.cells #[.int .i64 10, .int .i64 r.x, .int .i64 r.p, .int .i64 r.t, .slice s.oo r.o.length s.oc, .slice s.no r.n.length s.nc, .string r.nm, .int .i64 r.org, .int .i64 r.tb.id, .int .i64 r.tb.ver, .string r.tb.nm, .slice s.co r.tb.cols.length s.cc, .int .i64 r.tb.key, .slice s.to s.P.length s.tc] 37 (0, 0))) := fun W t => (t.block _ (blk_lt b0) (fun h => h)).trans b0
  clear h hi hr hk hw0 t0 b0 hRB hEB hX 
  go_enter Tryz.func21, Tryz.ntmps21
  go_wp2_with fail
  refine q1.mono ?_
  rintro x w1 ⟨rfl, t1⟩
  rw [← HW0.out] at t1
  have HT1 : Hid (Tch (fun _ => False) w0 w1) := t1
  obtain ⟨w2, hw2⟩ : ∃ w2, w2 = w1.alloc (.cells #[.string ⟨#[]⟩, .string ⟨#[98, 101, 103, 105, 110]⟩, .string ⟨#[112, 97, 114, 116]⟩, .string ⟨#[105, 110, 115, 101, 114, 116]⟩, .string ⟨#[117, 112, 100, 97, 116, 101]⟩, .string ⟨#[100, 101, 108, 101, 116, 101]⟩, .string ⟨#[114, 101, 108, 101, 97, 115, 101]⟩, .string ⟨#[98, 97, 99, 107]⟩, .string ⟨#[99, 111, 109, 109, 105, 116]⟩, .string ⟨#[97, 98, 111, 114, 116]⟩, .string ⟨#[112, 114, 101, 112, 97, 114, 101]⟩, .string ⟨#[99, 114, 101, 97, 116, 101]⟩, .string ⟨#[100, 114, 111, 112]⟩, .string ⟨#[119, 105, 100, 101, 110]⟩, .string ⟨#[101, 109, 112, 116, 121]⟩] 9) := ⟨_, rfl⟩
  have v2 : w2.cell? ⟨w1.heap.size, 10, none⟩ = some (.string ⟨#[112, 114, 101, 112, 97, 114, 101]⟩) := by rw [hw2, blk_cell (alloc_new w1 _)]; rfl
  have HT2 : Hid (Tch (fun _ => False) w0 w2) := by show Tch _ _ _; rw [hw2]; exact t1.allocR _
  have b1 := HK.out w1 t1
  have b2 := HK.out w2 HT2.out
  have u0 := blk_cell b1 0
  have y0 := blk_cell b2 0
  have y1 := blk_cell b2 1
  simp only [List.getElem?_toArray, List.getElem?_cons_succ, List.getElem?_cons_zero] at u0 y0 y1
  have k0 := cell_regrown y0
  have k1 := cell_regrown y1
  have k2 := cell_regrown v2
  have c1 := fun (dd : Nat) (os : Array Obj) => regrown_calls (w := w2) (fun W _ => QX.out W) dd os
  have HW2 : Hid (w2 = w1.alloc (.cells #[.string ⟨#[]⟩, .string ⟨#[98, 101, 103, 105, 110]⟩, .string ⟨#[112, 97, 114, 116]⟩, .string ⟨#[105, 110, 115, 101, 114, 116]⟩, .string ⟨#[117, 112, 100, 97, 116, 101]⟩, .string ⟨#[100, 101, 108, 101, 116, 101]⟩, .string ⟨#[114, 101, 108, 101, 97, 115, 101]⟩, .string ⟨#[98, 97, 99, 107]⟩, .string ⟨#[99, 111, 109, 109, 105, 116]⟩, .string ⟨#[97, 98, 111, 114, 116]⟩, .string ⟨#[112, 114, 101, 112, 97, 114, 101]⟩, .string ⟨#[99, 114, 101, 97, 116, 101]⟩, .string ⟨#[100, 114, 111, 112]⟩, .string ⟨#[119, 105, 100, 101, 110]⟩, .string ⟨#[101, 109, 112, 116, 121]⟩] 9)) := hw2
  rw [hw2] at y0
  clear q1 t1 b1 b2 hw2
  go_wp2_with fail
  rw [← HW2.out]
  rw [← HW2.out] at y0
  refine wp_region_quiet_below (by kernel_rfl) (by kernel_rfl) ?_
  quiet_step (fail)
  quiet_step (fail)
  quiet_step (fail)
  quiet_step (fail)
  quiet_step (fail)
  quiet_step ((rw [if_neg (by omega)]; exact ⟨rfl, rfl⟩))
  quiet_step (fail)
  quiet_step (fail)
  quiet_step ((go_at_call 50; exact c1 _ _))
  quiet_step ((rw [if_neg (by omega)]; exact ⟨rfl, rfl⟩))
  quiet_step (fail)
  refine wpQuiet_nil ?_
  rintro w3 ⟨p, rfl⟩
  have HT3 : Hid (Tch (fun _ => False) w0 (grow (redrawn w2 p.d) p.os)) := HT2.out.trans' (Tch.regrown w2 p.d p.os)
  obtain ⟨W3, hW3⟩ : ∃ W3, W3 = grow (redrawn w2 p.d) p.os := ⟨_, rfl⟩
  rw [← hW3] at HT3 ⊢
  clear hW3 k0 k1 k2 c1 u0 y0 y1 v2 HW2
  have b3 := HK.out W3 HT3.out
  have y0 := blk_cell b3 0
  have y1 := blk_cell b3 1
  have y2 := blk_cell b3 2
  have y3 := blk_cell b3 3
  have y4 := blk_cell b3 4
  have y5 := blk_cell b3 5
  have y6 := blk_cell b3 6
  have y7 := blk_cell b3 7
  have y8 := blk_cell b3 8
  have y9 := blk_cell b3 9
  have y10 := blk_cell b3 10
  have y11 := blk_cell b3 11
  have y12 := blk_cell b3 12
  have y13 := blk_cell b3 13
  simp only [List.getElem?_toArray, List.getElem?_cons_succ, List.getElem?_cons_zero] at y0 y1 y2 y3 y4 y5 y6 y7 y8 y9 y10 y11 y12 y13
  clear b3
  have zS : (⟨#[112, 114, 101, 112, 97, 114, 101]⟩ ++ ⟨#[32]⟩ ++ X : ByteArray).size ≤ 40 := by rw [size_app]; show 8 + X.size ≤ 40; omega
  have zS2 : (⟨#[112, 114, 101, 112, 97, 114, 101]⟩ ++ ⟨#[32]⟩ ++ X ++ ⟨#[32, 97, 115, 32]⟩ : ByteArray).size ≤ 60 := by rw [size_app]; show _ + 4 ≤ 60; omega
  go_wp2_with fail
  go_ret
  exact ⟨by rw [← HR.out]; rfl, HT0.out.trans' HT3.out⟩
theorem rprint_11 (r : Rc) (s : Sk) (F : Nat → Prop) (w : World) (hi : RI r) (h : RW w F r s) (hr : RR r) (hk : r.k = 11) : Calls Tryz.prog 21 #[rV r s] w fun x w' => x = .returned (.string (recB r)) ∧ Tch (fun _ => False) w w' := by
  have g0 : rtN r.x ∧ rightE r.tb = 0 := by have := hr.1; rw [hk] at this; exact this
  obtain ⟨g1, g2⟩ := g0
  unfold rtN at g1
  obtain ⟨X, hX⟩ : ∃ V, V = itoB r.x := ⟨_, rfl⟩
  have zX : X.size ≤ 22 := by rw [hX]; exact ito_size _ (by omega)
  have QX : Hid (∀ W, Calls Tryz.prog 50 #[.int .i64 r.x] W fun x w' => x = .returned (.string X) ∧ Tch (fun _ => False) W w') := fun W => by rw [hX]; exact told6 r.x (by omega) (by omega) W
  have hrt := right_rt g2
  obtain ⟨TB, hTB⟩ : ∃ V, V = tabB r.tb := ⟨_, rfl⟩
  have zTB : TB.size ≤ 400 := by rw [hTB]; exact tabB_size hrt
  have QTB : Hid (∀ W, Tch (fun _ => False) w W → Calls Tryz.prog 51 #[tA r.tb.id r.tb.ver r.tb.nm (.slice s.co r.tb.cols.length s.cc) r.tb.key] W fun x w' => x = .returned (.string TB) ∧ Tch (fun _ => False) W w') := fun W t => by rw [hTB]; exact rtableOf6 r.tb s.co s.cc W ((h.no t).tb.sl) hrt
  have HR : Hid (⟨#[99, 114, 101, 97, 116, 101]⟩ ++ ⟨#[32]⟩ ++ X ++ ⟨#[32]⟩ ++ TB = recB r) := by
    show _ = recB r
    apply bl_eq
    unfold recB
    rw [hk, hX, hTB, show cls 11 = 8 from rfl]
    simp only [bl_app]
    rw [bl_joinS]
    simp [wds, Lib.join_cons, Lib.joinTail, verbB, verbCells, spB, bl]
  obtain ⟨RB, hRB⟩ : ∃ RB, RB = recB r := ⟨_, rfl⟩
  rw [← hRB] at HR ⊢
  obtain ⟨w0, hw0⟩ : ∃ w0, w0 = w.alloc (.cells #[.int .i64 11, .int .i64 r.x, .int .i64 r.p, .int .i64 r.t, .slice s.oo r.o.length s.oc, .slice s.no r.n.length s.nc, .string r.nm, .int .i64 r.org, .int .i64 r.tb.id, .int .i64 r.tb.ver, .string r.tb.nm, .slice s.co r.tb.cols.length s.cc, .int .i64 r.tb.key, .slice s.to s.P.length s.tc] 37) := ⟨_, rfl⟩
  have t0 : Tch (fun _ => False) w w0 := by rw [hw0]; exact Tch.alloc _ _ _
  have b0 : w0.heap[w.heap.size]? = some (.cells #[.int .i64 11, .int .i64 r.x, .int .i64 r.p, .int .i64 r.t, .slice s.oo r.o.length s.oc, .slice s.no r.n.length s.nc, .string r.nm, .int .i64 r.org, .int .i64 r.tb.id, .int .i64 r.tb.ver, .string r.tb.nm, .slice s.co r.tb.cols.length s.cc, .int .i64 r.tb.key, .slice s.to s.P.length s.tc] 37 (0, 0)) := by rw [hw0]; exact heap_new w _
  have q1 := renc_ok r s F w0 hi (h.no t0) hr
  rw [rV, hk] at q1
  rw [rV, hk]
  obtain ⟨EB, hEB⟩ : ∃ EB, EB = bB (recL r) := ⟨_, rfl⟩
  rw [← hEB] at q1
  rw [hw0] at q1
  have HW0 : Hid (w0 = w.alloc (.cells #[.int .i64 11, .int .i64 r.x, .int .i64 r.p, .int .i64 r.t, .slice s.oo r.o.length s.oc, .slice s.no r.n.length s.nc, .string r.nm, .int .i64 r.org, .int .i64 r.tb.id, .int .i64 r.tb.ver, .string r.tb.nm, .slice s.co r.tb.cols.length s.cc, .int .i64 r.tb.key, .slice s.to s.P.length s.tc] 37)) := hw0
  have HT0 : Hid (Tch (fun _ => False) w w0) := t0
  have HK : Hid (∀ W, Tch (fun _ => False) w0 W → W.heap[w.heap.size]? = some (.cells #[.int .i64 11, .int .i64 r.x, .int .i64 r.p, .int .i64 r.t, .slice s.oo r.o.length s.oc, .slice s.no r.n.length s.nc, .string r.nm, .int .i64 r.org, .int .i64 r.tb.id, .int .i64 r.tb.ver, .string r.tb.nm, .slice s.co r.tb.cols.length s.cc, .int .i64 r.tb.key, .slice s.to s.P.length s.tc] 37 (0, 0))) := fun W t => (t.block _ (blk_lt b0) (fun h => h)).trans b0
  clear h hi hr hk hw0 t0 b0 hRB hEB hX hTB hrt
  go_enter Tryz.func21, Tryz.ntmps21
  go_wp2_with fail
  refine q1.mono ?_
  rintro x w1 ⟨rfl, t1⟩
  rw [← HW0.out] at t1
  have HT1 : Hid (Tch (fun _ => False) w0 w1) := t1
  obtain ⟨w2, hw2⟩ : ∃ w2, w2 = w1.alloc (.cells #[.string ⟨#[]⟩, .string ⟨#[98, 101, 103, 105, 110]⟩, .string ⟨#[112, 97, 114, 116]⟩, .string ⟨#[105, 110, 115, 101, 114, 116]⟩, .string ⟨#[117, 112, 100, 97, 116, 101]⟩, .string ⟨#[100, 101, 108, 101, 116, 101]⟩, .string ⟨#[114, 101, 108, 101, 97, 115, 101]⟩, .string ⟨#[98, 97, 99, 107]⟩, .string ⟨#[99, 111, 109, 109, 105, 116]⟩, .string ⟨#[97, 98, 111, 114, 116]⟩, .string ⟨#[112, 114, 101, 112, 97, 114, 101]⟩, .string ⟨#[99, 114, 101, 97, 116, 101]⟩, .string ⟨#[100, 114, 111, 112]⟩, .string ⟨#[119, 105, 100, 101, 110]⟩, .string ⟨#[101, 109, 112, 116, 121]⟩] 9) := ⟨_, rfl⟩
  have v2 : w2.cell? ⟨w1.heap.size, 11, none⟩ = some (.string ⟨#[99, 114, 101, 97, 116, 101]⟩) := by rw [hw2, blk_cell (alloc_new w1 _)]; rfl
  have HT2 : Hid (Tch (fun _ => False) w0 w2) := by show Tch _ _ _; rw [hw2]; exact t1.allocR _
  have b1 := HK.out w1 t1
  have b2 := HK.out w2 HT2.out
  have u0 := blk_cell b1 0
  have y0 := blk_cell b2 0
  have y1 := blk_cell b2 1
  simp only [List.getElem?_toArray, List.getElem?_cons_succ, List.getElem?_cons_zero] at u0 y0 y1
  have k0 := cell_regrown y0
  have k1 := cell_regrown y1
  have k2 := cell_regrown v2
  have c1 := fun (dd : Nat) (os : Array Obj) => regrown_calls (w := w2) (fun W _ => QX.out W) dd os
  have HW2 : Hid (w2 = w1.alloc (.cells #[.string ⟨#[]⟩, .string ⟨#[98, 101, 103, 105, 110]⟩, .string ⟨#[112, 97, 114, 116]⟩, .string ⟨#[105, 110, 115, 101, 114, 116]⟩, .string ⟨#[117, 112, 100, 97, 116, 101]⟩, .string ⟨#[100, 101, 108, 101, 116, 101]⟩, .string ⟨#[114, 101, 108, 101, 97, 115, 101]⟩, .string ⟨#[98, 97, 99, 107]⟩, .string ⟨#[99, 111, 109, 109, 105, 116]⟩, .string ⟨#[97, 98, 111, 114, 116]⟩, .string ⟨#[112, 114, 101, 112, 97, 114, 101]⟩, .string ⟨#[99, 114, 101, 97, 116, 101]⟩, .string ⟨#[100, 114, 111, 112]⟩, .string ⟨#[119, 105, 100, 101, 110]⟩, .string ⟨#[101, 109, 112, 116, 121]⟩] 9)) := hw2
  rw [hw2] at y0
  clear q1 t1 b1 b2 hw2
  go_wp2_with fail
  rw [← HW2.out]
  rw [← HW2.out] at y0
  refine wp_region_quiet_below (by kernel_rfl) (by kernel_rfl) ?_
  quiet_step (fail)
  quiet_step (fail)
  quiet_step (fail)
  quiet_step (fail)
  quiet_step (fail)
  quiet_step ((rw [if_neg (by omega)]; exact ⟨rfl, rfl⟩))
  quiet_step (fail)
  quiet_step (fail)
  quiet_step ((go_at_call 50; exact c1 _ _))
  quiet_step ((rw [if_neg (by omega)]; exact ⟨rfl, rfl⟩))
  quiet_step (fail)
  refine wpQuiet_nil ?_
  rintro w3 ⟨p, rfl⟩
  have HT3 : Hid (Tch (fun _ => False) w0 (grow (redrawn w2 p.d) p.os)) := HT2.out.trans' (Tch.regrown w2 p.d p.os)
  obtain ⟨W3, hW3⟩ : ∃ W3, W3 = grow (redrawn w2 p.d) p.os := ⟨_, rfl⟩
  rw [← hW3] at HT3 ⊢
  clear hW3 k0 k1 k2 c1 u0 y0 y1 v2 HW2
  have b3 := HK.out W3 HT3.out
  have y0 := blk_cell b3 0
  have y1 := blk_cell b3 1
  have y2 := blk_cell b3 2
  have y3 := blk_cell b3 3
  have y4 := blk_cell b3 4
  have y5 := blk_cell b3 5
  have y6 := blk_cell b3 6
  have y7 := blk_cell b3 7
  have y8 := blk_cell b3 8
  have y9 := blk_cell b3 9
  have y10 := blk_cell b3 10
  have y11 := blk_cell b3 11
  have y12 := blk_cell b3 12
  have y13 := blk_cell b3 13
  simp only [List.getElem?_toArray, List.getElem?_cons_succ, List.getElem?_cons_zero] at y0 y1 y2 y3 y4 y5 y6 y7 y8 y9 y10 y11 y12 y13
  clear b3
  have zS : (⟨#[99, 114, 101, 97, 116, 101]⟩ ++ ⟨#[32]⟩ ++ X : ByteArray).size ≤ 40 := by rw [size_app]; show 7 + X.size ≤ 40; omega
  have q9 := QTB.out W3 (HT0.out.trans' HT3.out)
  go_wp2_with fail
  refine q9.mono ?_
  rintro x w9 ⟨rfl, t9⟩
  have HT9 : Hid (Tch (fun _ => False) w0 w9) := HT3.out.trans' t9
  clear y0 y1 y2 y3 y4 y5 y6 y7 y8 y9 y10 y11 y12 y13 t9 q9
  have zS2 : (⟨#[99, 114, 101, 97, 116, 101]⟩ ++ ⟨#[32]⟩ ++ X ++ ⟨#[32]⟩ : ByteArray).size ≤ 60 := by rw [size_app]; show _ + 1 ≤ 60; omega
  go_wp2_with fail
  go_ret
  exact ⟨by rw [← HR.out]; rfl, HT0.out.trans' HT9.out⟩
theorem rprint_12 (r : Rc) (s : Sk) (F : Nat → Prop) (w : World) (hi : RI r) (h : RW w F r s) (hr : RR r) (hk : r.k = 12) : Calls Tryz.prog 21 #[rV r s] w fun x w' => x = .returned (.string (recB r)) ∧ Tch (fun _ => False) w w' := by
  have g0 : rtN r.x ∧ rtN r.t := by have := hr.1; rw [hk] at this; exact this
  obtain ⟨g1, g2⟩ := g0
  unfold rtN at g1 g2
  obtain ⟨X, hX⟩ : ∃ V, V = itoB r.x := ⟨_, rfl⟩
  have zX : X.size ≤ 22 := by rw [hX]; exact ito_size _ (by omega)
  have QX : Hid (∀ W, Calls Tryz.prog 50 #[.int .i64 r.x] W fun x w' => x = .returned (.string X) ∧ Tch (fun _ => False) W w') := fun W => by rw [hX]; exact told6 r.x (by omega) (by omega) W
  obtain ⟨TT, hTT⟩ : ∃ V, V = itoB r.t := ⟨_, rfl⟩
  have zTT : TT.size ≤ 22 := by rw [hTT]; exact ito_size _ (by omega)
  have QTT : Hid (∀ W, Calls Tryz.prog 50 #[.int .i64 r.t] W fun x w' => x = .returned (.string TT) ∧ Tch (fun _ => False) W w') := fun W => by rw [hTT]; exact told6 r.t (by omega) (by omega) W
  have HR : Hid (⟨#[100, 114, 111, 112]⟩ ++ ⟨#[32]⟩ ++ X ++ ⟨#[32, 116, 97, 98, 108, 101, 32]⟩ ++ TT = recB r) := by
    show _ = recB r
    apply bl_eq
    unfold recB
    rw [hk, hX, hTT, show cls 12 = 9 from rfl]
    simp only [bl_app]
    rw [bl_joinS]
    simp [wds, Lib.join_cons, Lib.joinTail, verbB, verbCells, spB, tableB, bl]
  obtain ⟨RB, hRB⟩ : ∃ RB, RB = recB r := ⟨_, rfl⟩
  rw [← hRB] at HR ⊢
  obtain ⟨w0, hw0⟩ : ∃ w0, w0 = w.alloc (.cells #[.int .i64 12, .int .i64 r.x, .int .i64 r.p, .int .i64 r.t, .slice s.oo r.o.length s.oc, .slice s.no r.n.length s.nc, .string r.nm, .int .i64 r.org, .int .i64 r.tb.id, .int .i64 r.tb.ver, .string r.tb.nm, .slice s.co r.tb.cols.length s.cc, .int .i64 r.tb.key, .slice s.to s.P.length s.tc] 37) := ⟨_, rfl⟩
  have t0 : Tch (fun _ => False) w w0 := by rw [hw0]; exact Tch.alloc _ _ _
  have b0 : w0.heap[w.heap.size]? = some (.cells #[.int .i64 12, .int .i64 r.x, .int .i64 r.p, .int .i64 r.t, .slice s.oo r.o.length s.oc, .slice s.no r.n.length s.nc, .string r.nm, .int .i64 r.org, .int .i64 r.tb.id, .int .i64 r.tb.ver, .string r.tb.nm, .slice s.co r.tb.cols.length s.cc, .int .i64 r.tb.key, .slice s.to s.P.length s.tc] 37 (0, 0)) := by rw [hw0]; exact heap_new w _
  have q1 := renc_ok r s F w0 hi (h.no t0) hr
  rw [rV, hk] at q1
  rw [rV, hk]
  obtain ⟨EB, hEB⟩ : ∃ EB, EB = bB (recL r) := ⟨_, rfl⟩
  rw [← hEB] at q1
  rw [hw0] at q1
  have HW0 : Hid (w0 = w.alloc (.cells #[.int .i64 12, .int .i64 r.x, .int .i64 r.p, .int .i64 r.t, .slice s.oo r.o.length s.oc, .slice s.no r.n.length s.nc, .string r.nm, .int .i64 r.org, .int .i64 r.tb.id, .int .i64 r.tb.ver, .string r.tb.nm, .slice s.co r.tb.cols.length s.cc, .int .i64 r.tb.key, .slice s.to s.P.length s.tc] 37)) := hw0
  have HT0 : Hid (Tch (fun _ => False) w w0) := t0
  have HK : Hid (∀ W, Tch (fun _ => False) w0 W → W.heap[w.heap.size]? = some (.cells #[.int .i64 12, .int .i64 r.x, .int .i64 r.p, .int .i64 r.t, .slice s.oo r.o.length s.oc, .slice s.no r.n.length s.nc, .string r.nm, .int .i64 r.org, .int .i64 r.tb.id, .int .i64 r.tb.ver, .string r.tb.nm, .slice s.co r.tb.cols.length s.cc, .int .i64 r.tb.key, .slice s.to s.P.length s.tc] 37 (0, 0))) := fun W t => (t.block _ (blk_lt b0) (fun h => h)).trans b0
  clear h hi hr hk hw0 t0 b0 hRB hEB hX hTT 
  go_enter Tryz.func21, Tryz.ntmps21
  go_wp2_with fail
  refine q1.mono ?_
  rintro x w1 ⟨rfl, t1⟩
  rw [← HW0.out] at t1
  have HT1 : Hid (Tch (fun _ => False) w0 w1) := t1
  obtain ⟨w2, hw2⟩ : ∃ w2, w2 = w1.alloc (.cells #[.string ⟨#[]⟩, .string ⟨#[98, 101, 103, 105, 110]⟩, .string ⟨#[112, 97, 114, 116]⟩, .string ⟨#[105, 110, 115, 101, 114, 116]⟩, .string ⟨#[117, 112, 100, 97, 116, 101]⟩, .string ⟨#[100, 101, 108, 101, 116, 101]⟩, .string ⟨#[114, 101, 108, 101, 97, 115, 101]⟩, .string ⟨#[98, 97, 99, 107]⟩, .string ⟨#[99, 111, 109, 109, 105, 116]⟩, .string ⟨#[97, 98, 111, 114, 116]⟩, .string ⟨#[112, 114, 101, 112, 97, 114, 101]⟩, .string ⟨#[99, 114, 101, 97, 116, 101]⟩, .string ⟨#[100, 114, 111, 112]⟩, .string ⟨#[119, 105, 100, 101, 110]⟩, .string ⟨#[101, 109, 112, 116, 121]⟩] 9) := ⟨_, rfl⟩
  have v2 : w2.cell? ⟨w1.heap.size, 12, none⟩ = some (.string ⟨#[100, 114, 111, 112]⟩) := by rw [hw2, blk_cell (alloc_new w1 _)]; rfl
  have HT2 : Hid (Tch (fun _ => False) w0 w2) := by show Tch _ _ _; rw [hw2]; exact t1.allocR _
  have b1 := HK.out w1 t1
  have b2 := HK.out w2 HT2.out
  have u0 := blk_cell b1 0
  have y0 := blk_cell b2 0
  have y1 := blk_cell b2 1
  simp only [List.getElem?_toArray, List.getElem?_cons_succ, List.getElem?_cons_zero] at u0 y0 y1
  have k0 := cell_regrown y0
  have k1 := cell_regrown y1
  have k2 := cell_regrown v2
  have c1 := fun (dd : Nat) (os : Array Obj) => regrown_calls (w := w2) (fun W _ => QX.out W) dd os
  have HW2 : Hid (w2 = w1.alloc (.cells #[.string ⟨#[]⟩, .string ⟨#[98, 101, 103, 105, 110]⟩, .string ⟨#[112, 97, 114, 116]⟩, .string ⟨#[105, 110, 115, 101, 114, 116]⟩, .string ⟨#[117, 112, 100, 97, 116, 101]⟩, .string ⟨#[100, 101, 108, 101, 116, 101]⟩, .string ⟨#[114, 101, 108, 101, 97, 115, 101]⟩, .string ⟨#[98, 97, 99, 107]⟩, .string ⟨#[99, 111, 109, 109, 105, 116]⟩, .string ⟨#[97, 98, 111, 114, 116]⟩, .string ⟨#[112, 114, 101, 112, 97, 114, 101]⟩, .string ⟨#[99, 114, 101, 97, 116, 101]⟩, .string ⟨#[100, 114, 111, 112]⟩, .string ⟨#[119, 105, 100, 101, 110]⟩, .string ⟨#[101, 109, 112, 116, 121]⟩] 9)) := hw2
  rw [hw2] at y0
  clear q1 t1 b1 b2 hw2
  go_wp2_with fail
  rw [← HW2.out]
  rw [← HW2.out] at y0
  refine wp_region_quiet_below (by kernel_rfl) (by kernel_rfl) ?_
  quiet_step (fail)
  quiet_step (fail)
  quiet_step (fail)
  quiet_step (fail)
  quiet_step (fail)
  quiet_step ((rw [if_neg (by omega)]; exact ⟨rfl, rfl⟩))
  quiet_step (fail)
  quiet_step (fail)
  quiet_step ((go_at_call 50; exact c1 _ _))
  quiet_step ((rw [if_neg (by omega)]; exact ⟨rfl, rfl⟩))
  quiet_step (fail)
  refine wpQuiet_nil ?_
  rintro w3 ⟨p, rfl⟩
  have HT3 : Hid (Tch (fun _ => False) w0 (grow (redrawn w2 p.d) p.os)) := HT2.out.trans' (Tch.regrown w2 p.d p.os)
  obtain ⟨W3, hW3⟩ : ∃ W3, W3 = grow (redrawn w2 p.d) p.os := ⟨_, rfl⟩
  rw [← hW3] at HT3 ⊢
  clear hW3 k0 k1 k2 c1 u0 y0 y1 v2 HW2
  have b3 := HK.out W3 HT3.out
  have y0 := blk_cell b3 0
  have y1 := blk_cell b3 1
  have y2 := blk_cell b3 2
  have y3 := blk_cell b3 3
  have y4 := blk_cell b3 4
  have y5 := blk_cell b3 5
  have y6 := blk_cell b3 6
  have y7 := blk_cell b3 7
  have y8 := blk_cell b3 8
  have y9 := blk_cell b3 9
  have y10 := blk_cell b3 10
  have y11 := blk_cell b3 11
  have y12 := blk_cell b3 12
  have y13 := blk_cell b3 13
  simp only [List.getElem?_toArray, List.getElem?_cons_succ, List.getElem?_cons_zero] at y0 y1 y2 y3 y4 y5 y6 y7 y8 y9 y10 y11 y12 y13
  clear b3
  have zS : (⟨#[100, 114, 111, 112]⟩ ++ ⟨#[32]⟩ ++ X : ByteArray).size ≤ 40 := by rw [size_app]; show 5 + X.size ≤ 40; omega
  go_wp2_with fail
  refine (QTT.out _).mono ?_
  rintro x w9 ⟨rfl, t9⟩
  have HT9 : Hid (Tch (fun _ => False) w0 w9) := HT3.out.trans' t9
  clear y0 y1 y2 y3 y4 y5 y6 y7 y8 y9 y10 y11 y12 y13 t9
  have zS2 : (⟨#[100, 114, 111, 112]⟩ ++ ⟨#[32]⟩ ++ X ++ ⟨#[32, 116, 97, 98, 108, 101, 32]⟩ : ByteArray).size ≤ 60 := by rw [size_app]; show _ + 7 ≤ 60; omega
  go_wp2_with fail
  go_ret
  exact ⟨by rw [← HR.out]; rfl, HT0.out.trans' HT9.out⟩
theorem rprint_13 (r : Rc) (s : Sk) (F : Nat → Prop) (w : World) (hi : RI r) (h : RW w F r s) (hr : RR r) (hk : r.k = 13) : Calls Tryz.prog 21 #[rV r s] w fun x w' => x = .returned (.string (recB r)) ∧ Tch (fun _ => False) w w' := by
  have g0 : rtN r.x ∧ rightE r.tb = 0 := by have := hr.1; rw [hk] at this; exact this
  obtain ⟨g1, g2⟩ := g0
  unfold rtN at g1
  obtain ⟨X, hX⟩ : ∃ V, V = itoB r.x := ⟨_, rfl⟩
  have zX : X.size ≤ 22 := by rw [hX]; exact ito_size _ (by omega)
  have QX : Hid (∀ W, Calls Tryz.prog 50 #[.int .i64 r.x] W fun x w' => x = .returned (.string X) ∧ Tch (fun _ => False) W w') := fun W => by rw [hX]; exact told6 r.x (by omega) (by omega) W
  have hrt := right_rt g2
  obtain ⟨TB, hTB⟩ : ∃ V, V = tabB r.tb := ⟨_, rfl⟩
  have zTB : TB.size ≤ 400 := by rw [hTB]; exact tabB_size hrt
  have QTB : Hid (∀ W, Tch (fun _ => False) w W → Calls Tryz.prog 51 #[tA r.tb.id r.tb.ver r.tb.nm (.slice s.co r.tb.cols.length s.cc) r.tb.key] W fun x w' => x = .returned (.string TB) ∧ Tch (fun _ => False) W w') := fun W t => by rw [hTB]; exact rtableOf6 r.tb s.co s.cc W ((h.no t).tb.sl) hrt
  have HR : Hid (⟨#[119, 105, 100, 101, 110]⟩ ++ ⟨#[32]⟩ ++ X ++ ⟨#[32]⟩ ++ TB = recB r) := by
    show _ = recB r
    apply bl_eq
    unfold recB
    rw [hk, hX, hTB, show cls 13 = 8 from rfl]
    simp only [bl_app]
    rw [bl_joinS]
    simp [wds, Lib.join_cons, Lib.joinTail, verbB, verbCells, spB, bl]
  obtain ⟨RB, hRB⟩ : ∃ RB, RB = recB r := ⟨_, rfl⟩
  rw [← hRB] at HR ⊢
  obtain ⟨w0, hw0⟩ : ∃ w0, w0 = w.alloc (.cells #[.int .i64 13, .int .i64 r.x, .int .i64 r.p, .int .i64 r.t, .slice s.oo r.o.length s.oc, .slice s.no r.n.length s.nc, .string r.nm, .int .i64 r.org, .int .i64 r.tb.id, .int .i64 r.tb.ver, .string r.tb.nm, .slice s.co r.tb.cols.length s.cc, .int .i64 r.tb.key, .slice s.to s.P.length s.tc] 37) := ⟨_, rfl⟩
  have t0 : Tch (fun _ => False) w w0 := by rw [hw0]; exact Tch.alloc _ _ _
  have b0 : w0.heap[w.heap.size]? = some (.cells #[.int .i64 13, .int .i64 r.x, .int .i64 r.p, .int .i64 r.t, .slice s.oo r.o.length s.oc, .slice s.no r.n.length s.nc, .string r.nm, .int .i64 r.org, .int .i64 r.tb.id, .int .i64 r.tb.ver, .string r.tb.nm, .slice s.co r.tb.cols.length s.cc, .int .i64 r.tb.key, .slice s.to s.P.length s.tc] 37 (0, 0)) := by rw [hw0]; exact heap_new w _
  have q1 := renc_ok r s F w0 hi (h.no t0) hr
  rw [rV, hk] at q1
  rw [rV, hk]
  obtain ⟨EB, hEB⟩ : ∃ EB, EB = bB (recL r) := ⟨_, rfl⟩
  rw [← hEB] at q1
  rw [hw0] at q1
  have HW0 : Hid (w0 = w.alloc (.cells #[.int .i64 13, .int .i64 r.x, .int .i64 r.p, .int .i64 r.t, .slice s.oo r.o.length s.oc, .slice s.no r.n.length s.nc, .string r.nm, .int .i64 r.org, .int .i64 r.tb.id, .int .i64 r.tb.ver, .string r.tb.nm, .slice s.co r.tb.cols.length s.cc, .int .i64 r.tb.key, .slice s.to s.P.length s.tc] 37)) := hw0
  have HT0 : Hid (Tch (fun _ => False) w w0) := t0
  have HK : Hid (∀ W, Tch (fun _ => False) w0 W → W.heap[w.heap.size]? = some (.cells #[.int .i64 13, .int .i64 r.x, .int .i64 r.p, .int .i64 r.t, .slice s.oo r.o.length s.oc, .slice s.no r.n.length s.nc, .string r.nm, .int .i64 r.org, .int .i64 r.tb.id, .int .i64 r.tb.ver, .string r.tb.nm, .slice s.co r.tb.cols.length s.cc, .int .i64 r.tb.key, .slice s.to s.P.length s.tc] 37 (0, 0))) := fun W t => (t.block _ (blk_lt b0) (fun h => h)).trans b0
  clear h hi hr hk hw0 t0 b0 hRB hEB hX hTB hrt
  go_enter Tryz.func21, Tryz.ntmps21
  go_wp2_with fail
  refine q1.mono ?_
  rintro x w1 ⟨rfl, t1⟩
  rw [← HW0.out] at t1
  have HT1 : Hid (Tch (fun _ => False) w0 w1) := t1
  obtain ⟨w2, hw2⟩ : ∃ w2, w2 = w1.alloc (.cells #[.string ⟨#[]⟩, .string ⟨#[98, 101, 103, 105, 110]⟩, .string ⟨#[112, 97, 114, 116]⟩, .string ⟨#[105, 110, 115, 101, 114, 116]⟩, .string ⟨#[117, 112, 100, 97, 116, 101]⟩, .string ⟨#[100, 101, 108, 101, 116, 101]⟩, .string ⟨#[114, 101, 108, 101, 97, 115, 101]⟩, .string ⟨#[98, 97, 99, 107]⟩, .string ⟨#[99, 111, 109, 109, 105, 116]⟩, .string ⟨#[97, 98, 111, 114, 116]⟩, .string ⟨#[112, 114, 101, 112, 97, 114, 101]⟩, .string ⟨#[99, 114, 101, 97, 116, 101]⟩, .string ⟨#[100, 114, 111, 112]⟩, .string ⟨#[119, 105, 100, 101, 110]⟩, .string ⟨#[101, 109, 112, 116, 121]⟩] 9) := ⟨_, rfl⟩
  have v2 : w2.cell? ⟨w1.heap.size, 13, none⟩ = some (.string ⟨#[119, 105, 100, 101, 110]⟩) := by rw [hw2, blk_cell (alloc_new w1 _)]; rfl
  have HT2 : Hid (Tch (fun _ => False) w0 w2) := by show Tch _ _ _; rw [hw2]; exact t1.allocR _
  have b1 := HK.out w1 t1
  have b2 := HK.out w2 HT2.out
  have u0 := blk_cell b1 0
  have y0 := blk_cell b2 0
  have y1 := blk_cell b2 1
  simp only [List.getElem?_toArray, List.getElem?_cons_succ, List.getElem?_cons_zero] at u0 y0 y1
  have k0 := cell_regrown y0
  have k1 := cell_regrown y1
  have k2 := cell_regrown v2
  have c1 := fun (dd : Nat) (os : Array Obj) => regrown_calls (w := w2) (fun W _ => QX.out W) dd os
  have HW2 : Hid (w2 = w1.alloc (.cells #[.string ⟨#[]⟩, .string ⟨#[98, 101, 103, 105, 110]⟩, .string ⟨#[112, 97, 114, 116]⟩, .string ⟨#[105, 110, 115, 101, 114, 116]⟩, .string ⟨#[117, 112, 100, 97, 116, 101]⟩, .string ⟨#[100, 101, 108, 101, 116, 101]⟩, .string ⟨#[114, 101, 108, 101, 97, 115, 101]⟩, .string ⟨#[98, 97, 99, 107]⟩, .string ⟨#[99, 111, 109, 109, 105, 116]⟩, .string ⟨#[97, 98, 111, 114, 116]⟩, .string ⟨#[112, 114, 101, 112, 97, 114, 101]⟩, .string ⟨#[99, 114, 101, 97, 116, 101]⟩, .string ⟨#[100, 114, 111, 112]⟩, .string ⟨#[119, 105, 100, 101, 110]⟩, .string ⟨#[101, 109, 112, 116, 121]⟩] 9)) := hw2
  rw [hw2] at y0
  clear q1 t1 b1 b2 hw2
  go_wp2_with fail
  rw [← HW2.out]
  rw [← HW2.out] at y0
  refine wp_region_quiet_below (by kernel_rfl) (by kernel_rfl) ?_
  quiet_step (fail)
  quiet_step (fail)
  quiet_step (fail)
  quiet_step (fail)
  quiet_step (fail)
  quiet_step ((rw [if_neg (by omega)]; exact ⟨rfl, rfl⟩))
  quiet_step (fail)
  quiet_step (fail)
  quiet_step ((go_at_call 50; exact c1 _ _))
  quiet_step ((rw [if_neg (by omega)]; exact ⟨rfl, rfl⟩))
  quiet_step (fail)
  refine wpQuiet_nil ?_
  rintro w3 ⟨p, rfl⟩
  have HT3 : Hid (Tch (fun _ => False) w0 (grow (redrawn w2 p.d) p.os)) := HT2.out.trans' (Tch.regrown w2 p.d p.os)
  obtain ⟨W3, hW3⟩ : ∃ W3, W3 = grow (redrawn w2 p.d) p.os := ⟨_, rfl⟩
  rw [← hW3] at HT3 ⊢
  clear hW3 k0 k1 k2 c1 u0 y0 y1 v2 HW2
  have b3 := HK.out W3 HT3.out
  have y0 := blk_cell b3 0
  have y1 := blk_cell b3 1
  have y2 := blk_cell b3 2
  have y3 := blk_cell b3 3
  have y4 := blk_cell b3 4
  have y5 := blk_cell b3 5
  have y6 := blk_cell b3 6
  have y7 := blk_cell b3 7
  have y8 := blk_cell b3 8
  have y9 := blk_cell b3 9
  have y10 := blk_cell b3 10
  have y11 := blk_cell b3 11
  have y12 := blk_cell b3 12
  have y13 := blk_cell b3 13
  simp only [List.getElem?_toArray, List.getElem?_cons_succ, List.getElem?_cons_zero] at y0 y1 y2 y3 y4 y5 y6 y7 y8 y9 y10 y11 y12 y13
  clear b3
  have zS : (⟨#[119, 105, 100, 101, 110]⟩ ++ ⟨#[32]⟩ ++ X : ByteArray).size ≤ 40 := by rw [size_app]; show 6 + X.size ≤ 40; omega
  have q9 := QTB.out W3 (HT0.out.trans' HT3.out)
  go_wp2_with fail
  refine q9.mono ?_
  rintro x w9 ⟨rfl, t9⟩
  have HT9 : Hid (Tch (fun _ => False) w0 w9) := HT3.out.trans' t9
  clear y0 y1 y2 y3 y4 y5 y6 y7 y8 y9 y10 y11 y12 y13 t9 q9
  have zS2 : (⟨#[119, 105, 100, 101, 110]⟩ ++ ⟨#[32]⟩ ++ X ++ ⟨#[32]⟩ : ByteArray).size ≤ 60 := by rw [size_app]; show _ + 1 ≤ 60; omega
  go_wp2_with fail
  go_ret
  exact ⟨by rw [← HR.out]; rfl, HT0.out.trans' HT9.out⟩
theorem rprint_14 (r : Rc) (s : Sk) (F : Nat → Prop) (w : World) (hi : RI r) (h : RW w F r s) (hr : RR r) (hk : r.k = 14) : Calls Tryz.prog 21 #[rV r s] w fun x w' => x = .returned (.string (recB r)) ∧ Tch (fun _ => False) w w' := by
  have g0 : rtN r.x ∧ rtN r.t := by have := hr.1; rw [hk] at this; exact this
  obtain ⟨g1, g2⟩ := g0
  unfold rtN at g1 g2
  obtain ⟨X, hX⟩ : ∃ V, V = itoB r.x := ⟨_, rfl⟩
  have zX : X.size ≤ 22 := by rw [hX]; exact ito_size _ (by omega)
  have QX : Hid (∀ W, Calls Tryz.prog 50 #[.int .i64 r.x] W fun x w' => x = .returned (.string X) ∧ Tch (fun _ => False) W w') := fun W => by rw [hX]; exact told6 r.x (by omega) (by omega) W
  obtain ⟨TT, hTT⟩ : ∃ V, V = itoB r.t := ⟨_, rfl⟩
  have zTT : TT.size ≤ 22 := by rw [hTT]; exact ito_size _ (by omega)
  have QTT : Hid (∀ W, Calls Tryz.prog 50 #[.int .i64 r.t] W fun x w' => x = .returned (.string TT) ∧ Tch (fun _ => False) W w') := fun W => by rw [hTT]; exact told6 r.t (by omega) (by omega) W
  have HR : Hid (⟨#[101, 109, 112, 116, 121]⟩ ++ ⟨#[32]⟩ ++ X ++ ⟨#[32, 116, 97, 98, 108, 101, 32]⟩ ++ TT = recB r) := by
    show _ = recB r
    apply bl_eq
    unfold recB
    rw [hk, hX, hTT, show cls 14 = 9 from rfl]
    simp only [bl_app]
    rw [bl_joinS]
    simp [wds, Lib.join_cons, Lib.joinTail, verbB, verbCells, spB, tableB, bl]
  obtain ⟨RB, hRB⟩ : ∃ RB, RB = recB r := ⟨_, rfl⟩
  rw [← hRB] at HR ⊢
  obtain ⟨w0, hw0⟩ : ∃ w0, w0 = w.alloc (.cells #[.int .i64 14, .int .i64 r.x, .int .i64 r.p, .int .i64 r.t, .slice s.oo r.o.length s.oc, .slice s.no r.n.length s.nc, .string r.nm, .int .i64 r.org, .int .i64 r.tb.id, .int .i64 r.tb.ver, .string r.tb.nm, .slice s.co r.tb.cols.length s.cc, .int .i64 r.tb.key, .slice s.to s.P.length s.tc] 37) := ⟨_, rfl⟩
  have t0 : Tch (fun _ => False) w w0 := by rw [hw0]; exact Tch.alloc _ _ _
  have b0 : w0.heap[w.heap.size]? = some (.cells #[.int .i64 14, .int .i64 r.x, .int .i64 r.p, .int .i64 r.t, .slice s.oo r.o.length s.oc, .slice s.no r.n.length s.nc, .string r.nm, .int .i64 r.org, .int .i64 r.tb.id, .int .i64 r.tb.ver, .string r.tb.nm, .slice s.co r.tb.cols.length s.cc, .int .i64 r.tb.key, .slice s.to s.P.length s.tc] 37 (0, 0)) := by rw [hw0]; exact heap_new w _
  have q1 := renc_ok r s F w0 hi (h.no t0) hr
  rw [rV, hk] at q1
  rw [rV, hk]
  obtain ⟨EB, hEB⟩ : ∃ EB, EB = bB (recL r) := ⟨_, rfl⟩
  rw [← hEB] at q1
  rw [hw0] at q1
  have HW0 : Hid (w0 = w.alloc (.cells #[.int .i64 14, .int .i64 r.x, .int .i64 r.p, .int .i64 r.t, .slice s.oo r.o.length s.oc, .slice s.no r.n.length s.nc, .string r.nm, .int .i64 r.org, .int .i64 r.tb.id, .int .i64 r.tb.ver, .string r.tb.nm, .slice s.co r.tb.cols.length s.cc, .int .i64 r.tb.key, .slice s.to s.P.length s.tc] 37)) := hw0
  have HT0 : Hid (Tch (fun _ => False) w w0) := t0
  have HK : Hid (∀ W, Tch (fun _ => False) w0 W → W.heap[w.heap.size]? = some (.cells #[.int .i64 14, .int .i64 r.x, .int .i64 r.p, .int .i64 r.t, .slice s.oo r.o.length s.oc, .slice s.no r.n.length s.nc, .string r.nm, .int .i64 r.org, .int .i64 r.tb.id, .int .i64 r.tb.ver, .string r.tb.nm, .slice s.co r.tb.cols.length s.cc, .int .i64 r.tb.key, .slice s.to s.P.length s.tc] 37 (0, 0))) := fun W t => (t.block _ (blk_lt b0) (fun h => h)).trans b0
  clear h hi hr hk hw0 t0 b0 hRB hEB hX hTT 
  go_enter Tryz.func21, Tryz.ntmps21
  go_wp2_with fail
  refine q1.mono ?_
  rintro x w1 ⟨rfl, t1⟩
  rw [← HW0.out] at t1
  have HT1 : Hid (Tch (fun _ => False) w0 w1) := t1
  obtain ⟨w2, hw2⟩ : ∃ w2, w2 = w1.alloc (.cells #[.string ⟨#[]⟩, .string ⟨#[98, 101, 103, 105, 110]⟩, .string ⟨#[112, 97, 114, 116]⟩, .string ⟨#[105, 110, 115, 101, 114, 116]⟩, .string ⟨#[117, 112, 100, 97, 116, 101]⟩, .string ⟨#[100, 101, 108, 101, 116, 101]⟩, .string ⟨#[114, 101, 108, 101, 97, 115, 101]⟩, .string ⟨#[98, 97, 99, 107]⟩, .string ⟨#[99, 111, 109, 109, 105, 116]⟩, .string ⟨#[97, 98, 111, 114, 116]⟩, .string ⟨#[112, 114, 101, 112, 97, 114, 101]⟩, .string ⟨#[99, 114, 101, 97, 116, 101]⟩, .string ⟨#[100, 114, 111, 112]⟩, .string ⟨#[119, 105, 100, 101, 110]⟩, .string ⟨#[101, 109, 112, 116, 121]⟩] 9) := ⟨_, rfl⟩
  have v2 : w2.cell? ⟨w1.heap.size, 14, none⟩ = some (.string ⟨#[101, 109, 112, 116, 121]⟩) := by rw [hw2, blk_cell (alloc_new w1 _)]; rfl
  have HT2 : Hid (Tch (fun _ => False) w0 w2) := by show Tch _ _ _; rw [hw2]; exact t1.allocR _
  have b1 := HK.out w1 t1
  have b2 := HK.out w2 HT2.out
  have u0 := blk_cell b1 0
  have y0 := blk_cell b2 0
  have y1 := blk_cell b2 1
  simp only [List.getElem?_toArray, List.getElem?_cons_succ, List.getElem?_cons_zero] at u0 y0 y1
  have k0 := cell_regrown y0
  have k1 := cell_regrown y1
  have k2 := cell_regrown v2
  have c1 := fun (dd : Nat) (os : Array Obj) => regrown_calls (w := w2) (fun W _ => QX.out W) dd os
  have HW2 : Hid (w2 = w1.alloc (.cells #[.string ⟨#[]⟩, .string ⟨#[98, 101, 103, 105, 110]⟩, .string ⟨#[112, 97, 114, 116]⟩, .string ⟨#[105, 110, 115, 101, 114, 116]⟩, .string ⟨#[117, 112, 100, 97, 116, 101]⟩, .string ⟨#[100, 101, 108, 101, 116, 101]⟩, .string ⟨#[114, 101, 108, 101, 97, 115, 101]⟩, .string ⟨#[98, 97, 99, 107]⟩, .string ⟨#[99, 111, 109, 109, 105, 116]⟩, .string ⟨#[97, 98, 111, 114, 116]⟩, .string ⟨#[112, 114, 101, 112, 97, 114, 101]⟩, .string ⟨#[99, 114, 101, 97, 116, 101]⟩, .string ⟨#[100, 114, 111, 112]⟩, .string ⟨#[119, 105, 100, 101, 110]⟩, .string ⟨#[101, 109, 112, 116, 121]⟩] 9)) := hw2
  rw [hw2] at y0
  clear q1 t1 b1 b2 hw2
  go_wp2_with fail
  rw [← HW2.out]
  rw [← HW2.out] at y0
  refine wp_region_quiet_below (by kernel_rfl) (by kernel_rfl) ?_
  quiet_step (fail)
  quiet_step (fail)
  quiet_step (fail)
  quiet_step (fail)
  quiet_step (fail)
  quiet_step ((rw [if_neg (by omega)]; exact ⟨rfl, rfl⟩))
  quiet_step (fail)
  quiet_step (fail)
  quiet_step ((go_at_call 50; exact c1 _ _))
  quiet_step ((rw [if_neg (by omega)]; exact ⟨rfl, rfl⟩))
  quiet_step (fail)
  refine wpQuiet_nil ?_
  rintro w3 ⟨p, rfl⟩
  have HT3 : Hid (Tch (fun _ => False) w0 (grow (redrawn w2 p.d) p.os)) := HT2.out.trans' (Tch.regrown w2 p.d p.os)
  obtain ⟨W3, hW3⟩ : ∃ W3, W3 = grow (redrawn w2 p.d) p.os := ⟨_, rfl⟩
  rw [← hW3] at HT3 ⊢
  clear hW3 k0 k1 k2 c1 u0 y0 y1 v2 HW2
  have b3 := HK.out W3 HT3.out
  have y0 := blk_cell b3 0
  have y1 := blk_cell b3 1
  have y2 := blk_cell b3 2
  have y3 := blk_cell b3 3
  have y4 := blk_cell b3 4
  have y5 := blk_cell b3 5
  have y6 := blk_cell b3 6
  have y7 := blk_cell b3 7
  have y8 := blk_cell b3 8
  have y9 := blk_cell b3 9
  have y10 := blk_cell b3 10
  have y11 := blk_cell b3 11
  have y12 := blk_cell b3 12
  have y13 := blk_cell b3 13
  simp only [List.getElem?_toArray, List.getElem?_cons_succ, List.getElem?_cons_zero] at y0 y1 y2 y3 y4 y5 y6 y7 y8 y9 y10 y11 y12 y13
  clear b3
  have zS : (⟨#[101, 109, 112, 116, 121]⟩ ++ ⟨#[32]⟩ ++ X : ByteArray).size ≤ 40 := by rw [size_app]; show 6 + X.size ≤ 40; omega
  go_wp2_with fail
  refine (QTT.out _).mono ?_
  rintro x w9 ⟨rfl, t9⟩
  have HT9 : Hid (Tch (fun _ => False) w0 w9) := HT3.out.trans' t9
  clear y0 y1 y2 y3 y4 y5 y6 y7 y8 y9 y10 y11 y12 y13 t9
  have zS2 : (⟨#[101, 109, 112, 116, 121]⟩ ++ ⟨#[32]⟩ ++ X ++ ⟨#[32, 116, 97, 98, 108, 101, 32]⟩ : ByteArray).size ≤ 60 := by rw [size_app]; show _ + 7 ≤ 60; omega
  go_wp2_with fail
  go_ret
  exact ⟨by rw [← HR.out]; rfl, HT0.out.trans' HT9.out⟩
end Go.Proofs.YtjiblajnfnmjnaaGreatDoor.C
