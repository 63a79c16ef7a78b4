import Derived.Test.YtjiblajnfnmjnaaGreatDoorXReader
import Derived.Test.YtjiblajnfnmjnaaGreatDoorDRe
set_option maxHeartbeats 16000000
set_option maxRecDepth 100000
namespace Go.Proofs.YtjiblajnfnmjnaaGreatDoor.C
open Go.RowKit Go Go.Sort
theorem bl_joinS (xs : List ByteArray) : bl (joinS xs) = Lib.join (xs.map bl) [32] := bl_mk _
theorem rprint_no (r : Rc) (s : Sk) (F : Nat → Prop) (w : World) (hi : RI r) (h : RW w F r s) (hn : ¬ RR r) : Calls Tryz.prog 21 #[rV r s] w fun x w' => x = .returned (.string ⟨#[63]⟩) ∧ Tch (fun _ => False) w w' := by
  have HQ : Hid (∀ W, Tch (fun _ => False) w W → Calls Tryz.prog 18 #[rV r s] W fun x w' => x = .returned (.tuple #[.string ⟨#[]⟩, .int .i64 (errR r)]) ∧ Tch (fun _ => False) W w') := fun W t => renc_no r s F W hi (h.no t) hn
  have he : (errR r != 0) = true := by unfold errR; split <;> rfl
  obtain ⟨e, hE⟩ : ∃ e, e = errR r := ⟨_, rfl⟩
  rw [← hE] at HQ he
  clear hE h hi hn
  go_enter Tryz.func21, Tryz.ntmps21
  go_wp2_with fail
  refine (HQ.out _ (Tch.alloc _ _ _)).mono ?_
  rintro x w1 ⟨rfl, t1⟩
  go_wp2_with fail
  go_ret
  exact ⟨rfl, (Tch.alloc _ _ _).trans' t1⟩
theorem rprint_1 (r : Rc) (s : Sk) (F : Nat → Prop) (w : World) (hi : RI r) (h : RW w F r s) (hr : RR r) (hk : r.k = 1) : Calls Tryz.prog 21 #[rV r s] w fun x w' => x = .returned (.string (recB r)) ∧ Tch (fun _ => False) w w' := by
  have g0 : rtN r.x := by have := hr.1; rw [hk] at this; exact this
  have g1 := g0
  unfold rtN at g1
  obtain ⟨X, hX⟩ : ∃ V, V = itoB r.x := ⟨_, rfl⟩
  have zX : X.size ≤ 22 := by rw [hX]; exact ito_size _ (by omega)
  have QX : Hid (∀ W, Calls Tryz.prog 50 #[.int .i64 r.x] W fun x w' => x = .returned (.string X) ∧ Tch (fun _ => False) W w') := fun W => by rw [hX]; exact told6 r.x (by omega) (by omega) W
  have HR : Hid (⟨#[98, 101, 103, 105, 110]⟩ ++ ⟨#[32]⟩ ++ X = recB r) := by
    show _ = recB r
    apply bl_eq
    unfold recB
    rw [hk, hX, show cls 1 = 1 from rfl]
    simp only [bl_app]
    rw [bl_joinS]
    simp [wds, Lib.join_cons, Lib.joinTail, verbB, verbCells, spB, bl]
  obtain ⟨RB, hRB⟩ : ∃ RB, RB = recB r := ⟨_, rfl⟩
  rw [← hRB] at HR ⊢
  obtain ⟨w0, hw0⟩ : ∃ w0, w0 = w.alloc (.cells #[.int .i64 1, .int .i64 r.x, .int .i64 r.p, .int .i64 r.t, .slice s.oo r.o.length s.oc, .slice s.no r.n.length s.nc, .string r.nm, .int .i64 r.org, .int .i64 r.tb.id, .int .i64 r.tb.ver, .string r.tb.nm, .slice s.co r.tb.cols.length s.cc, .int .i64 r.tb.key, .slice s.to s.P.length s.tc] 37) := ⟨_, rfl⟩
  have t0 : Tch (fun _ => False) w w0 := by rw [hw0]; exact Tch.alloc _ _ _
  have b0 : w0.heap[w.heap.size]? = some (.cells #[.int .i64 1, .int .i64 r.x, .int .i64 r.p, .int .i64 r.t, .slice s.oo r.o.length s.oc, .slice s.no r.n.length s.nc, .string r.nm, .int .i64 r.org, .int .i64 r.tb.id, .int .i64 r.tb.ver, .string r.tb.nm, .slice s.co r.tb.cols.length s.cc, .int .i64 r.tb.key, .slice s.to s.P.length s.tc] 37 (0, 0)) := by rw [hw0]; exact heap_new w _
  have q1 := renc_ok r s F w0 hi (h.no t0) hr
  rw [rV, hk] at q1
  rw [rV, hk]
  obtain ⟨EB, hEB⟩ : ∃ EB, EB = bB (recL r) := ⟨_, rfl⟩
  rw [← hEB] at q1
  rw [hw0] at q1
  have HW0 : Hid (w0 = w.alloc (.cells #[.int .i64 1, .int .i64 r.x, .int .i64 r.p, .int .i64 r.t, .slice s.oo r.o.length s.oc, .slice s.no r.n.length s.nc, .string r.nm, .int .i64 r.org, .int .i64 r.tb.id, .int .i64 r.tb.ver, .string r.tb.nm, .slice s.co r.tb.cols.length s.cc, .int .i64 r.tb.key, .slice s.to s.P.length s.tc] 37)) := hw0
  have HT0 : Hid (Tch (fun _ => False) w w0) := t0
  have HK : Hid (∀ W, Tch (fun _ => False) w0 W → W.heap[w.heap.size]? = some (.cells #[.int .i64 1, .int .i64 r.x, .int .i64 r.p, .int .i64 r.t, .slice s.oo r.o.length s.oc, .slice s.no r.n.length s.nc, .string r.nm, .int .i64 r.org, .int .i64 r.tb.id, .int .i64 r.tb.ver, .string r.tb.nm, .slice s.co r.tb.cols.length s.cc, .int .i64 r.tb.key, .slice s.to s.P.length s.tc] 37 (0, 0))) := fun W t => (t.block _ (blk_lt b0) (fun h => h)).trans b0
  clear h hi hr hk hw0 t0 b0 hRB hEB hX g1
  go_enter Tryz.func21, Tryz.ntmps21
  go_wp2_with fail
  refine q1.mono ?_
  rintro x w1 ⟨rfl, t1⟩
  rw [← HW0.out] at t1
  have HT1 : Hid (Tch (fun _ => False) w0 w1) := t1
  obtain ⟨w2, hw2⟩ : ∃ w2, w2 = w1.alloc (.cells #[.string ⟨#[]⟩, .string ⟨#[98, 101, 103, 105, 110]⟩, .string ⟨#[112, 97, 114, 116]⟩, .string ⟨#[105, 110, 115, 101, 114, 116]⟩, .string ⟨#[117, 112, 100, 97, 116, 101]⟩, .string ⟨#[100, 101, 108, 101, 116, 101]⟩, .string ⟨#[114, 101, 108, 101, 97, 115, 101]⟩, .string ⟨#[98, 97, 99, 107]⟩, .string ⟨#[99, 111, 109, 109, 105, 116]⟩, .string ⟨#[97, 98, 111, 114, 116]⟩, .string ⟨#[112, 114, 101, 112, 97, 114, 101]⟩, .string ⟨#[99, 114, 101, 97, 116, 101]⟩, .string ⟨#[100, 114, 111, 112]⟩, .string ⟨#[119, 105, 100, 101, 110]⟩, .string ⟨#[101, 109, 112, 116, 121]⟩] 9) := ⟨_, rfl⟩
  have v2 : w2.cell? ⟨w1.heap.size, 1, none⟩ = some (.string ⟨#[98, 101, 103, 105, 110]⟩) := by rw [hw2, blk_cell (alloc_new w1 _)]; rfl
  have HT2 : Hid (Tch (fun _ => False) w0 w2) := by show Tch _ _ _; rw [hw2]; exact t1.allocR _
  have b1 := HK.out w1 t1
  have b2 := HK.out w2 HT2.out
  have u0 := blk_cell b1 0
  have y0 := blk_cell b2 0
  have y1 := blk_cell b2 1
  simp only [List.getElem?_toArray, List.getElem?_cons_succ, List.getElem?_cons_zero] at u0 y0 y1
  have k0 := cell_regrown y0
  have k1 := cell_regrown y1
  have k2 := cell_regrown v2
  have c1 := fun (dd : Nat) (os : Array Obj) => regrown_calls (w := w2) (fun W _ => QX.out W) dd os
  have HW2 : Hid (w2 = w1.alloc (.cells #[.string ⟨#[]⟩, .string ⟨#[98, 101, 103, 105, 110]⟩, .string ⟨#[112, 97, 114, 116]⟩, .string ⟨#[105, 110, 115, 101, 114, 116]⟩, .string ⟨#[117, 112, 100, 97, 116, 101]⟩, .string ⟨#[100, 101, 108, 101, 116, 101]⟩, .string ⟨#[114, 101, 108, 101, 97, 115, 101]⟩, .string ⟨#[98, 97, 99, 107]⟩, .string ⟨#[99, 111, 109, 109, 105, 116]⟩, .string ⟨#[97, 98, 111, 114, 116]⟩, .string ⟨#[112, 114, 101, 112, 97, 114, 101]⟩, .string ⟨#[99, 114, 101, 97, 116, 101]⟩, .string ⟨#[100, 114, 111, 112]⟩, .string ⟨#[119, 105, 100, 101, 110]⟩, .string ⟨#[101, 109, 112, 116, 121]⟩] 9)) := hw2
  rw [hw2] at y0
  clear q1 t1 b1 b2 hw2
  go_wp2_with fail
  rw [← HW2.out]
  rw [← HW2.out] at y0
  refine wp_region_quiet_below (by kernel_rfl) (by kernel_rfl) ?_
  quiet_step (fail)
  quiet_step (fail)
  quiet_step (fail)
  quiet_step (fail)
  quiet_step (fail)
  quiet_step ((rw [if_neg (by omega)]; exact ⟨rfl, rfl⟩))
  quiet_step (fail)
  quiet_step (fail)
  quiet_step ((go_at_call 50; exact c1 _ _))
  quiet_step ((rw [if_neg (by omega)]; exact ⟨rfl, rfl⟩))
  quiet_step (fail)
  refine wpQuiet_nil ?_
  rintro w3 ⟨p, rfl⟩
  have HT3 : Hid (Tch (fun _ => False) w0 (grow (redrawn w2 p.d) p.os)) := HT2.out.trans' (Tch.regrown w2 p.d p.os)
  obtain ⟨W3, hW3⟩ : ∃ W3, W3 = grow (redrawn w2 p.d) p.os := ⟨_, rfl⟩
  rw [← hW3] at HT3 ⊢
  clear hW3 k0 k1 k2 c1 u0 y0 y1 v2 HW2
  have b3 := HK.out W3 HT3.out
  have y0 := blk_cell b3 0
  have y1 := blk_cell b3 1
  have y2 := blk_cell b3 2
  have y3 := blk_cell b3 3
  have y4 := blk_cell b3 4
  have y5 := blk_cell b3 5
  have y6 := blk_cell b3 6
  have y7 := blk_cell b3 7
  have y8 := blk_cell b3 8
  have y9 := blk_cell b3 9
  have y10 := blk_cell b3 10
  have y11 := blk_cell b3 11
  have y12 := blk_cell b3 12
  have y13 := blk_cell b3 13
  simp only [List.getElem?_toArray, List.getElem?_cons_succ, List.getElem?_cons_zero] at y0 y1 y2 y3 y4 y5 y6 y7 y8 y9 y10 y11 y12 y13
  clear b3
  go_wp2_with fail
  go_ret
  exact ⟨by rw [← HR.out]; rfl, HT0.out.trans' HT3.out⟩
theorem rprint_2 (r : Rc) (s : Sk) (F : Nat → Prop) (w : World) (hi : RI r) (h : RW w F r s) (hr : RR r) (hk : r.k = 2) : Calls Tryz.prog 21 #[rV r s] w fun x w' => x = .returned (.string (recB r)) ∧ Tch (fun _ => False) w w' := by
  have g0 : rtN r.x ∧ rtN r.p ∧ r.p < r.x := by have := hr.1; rw [hk] at this; exact this
  obtain ⟨g1, g2, -⟩ := g0
  unfold rtN at g1 g2
  obtain ⟨X, hX⟩ : ∃ V, V = itoB r.x := ⟨_, rfl⟩
  have zX : X.size ≤ 22 := by rw [hX]; exact ito_size _ (by omega)
  have QX : Hid (∀ W, Calls Tryz.prog 50 #[.int .i64 r.x] W fun x w' => x = .returned (.string X) ∧ Tch (fun _ => False) W w') := fun W => by rw [hX]; exact told6 r.x (by omega) (by omega) W
  obtain ⟨P, hP⟩ : ∃ V, V = itoB r.p := ⟨_, rfl⟩
  have zP : P.size ≤ 22 := by rw [hP]; exact ito_size _ (by omega)
  have QP : Hid (∀ W, Calls Tryz.prog 50 #[.int .i64 r.p] W fun x w' => x = .returned (.string P) ∧ Tch (fun _ => False) W w') := fun W => by rw [hP]; exact told6 r.p (by omega) (by omega) W
  have HR : Hid (⟨#[112, 97, 114, 116]⟩ ++ ⟨#[32]⟩ ++ X ++ ⟨#[32, 111, 102, 32]⟩ ++ P = recB r) := by
    show _ = recB r
    apply bl_eq
    unfold recB
    rw [hk, hX, hP, show cls 2 = 2 from rfl]
    simp only [bl_app]
    rw [bl_joinS]
    simp [wds, Lib.join_cons, Lib.joinTail, verbB, verbCells, spB, ofB, bl]
  obtain ⟨RB, hRB⟩ : ∃ RB, RB = recB r := ⟨_, rfl⟩
  rw [← hRB] at HR ⊢
  obtain ⟨w0, hw0⟩ : ∃ w0, w0 = w.alloc (.cells #[.int .i64 2, .int .i64 r.x, .int .i64 r.p, .int .i64 r.t, .slice s.oo r.o.length s.oc, .slice s.no r.n.length s.nc, .string r.nm, .int .i64 r.org, .int .i64 r.tb.id, .int .i64 r.tb.ver, .string r.tb.nm, .slice s.co r.tb.cols.length s.cc, .int .i64 r.tb.key, .slice s.to s.P.length s.tc] 37) := ⟨_, rfl⟩
  have t0 : Tch (fun _ => False) w w0 := by rw [hw0]; exact Tch.alloc _ _ _
  have b0 : w0.heap[w.heap.size]? = some (.cells #[.int .i64 2, .int .i64 r.x, .int .i64 r.p, .int .i64 r.t, .slice s.oo r.o.length s.oc, .slice s.no r.n.length s.nc, .string r.nm, .int .i64 r.org, .int .i64 r.tb.id, .int .i64 r.tb.ver, .string r.tb.nm, .slice s.co r.tb.cols.length s.cc, .int .i64 r.tb.key, .slice s.to s.P.length s.tc] 37 (0, 0)) := by rw [hw0]; exact heap_new w _
  have q1 := renc_ok r s F w0 hi (h.no t0) hr
  rw [rV, hk] at q1
  rw [rV, hk]
  obtain ⟨EB, hEB⟩ : ∃ EB, EB = bB (recL r) := ⟨_, rfl⟩
  rw [← hEB] at q1
  rw [hw0] at q1
  have HW0 : Hid (w0 = w.alloc (.cells #[.int .i64 2, .int .i64 r.x, .int .i64 r.p, .int .i64 r.t, .slice s.oo r.o.length s.oc, .slice s.no r.n.length s.nc, .string r.nm, .int .i64 r.org, .int .i64 r.tb.id, .int .i64 r.tb.ver, .string r.tb.nm, .slice s.co r.tb.cols.length s.cc, .int .i64 r.tb.key, .slice s.to s.P.length s.tc] 37)) := hw0
  have HT0 : Hid (Tch (fun _ => False) w w0) := t0
  have HK : Hid (∀ W, Tch (fun _ => False) w0 W → W.heap[w.heap.size]? = some (.cells #[.int .i64 2, .int .i64 r.x, .int .i64 r.p, .int .i64 r.t, .slice s.oo r.o.length s.oc, .slice s.no r.n.length s.nc, .string r.nm, .int .i64 r.org, .int .i64 r.tb.id, .int .i64 r.tb.ver, .string r.tb.nm, .slice s.co r.tb.cols.length s.cc, .int .i64 r.tb.key, .slice s.to s.P.length s.tc] 37 (0, 0))) := fun W t => (t.block _ (blk_lt b0) (fun h => h)).trans b0
  clear h hi hr hk hw0 t0 b0 hRB hEB hX hP 
  go_enter Tryz.func21, Tryz.ntmps21
  go_wp2_with fail
  refine q1.mono ?_
  rintro x w1 ⟨rfl, t1⟩
  rw [← HW0.out] at t1
  have HT1 : Hid (Tch (fun _ => False) w0 w1) := t1
  obtain ⟨w2, hw2⟩ : ∃ w2, w2 = w1.alloc (.cells #[.string ⟨#[]⟩, .string ⟨#[98, 101, 103, 105, 110]⟩, .string ⟨#[112, 97, 114, 116]⟩, .string ⟨#[105, 110, 115, 101, 114, 116]⟩, .string ⟨#[117, 112, 100, 97, 116, 101]⟩, .string ⟨#[100, 101, 108, 101, 116, 101]⟩, .string ⟨#[114, 101, 108, 101, 97, 115, 101]⟩, .string ⟨#[98, 97, 99, 107]⟩, .string ⟨#[99, 111, 109, 109, 105, 116]⟩, .string ⟨#[97, 98, 111, 114, 116]⟩, .string ⟨#[112, 114, 101, 112, 97, 114, 101]⟩, .string ⟨#[99, 114, 101, 97, 116, 101]⟩, .string ⟨#[100, 114, 111, 112]⟩, .string ⟨#[119, 105, 100, 101, 110]⟩, .string ⟨#[101, 109, 112, 116, 121]⟩] 9) := ⟨_, rfl⟩
  have v2 : w2.cell? ⟨w1.heap.size, 2, none⟩ = some (.string ⟨#[112, 97, 114, 116]⟩) := by rw [hw2, blk_cell (alloc_new w1 _)]; rfl
  have HT2 : Hid (Tch (fun _ => False) w0 w2) := by show Tch _ _ _; rw [hw2]; exact t1.allocR _
  have b1 := HK.out w1 t1
  have b2 := HK.out w2 HT2.out
  have u0 := blk_cell b1 0
  have y0 := blk_cell b2 0
  have y1 := blk_cell b2 1
  simp only [List.getElem?_toArray, List.getElem?_cons_succ, List.getElem?_cons_zero] at u0 y0 y1
  have k0 := cell_regrown y0
  have k1 := cell_regrown y1
  have k2 := cell_regrown v2
  have c1 := fun (dd : Nat) (os : Array Obj) => regrown_calls (w := w2) (fun W _ => QX.out W) dd os
  have HW2 : Hid (w2 = w1.alloc (.cells #[.string ⟨#[]⟩, .string ⟨#[98, 101, 103, 105, 110]⟩, .string ⟨#[112, 97, 114, 116]⟩, .string ⟨#[105, 110, 115, 101, 114, 116]⟩, .string ⟨#[117, 112, 100, 97, 116, 101]⟩, .string ⟨#[100, 101, 108, 101, 116, 101]⟩, .string ⟨#[114, 101, 108, 101, 97, 115, 101]⟩, .string ⟨#[98, 97, 99, 107]⟩, .string ⟨#[99, 111, 109, 109, 105, 116]⟩, .string ⟨#[97, 98, 111, 114, 116]⟩, .string ⟨#[112, 114, 101, 112, 97, 114, 101]⟩, .string ⟨#[99, 114, 101, 97, 116, 101]⟩, .string ⟨#[100, 114, 111, 112]⟩, .string ⟨#[119, 105, 100, 101, 110]⟩, .string ⟨#[101, 109, 112, 116, 121]⟩] 9)) := hw2
  rw [hw2] at y0
  clear q1 t1 b1 b2 hw2
  go_wp2_with fail
  rw [← HW2.out]
  rw [← HW2.out] at y0
  refine wp_region_quiet_below (by kernel_rfl) (by kernel_rfl) ?_
  quiet_step (fail)
  quiet_step (fail)
  quiet_step (fail)
  quiet_step (fail)
  quiet_step (fail)
  quiet_step ((rw [if_neg (by omega)]; exact ⟨rfl, rfl⟩))
  quiet_step (fail)
  quiet_step (fail)
  quiet_step ((go_at_call 50; exact c1 _ _))
  quiet_step ((rw [if_neg (by omega)]; exact ⟨rfl, rfl⟩))
  quiet_step (fail)
  refine wpQuiet_nil ?_
  rintro w3 ⟨p, rfl⟩
  have HT3 : Hid (Tch (fun _ => False) w0 (grow (redrawn w2 p.d) p.os)) := HT2.out.trans' (Tch.regrown w2 p.d p.os)
  obtain ⟨W3, hW3⟩ : ∃ W3, W3 = grow (redrawn w2 p.d) p.os := ⟨_, rfl⟩
  rw [← hW3] at HT3 ⊢
  clear hW3 k0 k1 k2 c1 u0 y0 y1 v2 HW2
  have b3 := HK.out W3 HT3.out
  have y0 := blk_cell b3 0
  have y1 := blk_cell b3 1
  have y2 := blk_cell b3 2
  have y3 := blk_cell b3 3
  have y4 := blk_cell b3 4
  have y5 := blk_cell b3 5
  have y6 := blk_cell b3 6
  have y7 := blk_cell b3 7
  have y8 := blk_cell b3 8
  have y9 := blk_cell b3 9
  have y10 := blk_cell b3 10
  have y11 := blk_cell b3 11
  have y12 := blk_cell b3 12
  have y13 := blk_cell b3 13
  simp only [List.getElem?_toArray, List.getElem?_cons_succ, List.getElem?_cons_zero] at y0 y1 y2 y3 y4 y5 y6 y7 y8 y9 y10 y11 y12 y13
  clear b3
  have zS : (⟨#[112, 97, 114, 116]⟩ ++ ⟨#[32]⟩ ++ X : ByteArray).size ≤ 40 := by rw [size_app]; show 5 + X.size ≤ 40; omega
  go_wp2_with fail
  refine (QP.out _).mono ?_
  rintro x w9 ⟨rfl, t9⟩
  have HT9 : Hid (Tch (fun _ => False) w0 w9) := HT3.out.trans' t9
  clear y0 y1 y2 y3 y4 y5 y6 y7 y8 y9 y10 y11 y12 y13 t9
  have zS2 : (⟨#[112, 97, 114, 116]⟩ ++ ⟨#[32]⟩ ++ X ++ ⟨#[32, 111, 102, 32]⟩ : ByteArray).size ≤ 60 := by rw [size_app]; show _ + 4 ≤ 60; omega
  go_wp2_with fail
  go_ret
  exact ⟨by rw [← HR.out]; rfl, HT0.out.trans' HT9.out⟩
theorem rprint_3 (r : Rc) (s : Sk) (F : Nat → Prop) (w : World) (hi : RI r) (h : RW w F r s) (hr : RR r) (hk : r.k = 3) : Calls Tryz.prog 21 #[rV r s] w fun x w' => x = .returned (.string (recB r)) ∧ Tch (fun _ => False) w w' := by
  have g0 : rtN r.x ∧ rtN r.t ∧ rtRow r.n := by have := hr.1; rw [hk] at this; exact this
  obtain ⟨g1, g2, gN⟩ := g0
  unfold rtN at g1 g2
  obtain ⟨X, hX⟩ : ∃ V, V = itoB r.x := ⟨_, rfl⟩
  have zX : X.size ≤ 22 := by rw [hX]; exact ito_size _ (by omega)
  have QX : Hid (∀ W, Calls Tryz.prog 50 #[.int .i64 r.x] W fun x w' => x = .returned (.string X) ∧ Tch (fun _ => False) W w') := fun W => by rw [hX]; exact told6 r.x (by omega) (by omega) W
  obtain ⟨TT, hTT⟩ : ∃ V, V = itoB r.t := ⟨_, rfl⟩
  have zTT : TT.size ≤ 22 := by rw [hTT]; exact ito_size _ (by omega)
  have QTT : Hid (∀ W, Calls Tryz.prog 50 #[.int .i64 r.t] W fun x w' => x = .returned (.string TT) ∧ Tch (fun _ => False) W w') := fun W => by rw [hTT]; exact told6 r.t (by omega) (by omega) W
  have lN := encR_le (show (encR r.n).2 = 0 from gN.2)
  obtain ⟨N, hN⟩ : ∃ V, V = brk (r.n.map prB) := ⟨_, rfl⟩
  have zN : N.size ≤ 6000 := by rw [hN]; exact (rowB_size lN h.ni).2
  have QN : Hid (∀ W, Tch (fun _ => False) w W → Calls Tryz.prog 52 #[.slice s.no r.n.length s.nc] W fun x w' => x = .returned (.string N) ∧ Tch (fun _ => False) W w') := fun W t => by rw [hN]; exact rrowOf6 r.n s.no s.nc W ((h.no t).n) h.ni lN
  have HR : Hid (⟨#[105, 110, 115, 101, 114, 116]⟩ ++ ⟨#[32]⟩ ++ X ++ ⟨#[32, 116, 97, 98, 108, 101, 32]⟩ ++ TT ++ ⟨#[32]⟩ ++ N = recB r) := by
    show _ = recB r
    apply bl_eq
    unfold recB
    rw [hk, hX, hTT, hN, show cls 3 = 3 from rfl]
    simp only [bl_app]
    rw [bl_joinS]
    simp [wds, Lib.join_cons, Lib.joinTail, verbB, verbCells, spB, tableB, bl]
  obtain ⟨RB, hRB⟩ : ∃ RB, RB = recB r := ⟨_, rfl⟩
  rw [← hRB] at HR ⊢
  obtain ⟨w0, hw0⟩ : ∃ w0, w0 = w.alloc (.cells #[.int .i64 3, .int .i64 r.x, .int .i64 r.p, .int .i64 r.t, .slice s.oo r.o.length s.oc, .slice s.no r.n.length s.nc, .string r.nm, .int .i64 r.org, .int .i64 r.tb.id, .int .i64 r.tb.ver, .string r.tb.nm, .slice s.co r.tb.cols.length s.cc, .int .i64 r.tb.key, .slice s.to s.P.length s.tc] 37) := ⟨_, rfl⟩
  have t0 : Tch (fun _ => False) w w0 := by rw [hw0]; exact Tch.alloc _ _ _
  have b0 : w0.heap[w.heap.size]? = some (.cells #[.int .i64 3, .int .i64 r.x, .int .i64 r.p, .int .i64 r.t, .slice s.oo r.o.length s.oc, .slice s.no r.n.length s.nc, .string r.nm, .int .i64 r.org, .int .i64 r.tb.id, .int .i64 r.tb.ver, .string r.tb.nm, .slice s.co r.tb.cols.length s.cc, .int .i64 r.tb.key, .slice s.to s.P.length s.tc] 37 (0, 0)) := by rw [hw0]; exact heap_new w _
  have q1 := renc_ok r s F w0 hi (h.no t0) hr
  rw [rV, hk] at q1
  rw [rV, hk]
  obtain ⟨EB, hEB⟩ : ∃ EB, EB = bB (recL r) := ⟨_, rfl⟩
  rw [← hEB] at q1
  rw [hw0] at q1
  have HW0 : Hid (w0 = w.alloc (.cells #[.int .i64 3, .int .i64 r.x, .int .i64 r.p, .int .i64 r.t, .slice s.oo r.o.length s.oc, .slice s.no r.n.length s.nc, .string r.nm, .int .i64 r.org, .int .i64 r.tb.id, .int .i64 r.tb.ver, .string r.tb.nm, .slice s.co r.tb.cols.length s.cc, .int .i64 r.tb.key, .slice s.to s.P.length s.tc] 37)) := hw0
  have HT0 : Hid (Tch (fun _ => False) w w0) := t0
  have HK : Hid (∀ W, Tch (fun _ => False) w0 W → W.heap[w.heap.size]? = some (.cells #[.int .i64 3, .int .i64 r.x, .int .i64 r.p, .int .i64 r.t, .slice s.oo r.o.length s.oc, .slice s.no r.n.length s.nc, .string r.nm, .int .i64 r.org, .int .i64 r.tb.id, .int .i64 r.tb.ver, .string r.tb.nm, .slice s.co r.tb.cols.length s.cc, .int .i64 r.tb.key, .slice s.to s.P.length s.tc] 37 (0, 0))) := fun W t => (t.block _ (blk_lt b0) (fun h => h)).trans b0
  clear h hi hr hk hw0 t0 b0 hRB hEB hX hTT hN 
  go_enter Tryz.func21, Tryz.ntmps21
  go_wp2_with fail
  refine q1.mono ?_
  rintro x w1 ⟨rfl, t1⟩
  rw [← HW0.out] at t1
  have HT1 : Hid (Tch (fun _ => False) w0 w1) := t1
  obtain ⟨w2, hw2⟩ : ∃ w2, w2 = w1.alloc (.cells #[.string ⟨#[]⟩, .string ⟨#[98, 101, 103, 105, 110]⟩, .string ⟨#[112, 97, 114, 116]⟩, .string ⟨#[105, 110, 115, 101, 114, 116]⟩, .string ⟨#[117, 112, 100, 97, 116, 101]⟩, .string ⟨#[100, 101, 108, 101, 116, 101]⟩, .string ⟨#[114, 101, 108, 101, 97, 115, 101]⟩, .string ⟨#[98, 97, 99, 107]⟩, .string ⟨#[99, 111, 109, 109, 105, 116]⟩, .string ⟨#[97, 98, 111, 114, 116]⟩, .string ⟨#[112, 114, 101, 112, 97, 114, 101]⟩, .string ⟨#[99, 114, 101, 97, 116, 101]⟩, .string ⟨#[100, 114, 111, 112]⟩, .string ⟨#[119, 105, 100, 101, 110]⟩, .string ⟨#[101, 109, 112, 116, 121]⟩] 9) := ⟨_, rfl⟩
  have v2 : w2.cell? ⟨w1.heap.size, 3, none⟩ = some (.string ⟨#[105, 110, 115, 101, 114, 116]⟩) := by rw [hw2, blk_cell (alloc_new w1 _)]; rfl
  have HT2 : Hid (Tch (fun _ => False) w0 w2) := by show Tch _ _ _; rw [hw2]; exact t1.allocR _
  have b1 := HK.out w1 t1
  have b2 := HK.out w2 HT2.out
  have u0 := blk_cell b1 0
  have y0 := blk_cell b2 0
  have y1 := blk_cell b2 1
  simp only [List.getElem?_toArray, List.getElem?_cons_succ, List.getElem?_cons_zero] at u0 y0 y1
  have k0 := cell_regrown y0
  have k1 := cell_regrown y1
  have k2 := cell_regrown v2
  have c1 := fun (dd : Nat) (os : Array Obj) => regrown_calls (w := w2) (fun W _ => QX.out W) dd os
  have HW2 : Hid (w2 = w1.alloc (.cells #[.string ⟨#[]⟩, .string ⟨#[98, 101, 103, 105, 110]⟩, .string ⟨#[112, 97, 114, 116]⟩, .string ⟨#[105, 110, 115, 101, 114, 116]⟩, .string ⟨#[117, 112, 100, 97, 116, 101]⟩, .string ⟨#[100, 101, 108, 101, 116, 101]⟩, .string ⟨#[114, 101, 108, 101, 97, 115, 101]⟩, .string ⟨#[98, 97, 99, 107]⟩, .string ⟨#[99, 111, 109, 109, 105, 116]⟩, .string ⟨#[97, 98, 111, 114, 116]⟩, .string ⟨#[112, 114, 101, 112, 97, 114, 101]⟩, .string ⟨#[99, 114, 101, 97, 116, 101]⟩, .string ⟨#[100, 114, 111, 112]⟩, .string ⟨#[119, 105, 100, 101, 110]⟩, .string ⟨#[101, 109, 112, 116, 121]⟩] 9)) := hw2
  rw [hw2] at y0
  clear q1 t1 b1 b2 hw2
  go_wp2_with fail
  rw [← HW2.out]
  rw [← HW2.out] at y0
  refine wp_region_quiet_below (by kernel_rfl) (by kernel_rfl) ?_
  quiet_step (fail)
  quiet_step (fail)
  quiet_step (fail)
  quiet_step (fail)
  quiet_step (fail)
  quiet_step ((rw [if_neg (by omega)]; exact ⟨rfl, rfl⟩))
  quiet_step (fail)
  quiet_step (fail)
  quiet_step ((go_at_call 50; exact c1 _ _))
  quiet_step ((rw [if_neg (by omega)]; exact ⟨rfl, rfl⟩))
  quiet_step (fail)
  refine wpQuiet_nil ?_
  rintro w3 ⟨p, rfl⟩
  have HT3 : Hid (Tch (fun _ => False) w0 (grow (redrawn w2 p.d) p.os)) := HT2.out.trans' (Tch.regrown w2 p.d p.os)
  obtain ⟨W3, hW3⟩ : ∃ W3, W3 = grow (redrawn w2 p.d) p.os := ⟨_, rfl⟩
  rw [← hW3] at HT3 ⊢
  clear hW3 k0 k1 k2 c1 u0 y0 y1 v2 HW2
  have b3 := HK.out W3 HT3.out
  have y0 := blk_cell b3 0
  have y1 := blk_cell b3 1
  have y2 := blk_cell b3 2
  have y3 := blk_cell b3 3
  have y4 := blk_cell b3 4
  have y5 := blk_cell b3 5
  have y6 := blk_cell b3 6
  have y7 := blk_cell b3 7
  have y8 := blk_cell b3 8
  have y9 := blk_cell b3 9
  have y10 := blk_cell b3 10
  have y11 := blk_cell b3 11
  have y12 := blk_cell b3 12
  have y13 := blk_cell b3 13
  simp only [List.getElem?_toArray, List.getElem?_cons_succ, List.getElem?_cons_zero] at y0 y1 y2 y3 y4 y5 y6 y7 y8 y9 y10 y11 y12 y13
  clear b3
  have kT := cell_regrown y3
  have kO := cell_regrown y4
  have kN := cell_regrown y5
  have cT := fun (dd : Nat) (os : Array Obj) => regrown_calls (w := W3) (fun W _ => QTT.out W) dd os
  have cN := fun (dd : Nat) (os : Array Obj) => regrown_calls (w := W3) (fun W t => QN.out W ((HT0.out.trans' HT3.out).trans' t)) dd os
  go_wp2_with fail
  refine wp_region_quiet_below (by kernel_rfl) (by kernel_rfl) ?_
  quiet_step (fail)
  quiet_step ((rw [if_neg (by omega)]; exact ⟨rfl, rfl⟩))
  quiet_step (fail)
  quiet_step (fail)
  quiet_step ((go_at_call 50; exact cT _ _))
  quiet_step ((rw [if_neg (by omega)]; exact ⟨rfl, rfl⟩))
  quiet_step ((rw [if_neg (by omega)]; exact ⟨rfl, rfl⟩))
  quiet_step (fail)
  quiet_step (fail)
  quiet_step ((go_at_call 52; exact cN _ _))
  quiet_step ((rw [if_neg (by omega)]; exact ⟨rfl, rfl⟩))
  quiet_step (fail)
  refine wpQuiet_nil ?_
  rintro w4 ⟨p, rfl⟩
  have HT9 : Hid (Tch (fun _ => False) w0 (grow (redrawn W3 p.d) p.os)) := HT3.out.trans' (Tch.regrown W3 p.d p.os)
  obtain ⟨W4, hW4⟩ : ∃ W4, W4 = grow (redrawn W3 p.d) p.os := ⟨_, rfl⟩
  rw [← hW4] at HT9 ⊢
  clear hW4
  go_wp2_with fail
  go_ret
  exact ⟨by rw [← HR.out]; rfl, HT0.out.trans' HT9.out⟩
theorem rprint_4 (r : Rc) (s : Sk) (F : Nat → Prop) (w : World) (hi : RI r) (h : RW w F r s) (hr : RR r) (hk : r.k = 4) : Calls Tryz.prog 21 #[rV r s] w fun x w' => x = .returned (.string (recB r)) ∧ Tch (fun _ => False) w w' := by
  have g0 : rtN r.x ∧ rtN r.t ∧ rtRow r.o ∧ rtRow r.n := by have := hr.1; rw [hk] at this; exact this
  obtain ⟨g1, g2, gO, gN⟩ := g0
  unfold rtN at g1 g2
  obtain ⟨X, hX⟩ : ∃ V, V = itoB r.x := ⟨_, rfl⟩
  have zX : X.size ≤ 22 := by rw [hX]; exact ito_size _ (by omega)
  have QX : Hid (∀ W, Calls Tryz.prog 50 #[.int .i64 r.x] W fun x w' => x = .returned (.string X) ∧ Tch (fun _ => False) W w') := fun W => by rw [hX]; exact told6 r.x (by omega) (by omega) W
  obtain ⟨TT, hTT⟩ : ∃ V, V = itoB r.t := ⟨_, rfl⟩
  have zTT : TT.size ≤ 22 := by rw [hTT]; exact ito_size _ (by omega)
  have QTT : Hid (∀ W, Calls Tryz.prog 50 #[.int .i64 r.t] W fun x w' => x = .returned (.string TT) ∧ Tch (fun _ => False) W w') := fun W => by rw [hTT]; exact told6 r.t (by omega) (by omega) W
  have lO := encR_le (show (encR r.o).2 = 0 from gO.2)
  obtain ⟨O, hO⟩ : ∃ V, V = brk (r.o.map prB) := ⟨_, rfl⟩
  have zO : O.size ≤ 6000 := by rw [hO]; exact (rowB_size lO h.oi).2
  have QO : Hid (∀ W, Tch (fun _ => False) w W → Calls Tryz.prog 52 #[.slice s.oo r.o.length s.oc] W fun x w' => x = .returned (.string O) ∧ Tch (fun _ => False) W w') := fun W t => by rw [hO]; exact rrowOf6 r.o s.oo s.oc W ((h.no t).o) h.oi lO
  have lN := encR_le (show (encR r.n).2 = 0 from gN.2)
  obtain ⟨N, hN⟩ : ∃ V, V = brk (r.n.map prB) := ⟨_, rfl⟩
  have zN : N.size ≤ 6000 := by rw [hN]; exact (rowB_size lN h.ni).2
  have QN : Hid (∀ W, Tch (fun _ => False) w W → Calls Tryz.prog 52 #[.slice s.no r.n.length s.nc] W fun x w' => x = .returned (.string N) ∧ Tch (fun _ => False) W w') := fun W t => by rw [hN]; exact rrowOf6 r.n s.no s.nc W ((h.no t).n) h.ni lN
  have HR : Hid (⟨#[117, 112, 100, 97, 116, 101]⟩ ++ ⟨#[32]⟩ ++ X ++ ⟨#[32, 116, 97, 98, 108, 101, 32]⟩ ++ TT ++ ⟨#[32]⟩ ++ O ++ ⟨#[32, 116, 111, 32]⟩ ++ N = recB r) := by
    show _ = recB r
    apply bl_eq
    unfold recB
    rw [hk, hX, hTT, hO, hN, show cls 4 = 4 from rfl]
    simp only [bl_app]
    rw [bl_joinS]
    simp [wds, Lib.join_cons, Lib.joinTail, verbB, verbCells, spB, tableB, toB, bl]
  obtain ⟨RB, hRB⟩ : ∃ RB, RB = recB r := ⟨_, rfl⟩
  rw [← hRB] at HR ⊢
  obtain ⟨w0, hw0⟩ : ∃ w0, w0 = w.alloc (.cells #[.int .i64 4, .int .i64 r.x, .int .i64 r.p, .int .i64 r.t, .slice s.oo r.o.length s.oc, .slice s.no r.n.length s.nc, .string r.nm, .int .i64 r.org, .int .i64 r.tb.id, .int .i64 r.tb.ver, .string r.tb.nm, .slice s.co r.tb.cols.length s.cc, .int .i64 r.tb.key, .slice s.to s.P.length s.tc] 37) := ⟨_, rfl⟩
  have t0 : Tch (fun _ => False) w w0 := by rw [hw0]; exact Tch.alloc _ _ _
  have b0 : w0.heap[w.heap.size]? = some (.cells #[.int .i64 4, .int .i64 r.x, .int .i64 r.p, .int .i64 r.t, .slice s.oo r.o.length s.oc, .slice s.no r.n.length s.nc, .string r.nm, .int .i64 r.org, .int .i64 r.tb.id, .int .i64 r.tb.ver, .string r.tb.nm, .slice s.co r.tb.cols.length s.cc, .int .i64 r.tb.key, .slice s.to s.P.length s.tc] 37 (0, 0)) := by rw [hw0]; exact heap_new w _
  have q1 := renc_ok r s F w0 hi (h.no t0) hr
  rw [rV, hk] at q1
  rw [rV, hk]
  obtain ⟨EB, hEB⟩ : ∃ EB, EB = bB (recL r) := ⟨_, rfl⟩
  rw [← hEB] at q1
  rw [hw0] at q1
  have HW0 : Hid (w0 = w.alloc (.cells #[.int .i64 4, .int .i64 r.x, .int .i64 r.p, .int .i64 r.t, .slice s.oo r.o.length s.oc, .slice s.no r.n.length s.nc, .string r.nm, .int .i64 r.org, .int .i64 r.tb.id, .int .i64 r.tb.ver, .string r.tb.nm, .slice s.co r.tb.cols.length s.cc, .int .i64 r.tb.key, .slice s.to s.P.length s.tc] 37)) := hw0
  have HT0 : Hid (Tch (fun _ => False) w w0) := t0
  have HK : Hid (∀ W, Tch (fun _ => False) w0 W → W.heap[w.heap.size]? = some (.cells #[.int .i64 4, .int .i64 r.x, .int .i64 r.p, .int .i64 r.t, .slice s.oo r.o.length s.oc, .slice s.no r.n.length s.nc, .string r.nm, .int .i64 r.org, .int .i64 r.tb.id, .int .i64 r.tb.ver, .string r.tb.nm, .slice s.co r.tb.cols.length s.cc, .int .i64 r.tb.key, .slice s.to s.P.length s.tc] 37 (0, 0))) := fun W t => (t.block _ (blk_lt b0) (fun h => h)).trans b0
  clear h hi hr hk hw0 t0 b0 hRB hEB hX hTT hO hN 
  go_enter Tryz.func21, Tryz.ntmps21
  go_wp2_with fail
  refine q1.mono ?_
  rintro x w1 ⟨rfl, t1⟩
  rw [← HW0.out] at t1
  have HT1 : Hid (Tch (fun _ => False) w0 w1) := t1
  obtain ⟨w2, hw2⟩ : ∃ w2, w2 = w1.alloc (.cells #[.string ⟨#[]⟩, .string ⟨#[98, 101, 103, 105, 110]⟩, .string ⟨#[112, 97, 114, 116]⟩, .string ⟨#[105, 110, 115, 101, 114, 116]⟩, .string ⟨#[117, 112, 100, 97, 116, 101]⟩, .string ⟨#[100, 101, 108, 101, 116, 101]⟩, .string ⟨#[114, 101, 108, 101, 97, 115, 101]⟩, .string ⟨#[98, 97, 99, 107]⟩, .string ⟨#[99, 111, 109, 109, 105, 116]⟩, .string ⟨#[97, 98, 111, 114, 116]⟩, .string ⟨#[112, 114, 101, 112, 97, 114, 101]⟩, .string ⟨#[99, 114, 101, 97, 116, 101]⟩, .string ⟨#[100, 114, 111, 112]⟩, .string ⟨#[119, 105, 100, 101, 110]⟩, .string ⟨#[101, 109, 112, 116, 121]⟩] 9) := ⟨_, rfl⟩
  have v2 : w2.cell? ⟨w1.heap.size, 4, none⟩ = some (.string ⟨#[117, 112, 100, 97, 116, 101]⟩) := by rw [hw2, blk_cell (alloc_new w1 _)]; rfl
  have HT2 : Hid (Tch (fun _ => False) w0 w2) := by show Tch _ _ _; rw [hw2]; exact t1.allocR _
  have b1 := HK.out w1 t1
  have b2 := HK.out w2 HT2.out
  have u0 := blk_cell b1 0
  have y0 := blk_cell b2 0
  have y1 := blk_cell b2 1
  simp only [List.getElem?_toArray, List.getElem?_cons_succ, List.getElem?_cons_zero] at u0 y0 y1
  have k0 := cell_regrown y0
  have k1 := cell_regrown y1
  have k2 := cell_regrown v2
  have c1 := fun (dd : Nat) (os : Array Obj) => regrown_calls (w := w2) (fun W _ => QX.out W) dd os
  have HW2 : Hid (w2 = w1.alloc (.cells #[.string ⟨#[]⟩, .string ⟨#[98, 101, 103, 105, 110]⟩, .string ⟨#[112, 97, 114, 116]⟩, .string ⟨#[105, 110, 115, 101, 114, 116]⟩, .string ⟨#[117, 112, 100, 97, 116, 101]⟩, .string ⟨#[100, 101, 108, 101, 116, 101]⟩, .string ⟨#[114, 101, 108, 101, 97, 115, 101]⟩, .string ⟨#[98, 97, 99, 107]⟩, .string ⟨#[99, 111, 109, 109, 105, 116]⟩, .string ⟨#[97, 98, 111, 114, 116]⟩, .string ⟨#[112, 114, 101, 112, 97, 114, 101]⟩, .string ⟨#[99, 114, 101, 97, 116, 101]⟩, .string ⟨#[100, 114, 111, 112]⟩, .string ⟨#[119, 105, 100, 101, 110]⟩, .string ⟨#[101, 109, 112, 116, 121]⟩] 9)) := hw2
  rw [hw2] at y0
  clear q1 t1 b1 b2 hw2
  go_wp2_with fail
  rw [← HW2.out]
  rw [← HW2.out] at y0
  refine wp_region_quiet_below (by kernel_rfl) (by kernel_rfl) ?_
  quiet_step (fail)
  quiet_step (fail)
  quiet_step (fail)
  quiet_step (fail)
  quiet_step (fail)
  quiet_step ((rw [if_neg (by omega)]; exact ⟨rfl, rfl⟩))
  quiet_step (fail)
  quiet_step (fail)
  quiet_step ((go_at_call 50; exact c1 _ _))
  quiet_step ((rw [if_neg (by omega)]; exact ⟨rfl, rfl⟩))
  quiet_step (fail)
  refine wpQuiet_nil ?_
  rintro w3 ⟨p, rfl⟩
  have HT3 : Hid (Tch (fun _ => False) w0 (grow (redrawn w2 p.d) p.os)) := HT2.out.trans' (Tch.regrown w2 p.d p.os)
  obtain ⟨W3, hW3⟩ : ∃ W3, W3 = grow (redrawn w2 p.d) p.os := ⟨_, rfl⟩
  rw [← hW3] at HT3 ⊢
  clear hW3 k0 k1 k2 c1 u0 y0 y1 v2 HW2
  have b3 := HK.out W3 HT3.out
  have y0 := blk_cell b3 0
  have y1 := blk_cell b3 1
  have y2 := blk_cell b3 2
  have y3 := blk_cell b3 3
  have y4 := blk_cell b3 4
  have y5 := blk_cell b3 5
  have y6 := blk_cell b3 6
  have y7 := blk_cell b3 7
  have y8 := blk_cell b3 8
  have y9 := blk_cell b3 9
  have y10 := blk_cell b3 10
  have y11 := blk_cell b3 11
  have y12 := blk_cell b3 12
  have y13 := blk_cell b3 13
  simp only [List.getElem?_toArray, List.getElem?_cons_succ, List.getElem?_cons_zero] at y0 y1 y2 y3 y4 y5 y6 y7 y8 y9 y10 y11 y12 y13
  clear b3
  have kT := cell_regrown y3
  have kO := cell_regrown y4
  have kN := cell_regrown y5
  have cT := fun (dd : Nat) (os : Array Obj) => regrown_calls (w := W3) (fun W _ => QTT.out W) dd os
  have cO := fun (dd : Nat) (os : Array Obj) => regrown_calls (w := W3) (fun W t => QO.out W ((HT0.out.trans' HT3.out).trans' t)) dd os
  have cN := fun (dd : Nat) (os : Array Obj) => regrown_calls (w := W3) (fun W t => QN.out W ((HT0.out.trans' HT3.out).trans' t)) dd os
  go_wp2_with fail
  refine wp_region_quiet_below (by kernel_rfl) (by kernel_rfl) ?_
  quiet_step (fail)
  quiet_step ((rw [if_neg (by omega)]; exact ⟨rfl, rfl⟩))
  quiet_step (fail)
  quiet_step (fail)
  quiet_step ((go_at_call 50; exact cT _ _))
  quiet_step ((rw [if_neg (by omega)]; exact ⟨rfl, rfl⟩))
  quiet_step ((rw [if_neg (by omega)]; exact ⟨rfl, rfl⟩))
  quiet_step (fail)
  quiet_step (fail)
  quiet_step ((go_at_call 52; exact cO _ _))
  quiet_step ((rw [if_neg (by omega)]; exact ⟨rfl, rfl⟩))
  quiet_step ((rw [if_neg (by omega)]; exact ⟨rfl, rfl⟩))
  quiet_step (fail)
  quiet_step (fail)
  quiet_step ((go_at_call 52; exact cN _ _))
  quiet_step ((rw [if_neg (by omega)]; exact ⟨rfl, rfl⟩))
  quiet_step (fail)
  refine wpQuiet_nil ?_
  rintro w4 ⟨p, rfl⟩
  have HT9 : Hid (Tch (fun _ => False) w0 (grow (redrawn W3 p.d) p.os)) := HT3.out.trans' (Tch.regrown W3 p.d p.os)
  obtain ⟨W4, hW4⟩ : ∃ W4, W4 = grow (redrawn W3 p.d) p.os := ⟨_, rfl⟩
  rw [← hW4] at HT9 ⊢
  clear hW4
  go_wp2_with fail
  go_ret
  exact ⟨by rw [← HR.out]; rfl, HT0.out.trans' HT9.out⟩
theorem rprint_5 (r : Rc) (s : Sk) (F : Nat → Prop) (w : World) (hi : RI r) (h : RW w F r s) (hr : RR r) (hk : r.k = 5) : Calls Tryz.prog 21 #[rV r s] w fun x w' => x = .returned (.string (recB r)) ∧ Tch (fun _ => False) w w' := by
  have g0 : rtN r.x ∧ rtN r.t ∧ rtRow r.o := by have := hr.1; rw [hk] at this; exact this
  obtain ⟨g1, g2, gO⟩ := g0
  unfold rtN at g1 g2
  obtain ⟨X, hX⟩ : ∃ V, V = itoB r.x := ⟨_, rfl⟩
  have zX : X.size ≤ 22 := by rw [hX]; exact ito_size _ (by omega)
  have QX : Hid (∀ W, Calls Tryz.prog 50 #[.int .i64 r.x] W fun x w' => x = .returned (.string X) ∧ Tch (fun _ => False) W w') := fun W => by rw [hX]; exact told6 r.x (by omega) (by omega) W
  obtain ⟨TT, hTT⟩ : ∃ V, V = itoB r.t := ⟨_, rfl⟩
  have zTT : TT.size ≤ 22 := by rw [hTT]; exact ito_size _ (by omega)
  have QTT : Hid (∀ W, Calls Tryz.prog 50 #[.int .i64 r.t] W fun x w' => x = .returned (.string TT) ∧ Tch (fun _ => False) W w') := fun W => by rw [hTT]; exact told6 r.t (by omega) (by omega) W
  have lO := encR_le (show (encR r.o).2 = 0 from gO.2)
  obtain ⟨O, hO⟩ : ∃ V, V = brk (r.o.map prB) := ⟨_, rfl⟩
  have zO : O.size ≤ 6000 := by rw [hO]; exact (rowB_size lO h.oi).2
  have QO : Hid (∀ W, Tch (fun _ => False) w W → Calls Tryz.prog 52 #[.slice s.oo r.o.length s.oc] W fun x w' => x = .returned (.string O) ∧ Tch (fun _ => False) W w') := fun W t => by rw [hO]; exact rrowOf6 r.o s.oo s.oc W ((h.no t).o) h.oi lO
  have HR : Hid (⟨#[100, 101, 108, 101, 116, 101]⟩ ++ ⟨#[32]⟩ ++ X ++ ⟨#[32, 116, 97, 98, 108, 101, 32]⟩ ++ TT ++ ⟨#[32]⟩ ++ O = recB r) := by
    show _ = recB r
    apply bl_eq
    unfold recB
    rw [hk, hX, hTT, hO, show cls 5 = 5 from rfl]
    simp only [bl_app]
    rw [bl_joinS]
    simp [wds, Lib.join_cons, Lib.joinTail, verbB, verbCells, spB, tableB, bl]
  obtain ⟨RB, hRB⟩ : ∃ RB, RB = recB r := ⟨_, rfl⟩
  rw [← hRB] at HR ⊢
  obtain ⟨w0, hw0⟩ : ∃ w0, w0 = w.alloc (.cells #[.int .i64 5, .int .i64 r.x, .int .i64 r.p, .int .i64 r.t, .slice s.oo r.o.length s.oc, .slice s.no r.n.length s.nc, .string r.nm, .int .i64 r.org, .int .i64 r.tb.id, .int .i64 r.tb.ver, .string r.tb.nm, .slice s.co r.tb.cols.length s.cc, .int .i64 r.tb.key, .slice s.to s.P.length s.tc] 37) := ⟨_, rfl⟩
  have t0 : Tch (fun _ => False) w w0 := by rw [hw0]; exact Tch.alloc _ _ _
  have b0 : w0.heap[w.heap.size]? = some (.cells #[.int .i64 5, .int .i64 r.x, .int .i64 r.p, .int .i64 r.t, .slice s.oo r.o.length s.oc, .slice s.no r.n.length s.nc, .string r.nm, .int .i64 r.org, .int .i64 r.tb.id, .int .i64 r.tb.ver, .string r.tb.nm, .slice s.co r.tb.cols.length s.cc, .int .i64 r.tb.key, .slice s.to s.P.length s.tc] 37 (0, 0)) := by rw [hw0]; exact heap_new w _
  have q1 := renc_ok r s F w0 hi (h.no t0) hr
  rw [rV, hk] at q1
  rw [rV, hk]
  obtain ⟨EB, hEB⟩ : ∃ EB, EB = bB (recL r) := ⟨_, rfl⟩
  rw [← hEB] at q1
  rw [hw0] at q1
  have HW0 : Hid (w0 = w.alloc (.cells #[.int .i64 5, .int .i64 r.x, .int .i64 r.p, .int .i64 r.t, .slice s.oo r.o.length s.oc, .slice s.no r.n.length s.nc, .string r.nm, .int .i64 r.org, .int .i64 r.tb.id, .int .i64 r.tb.ver, .string r.tb.nm, .slice s.co r.tb.cols.length s.cc, .int .i64 r.tb.key, .slice s.to s.P.length s.tc] 37)) := hw0
  have HT0 : Hid (Tch (fun _ => False) w w0) := t0
  have HK : Hid (∀ W, Tch (fun _ => False) w0 W → W.heap[w.heap.size]? = some (.cells #[.int .i64 5, .int .i64 r.x, .int .i64 r.p, .int .i64 r.t, .slice s.oo r.o.length s.oc, .slice s.no r.n.length s.nc, .string r.nm, .int .i64 r.org, .int .i64 r.tb.id, .int .i64 r.tb.ver, .string r.tb.nm, .slice s.co r.tb.cols.length s.cc, .int .i64 r.tb.key, .slice s.to s.P.length s.tc] 37 (0, 0))) := fun W t => (t.block _ (blk_lt b0) (fun h => h)).trans b0
  clear h hi hr hk hw0 t0 b0 hRB hEB hX hTT hO 
  go_enter Tryz.func21, Tryz.ntmps21
  go_wp2_with fail
  refine q1.mono ?_
  rintro x w1 ⟨rfl, t1⟩
  rw [← HW0.out] at t1
  have HT1 : Hid (Tch (fun _ => False) w0 w1) := t1
  obtain ⟨w2, hw2⟩ : ∃ w2, w2 = w1.alloc (.cells #[.string ⟨#[]⟩, .string ⟨#[98, 101, 103, 105, 110]⟩, .string ⟨#[112, 97, 114, 116]⟩, .string ⟨#[105, 110, 115, 101, 114, 116]⟩, .string ⟨#[117, 112, 100, 97, 116, 101]⟩, .string ⟨#[100, 101, 108, 101, 116, 101]⟩, .string ⟨#[114, 101, 108, 101, 97, 115, 101]⟩, .string ⟨#[98, 97, 99, 107]⟩, .string ⟨#[99, 111, 109, 109, 105, 116]⟩, .string ⟨#[97, 98, 111, 114, 116]⟩, .string ⟨#[112, 114, 101, 112, 97, 114, 101]⟩, .string ⟨#[99, 114, 101, 97, 116, 101]⟩, .string ⟨#[100, 114, 111, 112]⟩, .string ⟨#[119, 105, 100, 101, 110]⟩, .string ⟨#[101, 109, 112, 116, 121]⟩] 9) := ⟨_, rfl⟩
  have v2 : w2.cell? ⟨w1.heap.size, 5, none⟩ = some (.string ⟨#[100, 101, 108, 101, 116, 101]⟩) := by rw [hw2, blk_cell (alloc_new w1 _)]; rfl
  have HT2 : Hid (Tch (fun _ => False) w0 w2) := by show Tch _ _ _; rw [hw2]; exact t1.allocR _
  have b1 := HK.out w1 t1
  have b2 := HK.out w2 HT2.out
  have u0 := blk_cell b1 0
  have y0 := blk_cell b2 0
  have y1 := blk_cell b2 1
  simp only [List.getElem?_toArray, List.getElem?_cons_succ, List.getElem?_cons_zero] at u0 y0 y1
  have k0 := cell_regrown y0
  have k1 := cell_regrown y1
  have k2 := cell_regrown v2
  have c1 := fun (dd : Nat) (os : Array Obj) => regrown_calls (w := w2) (fun W _ => QX.out W) dd os
  have HW2 : Hid (w2 = w1.alloc (.cells #[.string ⟨#[]⟩, .string ⟨#[98, 101, 103, 105, 110]⟩, .string ⟨#[112, 97, 114, 116]⟩, .string ⟨#[105, 110, 115, 101, 114, 116]⟩, .string ⟨#[117, 112, 100, 97, 116, 101]⟩, .string ⟨#[100, 101, 108, 101, 116, 101]⟩, .string ⟨#[114, 101, 108, 101, 97, 115, 101]⟩, .string ⟨#[98, 97, 99, 107]⟩, .string ⟨#[99, 111, 109, 109, 105, 116]⟩, .string ⟨#[97, 98, 111, 114, 116]⟩, .string ⟨#[112, 114, 101, 112, 97, 114, 101]⟩, .string ⟨#[99, 114, 101, 97, 116, 101]⟩, .string ⟨#[100, 114, 111, 112]⟩, .string ⟨#[119, 105, 100, 101, 110]⟩, .string ⟨#[101, 109, 112, 116, 121]⟩] 9)) := hw2
  rw [hw2] at y0
  clear q1 t1 b1 b2 hw2
  go_wp2_with fail
  rw [← HW2.out]
  rw [← HW2.out] at y0
  refine wp_region_quiet_below (by kernel_rfl) (by kernel_rfl) ?_
  quiet_step (fail)
  quiet_step (fail)
  quiet_step (fail)
  quiet_step (fail)
  quiet_step (fail)
  quiet_step ((rw [if_neg (by omega)]; exact ⟨rfl, rfl⟩))
  quiet_step (fail)
  quiet_step (fail)
  quiet_step ((go_at_call 50; exact c1 _ _))
  quiet_step ((rw [if_neg (by omega)]; exact ⟨rfl, rfl⟩))
  quiet_step (fail)
  refine wpQuiet_nil ?_
  rintro w3 ⟨p, rfl⟩
  have HT3 : Hid (Tch (fun _ => False) w0 (grow (redrawn w2 p.d) p.os)) := HT2.out.trans' (Tch.regrown w2 p.d p.os)
  obtain ⟨W3, hW3⟩ : ∃ W3, W3 = grow (redrawn w2 p.d) p.os := ⟨_, rfl⟩
  rw [← hW3] at HT3 ⊢
  clear hW3 k0 k1 k2 c1 u0 y0 y1 v2 HW2
  have b3 := HK.out W3 HT3.out
  have y0 := blk_cell b3 0
  have y1 := blk_cell b3 1
  have y2 := blk_cell b3 2
  have y3 := blk_cell b3 3
  have y4 := blk_cell b3 4
  have y5 := blk_cell b3 5
  have y6 := blk_cell b3 6
  have y7 := blk_cell b3 7
  have y8 := blk_cell b3 8
  have y9 := blk_cell b3 9
  have y10 := blk_cell b3 10
  have y11 := blk_cell b3 11
  have y12 := blk_cell b3 12
  have y13 := blk_cell b3 13
  simp only [List.getElem?_toArray, List.getElem?_cons_succ, List.getElem?_cons_zero] at y0 y1 y2 y3 y4 y5 y6 y7 y8 y9 y10 y11 y12 y13
  clear b3
  have kT := cell_regrown y3
  have kO := cell_regrown y4
  have kN := cell_regrown y5
  have cT := fun (dd : Nat) (os : Array Obj) => regrown_calls (w := W3) (fun W _ => QTT.out W) dd os
  have cO := fun (dd : Nat) (os : Array Obj) => regrown_calls (w := W3) (fun W t => QO.out W ((HT0.out.trans' HT3.out).trans' t)) dd os
  go_wp2_with fail
  refine wp_region_quiet_below (by kernel_rfl) (by kernel_rfl) ?_
  quiet_step (fail)
  quiet_step ((rw [if_neg (by omega)]; exact ⟨rfl, rfl⟩))
  quiet_step (fail)
  quiet_step (fail)
  quiet_step ((go_at_call 50; exact cT _ _))
  quiet_step ((rw [if_neg (by omega)]; exact ⟨rfl, rfl⟩))
  quiet_step ((rw [if_neg (by omega)]; exact ⟨rfl, rfl⟩))
  quiet_step (fail)
  quiet_step (fail)
  quiet_step ((go_at_call 52; exact cO _ _))
  quiet_step ((rw [if_neg (by omega)]; exact ⟨rfl, rfl⟩))
  quiet_step (fail)
  refine wpQuiet_nil ?_
  rintro w4 ⟨p, rfl⟩
  have HT9 : Hid (Tch (fun _ => False) w0 (grow (redrawn W3 p.d) p.os)) := HT3.out.trans' (Tch.regrown W3 p.d p.os)
  obtain ⟨W4, hW4⟩ : ∃ W4, W4 = grow (redrawn W3 p.d) p.os := ⟨_, rfl⟩
  rw [← hW4] at HT9 ⊢
  clear hW4
  go_wp2_with fail
  go_ret
  exact ⟨by rw [← HR.out]; rfl, HT0.out.trans' HT9.out⟩
end Go.Proofs.YtjiblajnfnmjnaaGreatDoor.C
