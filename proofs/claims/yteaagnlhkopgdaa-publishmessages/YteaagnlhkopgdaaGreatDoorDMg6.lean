import Derived.Test.YteaagnlhkopgdaaGreatDoorVPrint
set_option maxHeartbeats 8000000
set_option maxRecDepth 100000
namespace Go.Proofs.YteaagnlhkopgdaaGreatDoor.C
open Go.RowKit Go Go.Sort
theorem rrightM_4 (r : Rc) (s : Sk) (F : Nat → Prop) (w : World) (h : RW w F r s) (hl : r.tb.cols.length ≤ 4398046511104) (hk : r.k = 4) (d0 dO dN : Bool) (hd0 : d0 = true ↔ r = cutC (cls r.k) r) (hdO : dO = true ↔ rtRow r.o) (hdN : dN = true ↔ rtRow r.n) : Calls Tryz.prog 17 #[rV r s] w fun x w' => EqT (RR r) w x w' := by
  have hcl : cls r.k = 4 := by rw [hk]; rfl
  obtain ⟨w0, hw0⟩ : ∃ w0, w0 = w.alloc (.cells #[.int .i64 r.k, .int .i64 r.x, .int .i64 r.l, .int .i64 r.e, .int .i64 r.t, .int .i64 r.tb.id, .int .i64 r.tb.ver, .string r.tb.nm, .slice s.co r.tb.cols.length s.cc, .int .i64 r.tb.key, .slice s.oo r.o.length s.oc, .slice s.no r.n.length s.nc] 28) := ⟨_, rfl⟩
  have t0 : Tch (fun _ => False) w w0 := by rw [hw0]; exact Tch.alloc _ _ _
  have b0 : w0.heap[w.heap.size]? = some (.cells #[.int .i64 r.k, .int .i64 r.x, .int .i64 r.l, .int .i64 r.e, .int .i64 r.t, .int .i64 r.tb.id, .int .i64 r.tb.ver, .string r.tb.nm, .slice s.co r.tb.cols.length s.cc, .int .i64 r.tb.key, .slice s.oo r.o.length s.oc, .slice s.no r.n.length s.nc] 28 (0, 0)) := by rw [hw0]; exact heap_new w _
  have HRR : Hid (RR r ↔ rightC 4 r ∧ d0 = true) := by
    show RR r ↔ _
    unfold RR
    rw [← hcl, hd0]
  have HQ1 : Hid (∀ W, Calls Tryz.prog 33 #[rV r s] W fun x w' => x = .returned (rV (cutC 4 r) (cutS 4 s)) ∧ Tch (fun _ => False) W w') := fun W => by
    have q := bare_any r s W
    rw [hcl] at q
    exact q
  have HQ2 : Hid (∀ W, Tch (fun _ => False) w W → Calls Tryz.prog 23 #[rV r s, rV (cutC 4 r) (cutS 4 s)] W fun x w' => x = .returned (.bool d0) ∧ Tch (fun _ => False) W w') := fun W t => eqT_d (rsameM_any r (cutC 4 r) s (cutS 4 s) F F W (h.no t) ((h.no t).cut 4) hl) (by rw [hd0, hcl])
  have HQO : Hid (∀ W, Tch (fun _ => False) w W → Calls Tryz.prog 34 #[.slice s.oo r.o.length s.oc] W fun x w' => x = .returned (.bool dO) ∧ Tch (fun _ => False) W w') := fun W t => (rrow18 r.o s.oo s.oc W (h.no t).o h.oi h.ol).mono fun x w' h1 => ⟨by rw [h1.1]; congr 2; rw [Bool.eq_iff_iff, hdO, decide_eq_true_iff], h1.2⟩
  have HQN : Hid (∀ W, Tch (fun _ => False) w W → Calls Tryz.prog 34 #[.slice s.no r.n.length s.nc] W fun x w' => x = .returned (.bool dN) ∧ Tch (fun _ => False) W w') := fun W t => (rrow18 r.n s.no s.nc W (h.no t).n h.ni h.nl).mono fun x w' h1 => ⟨by rw [h1.1]; congr 2; rw [Bool.eq_iff_iff, hdN, decide_eq_true_iff], h1.2⟩
  have HDO : Hid (dO = true ↔ rtRow r.o) := hdO
  have HDN : Hid (dN = true ↔ rtRow r.n) := hdN
  have Q1 : Hid (∀ W, Calls Tryz.prog 35 #[.int .i64 r.t] W fun x w' => x = .returned (.bool (decide (rtN r.t))) ∧ w' = W) := fun W => rnumber_any r.t W
  obtain ⟨d1, hd1⟩ : ∃ d, d = decide (rtN r.t) := ⟨_, rfl⟩
  have H1 : Hid (d1 = true ↔ rtN r.t) := by rw [hd1]; exact decide_eq_true_iff
  rw [← hd1] at Q1
  clear hd1
  obtain ⟨V, hV⟩ : ∃ V, V = rV (cutC 4 r) (cutS 4 s) := ⟨_, rfl⟩
  rw [← hV] at HQ1 HQ2
  have e1 : (r.k == 1) = false := int_ne (by omega)
  have e2 : (r.k == 2) = false := int_ne (by omega)
  have e3 : (r.k == 3) = false := int_ne (by omega)
  have e4 : (r.k == 4) = true := int_eq' hk
  have e5 : (r.k == 5) = false := int_ne (by omega)
  have e6 : (r.k == 6) = false := int_ne (by omega)
  have e7 : (r.k == 7) = false := int_ne (by omega)
  have e8 : (r.k == 8) = false := int_ne (by omega)
  have e9 : (r.k == 9) = false := int_ne (by omega)
  have el : ¬ r.k < 1 := by omega
  have eg : ¬ 9 < r.k := by omega
  have HW0 : Hid (w0 = w.alloc (.cells #[.int .i64 r.k, .int .i64 r.x, .int .i64 r.l, .int .i64 r.e, .int .i64 r.t, .int .i64 r.tb.id, .int .i64 r.tb.ver, .string r.tb.nm, .slice s.co r.tb.cols.length s.cc, .int .i64 r.tb.key, .slice s.oo r.o.length s.oc, .slice s.no r.n.length s.nc] 28)) := hw0
  clear h hl hd0 hdO hdN hV hw0 hcl
  clear hk
  have y0 := blk_cell b0 0
  have y1 := blk_cell b0 1
  have y2 := blk_cell b0 2
  have y3 := blk_cell b0 3
  have y4 := blk_cell b0 4
  have y5 := blk_cell b0 5
  have y6 := blk_cell b0 6
  have y7 := blk_cell b0 7
  have y8 := blk_cell b0 8
  have y9 := blk_cell b0 9
  have y10 := blk_cell b0 10
  have y11 := blk_cell b0 11
  simp only [List.getElem?_toArray, List.getElem?_cons_succ, List.getElem?_cons_zero] at y0 y1 y2 y3 y4 y5 y6 y7 y8 y9 y10 y11
  have k0 := cell_regrown y0
  have k1 := cell_regrown y1
  have k2 := cell_regrown y2
  have k3 := cell_regrown y3
  have k4 := cell_regrown y4
  have k5 := cell_regrown y5
  have k6 := cell_regrown y6
  have k7 := cell_regrown y7
  have k8 := cell_regrown y8
  have k9 := cell_regrown y9
  have k10 := cell_regrown y10
  have k11 := cell_regrown y11
  have c1 : ∀ d os, Calls Tryz.prog 33 #[rV r s] (grow (redrawn w0 d) os) fun e w'' => e = .returned V ∧ ∃ p : Regrown, w'' = grow (redrawn w0 p.d) p.os := regrown_calls (fun W _ => HQ1.out W)
  have c2 := fun (d : Nat) (os : Array Obj) => regrown_calls (w := w0) (fun W t => HQ2.out W (t0.trans' t)) d os
  have HT0 : Hid (Tch (fun _ => False) w w0) := t0
  have HB : Hid (∀ W, Tch (fun _ => False) w0 W → W.heap[w.heap.size]? = some (.cells #[.int .i64 r.k, .int .i64 r.x, .int .i64 r.l, .int .i64 r.e, .int .i64 r.t, .int .i64 r.tb.id, .int .i64 r.tb.ver, .string r.tb.nm, .slice s.co r.tb.cols.length s.cc, .int .i64 r.tb.key, .slice s.oo r.o.length s.oc, .slice s.no r.n.length s.nc] 28 (0, 0))) := fun W t => (t.block _ (blk_lt b0) (fun h => h)).trans b0
  clear t0 b0 HQ1 HQ2
  go_enter Tryz.func17, Tryz.ntmps17
  go_wp2_with fail
  rw [← HW0.out]
  refine wp_region_quiet_below (by kernel_rfl) (by kernel_rfl) ?_
  repeat (quiet_step (first | (go_at_call 33; exact c1 _ _) | (go_at_call 23; exact c2 _ _)))
  refine wpQuiet_nil ?_
  rintro w2 ⟨p, rfl⟩
  have T2 := Tch.regrown w0 p.d p.os
  obtain ⟨W2, hW2⟩ : ∃ W2, W2 = grow (redrawn w0 p.d) p.os := ⟨_, rfl⟩
  rw [← hW2] at T2 ⊢
  clear hW2 k0 k1 k2 k3 k4 k5 k6 k7 k8 k9 k10 k11 y0 y1 y2 y3 y4 y5 y6 y7 y8 y9 y10 y11 c1 c2
  have b2 := HB.out W2 T2
  have y0 := blk_cell b2 0
  have y1 := blk_cell b2 1
  have y2 := blk_cell b2 2
  have y3 := blk_cell b2 3
  have y4 := blk_cell b2 4
  have y5 := blk_cell b2 5
  have y6 := blk_cell b2 6
  have y7 := blk_cell b2 7
  have y8 := blk_cell b2 8
  have y9 := blk_cell b2 9
  have y10 := blk_cell b2 10
  have y11 := blk_cell b2 11
  simp only [List.getElem?_toArray, List.getElem?_cons_succ, List.getElem?_cons_zero] at y0 y1 y2 y3 y4 y5 y6 y7 y8 y9 y10 y11
  clear b2
  cases d0
  · go_wp2_with fail
    go_ret
    exact eqT_no (fun e => by have := (HRR.out.1 e).2; simp at this) (HT0.out.trans' T2)
  · go_wp2_with fail
    refine (HQO.out W2 (HT0.out.trans' T2)).mono ?_
    rintro x w3 ⟨rfl, t3⟩
    have T3 := T2.trans' t3
    clear y0 y1 y2 y3 y4 y5 y6 y7 y8 y9 y10 y11 t3
    have b2 := HB.out w3 T3
    have y0 := blk_cell b2 0
    have y1 := blk_cell b2 1
    have y2 := blk_cell b2 2
    have y3 := blk_cell b2 3
    have y4 := blk_cell b2 4
    have y5 := blk_cell b2 5
    have y6 := blk_cell b2 6
    have y7 := blk_cell b2 7
    have y8 := blk_cell b2 8
    have y9 := blk_cell b2 9
    have y10 := blk_cell b2 10
    have y11 := blk_cell b2 11
    simp only [List.getElem?_toArray, List.getElem?_cons_succ, List.getElem?_cons_zero] at y0 y1 y2 y3 y4 y5 y6 y7 y8 y9 y10 y11
    clear b2
    go_wp2_with fail
    refine (HQN.out w3 (HT0.out.trans' T3)).mono ?_
    rintro x w4 ⟨rfl, t4⟩
    have T4 := T3.trans' t4
    clear y0 y1 y2 y3 y4 y5 y6 y7 y8 y9 y10 y11 t4
    have b2 := HB.out w4 T4
    have y0 := blk_cell b2 0
    have y1 := blk_cell b2 1
    have y2 := blk_cell b2 2
    have y3 := blk_cell b2 3
    have y4 := blk_cell b2 4
    have y5 := blk_cell b2 5
    have y6 := blk_cell b2 6
    have y7 := blk_cell b2 7
    have y8 := blk_cell b2 8
    have y9 := blk_cell b2 9
    have y10 := blk_cell b2 10
    have y11 := blk_cell b2 11
    simp only [List.getElem?_toArray, List.getElem?_cons_succ, List.getElem?_cons_zero] at y0 y1 y2 y3 y4 y5 y6 y7 y8 y9 y10 y11
    clear b2
    have T5 := HT0.out.trans' T4
    have HIF : Hid (RR r ↔ rightC 4 r) := ⟨fun e => (HRR.out.1 e).1, fun e => HRR.out.2 ⟨e, by trivial⟩⟩
    clear HRR T2 T3 T4
    cases d1
    · go_wp2_with (first | (go_at_call 35; refine (Q1.out _).mono ?_; rintro x w5 ⟨rfl, rfl⟩))
      go_ret
      exact eqT_no (fun e => by have e : rtN r.t ∧ rtRow r.o ∧ rtRow r.n := HIF.out.1 e; have := H1.out.2 e.1; simp at this) T5
    · skip
      cases dO
      · go_wp2_with (first | (go_at_call 35; refine (Q1.out _).mono ?_; rintro x w5 ⟨rfl, rfl⟩))
        go_ret
        exact eqT_no (fun e => by have e : rtN r.t ∧ rtRow r.o ∧ rtRow r.n := HIF.out.1 e; have := HDO.out.2 e.2.1; simp at this) T5
      · skip
        cases dN
        · go_wp2_with (first | (go_at_call 35; refine (Q1.out _).mono ?_; rintro x w5 ⟨rfl, rfl⟩))
          go_ret
          exact eqT_no (fun e => by have e : rtN r.t ∧ rtRow r.o ∧ rtRow r.n := HIF.out.1 e; have := HDN.out.2 e.2.2; simp at this) T5
        · go_wp2_with (first | (go_at_call 35; refine (Q1.out _).mono ?_; rintro x w5 ⟨rfl, rfl⟩))
          go_ret
          exact ⟨true, rfl, ⟨fun _ => HIF.out.2 ⟨H1.out.1 (by trivial), HDO.out.1 (by trivial), HDN.out.1 (by trivial)⟩, fun _ => rfl⟩, T5⟩
end Go.Proofs.YteaagnlhkopgdaaGreatDoor.C
namespace Go.Proofs.YteaagnlhkopgdaaGreatDoor.C
open Go.RowKit Go Go.Sort
theorem rrightM_5 (r : Rc) (s : Sk) (F : Nat → Prop) (w : World) (h : RW w F r s) (hl : r.tb.cols.length ≤ 4398046511104) (hk : r.k = 5) (d0 dO dN : Bool) (hd0 : d0 = true ↔ r = cutC (cls r.k) r) (hdO : dO = true ↔ rtRow r.o) (hdN : dN = true ↔ rtRow r.n) : Calls Tryz.prog 17 #[rV r s] w fun x w' => EqT (RR r) w x w' := by
  have hcl : cls r.k = 5 := by rw [hk]; rfl
  obtain ⟨w0, hw0⟩ : ∃ w0, w0 = w.alloc (.cells #[.int .i64 r.k, .int .i64 r.x, .int .i64 r.l, .int .i64 r.e, .int .i64 r.t, .int .i64 r.tb.id, .int .i64 r.tb.ver, .string r.tb.nm, .slice s.co r.tb.cols.length s.cc, .int .i64 r.tb.key, .slice s.oo r.o.length s.oc, .slice s.no r.n.length s.nc] 28) := ⟨_, rfl⟩
  have t0 : Tch (fun _ => False) w w0 := by rw [hw0]; exact Tch.alloc _ _ _
  have b0 : w0.heap[w.heap.size]? = some (.cells #[.int .i64 r.k, .int .i64 r.x, .int .i64 r.l, .int .i64 r.e, .int .i64 r.t, .int .i64 r.tb.id, .int .i64 r.tb.ver, .string r.tb.nm, .slice s.co r.tb.cols.length s.cc, .int .i64 r.tb.key, .slice s.oo r.o.length s.oc, .slice s.no r.n.length s.nc] 28 (0, 0)) := by rw [hw0]; exact heap_new w _
  have HRR : Hid (RR r ↔ rightC 5 r ∧ d0 = true) := by
    show RR r ↔ _
    unfold RR
    rw [← hcl, hd0]
  have HQ1 : Hid (∀ W, Calls Tryz.prog 33 #[rV r s] W fun x w' => x = .returned (rV (cutC 5 r) (cutS 5 s)) ∧ Tch (fun _ => False) W w') := fun W => by
    have q := bare_any r s W
    rw [hcl] at q
    exact q
  have HQ2 : Hid (∀ W, Tch (fun _ => False) w W → Calls Tryz.prog 23 #[rV r s, rV (cutC 5 r) (cutS 5 s)] W fun x w' => x = .returned (.bool d0) ∧ Tch (fun _ => False) W w') := fun W t => eqT_d (rsameM_any r (cutC 5 r) s (cutS 5 s) F F W (h.no t) ((h.no t).cut 5) hl) (by rw [hd0, hcl])
  have HQO : Hid (∀ W, Tch (fun _ => False) w W → Calls Tryz.prog 34 #[.slice s.oo r.o.length s.oc] W fun x w' => x = .returned (.bool dO) ∧ Tch (fun _ => False) W w') := fun W t => (rrow18 r.o s.oo s.oc W (h.no t).o h.oi h.ol).mono fun x w' h1 => ⟨by rw [h1.1]; congr 2; rw [Bool.eq_iff_iff, hdO, decide_eq_true_iff], h1.2⟩
  have HQN : Hid (∀ W, Tch (fun _ => False) w W → Calls Tryz.prog 34 #[.slice s.no r.n.length s.nc] W fun x w' => x = .returned (.bool dN) ∧ Tch (fun _ => False) W w') := fun W t => (rrow18 r.n s.no s.nc W (h.no t).n h.ni h.nl).mono fun x w' h1 => ⟨by rw [h1.1]; congr 2; rw [Bool.eq_iff_iff, hdN, decide_eq_true_iff], h1.2⟩
  have HDO : Hid (dO = true ↔ rtRow r.o) := hdO
  have HDN : Hid (dN = true ↔ rtRow r.n) := hdN
  have Q1 : Hid (∀ W, Calls Tryz.prog 35 #[.int .i64 r.t] W fun x w' => x = .returned (.bool (decide (rtN r.t))) ∧ w' = W) := fun W => rnumber_any r.t W
  obtain ⟨d1, hd1⟩ : ∃ d, d = decide (rtN r.t) := ⟨_, rfl⟩
  have H1 : Hid (d1 = true ↔ rtN r.t) := by rw [hd1]; exact decide_eq_true_iff
  rw [← hd1] at Q1
  clear hd1
  obtain ⟨V, hV⟩ : ∃ V, V = rV (cutC 5 r) (cutS 5 s) := ⟨_, rfl⟩
  rw [← hV] at HQ1 HQ2
  have e1 : (r.k == 1) = false := int_ne (by omega)
  have e2 : (r.k == 2) = false := int_ne (by omega)
  have e3 : (r.k == 3) = false := int_ne (by omega)
  have e4 : (r.k == 4) = false := int_ne (by omega)
  have e5 : (r.k == 5) = true := int_eq' hk
  have e6 : (r.k == 6) = false := int_ne (by omega)
  have e7 : (r.k == 7) = false := int_ne (by omega)
  have e8 : (r.k == 8) = false := int_ne (by omega)
  have e9 : (r.k == 9) = false := int_ne (by omega)
  have el : ¬ r.k < 1 := by omega
  have eg : ¬ 9 < r.k := by omega
  have HW0 : Hid (w0 = w.alloc (.cells #[.int .i64 r.k, .int .i64 r.x, .int .i64 r.l, .int .i64 r.e, .int .i64 r.t, .int .i64 r.tb.id, .int .i64 r.tb.ver, .string r.tb.nm, .slice s.co r.tb.cols.length s.cc, .int .i64 r.tb.key, .slice s.oo r.o.length s.oc, .slice s.no r.n.length s.nc] 28)) := hw0
  clear h hl hd0 hdO hdN hV hw0 hcl
  clear hk
  have y0 := blk_cell b0 0
  have y1 := blk_cell b0 1
  have y2 := blk_cell b0 2
  have y3 := blk_cell b0 3
  have y4 := blk_cell b0 4
  have y5 := blk_cell b0 5
  have y6 := blk_cell b0 6
  have y7 := blk_cell b0 7
  have y8 := blk_cell b0 8
  have y9 := blk_cell b0 9
  have y10 := blk_cell b0 10
  have y11 := blk_cell b0 11
  simp only [List.getElem?_toArray, List.getElem?_cons_succ, List.getElem?_cons_zero] at y0 y1 y2 y3 y4 y5 y6 y7 y8 y9 y10 y11
  have k0 := cell_regrown y0
  have k1 := cell_regrown y1
  have k2 := cell_regrown y2
  have k3 := cell_regrown y3
  have k4 := cell_regrown y4
  have k5 := cell_regrown y5
  have k6 := cell_regrown y6
  have k7 := cell_regrown y7
  have k8 := cell_regrown y8
  have k9 := cell_regrown y9
  have k10 := cell_regrown y10
  have k11 := cell_regrown y11
  have c1 : ∀ d os, Calls Tryz.prog 33 #[rV r s] (grow (redrawn w0 d) os) fun e w'' => e = .returned V ∧ ∃ p : Regrown, w'' = grow (redrawn w0 p.d) p.os := regrown_calls (fun W _ => HQ1.out W)
  have c2 := fun (d : Nat) (os : Array Obj) => regrown_calls (w := w0) (fun W t => HQ2.out W (t0.trans' t)) d os
  have HT0 : Hid (Tch (fun _ => False) w w0) := t0
  have HB : Hid (∀ W, Tch (fun _ => False) w0 W → W.heap[w.heap.size]? = some (.cells #[.int .i64 r.k, .int .i64 r.x, .int .i64 r.l, .int .i64 r.e, .int .i64 r.t, .int .i64 r.tb.id, .int .i64 r.tb.ver, .string r.tb.nm, .slice s.co r.tb.cols.length s.cc, .int .i64 r.tb.key, .slice s.oo r.o.length s.oc, .slice s.no r.n.length s.nc] 28 (0, 0))) := fun W t => (t.block _ (blk_lt b0) (fun h => h)).trans b0
  clear t0 b0 HQ1 HQ2
  go_enter Tryz.func17, Tryz.ntmps17
  go_wp2_with fail
  rw [← HW0.out]
  refine wp_region_quiet_below (by kernel_rfl) (by kernel_rfl) ?_
  repeat (quiet_step (first | (go_at_call 33; exact c1 _ _) | (go_at_call 23; exact c2 _ _)))
  refine wpQuiet_nil ?_
  rintro w2 ⟨p, rfl⟩
  have T2 := Tch.regrown w0 p.d p.os
  obtain ⟨W2, hW2⟩ : ∃ W2, W2 = grow (redrawn w0 p.d) p.os := ⟨_, rfl⟩
  rw [← hW2] at T2 ⊢
  clear hW2 k0 k1 k2 k3 k4 k5 k6 k7 k8 k9 k10 k11 y0 y1 y2 y3 y4 y5 y6 y7 y8 y9 y10 y11 c1 c2
  have b2 := HB.out W2 T2
  have y0 := blk_cell b2 0
  have y1 := blk_cell b2 1
  have y2 := blk_cell b2 2
  have y3 := blk_cell b2 3
  have y4 := blk_cell b2 4
  have y5 := blk_cell b2 5
  have y6 := blk_cell b2 6
  have y7 := blk_cell b2 7
  have y8 := blk_cell b2 8
  have y9 := blk_cell b2 9
  have y10 := blk_cell b2 10
  have y11 := blk_cell b2 11
  simp only [List.getElem?_toArray, List.getElem?_cons_succ, List.getElem?_cons_zero] at y0 y1 y2 y3 y4 y5 y6 y7 y8 y9 y10 y11
  clear b2
  cases d0
  · go_wp2_with fail
    go_ret
    exact eqT_no (fun e => by have := (HRR.out.1 e).2; simp at this) (HT0.out.trans' T2)
  · go_wp2_with fail
    refine (HQO.out W2 (HT0.out.trans' T2)).mono ?_
    rintro x w3 ⟨rfl, t3⟩
    have T3 := T2.trans' t3
    clear y0 y1 y2 y3 y4 y5 y6 y7 y8 y9 y10 y11 t3
    have b2 := HB.out w3 T3
    have y0 := blk_cell b2 0
    have y1 := blk_cell b2 1
    have y2 := blk_cell b2 2
    have y3 := blk_cell b2 3
    have y4 := blk_cell b2 4
    have y5 := blk_cell b2 5
    have y6 := blk_cell b2 6
    have y7 := blk_cell b2 7
    have y8 := blk_cell b2 8
    have y9 := blk_cell b2 9
    have y10 := blk_cell b2 10
    have y11 := blk_cell b2 11
    simp only [List.getElem?_toArray, List.getElem?_cons_succ, List.getElem?_cons_zero] at y0 y1 y2 y3 y4 y5 y6 y7 y8 y9 y10 y11
    clear b2
    go_wp2_with fail
    refine (HQN.out w3 (HT0.out.trans' T3)).mono ?_
    rintro x w4 ⟨rfl, t4⟩
    have T4 := T3.trans' t4
    clear y0 y1 y2 y3 y4 y5 y6 y7 y8 y9 y10 y11 t4
    have b2 := HB.out w4 T4
    have y0 := blk_cell b2 0
    have y1 := blk_cell b2 1
    have y2 := blk_cell b2 2
    have y3 := blk_cell b2 3
    have y4 := blk_cell b2 4
    have y5 := blk_cell b2 5
    have y6 := blk_cell b2 6
    have y7 := blk_cell b2 7
    have y8 := blk_cell b2 8
    have y9 := blk_cell b2 9
    have y10 := blk_cell b2 10
    have y11 := blk_cell b2 11
    simp only [List.getElem?_toArray, List.getElem?_cons_succ, List.getElem?_cons_zero] at y0 y1 y2 y3 y4 y5 y6 y7 y8 y9 y10 y11
    clear b2
    have T5 := HT0.out.trans' T4
    have HIF : Hid (RR r ↔ rightC 5 r) := ⟨fun e => (HRR.out.1 e).1, fun e => HRR.out.2 ⟨e, by trivial⟩⟩
    clear HRR T2 T3 T4
    cases d1
    · go_wp2_with (first | (go_at_call 35; refine (Q1.out _).mono ?_; rintro x w5 ⟨rfl, rfl⟩))
      go_ret
      exact eqT_no (fun e => by have e : rtN r.t ∧ rtRow r.o := HIF.out.1 e; have := H1.out.2 e.1; simp at this) T5
    · skip
      cases dO
      · go_wp2_with (first | (go_at_call 35; refine (Q1.out _).mono ?_; rintro x w5 ⟨rfl, rfl⟩))
        go_ret
        exact eqT_no (fun e => by have e : rtN r.t ∧ rtRow r.o := HIF.out.1 e; have := HDO.out.2 e.2; simp at this) T5
      · go_wp2_with (first | (go_at_call 35; refine (Q1.out _).mono ?_; rintro x w5 ⟨rfl, rfl⟩))
        go_ret
        exact ⟨true, rfl, ⟨fun _ => HIF.out.2 ⟨H1.out.1 (by trivial), HDO.out.1 (by trivial)⟩, fun _ => rfl⟩, T5⟩
end Go.Proofs.YteaagnlhkopgdaaGreatDoor.C
namespace Go.Proofs.YteaagnlhkopgdaaGreatDoor.C
open Go.RowKit Go Go.Sort
theorem rrightM_6 (r : Rc) (s : Sk) (F : Nat → Prop) (w : World) (h : RW w F r s) (hl : r.tb.cols.length ≤ 4398046511104) (hk : r.k = 6) (d0 dO dN : Bool) (hd0 : d0 = true ↔ r = cutC (cls r.k) r) (hdO : dO = true ↔ rtRow r.o) (hdN : dN = true ↔ rtRow r.n) : Calls Tryz.prog 17 #[rV r s] w fun x w' => EqT (RR r) w x w' := by
  have hcl : cls r.k = 6 := by rw [hk]; rfl
  obtain ⟨w0, hw0⟩ : ∃ w0, w0 = w.alloc (.cells #[.int .i64 r.k, .int .i64 r.x, .int .i64 r.l, .int .i64 r.e, .int .i64 r.t, .int .i64 r.tb.id, .int .i64 r.tb.ver, .string r.tb.nm, .slice s.co r.tb.cols.length s.cc, .int .i64 r.tb.key, .slice s.oo r.o.length s.oc, .slice s.no r.n.length s.nc] 28) := ⟨_, rfl⟩
  have t0 : Tch (fun _ => False) w w0 := by rw [hw0]; exact Tch.alloc _ _ _
  have b0 : w0.heap[w.heap.size]? = some (.cells #[.int .i64 r.k, .int .i64 r.x, .int .i64 r.l, .int .i64 r.e, .int .i64 r.t, .int .i64 r.tb.id, .int .i64 r.tb.ver, .string r.tb.nm, .slice s.co r.tb.cols.length s.cc, .int .i64 r.tb.key, .slice s.oo r.o.length s.oc, .slice s.no r.n.length s.nc] 28 (0, 0)) := by rw [hw0]; exact heap_new w _
  have HRR : Hid (RR r ↔ rightC 6 r ∧ d0 = true) := by
    show RR r ↔ _
    unfold RR
    rw [← hcl, hd0]
  have HQ1 : Hid (∀ W, Calls Tryz.prog 33 #[rV r s] W fun x w' => x = .returned (rV (cutC 6 r) (cutS 6 s)) ∧ Tch (fun _ => False) W w') := fun W => by
    have q := bare_any r s W
    rw [hcl] at q
    exact q
  have HQ2 : Hid (∀ W, Tch (fun _ => False) w W → Calls Tryz.prog 23 #[rV r s, rV (cutC 6 r) (cutS 6 s)] W fun x w' => x = .returned (.bool d0) ∧ Tch (fun _ => False) W w') := fun W t => eqT_d (rsameM_any r (cutC 6 r) s (cutS 6 s) F F W (h.no t) ((h.no t).cut 6) hl) (by rw [hd0, hcl])
  have HQO : Hid (∀ W, Tch (fun _ => False) w W → Calls Tryz.prog 34 #[.slice s.oo r.o.length s.oc] W fun x w' => x = .returned (.bool dO) ∧ Tch (fun _ => False) W w') := fun W t => (rrow18 r.o s.oo s.oc W (h.no t).o h.oi h.ol).mono fun x w' h1 => ⟨by rw [h1.1]; congr 2; rw [Bool.eq_iff_iff, hdO, decide_eq_true_iff], h1.2⟩
  have HQN : Hid (∀ W, Tch (fun _ => False) w W → Calls Tryz.prog 34 #[.slice s.no r.n.length s.nc] W fun x w' => x = .returned (.bool dN) ∧ Tch (fun _ => False) W w') := fun W t => (rrow18 r.n s.no s.nc W (h.no t).n h.ni h.nl).mono fun x w' h1 => ⟨by rw [h1.1]; congr 2; rw [Bool.eq_iff_iff, hdN, decide_eq_true_iff], h1.2⟩
  have HDO : Hid (dO = true ↔ rtRow r.o) := hdO
  have HDN : Hid (dN = true ↔ rtRow r.n) := hdN
  have Q1 : Hid (∀ W, Calls Tryz.prog 35 #[.int .i64 r.t] W fun x w' => x = .returned (.bool (decide (rtN r.t))) ∧ w' = W) := fun W => rnumber_any r.t W
  obtain ⟨d1, hd1⟩ : ∃ d, d = decide (rtN r.t) := ⟨_, rfl⟩
  have H1 : Hid (d1 = true ↔ rtN r.t) := by rw [hd1]; exact decide_eq_true_iff
  rw [← hd1] at Q1
  clear hd1
  obtain ⟨V, hV⟩ : ∃ V, V = rV (cutC 6 r) (cutS 6 s) := ⟨_, rfl⟩
  rw [← hV] at HQ1 HQ2
  have e1 : (r.k == 1) = false := int_ne (by omega)
  have e2 : (r.k == 2) = false := int_ne (by omega)
  have e3 : (r.k == 3) = false := int_ne (by omega)
  have e4 : (r.k == 4) = false := int_ne (by omega)
  have e5 : (r.k == 5) = false := int_ne (by omega)
  have e6 : (r.k == 6) = true := int_eq' hk
  have e7 : (r.k == 7) = false := int_ne (by omega)
  have e8 : (r.k == 8) = false := int_ne (by omega)
  have e9 : (r.k == 9) = false := int_ne (by omega)
  have el : ¬ r.k < 1 := by omega
  have eg : ¬ 9 < r.k := by omega
  have HW0 : Hid (w0 = w.alloc (.cells #[.int .i64 r.k, .int .i64 r.x, .int .i64 r.l, .int .i64 r.e, .int .i64 r.t, .int .i64 r.tb.id, .int .i64 r.tb.ver, .string r.tb.nm, .slice s.co r.tb.cols.length s.cc, .int .i64 r.tb.key, .slice s.oo r.o.length s.oc, .slice s.no r.n.length s.nc] 28)) := hw0
  clear h hl hd0 hdO hdN hV hw0 hcl
  clear hk
  have y0 := blk_cell b0 0
  have y1 := blk_cell b0 1
  have y2 := blk_cell b0 2
  have y3 := blk_cell b0 3
  have y4 := blk_cell b0 4
  have y5 := blk_cell b0 5
  have y6 := blk_cell b0 6
  have y7 := blk_cell b0 7
  have y8 := blk_cell b0 8
  have y9 := blk_cell b0 9
  have y10 := blk_cell b0 10
  have y11 := blk_cell b0 11
  simp only [List.getElem?_toArray, List.getElem?_cons_succ, List.getElem?_cons_zero] at y0 y1 y2 y3 y4 y5 y6 y7 y8 y9 y10 y11
  have k0 := cell_regrown y0
  have k1 := cell_regrown y1
  have k2 := cell_regrown y2
  have k3 := cell_regrown y3
  have k4 := cell_regrown y4
  have k5 := cell_regrown y5
  have k6 := cell_regrown y6
  have k7 := cell_regrown y7
  have k8 := cell_regrown y8
  have k9 := cell_regrown y9
  have k10 := cell_regrown y10
  have k11 := cell_regrown y11
  have c1 : ∀ d os, Calls Tryz.prog 33 #[rV r s] (grow (redrawn w0 d) os) fun e w'' => e = .returned V ∧ ∃ p : Regrown, w'' = grow (redrawn w0 p.d) p.os := regrown_calls (fun W _ => HQ1.out W)
  have c2 := fun (d : Nat) (os : Array Obj) => regrown_calls (w := w0) (fun W t => HQ2.out W (t0.trans' t)) d os
  have HT0 : Hid (Tch (fun _ => False) w w0) := t0
  have HB : Hid (∀ W, Tch (fun _ => False) w0 W → W.heap[w.heap.size]? = some (.cells #[.int .i64 r.k, .int .i64 r.x, .int .i64 r.l, .int .i64 r.e, .int .i64 r.t, .int .i64 r.tb.id, .int .i64 r.tb.ver, .string r.tb.nm, .slice s.co r.tb.cols.length s.cc, .int .i64 r.tb.key, .slice s.oo r.o.length s.oc, .slice s.no r.n.length s.nc] 28 (0, 0))) := fun W t => (t.block _ (blk_lt b0) (fun h => h)).trans b0
  clear t0 b0 HQ1 HQ2
  go_enter Tryz.func17, Tryz.ntmps17
  go_wp2_with fail
  rw [← HW0.out]
  refine wp_region_quiet_below (by kernel_rfl) (by kernel_rfl) ?_
  repeat (quiet_step (first | (go_at_call 33; exact c1 _ _) | (go_at_call 23; exact c2 _ _)))
  refine wpQuiet_nil ?_
  rintro w2 ⟨p, rfl⟩
  have T2 := Tch.regrown w0 p.d p.os
  obtain ⟨W2, hW2⟩ : ∃ W2, W2 = grow (redrawn w0 p.d) p.os := ⟨_, rfl⟩
  rw [← hW2] at T2 ⊢
  clear hW2 k0 k1 k2 k3 k4 k5 k6 k7 k8 k9 k10 k11 y0 y1 y2 y3 y4 y5 y6 y7 y8 y9 y10 y11 c1 c2
  have b2 := HB.out W2 T2
  have y0 := blk_cell b2 0
  have y1 := blk_cell b2 1
  have y2 := blk_cell b2 2
  have y3 := blk_cell b2 3
  have y4 := blk_cell b2 4
  have y5 := blk_cell b2 5
  have y6 := blk_cell b2 6
  have y7 := blk_cell b2 7
  have y8 := blk_cell b2 8
  have y9 := blk_cell b2 9
  have y10 := blk_cell b2 10
  have y11 := blk_cell b2 11
  simp only [List.getElem?_toArray, List.getElem?_cons_succ, List.getElem?_cons_zero] at y0 y1 y2 y3 y4 y5 y6 y7 y8 y9 y10 y11
  clear b2
  cases d0
  · go_wp2_with fail
    go_ret
    exact eqT_no (fun e => by have := (HRR.out.1 e).2; simp at this) (HT0.out.trans' T2)
  · go_wp2_with fail
    refine (HQO.out W2 (HT0.out.trans' T2)).mono ?_
    rintro x w3 ⟨rfl, t3⟩
    have T3 := T2.trans' t3
    clear y0 y1 y2 y3 y4 y5 y6 y7 y8 y9 y10 y11 t3
    have b2 := HB.out w3 T3
    have y0 := blk_cell b2 0
    have y1 := blk_cell b2 1
    have y2 := blk_cell b2 2
    have y3 := blk_cell b2 3
    have y4 := blk_cell b2 4
    have y5 := blk_cell b2 5
    have y6 := blk_cell b2 6
    have y7 := blk_cell b2 7
    have y8 := blk_cell b2 8
    have y9 := blk_cell b2 9
    have y10 := blk_cell b2 10
    have y11 := blk_cell b2 11
    simp only [List.getElem?_toArray, List.getElem?_cons_succ, List.getElem?_cons_zero] at y0 y1 y2 y3 y4 y5 y6 y7 y8 y9 y10 y11
    clear b2
    go_wp2_with fail
    refine (HQN.out w3 (HT0.out.trans' T3)).mono ?_
    rintro x w4 ⟨rfl, t4⟩
    have T4 := T3.trans' t4
    clear y0 y1 y2 y3 y4 y5 y6 y7 y8 y9 y10 y11 t4
    have b2 := HB.out w4 T4
    have y0 := blk_cell b2 0
    have y1 := blk_cell b2 1
    have y2 := blk_cell b2 2
    have y3 := blk_cell b2 3
    have y4 := blk_cell b2 4
    have y5 := blk_cell b2 5
    have y6 := blk_cell b2 6
    have y7 := blk_cell b2 7
    have y8 := blk_cell b2 8
    have y9 := blk_cell b2 9
    have y10 := blk_cell b2 10
    have y11 := blk_cell b2 11
    simp only [List.getElem?_toArray, List.getElem?_cons_succ, List.getElem?_cons_zero] at y0 y1 y2 y3 y4 y5 y6 y7 y8 y9 y10 y11
    clear b2
    have T5 := HT0.out.trans' T4
    have HIF : Hid (RR r ↔ rightC 6 r) := ⟨fun e => (HRR.out.1 e).1, fun e => HRR.out.2 ⟨e, by trivial⟩⟩
    clear HRR T2 T3 T4
    cases d1
    · go_wp2_with (first | (go_at_call 35; refine (Q1.out _).mono ?_; rintro x w5 ⟨rfl, rfl⟩))
      go_ret
      exact eqT_no (fun e => by have e : rtN r.t := HIF.out.1 e; have := H1.out.2 e; simp at this) T5
    · go_wp2_with (first | (go_at_call 35; refine (Q1.out _).mono ?_; rintro x w5 ⟨rfl, rfl⟩))
      go_ret
      exact ⟨true, rfl, ⟨fun _ => HIF.out.2 (H1.out.1 (by trivial)), fun _ => rfl⟩, T5⟩
end Go.Proofs.YteaagnlhkopgdaaGreatDoor.C
