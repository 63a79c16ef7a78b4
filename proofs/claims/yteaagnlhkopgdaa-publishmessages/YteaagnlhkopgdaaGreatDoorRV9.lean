import Derived.Test.YteaagnlhkopgdaaGreatDoorRVl6
import Derived.Test.YteaagnlhkopgdaaGreatDoorRVl3
set_option maxHeartbeats 8000000
set_option maxRecDepth 100000
namespace Go.Proofs.YteaagnlhkopgdaaGreatDoor.C
open Go.RowKit Go Go.Sort
theorem encB_6 (r : Rc) (s : Sk) (F : Nat → Prop) (w : World) (hg : HE w) (h : RW w F r s) (hk : cls r.k = 6) (d1 d2 : Bool) (hd1 : d1 = true ↔ rightC 6 r) (hd2 : d2 = true ↔ r = cutC 6 r) : Calls Tryz.prog 7 #[rV r s] w fun x w' => x = .returned (.tuple #[.string (if d1 && d2 then ⟨(recL r).toArray⟩ else ⟨#[]⟩), .int .i64 (if d1 && d2 then 0 else 181)]) ∧ Tch (fun _ => False) w w' := by
  obtain ⟨w0, hw0⟩ : ∃ w0, w0 = w.alloc (.cells #[.int .i64 r.k, .int .i64 r.x, .int .i64 r.l, .int .i64 r.e, .int .i64 r.t, .int .i64 r.tb.id, .int .i64 r.tb.ver, .string r.tb.nm, .slice s.co r.tb.cols.length s.cc, .int .i64 r.tb.key, .slice s.oo r.o.length s.oc, .slice s.no r.n.length s.nc] 28) := ⟨_, rfl⟩
  have t0 : Tch (fun _ => False) w w0 := by rw [hw0]; exact Tch.alloc _ _ _
  have b0 : w0.heap[w.heap.size]? = some (.cells #[.int .i64 r.k, .int .i64 r.x, .int .i64 r.l, .int .i64 r.e, .int .i64 r.t, .int .i64 r.tb.id, .int .i64 r.tb.ver, .string r.tb.nm, .slice s.co r.tb.cols.length s.cc, .int .i64 r.tb.key, .slice s.oo r.o.length s.oc, .slice s.no r.n.length s.nc] 28 (0, 0)) := by rw [hw0]; exact heap_new w _
  have q1 := messageOf_any r s w0
  rw [hk] at q1
  have q1 : Calls Tryz.prog 14 #[rV r s] w0 fun x w' => x = .returned (.iface 80 (.agg #[.int .i64 r.t])) ∧ Tch (fun _ => False) w0 w' := q1
  have HQ1 : Hid (∀ W, Tch (fun _ => False) w W → Calls Tryz.prog 167 #[.agg #[.int .i64 r.t]] W fun x w' => x = .returned (.bool d1) ∧ Tch (fun _ => False) W w') := fun W t => eqT_d (right_6 r s F W (hg.tch t (fun h => h)) (h.no t)) hd1
  have HQ2 : Hid (∀ W, Calls Tryz.prog 166 #[.agg #[.int .i64 r.t]] W fun x w' => x = .returned (rV (cutC 6 r) (cutS 6 s)) ∧ Tch (fun _ => False) W w') := fun W => fields_6 r s W (cls_k (c := 6) hk (by omega) (by omega))
  have HQ3 : Hid (∀ W, Tch (fun _ => False) w W → Calls Tryz.prog 15 #[rV r s, rV (cutC 6 r) (cutS 6 s)] W fun x w' => x = .returned (.bool d2) ∧ Tch (fun _ => False) W w') := fun W t => eqT_d (same_r r (cutC 6 r) s (cutS 6 s) F F W (h.no t) ((h.no t).cut 6)) hd2
  have HQ4 : Hid (d1 = true → ∀ W, Tch (fun _ => False) w W → Calls Tryz.prog 16 #[.iface 80 (.agg #[.int .i64 r.t])] W fun x w' => x = .returned (.string ⟨(recL r).toArray⟩) ∧ Tch (fun _ => False) W w') := fun e W t => laid_6 r s F W (hg.tch t (fun h => h)) (h.no t) hk (hd1.1 e)
  have m1 : ∀ (v : Array Value) (W : World), (method 318 80 (.agg v) "confluence/publish.isRight").run Tryz.prog W = .ok (167, .agg v) W := fun v W => by kernel_rfl
  have m2 : ∀ (v : Array Value) (W : World), (method 318 80 (.agg v) "confluence/publish.fields").run Tryz.prog W = .ok (166, .agg v) W := fun v W => by kernel_rfl
  obtain ⟨V, hV⟩ : ∃ V, V = rV (cutC 6 r) (cutS 6 s) := ⟨_, rfl⟩
  rw [← hV] at HQ2 HQ3
  obtain ⟨RB, hRB⟩ : ∃ RB : ByteArray, RB = ⟨(recL r).toArray⟩ := ⟨_, rfl⟩
  rw [← hRB] at HQ4 ⊢
  rw [hw0] at q1
  have HW0 : Hid (w0 = w.alloc (.cells #[.int .i64 r.k, .int .i64 r.x, .int .i64 r.l, .int .i64 r.e, .int .i64 r.t, .int .i64 r.tb.id, .int .i64 r.tb.ver, .string r.tb.nm, .slice s.co r.tb.cols.length s.cc, .int .i64 r.tb.key, .slice s.oo r.o.length s.oc, .slice s.no r.n.length s.nc] 28)) := hw0
  clear h hg hk hd1 hd2 hV hw0 hRB
  cases d1 <;> cases d2
  all_goals
    go_enter Tryz.func7, Tryz.ntmps7
    go_wp2_with fail
    refine q1.mono ?_
    rintro x w1 ⟨rfl, t1⟩
    rw [← HW0.out] at t1
    have T1 : Tch (fun _ => False) w w1 := t0.trans' t1
    have b1 : w1.heap[w.heap.size]? = some (.cells #[.int .i64 r.k, .int .i64 r.x, .int .i64 r.l, .int .i64 r.e, .int .i64 r.t, .int .i64 r.tb.id, .int .i64 r.tb.ver, .string r.tb.nm, .slice s.co r.tb.cols.length s.cc, .int .i64 r.tb.key, .slice s.oo r.o.length s.oc, .slice s.no r.n.length s.nc] 28 (0, 0)) := (t1.block _ (blk_lt b0) (fun h => h)).trans b0
    have y0 := blk_cell b1 0
    have y1 := blk_cell b1 1
    have y2 := blk_cell b1 2
    have y3 := blk_cell b1 3
    have y4 := blk_cell b1 4
    have y5 := blk_cell b1 5
    have y6 := blk_cell b1 6
    have y7 := blk_cell b1 7
    have y8 := blk_cell b1 8
    have y9 := blk_cell b1 9
    have y10 := blk_cell b1 10
    have y11 := blk_cell b1 11
    simp only [List.getElem?_toArray, List.getElem?_cons_succ, List.getElem?_cons_zero] at y0 y1 y2 y3 y4 y5 y6 y7 y8 y9 y10 y11
    have k0 := cell_regrown y0
    have k1 := cell_regrown y1
    have k2 := cell_regrown y2
    have k3 := cell_regrown y3
    have k4 := cell_regrown y4
    have k5 := cell_regrown y5
    have k6 := cell_regrown y6
    have k7 := cell_regrown y7
    have k8 := cell_regrown y8
    have k9 := cell_regrown y9
    have k10 := cell_regrown y10
    have k11 := cell_regrown y11
    have c1 := fun (d : Nat) (os : Array Obj) => regrown_calls (w := w1) (fun W t => HQ1.out W (T1.trans' t)) d os
    have c2 : ∀ d os, Calls Tryz.prog 166 #[.agg #[.int .i64 r.t]] (grow (redrawn w1 d) os) fun e w'' => e = .returned V ∧ ∃ p : Regrown, w'' = grow (redrawn w1 p.d) p.os := regrown_calls (fun W _ => HQ2.out W)
    have c3 := fun (d : Nat) (os : Array Obj) => regrown_calls (w := w1) (fun W t => HQ3.out W (T1.trans' t)) d os
    have HT1 : Hid (Tch (fun _ => False) w w1) := T1
    clear b0 b1 t0 t1 T1 q1 HW0 HQ1 HQ2 HQ3
    go_wp2_with fail
    refine wp_region_quiet_below (by kernel_rfl) (by kernel_rfl) ?_
    repeat (quiet_step (first | (go_at_call 167; exact c1 _ _) | (go_at_call 166; exact c2 _ _) | (go_at_call 15; exact c3 _ _)))
    refine wpQuiet_nil ?_
    rintro w2 ⟨p, rfl⟩
    have HE := HT1.out.trans' (Tch.regrown w1 p.d p.os)
    have HE2 : Hid _ := HE
    clear HE
    obtain ⟨W2, hW2⟩ : ∃ W2, W2 = grow (redrawn w1 p.d) p.os := ⟨_, rfl⟩
    rw [← hW2] at HE2 ⊢
    clear hW2 k0 k1 k2 k3 k4 k5 k6 k7 k8 k9 k10 k11 y0 y1 y2 y3 y4 y5 y6 y7 y8 y9 y10 y11 c1 c2 c3
    go_wp2_with fail
    first
      | (go_ret2
         exact ⟨rfl, HE2.out⟩)
      | (refine (HQ4.out (by trivial) W2 HE2.out).mono ?_
         rintro x w3 ⟨rfl, t3⟩
         go_wp2_with fail
         go_ret2
         exact ⟨rfl, HE2.out.trans' t3⟩)
end Go.Proofs.YteaagnlhkopgdaaGreatDoor.C
namespace Go.Proofs.YteaagnlhkopgdaaGreatDoor.C
open Go.RowKit Go Go.Sort
theorem laid_7 (r : Rc) (s : Sk) (F : Nat → Prop) (w : World) (hg : HE w) (h : RW w F r s) (hk : cls r.k = 7) (hr : rightC 7 r) : Calls Tryz.prog 16 #[.iface 82 (.agg #[.int .i64 r.x, .int .i64 r.l, .int .i64 r.e])] w fun x w' => x = .returned (.string ⟨(recL r).toArray⟩) ∧ Tch (fun _ => False) w w' := by
  have hkr : 1 ≤ r.k ∧ r.k ≤ 9 := by
    rcases cls_rng r.k with h1 | h1
    · rw [hk] at h1; cases h1
    · exact ⟨h1.1, h1.2.1⟩
  have m1 : ∀ (v : Array Value) (W : World), (method 318 82 (.agg v) "confluence/publish.lay").run Tryz.prog W = .ok (172, .agg v) W := fun v W => by kernel_rfl
  have m2 : ∀ (v : Array Value) (W : World), (method 318 82 (.agg v) "confluence/publish.fields").run Tryz.prog W = .ok (170, .agg v) W := fun v W => by kernel_rfl
  have fK := fldK
  have hgl : 0 < w.heap.size := cell_lt hg
  have HF : Hid (∀ W, Calls Tryz.prog 170 #[.agg #[.int .i64 r.x, .int .i64 r.l, .int .i64 r.e]] W fun x w' => x = .returned (.agg #[.int .i64 r.k, .int .i64 r.x, .int .i64 r.l, .int .i64 r.e, .int .i64 0, .int .i64 0, .int .i64 0, .string ⟨#[]⟩, .slice none 0 0, .int .i64 0, .slice none 0 0, .slice none 0 0]) ∧ Tch (fun _ => False) W w') := fun W => fields_7 r s W (cls_k (c := 7) hk (by omega) (by omega))
  have HR : Hid (∀ W, Tch (fun _ => False) w W → RW W F r s ∧ HE W) := fun W t => ⟨h.no t, hg.tch t (fun h => h)⟩
  have HRC : Hid (rightC 7 r) := hr
  have HRL : Hid (recL r = bytesL [r.k] ++ bodyL 7 r) := by show _ = _; unfold recL; rw [hk]; rfl
  clear h hg hk hr
  go_enter Tryz.func16, Tryz.ntmps16
  go_wp2_with fail
  refine (newWriter_any w).mono ?_
  rintro x w1 ⟨rfl, h1, t1, z1⟩
  go_wp2_with fail
  refine (HF.out w1).mono ?_
  rintro x w2 ⟨rfl, t2⟩
  have h2 := h1.tch t2 (fun _ _ _ h => h)
  have T2 : Tch (fun _ => False) w w2 := t1.trans' t2
  clear h1 t1 t2
  go_wp2_with fail
  refine (wbyte1' _ [] r.k _ w2 h2 rfl (by omega) (by omega) (by simp)).mono ?_
  rintro x w3 ⟨rfl, h3, t3⟩
  have hz := T2.size
  have hrw : RW w3 (fun i => w.heap.size ≤ i) r s := (((HR.out w (Tch.refl _ _)).1.low (Nat.le_refl _)).tch (show Tch (fun i => w.heap.size ≤ i) w w3 from (T2.mono (fun _ _ h => h.elim)).trans' (wt_le t3)) (fun i _ h => h))
  have hhe : HE w3 := (HR.out w2 T2).2.tch (wt_le t3) (by omega)
  have q4 := lay_7 w.heap.size _ r s w3 h3 hhe (by omega) hrw HRC.out (by simp [bytesL])
  have T3 : Tch (fun i => w.heap.size ≤ i) w w3 := (T2.mono (fun _ _ h => h.elim)).trans' (wt_le t3)
  clear hrw hhe h2
  go_wp2_with fail
  refine q4.mono ?_
  rintro x w4 ⟨rfl, h4, t4⟩
  clear q4
  have T4 : Tch (fun i => w.heap.size ≤ i) w w4 := T3.trans' (wt_le t4)
  have hhe : HE w4 := (HR.out w (Tch.refl _ _)).2.tch T4 (by omega)
  have q5 := wdone_ok w.heap.size _ w4 h4 hhe
  rw [List.nil_append, ← HRL.out] at q5
  go_wp2_with fail
  refine q5.mono ?_
  rintro x w5 ⟨rfl, t5⟩
  go_wp2_with fail
  go_ret
  exact ⟨rfl, (T4.mono (fun i hi h => by omega)).trans' t5⟩
end Go.Proofs.YteaagnlhkopgdaaGreatDoor.C
namespace Go.Proofs.YteaagnlhkopgdaaGreatDoor.C
open Go.RowKit Go Go.Sort
theorem encB_7 (r : Rc) (s : Sk) (F : Nat → Prop) (w : World) (hg : HE w) (h : RW w F r s) (hk : cls r.k = 7) (d1 d2 : Bool) (hd1 : d1 = true ↔ rightC 7 r) (hd2 : d2 = true ↔ r = cutC 7 r) : Calls Tryz.prog 7 #[rV r s] w fun x w' => x = .returned (.tuple #[.string (if d1 && d2 then ⟨(recL r).toArray⟩ else ⟨#[]⟩), .int .i64 (if d1 && d2 then 0 else 181)]) ∧ Tch (fun _ => False) w w' := by
  obtain ⟨w0, hw0⟩ : ∃ w0, w0 = w.alloc (.cells #[.int .i64 r.k, .int .i64 r.x, .int .i64 r.l, .int .i64 r.e, .int .i64 r.t, .int .i64 r.tb.id, .int .i64 r.tb.ver, .string r.tb.nm, .slice s.co r.tb.cols.length s.cc, .int .i64 r.tb.key, .slice s.oo r.o.length s.oc, .slice s.no r.n.length s.nc] 28) := ⟨_, rfl⟩
  have t0 : Tch (fun _ => False) w w0 := by rw [hw0]; exact Tch.alloc _ _ _
  have b0 : w0.heap[w.heap.size]? = some (.cells #[.int .i64 r.k, .int .i64 r.x, .int .i64 r.l, .int .i64 r.e, .int .i64 r.t, .int .i64 r.tb.id, .int .i64 r.tb.ver, .string r.tb.nm, .slice s.co r.tb.cols.length s.cc, .int .i64 r.tb.key, .slice s.oo r.o.length s.oc, .slice s.no r.n.length s.nc] 28 (0, 0)) := by rw [hw0]; exact heap_new w _
  have q1 := messageOf_any r s w0
  rw [hk] at q1
  have q1 : Calls Tryz.prog 14 #[rV r s] w0 fun x w' => x = .returned (.iface 82 (.agg #[.int .i64 r.x, .int .i64 r.l, .int .i64 r.e])) ∧ Tch (fun _ => False) w0 w' := q1
  have HQ1 : Hid (∀ W, Tch (fun _ => False) w W → Calls Tryz.prog 171 #[.agg #[.int .i64 r.x, .int .i64 r.l, .int .i64 r.e]] W fun x w' => x = .returned (.bool d1) ∧ Tch (fun _ => False) W w') := fun W t => eqT_d (right_7 r s F W (hg.tch t (fun h => h)) (h.no t)) hd1
  have HQ2 : Hid (∀ W, Calls Tryz.prog 170 #[.agg #[.int .i64 r.x, .int .i64 r.l, .int .i64 r.e]] W fun x w' => x = .returned (rV (cutC 7 r) (cutS 7 s)) ∧ Tch (fun _ => False) W w') := fun W => fields_7 r s W (cls_k (c := 7) hk (by omega) (by omega))
  have HQ3 : Hid (∀ W, Tch (fun _ => False) w W → Calls Tryz.prog 15 #[rV r s, rV (cutC 7 r) (cutS 7 s)] W fun x w' => x = .returned (.bool d2) ∧ Tch (fun _ => False) W w') := fun W t => eqT_d (same_r r (cutC 7 r) s (cutS 7 s) F F W (h.no t) ((h.no t).cut 7)) hd2
  have HQ4 : Hid (d1 = true → ∀ W, Tch (fun _ => False) w W → Calls Tryz.prog 16 #[.iface 82 (.agg #[.int .i64 r.x, .int .i64 r.l, .int .i64 r.e])] W fun x w' => x = .returned (.string ⟨(recL r).toArray⟩) ∧ Tch (fun _ => False) W w') := fun e W t => laid_7 r s F W (hg.tch t (fun h => h)) (h.no t) hk (hd1.1 e)
  have m1 : ∀ (v : Array Value) (W : World), (method 318 82 (.agg v) "confluence/publish.isRight").run Tryz.prog W = .ok (171, .agg v) W := fun v W => by kernel_rfl
  have m2 : ∀ (v : Array Value) (W : World), (method 318 82 (.agg v) "confluence/publish.fields").run Tryz.prog W = .ok (170, .agg v) W := fun v W => by kernel_rfl
  obtain ⟨V, hV⟩ : ∃ V, V = rV (cutC 7 r) (cutS 7 s) := ⟨_, rfl⟩
  rw [← hV] at HQ2 HQ3
  obtain ⟨RB, hRB⟩ : ∃ RB : ByteArray, RB = ⟨(recL r).toArray⟩ := ⟨_, rfl⟩
  rw [← hRB] at HQ4 ⊢
  rw [hw0] at q1
  have HW0 : Hid (w0 = w.alloc (.cells #[.int .i64 r.k, .int .i64 r.x, .int .i64 r.l, .int .i64 r.e, .int .i64 r.t, .int .i64 r.tb.id, .int .i64 r.tb.ver, .string r.tb.nm, .slice s.co r.tb.cols.length s.cc, .int .i64 r.tb.key, .slice s.oo r.o.length s.oc, .slice s.no r.n.length s.nc] 28)) := hw0
  clear h hg hk hd1 hd2 hV hw0 hRB
  cases d1 <;> cases d2
  all_goals
    go_enter Tryz.func7, Tryz.ntmps7
    go_wp2_with fail
    refine q1.mono ?_
    rintro x w1 ⟨rfl, t1⟩
    rw [← HW0.out] at t1
    have T1 : Tch (fun _ => False) w w1 := t0.trans' t1
    have b1 : w1.heap[w.heap.size]? = some (.cells #[.int .i64 r.k, .int .i64 r.x, .int .i64 r.l, .int .i64 r.e, .int .i64 r.t, .int .i64 r.tb.id, .int .i64 r.tb.ver, .string r.tb.nm, .slice s.co r.tb.cols.length s.cc, .int .i64 r.tb.key, .slice s.oo r.o.length s.oc, .slice s.no r.n.length s.nc] 28 (0, 0)) := (t1.block _ (blk_lt b0) (fun h => h)).trans b0
    have y0 := blk_cell b1 0
    have y1 := blk_cell b1 1
    have y2 := blk_cell b1 2
    have y3 := blk_cell b1 3
    have y4 := blk_cell b1 4
    have y5 := blk_cell b1 5
    have y6 := blk_cell b1 6
    have y7 := blk_cell b1 7
    have y8 := blk_cell b1 8
    have y9 := blk_cell b1 9
    have y10 := blk_cell b1 10
    have y11 := blk_cell b1 11
    simp only [List.getElem?_toArray, List.getElem?_cons_succ, List.getElem?_cons_zero] at y0 y1 y2 y3 y4 y5 y6 y7 y8 y9 y10 y11
    have k0 := cell_regrown y0
    have k1 := cell_regrown y1
    have k2 := cell_regrown y2
    have k3 := cell_regrown y3
    have k4 := cell_regrown y4
    have k5 := cell_regrown y5
    have k6 := cell_regrown y6
    have k7 := cell_regrown y7
    have k8 := cell_regrown y8
    have k9 := cell_regrown y9
    have k10 := cell_regrown y10
    have k11 := cell_regrown y11
    have c1 := fun (d : Nat) (os : Array Obj) => regrown_calls (w := w1) (fun W t => HQ1.out W (T1.trans' t)) d os
    have c2 : ∀ d os, Calls Tryz.prog 170 #[.agg #[.int .i64 r.x, .int .i64 r.l, .int .i64 r.e]] (grow (redrawn w1 d) os) fun e w'' => e = .returned V ∧ ∃ p : Regrown, w'' = grow (redrawn w1 p.d) p.os := regrown_calls (fun W _ => HQ2.out W)
    have c3 := fun (d : Nat) (os : Array Obj) => regrown_calls (w := w1) (fun W t => HQ3.out W (T1.trans' t)) d os
    have HT1 : Hid (Tch (fun _ => False) w w1) := T1
    clear b0 b1 t0 t1 T1 q1 HW0 HQ1 HQ2 HQ3
    go_wp2_with fail
    refine wp_region_quiet_below (by kernel_rfl) (by kernel_rfl) ?_
    repeat (quiet_step (first | (go_at_call 171; exact c1 _ _) | (go_at_call 170; exact c2 _ _) | (go_at_call 15; exact c3 _ _)))
    refine wpQuiet_nil ?_
    rintro w2 ⟨p, rfl⟩
    have HE := HT1.out.trans' (Tch.regrown w1 p.d p.os)
    have HE2 : Hid _ := HE
    clear HE
    obtain ⟨W2, hW2⟩ : ∃ W2, W2 = grow (redrawn w1 p.d) p.os := ⟨_, rfl⟩
    rw [← hW2] at HE2 ⊢
    clear hW2 k0 k1 k2 k3 k4 k5 k6 k7 k8 k9 k10 k11 y0 y1 y2 y3 y4 y5 y6 y7 y8 y9 y10 y11 c1 c2 c3
    go_wp2_with fail
    first
      | (go_ret2
         exact ⟨rfl, HE2.out⟩)
      | (refine (HQ4.out (by trivial) W2 HE2.out).mono ?_
         rintro x w3 ⟨rfl, t3⟩
         go_wp2_with fail
         go_ret2
         exact ⟨rfl, HE2.out.trans' t3⟩)
end Go.Proofs.YteaagnlhkopgdaaGreatDoor.C
namespace Go.Proofs.YteaagnlhkopgdaaGreatDoor.C
open Go.RowKit Go Go.Sort
theorem laid_8 (r : Rc) (s : Sk) (F : Nat → Prop) (w : World) (hg : HE w) (h : RW w F r s) (hk : cls r.k = 8) (hr : rightC 8 r) : Calls Tryz.prog 16 #[.iface 84 (.agg #[.int .i64 r.k, .int .i64 r.l])] w fun x w' => x = .returned (.string ⟨(recL r).toArray⟩) ∧ Tch (fun _ => False) w w' := by
  have hkr : 1 ≤ r.k ∧ r.k ≤ 9 := by
    rcases cls_rng r.k with h1 | h1
    · rw [hk] at h1; cases h1
    · exact ⟨h1.1, h1.2.1⟩
  have m1 : ∀ (v : Array Value) (W : World), (method 318 84 (.agg v) "confluence/publish.lay").run Tryz.prog W = .ok (176, .agg v) W := fun v W => by kernel_rfl
  have m2 : ∀ (v : Array Value) (W : World), (method 318 84 (.agg v) "confluence/publish.fields").run Tryz.prog W = .ok (174, .agg v) W := fun v W => by kernel_rfl
  have fK := fldK
  have hgl : 0 < w.heap.size := cell_lt hg
  have HF : Hid (∀ W, Calls Tryz.prog 174 #[.agg #[.int .i64 r.k, .int .i64 r.l]] W fun x w' => x = .returned (.agg #[.int .i64 r.k, .int .i64 0, .int .i64 r.l, .int .i64 0, .int .i64 0, .int .i64 0, .int .i64 0, .string ⟨#[]⟩, .slice none 0 0, .int .i64 0, .slice none 0 0, .slice none 0 0]) ∧ Tch (fun _ => False) W w') := fun W => fields_8 r s W
  have HR : Hid (∀ W, Tch (fun _ => False) w W → RW W F r s ∧ HE W) := fun W t => ⟨h.no t, hg.tch t (fun h => h)⟩
  have HRC : Hid (rightC 8 r) := hr
  have HRL : Hid (recL r = bytesL [r.k] ++ bodyL 8 r) := by show _ = _; unfold recL; rw [hk]; rfl
  clear h hg hk hr
  go_enter Tryz.func16, Tryz.ntmps16
  go_wp2_with fail
  refine (newWriter_any w).mono ?_
  rintro x w1 ⟨rfl, h1, t1, z1⟩
  go_wp2_with fail
  refine (HF.out w1).mono ?_
  rintro x w2 ⟨rfl, t2⟩
  have h2 := h1.tch t2 (fun _ _ _ h => h)
  have T2 : Tch (fun _ => False) w w2 := t1.trans' t2
  clear h1 t1 t2
  go_wp2_with fail
  refine (wbyte1' _ [] r.k _ w2 h2 rfl (by omega) (by omega) (by simp)).mono ?_
  rintro x w3 ⟨rfl, h3, t3⟩
  have hz := T2.size
  have hrw : RW w3 (fun i => w.heap.size ≤ i) r s := (((HR.out w (Tch.refl _ _)).1.low (Nat.le_refl _)).tch (show Tch (fun i => w.heap.size ≤ i) w w3 from (T2.mono (fun _ _ h => h.elim)).trans' (wt_le t3)) (fun i _ h => h))
  have hhe : HE w3 := (HR.out w2 T2).2.tch (wt_le t3) (by omega)
  have q4 := lay_8 w.heap.size _ r s w3 h3 hhe (by omega) hrw HRC.out (by simp [bytesL])
  have T3 : Tch (fun i => w.heap.size ≤ i) w w3 := (T2.mono (fun _ _ h => h.elim)).trans' (wt_le t3)
  clear hrw hhe h2
  go_wp2_with fail
  refine q4.mono ?_
  rintro x w4 ⟨rfl, h4, t4⟩
  clear q4
  have T4 : Tch (fun i => w.heap.size ≤ i) w w4 := T3.trans' (wt_le t4)
  have hhe : HE w4 := (HR.out w (Tch.refl _ _)).2.tch T4 (by omega)
  have q5 := wdone_ok w.heap.size _ w4 h4 hhe
  rw [List.nil_append, ← HRL.out] at q5
  go_wp2_with fail
  refine q5.mono ?_
  rintro x w5 ⟨rfl, t5⟩
  go_wp2_with fail
  go_ret
  exact ⟨rfl, (T4.mono (fun i hi h => by omega)).trans' t5⟩
end Go.Proofs.YteaagnlhkopgdaaGreatDoor.C
namespace Go.Proofs.YteaagnlhkopgdaaGreatDoor.C
open Go.RowKit Go Go.Sort
theorem encB_8 (r : Rc) (s : Sk) (F : Nat → Prop) (w : World) (hg : HE w) (h : RW w F r s) (hk : cls r.k = 8) (d1 d2 : Bool) (hd1 : d1 = true ↔ rightC 8 r) (hd2 : d2 = true ↔ r = cutC 8 r) : Calls Tryz.prog 7 #[rV r s] w fun x w' => x = .returned (.tuple #[.string (if d1 && d2 then ⟨(recL r).toArray⟩ else ⟨#[]⟩), .int .i64 (if d1 && d2 then 0 else 181)]) ∧ Tch (fun _ => False) w w' := by
  obtain ⟨w0, hw0⟩ : ∃ w0, w0 = w.alloc (.cells #[.int .i64 r.k, .int .i64 r.x, .int .i64 r.l, .int .i64 r.e, .int .i64 r.t, .int .i64 r.tb.id, .int .i64 r.tb.ver, .string r.tb.nm, .slice s.co r.tb.cols.length s.cc, .int .i64 r.tb.key, .slice s.oo r.o.length s.oc, .slice s.no r.n.length s.nc] 28) := ⟨_, rfl⟩
  have t0 : Tch (fun _ => False) w w0 := by rw [hw0]; exact Tch.alloc _ _ _
  have b0 : w0.heap[w.heap.size]? = some (.cells #[.int .i64 r.k, .int .i64 r.x, .int .i64 r.l, .int .i64 r.e, .int .i64 r.t, .int .i64 r.tb.id, .int .i64 r.tb.ver, .string r.tb.nm, .slice s.co r.tb.cols.length s.cc, .int .i64 r.tb.key, .slice s.oo r.o.length s.oc, .slice s.no r.n.length s.nc] 28 (0, 0)) := by rw [hw0]; exact heap_new w _
  have q1 := messageOf_any r s w0
  rw [hk] at q1
  have q1 : Calls Tryz.prog 14 #[rV r s] w0 fun x w' => x = .returned (.iface 84 (.agg #[.int .i64 r.k, .int .i64 r.l])) ∧ Tch (fun _ => False) w0 w' := q1
  have HQ1 : Hid (∀ W, Tch (fun _ => False) w W → Calls Tryz.prog 175 #[.agg #[.int .i64 r.k, .int .i64 r.l]] W fun x w' => x = .returned (.bool d1) ∧ Tch (fun _ => False) W w') := fun W t => eqT_d (right_8 r s F W (hg.tch t (fun h => h)) (h.no t)) hd1
  have HQ2 : Hid (∀ W, Calls Tryz.prog 174 #[.agg #[.int .i64 r.k, .int .i64 r.l]] W fun x w' => x = .returned (rV (cutC 8 r) (cutS 8 s)) ∧ Tch (fun _ => False) W w') := fun W => fields_8 r s W
  have HQ3 : Hid (∀ W, Tch (fun _ => False) w W → Calls Tryz.prog 15 #[rV r s, rV (cutC 8 r) (cutS 8 s)] W fun x w' => x = .returned (.bool d2) ∧ Tch (fun _ => False) W w') := fun W t => eqT_d (same_r r (cutC 8 r) s (cutS 8 s) F F W (h.no t) ((h.no t).cut 8)) hd2
  have HQ4 : Hid (d1 = true → ∀ W, Tch (fun _ => False) w W → Calls Tryz.prog 16 #[.iface 84 (.agg #[.int .i64 r.k, .int .i64 r.l])] W fun x w' => x = .returned (.string ⟨(recL r).toArray⟩) ∧ Tch (fun _ => False) W w') := fun e W t => laid_8 r s F W (hg.tch t (fun h => h)) (h.no t) hk (hd1.1 e)
  have m1 : ∀ (v : Array Value) (W : World), (method 318 84 (.agg v) "confluence/publish.isRight").run Tryz.prog W = .ok (175, .agg v) W := fun v W => by kernel_rfl
  have m2 : ∀ (v : Array Value) (W : World), (method 318 84 (.agg v) "confluence/publish.fields").run Tryz.prog W = .ok (174, .agg v) W := fun v W => by kernel_rfl
  obtain ⟨V, hV⟩ : ∃ V, V = rV (cutC 8 r) (cutS 8 s) := ⟨_, rfl⟩
  rw [← hV] at HQ2 HQ3
  obtain ⟨RB, hRB⟩ : ∃ RB : ByteArray, RB = ⟨(recL r).toArray⟩ := ⟨_, rfl⟩
  rw [← hRB] at HQ4 ⊢
  rw [hw0] at q1
  have HW0 : Hid (w0 = w.alloc (.cells #[.int .i64 r.k, .int .i64 r.x, .int .i64 r.l, .int .i64 r.e, .int .i64 r.t, .int .i64 r.tb.id, .int .i64 r.tb.ver, .string r.tb.nm, .slice s.co r.tb.cols.length s.cc, .int .i64 r.tb.key, .slice s.oo r.o.length s.oc, .slice s.no r.n.length s.nc] 28)) := hw0
  clear h hg hk hd1 hd2 hV hw0 hRB
  cases d1 <;> cases d2
  all_goals
    go_enter Tryz.func7, Tryz.ntmps7
    go_wp2_with fail
    refine q1.mono ?_
    rintro x w1 ⟨rfl, t1⟩
    rw [← HW0.out] at t1
    have T1 : Tch (fun _ => False) w w1 := t0.trans' t1
    have b1 : w1.heap[w.heap.size]? = some (.cells #[.int .i64 r.k, .int .i64 r.x, .int .i64 r.l, .int .i64 r.e, .int .i64 r.t, .int .i64 r.tb.id, .int .i64 r.tb.ver, .string r.tb.nm, .slice s.co r.tb.cols.length s.cc, .int .i64 r.tb.key, .slice s.oo r.o.length s.oc, .slice s.no r.n.length s.nc] 28 (0, 0)) := (t1.block _ (blk_lt b0) (fun h => h)).trans b0
    have y0 := blk_cell b1 0
    have y1 := blk_cell b1 1
    have y2 := blk_cell b1 2
    have y3 := blk_cell b1 3
    have y4 := blk_cell b1 4
    have y5 := blk_cell b1 5
    have y6 := blk_cell b1 6
    have y7 := blk_cell b1 7
    have y8 := blk_cell b1 8
    have y9 := blk_cell b1 9
    have y10 := blk_cell b1 10
    have y11 := blk_cell b1 11
    simp only [List.getElem?_toArray, List.getElem?_cons_succ, List.getElem?_cons_zero] at y0 y1 y2 y3 y4 y5 y6 y7 y8 y9 y10 y11
    have k0 := cell_regrown y0
    have k1 := cell_regrown y1
    have k2 := cell_regrown y2
    have k3 := cell_regrown y3
    have k4 := cell_regrown y4
    have k5 := cell_regrown y5
    have k6 := cell_regrown y6
    have k7 := cell_regrown y7
    have k8 := cell_regrown y8
    have k9 := cell_regrown y9
    have k10 := cell_regrown y10
    have k11 := cell_regrown y11
    have c1 := fun (d : Nat) (os : Array Obj) => regrown_calls (w := w1) (fun W t => HQ1.out W (T1.trans' t)) d os
    have c2 : ∀ d os, Calls Tryz.prog 174 #[.agg #[.int .i64 r.k, .int .i64 r.l]] (grow (redrawn w1 d) os) fun e w'' => e = .returned V ∧ ∃ p : Regrown, w'' = grow (redrawn w1 p.d) p.os := regrown_calls (fun W _ => HQ2.out W)
    have c3 := fun (d : Nat) (os : Array Obj) => regrown_calls (w := w1) (fun W t => HQ3.out W (T1.trans' t)) d os
    have HT1 : Hid (Tch (fun _ => False) w w1) := T1
    clear b0 b1 t0 t1 T1 q1 HW0 HQ1 HQ2 HQ3
    go_wp2_with fail
    refine wp_region_quiet_below (by kernel_rfl) (by kernel_rfl) ?_
    repeat (quiet_step (first | (go_at_call 175; exact c1 _ _) | (go_at_call 174; exact c2 _ _) | (go_at_call 15; exact c3 _ _)))
    refine wpQuiet_nil ?_
    rintro w2 ⟨p, rfl⟩
    have HE := HT1.out.trans' (Tch.regrown w1 p.d p.os)
    have HE2 : Hid _ := HE
    clear HE
    obtain ⟨W2, hW2⟩ : ∃ W2, W2 = grow (redrawn w1 p.d) p.os := ⟨_, rfl⟩
    rw [← hW2] at HE2 ⊢
    clear hW2 k0 k1 k2 k3 k4 k5 k6 k7 k8 k9 k10 k11 y0 y1 y2 y3 y4 y5 y6 y7 y8 y9 y10 y11 c1 c2 c3
    go_wp2_with fail
    first
      | (go_ret2
         exact ⟨rfl, HE2.out⟩)
      | (refine (HQ4.out (by trivial) W2 HE2.out).mono ?_
         rintro x w3 ⟨rfl, t3⟩
         go_wp2_with fail
         go_ret2
         exact ⟨rfl, HE2.out.trans' t3⟩)
end Go.Proofs.YteaagnlhkopgdaaGreatDoor.C
namespace Go.Proofs.YteaagnlhkopgdaaGreatDoor.C
open Go.RowKit Go Go.Sort
def RR (r : Rc) : Prop := rightC (cls r.k) r ∧ r = cutC (cls r.k) r
theorem encode_0 (r : Rc) (s : Sk) (w : World) (hk : cls r.k = 0) : Calls Tryz.prog 7 #[rV r s] w fun x w' => x = .returned (.tuple #[.string ⟨#[]⟩, .int .i64 181]) ∧ Tch (fun _ => False) w w' := by
  have q := fun W => messageOf_any r s W
  rw [hk] at q
  have HQ : Hid (∀ W, Calls Tryz.prog 14 #[rV r s] W fun x w' => x = .returned .nilIface ∧ Tch (fun _ => False) W w') := q
  clear q hk
  go_enter Tryz.func7, Tryz.ntmps7
  go_wp2_with fail
  refine (HQ.out _).mono ?_
  rintro x w1 ⟨rfl, t1⟩
  go_wp2_with fail
  refine wp_region_quiet_below (by kernel_rfl) (by kernel_rfl) ?_
  repeat (quiet_step (fail))
  refine wpQuiet_nil ?_
  rintro w2 ⟨p, rfl⟩
  have HE2 : Hid (Tch (fun _ => False) w (grow (redrawn w1 p.d) p.os)) := ((Tch.alloc _ _ _).trans' t1).trans' (Tch.regrown w1 p.d p.os)
  go_wp2_with fail
  go_ret2
  exact ⟨rfl, HE2.out⟩
open Classical in
noncomputable def encS (r : Rc) : ByteArray := if RR r then ⟨(recL r).toArray⟩ else ⟨#[]⟩
open Classical in
noncomputable def encI (r : Rc) : Int := if RR r then 0 else 181
theorem encode_all (r : Rc) (s : Sk) (F : Nat → Prop) (w : World) (hg : HE w) (h : RW w F r s) : Calls Tryz.prog 7 #[rV r s] w fun x w' => x = .returned (.tuple #[.string (encS r), .int .i64 (encI r)]) ∧ Tch (fun _ => False) w w' := by
  classical
  have key : ∀ c, cls r.k = c → (∀ (d1 d2 : Bool), (d1 = true ↔ rightC c r) → (d2 = true ↔ r = cutC c r) → Calls Tryz.prog 7 #[rV r s] w fun x w' => x = .returned (.tuple #[.string (if d1 && d2 then ⟨(recL r).toArray⟩ else ⟨#[]⟩), .int .i64 (if d1 && d2 then 0 else 181)]) ∧ Tch (fun _ => False) w w') → Calls Tryz.prog 7 #[rV r s] w fun x w' => x = .returned (.tuple #[.string (encS r), .int .i64 (encI r)]) ∧ Tch (fun _ => False) w w' := fun c hc q => by
    have q := q (decide (rightC c r)) (decide (r = cutC c r)) decide_eq_true_iff decide_eq_true_iff
    have e : (decide (rightC c r) && decide (r = cutC c r)) = decide (RR r) := by
      unfold RR
      rw [hc, Bool.decide_and]
    rw [e] at q
    unfold encS encI
    by_cases hR : RR r
    · rw [if_pos hR, if_pos hR]
      simpa [hR] using q
    · rw [if_neg hR, if_neg hR]
      simpa [hR] using q
  rcases cls_rng r.k with h0 | ⟨_, _, h1, h2⟩
  · have hR : ¬ RR r := fun e => by
      have := e.1
      rw [h0] at this
      exact this
    unfold encS encI
    rw [if_neg hR, if_neg hR]
    exact encode_0 r s w h0
  · obtain ⟨c, hcc⟩ : ∃ c, cls r.k = c := ⟨_, rfl⟩
    rw [hcc] at h1 h2
    have hc0 : c = 1 ∨ c = 2 ∨ c = 3 ∨ c = 4 ∨ c = 5 ∨ c = 6 ∨ c = 7 ∨ c = 8 := by omega
    rcases hc0 with rfl | rfl | rfl | rfl | rfl | rfl | rfl | rfl
    · exact key 1 hcc (fun d1 d2 e1 e2 => encB_1 r s F w hg h hcc d1 d2 e1 e2)
    · exact key 2 hcc (fun d1 d2 e1 e2 => encB_2 r s F w hg h hcc d1 d2 e1 e2)
    · exact key 3 hcc (fun d1 d2 e1 e2 => encB_3 r s F w hg h hcc d1 d2 e1 e2)
    · exact key 4 hcc (fun d1 d2 e1 e2 => encB_4 r s F w hg h hcc d1 d2 e1 e2)
    · exact key 5 hcc (fun d1 d2 e1 e2 => encB_5 r s F w hg h hcc d1 d2 e1 e2)
    · exact key 6 hcc (fun d1 d2 e1 e2 => encB_6 r s F w hg h hcc d1 d2 e1 e2)
    · exact key 7 hcc (fun d1 d2 e1 e2 => encB_7 r s F w hg h hcc d1 d2 e1 e2)
    · exact key 8 hcc (fun d1 d2 e1 e2 => encB_8 r s F w hg h hcc d1 d2 e1 e2)
end Go.Proofs.YteaagnlhkopgdaaGreatDoor.C
