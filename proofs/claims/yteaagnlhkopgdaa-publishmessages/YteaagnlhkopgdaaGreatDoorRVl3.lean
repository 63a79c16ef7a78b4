import Derived.Test.YteaagnlhkopgdaaGreatDoorRV3
import Derived.Test.YteaagnlhkopgdaaGreatDoorRVf
import Derived.Lib.QuietBelow
set_option maxHeartbeats 8000000
set_option maxRecDepth 100000
namespace Go.Proofs.YteaagnlhkopgdaaGreatDoor.C
open Go.RowKit Go Go.Sort
theorem Tch.regrown (w : World) (d : Nat) (os : Array Obj) : Tch (fun _ => False) w (grow (redrawn w d) os) := Tch.of_below (below_regrown w d os) (Nat.le_refl _)
theorem regrown_calls {P : Program} {f : FuncId} {args : Array Value} {v : Value} {w : World} (h : ∀ W, Tch (fun _ => False) w W → Calls P f args W fun x w' => x = .returned v ∧ Tch (fun _ => False) W w') (d : Nat) (os : Array Obj) : Calls P f args (grow (redrawn w d) os) fun e w'' => e = .returned v ∧ ∃ p : Regrown, w'' = grow (redrawn w p.d) p.os :=
  Calls.regrown_of ((h _ (Tch.regrown w d os)).mono fun _ _ ⟨he, t⟩ => ⟨he, t.below (Nat.le_refl _) (fun _ _ h => h)⟩)
theorem sl_nil (W : World) (cs : List Value) (h : cs = []) : SL W none cs := fun hc => absurd h hc
theorem ck_nil (W : World) (F : Nat → Prop) : CK W F (tb0, .slice none 0 0) none 0 := ⟨rfl, sl_nil W _ rfl, fun _ => ⟨rfl, rfl⟩, Nat.le_refl _, fun h => absurd rfl h⟩
theorem fldK (a b c d e f g h i j k l : Value) (W : World) : (Instr.field 28 (.agg #[a, b, c, d, e, f, g, h, i, j, k, l]) 0).run Tryz.prog W = .ok a W := by kernel_rfl
theorem cls_k {k : Int} {c : Nat} (h : cls k = c) (h1 : 1 ≤ c) (h7 : c ≤ 7) : k = c := by
  unfold cls at h
  repeat' split at h
  all_goals omega
theorem RW.cut {W : World} {F : Nat → Prop} {r : Rc} {s : Sk} (h : RW W F r s) (c : Nat) : RW W F (cutC c r) (cutS c s) := by
  have hc : c = 2 ∨ c = 3 ∨ c = 4 ∨ c = 5 ∨ c = 1 ∨ c = 6 ∨ c = 7 ∨ c = 8 ∨ c = 0 ∨ 8 < c := by omega
  have n0 : ∀ v ∈ ([] : List Val), v.i64 := fun v hv => by simp at hv
  have e0 : ∀ {F : Nat → Prop}, ([] : List Val) ≠ [] → ∀ g o, (none : Option Addr) = some ⟨g, o, none⟩ → ¬ F g := fun h => absurd rfl h
  have z0 : (0 : Nat) ≤ 9223372036854775807 := Nat.zero_le _
  have q0 : ∀ k, RW W F (rc0 k) sk0 := fun k => ⟨sl_nil W _ rfl, sl_nil W _ rfl, ck_nil W F, e0, e0, n0, n0, z0, z0, z0⟩
  rcases hc with rfl | rfl | rfl | rfl | rfl | rfl | rfl | rfl | rfl | hc
  · exact ⟨sl_nil W _ rfl, sl_nil W _ rfl, h.tb, e0, e0, n0, n0, z0, z0, h.cl⟩
  · exact ⟨sl_nil W _ rfl, h.n, ck_nil W F, e0, h.nnf, n0, h.ni, z0, h.nl, z0⟩
  · exact ⟨h.o, h.n, ck_nil W F, h.onf, h.nnf, h.oi, h.ni, h.ol, h.nl, z0⟩
  · exact ⟨h.o, sl_nil W _ rfl, ck_nil W F, h.onf, e0, h.oi, n0, h.ol, z0, z0⟩
  · exact ⟨sl_nil W _ rfl, sl_nil W _ rfl, ck_nil W F, e0, e0, n0, n0, z0, z0, z0⟩
  · exact ⟨sl_nil W _ rfl, sl_nil W _ rfl, ck_nil W F, e0, e0, n0, n0, z0, z0, z0⟩
  · exact ⟨sl_nil W _ rfl, sl_nil W _ rfl, ck_nil W F, e0, e0, n0, n0, z0, z0, z0⟩
  · exact ⟨sl_nil W _ rfl, sl_nil W _ rfl, ck_nil W F, e0, e0, n0, n0, z0, z0, z0⟩
  · exact q0 r.k
  · have e1 : cutC c r = rc0 r.k := by unfold cutC; split <;> first | omega | rfl
    have e2 : cutS c s = sk0 := by unfold cutS; split <;> first | omega | rfl
    rw [e1, e2]; exact q0 r.k
theorem eqT_true {p : Prop} {P : Program} {f : FuncId} {ar : Array Value} {W : World} (h : Calls P f ar W fun x w' => EqT p W x w') (hp : p) : Calls P f ar W fun x w' => x = .returned (.bool true) ∧ Tch (fun _ => False) W w' :=
  h.mono fun _ _ ⟨_, h1, h2, h3⟩ => ⟨by rw [h1, h2.2 hp], h3⟩
theorem eqT_d {p : Prop} {P : Program} {f : FuncId} {ar : Array Value} {W : World} {d : Bool} (h : Calls P f ar W fun x w' => EqT p W x w') (hd : d = true ↔ p) : Calls P f ar W fun x w' => x = .returned (.bool d) ∧ Tch (fun _ => False) W w' :=
  h.mono fun _ _ ⟨_, h1, h2, h3⟩ => ⟨by rw [h1]; congr 2; rw [Bool.eq_iff_iff, h2, hd], h3⟩
theorem RW.low {W : World} {F : Nat → Prop} {r : Rc} {s : Sk} (h : RW W F r s) {b : Nat} (hb : W.heap.size ≤ b) : RW W (fun i => b ≤ i) r s := by
  refine ⟨h.o, h.n, ⟨h.tb.eq, h.tb.sl, h.tb.no, h.tb.cap, fun hne g o e => ?_⟩, fun hne g o e => ?_, fun hne g o e => ?_, h.oi, h.ni, h.ol, h.nl, h.cl⟩
  · have := (h.tb.nf hne g o e).2; exact ⟨by omega, this⟩
  · obtain ⟨g', o', e', ha⟩ := h.o (f3_nil _ _ _ hne)
    rw [e] at e'; injection e' with e'; injection e' with e1 e2
    have := ha.lt (f3_nil _ _ _ hne); omega
  · obtain ⟨g', o', e', ha⟩ := h.n (f3_nil _ _ _ hne)
    rw [e] at e'; injection e' with e'; injection e' with e1 e2
    have := ha.lt (f3_nil _ _ _ hne); omega
end Go.Proofs.YteaagnlhkopgdaaGreatDoor.C
namespace Go.Proofs.YteaagnlhkopgdaaGreatDoor.C
open Go.RowKit Go Go.Sort
theorem laid_1 (r : Rc) (s : Sk) (F : Nat → Prop) (w : World) (hg : HE w) (h : RW w F r s) (hk : cls r.k = 1) (hr : rightC 1 r) : Calls Tryz.prog 16 #[.iface 71 (.agg #[.int .i64 r.x, .int .i64 r.l])] w fun x w' => x = .returned (.string ⟨(recL r).toArray⟩) ∧ Tch (fun _ => False) w w' := by
  have hkr : 1 ≤ r.k ∧ r.k ≤ 9 := by
    rcases cls_rng r.k with h1 | h1
    · rw [hk] at h1; cases h1
    · exact ⟨h1.1, h1.2.1⟩
  have m1 : ∀ (v : Array Value) (W : World), (method 318 71 (.agg v) "confluence/publish.lay").run Tryz.prog W = .ok (107, .agg v) W := fun v W => by kernel_rfl
  have m2 : ∀ (v : Array Value) (W : World), (method 318 71 (.agg v) "confluence/publish.fields").run Tryz.prog W = .ok (105, .agg v) W := fun v W => by kernel_rfl
  have fK := fldK
  have hgl : 0 < w.heap.size := cell_lt hg
  have HF : Hid (∀ W, Calls Tryz.prog 105 #[.agg #[.int .i64 r.x, .int .i64 r.l]] W fun x w' => x = .returned (.agg #[.int .i64 r.k, .int .i64 r.x, .int .i64 r.l, .int .i64 0, .int .i64 0, .int .i64 0, .int .i64 0, .string ⟨#[]⟩, .slice none 0 0, .int .i64 0, .slice none 0 0, .slice none 0 0]) ∧ Tch (fun _ => False) W w') := fun W => fields_1 r s W (cls_k (c := 1) hk (by omega) (by omega))
  have HR : Hid (∀ W, Tch (fun _ => False) w W → RW W F r s ∧ HE W) := fun W t => ⟨h.no t, hg.tch t (fun h => h)⟩
  have HRC : Hid (rightC 1 r) := hr
  have HRL : Hid (recL r = bytesL [r.k] ++ bodyL 1 r) := by show _ = _; unfold recL; rw [hk]; rfl
  clear h hg hk hr
  go_enter Tryz.func16, Tryz.ntmps16
  go_wp2_with fail
  refine (newWriter_any w).mono ?_
  rintro x w1 ⟨rfl, h1, t1, z1⟩
  go_wp2_with fail
  refine (HF.out w1).mono ?_
  rintro x w2 ⟨rfl, t2⟩
  have h2 := h1.tch t2 (fun _ _ _ h => h)
  have T2 : Tch (fun _ => False) w w2 := t1.trans' t2
  clear h1 t1 t2
  go_wp2_with fail
  refine (wbyte1' _ [] r.k _ w2 h2 rfl (by omega) (by omega) (by simp)).mono ?_
  rintro x w3 ⟨rfl, h3, t3⟩
  have hz := T2.size
  have hrw : RW w3 (fun i => w.heap.size ≤ i) r s := (((HR.out w (Tch.refl _ _)).1.low (Nat.le_refl _)).tch (show Tch (fun i => w.heap.size ≤ i) w w3 from (T2.mono (fun _ _ h => h.elim)).trans' (wt_le t3)) (fun i _ h => h))
  have hhe : HE w3 := (HR.out w2 T2).2.tch (wt_le t3) (by omega)
  have q4 := lay_1 w.heap.size _ r s w3 h3 hhe (by omega) hrw HRC.out (by simp [bytesL])
  have T3 : Tch (fun i => w.heap.size ≤ i) w w3 := (T2.mono (fun _ _ h => h.elim)).trans' (wt_le t3)
  clear hrw hhe h2
  go_wp2_with fail
  refine q4.mono ?_
  rintro x w4 ⟨rfl, h4, t4⟩
  clear q4
  have T4 : Tch (fun i => w.heap.size ≤ i) w w4 := T3.trans' (wt_le t4)
  have hhe : HE w4 := (HR.out w (Tch.refl _ _)).2.tch T4 (by omega)
  have q5 := wdone_ok w.heap.size _ w4 h4 hhe
  rw [List.nil_append, ← HRL.out] at q5
  go_wp2_with fail
  refine q5.mono ?_
  rintro x w5 ⟨rfl, t5⟩
  go_wp2_with fail
  go_ret
  exact ⟨rfl, (T4.mono (fun i hi h => by omega)).trans' t5⟩
end Go.Proofs.YteaagnlhkopgdaaGreatDoor.C
namespace Go.Proofs.YteaagnlhkopgdaaGreatDoor.C
open Go.RowKit Go Go.Sort
theorem encB_1 (r : Rc) (s : Sk) (F : Nat → Prop) (w : World) (hg : HE w) (h : RW w F r s) (hk : cls r.k = 1) (d1 d2 : Bool) (hd1 : d1 = true ↔ rightC 1 r) (hd2 : d2 = true ↔ r = cutC 1 r) : Calls Tryz.prog 7 #[rV r s] w fun x w' => x = .returned (.tuple #[.string (if d1 && d2 then ⟨(recL r).toArray⟩ else ⟨#[]⟩), .int .i64 (if d1 && d2 then 0 else 181)]) ∧ Tch (fun _ => False) w w' := by
  obtain ⟨w0, hw0⟩ : ∃ w0, w0 = w.alloc (.cells #[.int .i64 r.k, .int .i64 r.x, .int .i64 r.l, .int .i64 r.e, .int .i64 r.t, .int .i64 r.tb.id, .int .i64 r.tb.ver, .string r.tb.nm, .slice s.co r.tb.cols.length s.cc, .int .i64 r.tb.key, .slice s.oo r.o.length s.oc, .slice s.no r.n.length s.nc] 28) := ⟨_, rfl⟩
  have t0 : Tch (fun _ => False) w w0 := by rw [hw0]; exact Tch.alloc _ _ _
  have b0 : w0.heap[w.heap.size]? = some (.cells #[.int .i64 r.k, .int .i64 r.x, .int .i64 r.l, .int .i64 r.e, .int .i64 r.t, .int .i64 r.tb.id, .int .i64 r.tb.ver, .string r.tb.nm, .slice s.co r.tb.cols.length s.cc, .int .i64 r.tb.key, .slice s.oo r.o.length s.oc, .slice s.no r.n.length s.nc] 28 (0, 0)) := by rw [hw0]; exact heap_new w _
  have q1 := messageOf_any r s w0
  rw [hk] at q1
  have q1 : Calls Tryz.prog 14 #[rV r s] w0 fun x w' => x = .returned (.iface 71 (.agg #[.int .i64 r.x, .int .i64 r.l])) ∧ Tch (fun _ => False) w0 w' := q1
  have HQ1 : Hid (∀ W, Tch (fun _ => False) w W → Calls Tryz.prog 106 #[.agg #[.int .i64 r.x, .int .i64 r.l]] W fun x w' => x = .returned (.bool d1) ∧ Tch (fun _ => False) W w') := fun W t => eqT_d (right_1 r s F W (hg.tch t (fun h => h)) (h.no t)) hd1
  have HQ2 : Hid (∀ W, Calls Tryz.prog 105 #[.agg #[.int .i64 r.x, .int .i64 r.l]] W fun x w' => x = .returned (rV (cutC 1 r) (cutS 1 s)) ∧ Tch (fun _ => False) W w') := fun W => fields_1 r s W (cls_k (c := 1) hk (by omega) (by omega))
  have HQ3 : Hid (∀ W, Tch (fun _ => False) w W → Calls Tryz.prog 15 #[rV r s, rV (cutC 1 r) (cutS 1 s)] W fun x w' => x = .returned (.bool d2) ∧ Tch (fun _ => False) W w') := fun W t => eqT_d (same_r r (cutC 1 r) s (cutS 1 s) F F W (h.no t) ((h.no t).cut 1)) hd2
  have HQ4 : Hid (d1 = true → ∀ W, Tch (fun _ => False) w W → Calls Tryz.prog 16 #[.iface 71 (.agg #[.int .i64 r.x, .int .i64 r.l])] W fun x w' => x = .returned (.string ⟨(recL r).toArray⟩) ∧ Tch (fun _ => False) W w') := fun e W t => laid_1 r s F W (hg.tch t (fun h => h)) (h.no t) hk (hd1.1 e)
  have m1 : ∀ (v : Array Value) (W : World), (method 318 71 (.agg v) "confluence/publish.isRight").run Tryz.prog W = .ok (106, .agg v) W := fun v W => by kernel_rfl
  have m2 : ∀ (v : Array Value) (W : World), (method 318 71 (.agg v) "confluence/publish.fields").run Tryz.prog W = .ok (105, .agg v) W := fun v W => by kernel_rfl
  obtain ⟨V, hV⟩ : ∃ V, V = rV (cutC 1 r) (cutS 1 s) := ⟨_, rfl⟩
  rw [← hV] at HQ2 HQ3
  obtain ⟨RB, hRB⟩ : ∃ RB : ByteArray, RB = ⟨(recL r).toArray⟩ := ⟨_, rfl⟩
  rw [← hRB] at HQ4 ⊢
  rw [hw0] at q1
  have HW0 : Hid (w0 = w.alloc (.cells #[.int .i64 r.k, .int .i64 r.x, .int .i64 r.l, .int .i64 r.e, .int .i64 r.t, .int .i64 r.tb.id, .int .i64 r.tb.ver, .string r.tb.nm, .slice s.co r.tb.cols.length s.cc, .int .i64 r.tb.key, .slice s.oo r.o.length s.oc, .slice s.no r.n.length s.nc] 28)) := hw0
  clear h hg hk hd1 hd2 hV hw0 hRB
  cases d1 <;> cases d2
  all_goals
    go_enter Tryz.func7, Tryz.ntmps7
    go_wp2_with fail
    refine q1.mono ?_
    rintro x w1 ⟨rfl, t1⟩
    rw [← HW0.out] at t1
    have T1 : Tch (fun _ => False) w w1 := t0.trans' t1
    have b1 : w1.heap[w.heap.size]? = some (.cells #[.int .i64 r.k, .int .i64 r.x, .int .i64 r.l, .int .i64 r.e, .int .i64 r.t, .int .i64 r.tb.id, .int .i64 r.tb.ver, .string r.tb.nm, .slice s.co r.tb.cols.length s.cc, .int .i64 r.tb.key, .slice s.oo r.o.length s.oc, .slice s.no r.n.length s.nc] 28 (0, 0)) := (t1.block _ (blk_lt b0) (fun h => h)).trans b0
    have y0 := blk_cell b1 0
    have y1 := blk_cell b1 1
    have y2 := blk_cell b1 2
    have y3 := blk_cell b1 3
    have y4 := blk_cell b1 4
    have y5 := blk_cell b1 5
    have y6 := blk_cell b1 6
    have y7 := blk_cell b1 7
    have y8 := blk_cell b1 8
    have y9 := blk_cell b1 9
    have y10 := blk_cell b1 10
    have y11 := blk_cell b1 11
    simp only [List.getElem?_toArray, List.getElem?_cons_succ, List.getElem?_cons_zero] at y0 y1 y2 y3 y4 y5 y6 y7 y8 y9 y10 y11
    have k0 := cell_regrown y0
    have k1 := cell_regrown y1
    have k2 := cell_regrown y2
    have k3 := cell_regrown y3
    have k4 := cell_regrown y4
    have k5 := cell_regrown y5
    have k6 := cell_regrown y6
    have k7 := cell_regrown y7
    have k8 := cell_regrown y8
    have k9 := cell_regrown y9
    have k10 := cell_regrown y10
    have k11 := cell_regrown y11
    have c1 := fun (d : Nat) (os : Array Obj) => regrown_calls (w := w1) (fun W t => HQ1.out W (T1.trans' t)) d os
    have c2 : ∀ d os, Calls Tryz.prog 105 #[.agg #[.int .i64 r.x, .int .i64 r.l]] (grow (redrawn w1 d) os) fun e w'' => e = .returned V ∧ ∃ p : Regrown, w'' = grow (redrawn w1 p.d) p.os := regrown_calls (fun W _ => HQ2.out W)
    have c3 := fun (d : Nat) (os : Array Obj) => regrown_calls (w := w1) (fun W t => HQ3.out W (T1.trans' t)) d os
    have HT1 : Hid (Tch (fun _ => False) w w1) := T1
    clear b0 b1 t0 t1 T1 q1 HW0 HQ1 HQ2 HQ3
    go_wp2_with fail
    refine wp_region_quiet_below (by kernel_rfl) (by kernel_rfl) ?_
    repeat (quiet_step (first | (go_at_call 106; exact c1 _ _) | (go_at_call 105; exact c2 _ _) | (go_at_call 15; exact c3 _ _)))
    refine wpQuiet_nil ?_
    rintro w2 ⟨p, rfl⟩
    have HE := HT1.out.trans' (Tch.regrown w1 p.d p.os)
    have HE2 : Hid _ := HE
    clear HE
    obtain ⟨W2, hW2⟩ : ∃ W2, W2 = grow (redrawn w1 p.d) p.os := ⟨_, rfl⟩
    rw [← hW2] at HE2 ⊢
    clear hW2 k0 k1 k2 k3 k4 k5 k6 k7 k8 k9 k10 k11 y0 y1 y2 y3 y4 y5 y6 y7 y8 y9 y10 y11 c1 c2 c3
    go_wp2_with fail
    first
      | (go_ret2
         exact ⟨rfl, HE2.out⟩)
      | (refine (HQ4.out (by trivial) W2 HE2.out).mono ?_
         rintro x w3 ⟨rfl, t3⟩
         go_wp2_with fail
         go_ret2
         exact ⟨rfl, HE2.out.trans' t3⟩)
end Go.Proofs.YteaagnlhkopgdaaGreatDoor.C
namespace Go.Proofs.YteaagnlhkopgdaaGreatDoor.C
open Go.RowKit Go Go.Sort
theorem laid_2 (r : Rc) (s : Sk) (F : Nat → Prop) (w : World) (hg : HE w) (h : RW w F r s) (hk : cls r.k = 2) (hr : rightC 2 r) : Calls Tryz.prog 16 #[.iface 73 (.agg #[.int .i64 r.tb.id, .int .i64 r.tb.ver, .string r.tb.nm, .slice s.co r.tb.cols.length s.cc, .int .i64 r.tb.key])] w fun x w' => x = .returned (.string ⟨(recL r).toArray⟩) ∧ Tch (fun _ => False) w w' := by
  have hkr : 1 ≤ r.k ∧ r.k ≤ 9 := by
    rcases cls_rng r.k with h1 | h1
    · rw [hk] at h1; cases h1
    · exact ⟨h1.1, h1.2.1⟩
  have m1 : ∀ (v : Array Value) (W : World), (method 318 73 (.agg v) "confluence/publish.lay").run Tryz.prog W = .ok (118, .agg v) W := fun v W => by kernel_rfl
  have m2 : ∀ (v : Array Value) (W : World), (method 318 73 (.agg v) "confluence/publish.fields").run Tryz.prog W = .ok (116, .agg v) W := fun v W => by kernel_rfl
  have fK := fldK
  have hgl : 0 < w.heap.size := cell_lt hg
  have HF : Hid (∀ W, Calls Tryz.prog 116 #[.agg #[.int .i64 r.tb.id, .int .i64 r.tb.ver, .string r.tb.nm, .slice s.co r.tb.cols.length s.cc, .int .i64 r.tb.key]] W fun x w' => x = .returned (.agg #[.int .i64 r.k, .int .i64 0, .int .i64 0, .int .i64 0, .int .i64 0, .int .i64 r.tb.id, .int .i64 r.tb.ver, .string r.tb.nm, .slice s.co r.tb.cols.length s.cc, .int .i64 r.tb.key, .slice none 0 0, .slice none 0 0]) ∧ Tch (fun _ => False) W w') := fun W => fields_2 r s W (cls_k (c := 2) hk (by omega) (by omega))
  have HR : Hid (∀ W, Tch (fun _ => False) w W → RW W F r s ∧ HE W) := fun W t => ⟨h.no t, hg.tch t (fun h => h)⟩
  have HRC : Hid (rightC 2 r) := hr
  have HRL : Hid (recL r = bytesL [r.k] ++ bodyL 2 r) := by show _ = _; unfold recL; rw [hk]; rfl
  clear h hg hk hr
  go_enter Tryz.func16, Tryz.ntmps16
  go_wp2_with fail
  refine (newWriter_any w).mono ?_
  rintro x w1 ⟨rfl, h1, t1, z1⟩
  go_wp2_with fail
  refine (HF.out w1).mono ?_
  rintro x w2 ⟨rfl, t2⟩
  have h2 := h1.tch t2 (fun _ _ _ h => h)
  have T2 : Tch (fun _ => False) w w2 := t1.trans' t2
  clear h1 t1 t2
  go_wp2_with fail
  refine (wbyte1' _ [] r.k _ w2 h2 rfl (by omega) (by omega) (by simp)).mono ?_
  rintro x w3 ⟨rfl, h3, t3⟩
  have hz := T2.size
  have hrw : RW w3 (fun i => w.heap.size ≤ i) r s := (((HR.out w (Tch.refl _ _)).1.low (Nat.le_refl _)).tch (show Tch (fun i => w.heap.size ≤ i) w w3 from (T2.mono (fun _ _ h => h.elim)).trans' (wt_le t3)) (fun i _ h => h))
  have hhe : HE w3 := (HR.out w2 T2).2.tch (wt_le t3) (by omega)
  have q4 := lay_2 w.heap.size _ r s w3 h3 hhe (by omega) hrw HRC.out (by simp [bytesL])
  have T3 : Tch (fun i => w.heap.size ≤ i) w w3 := (T2.mono (fun _ _ h => h.elim)).trans' (wt_le t3)
  clear hrw hhe h2
  go_wp2_with fail
  refine q4.mono ?_
  rintro x w4 ⟨rfl, h4, t4⟩
  clear q4
  have T4 : Tch (fun i => w.heap.size ≤ i) w w4 := T3.trans' (wt_le t4)
  have hhe : HE w4 := (HR.out w (Tch.refl _ _)).2.tch T4 (by omega)
  have q5 := wdone_ok w.heap.size _ w4 h4 hhe
  rw [List.nil_append, ← HRL.out] at q5
  go_wp2_with fail
  refine q5.mono ?_
  rintro x w5 ⟨rfl, t5⟩
  go_wp2_with fail
  go_ret
  exact ⟨rfl, (T4.mono (fun i hi h => by omega)).trans' t5⟩
end Go.Proofs.YteaagnlhkopgdaaGreatDoor.C
namespace Go.Proofs.YteaagnlhkopgdaaGreatDoor.C
open Go.RowKit Go Go.Sort
theorem encB_2 (r : Rc) (s : Sk) (F : Nat → Prop) (w : World) (hg : HE w) (h : RW w F r s) (hk : cls r.k = 2) (d1 d2 : Bool) (hd1 : d1 = true ↔ rightC 2 r) (hd2 : d2 = true ↔ r = cutC 2 r) : Calls Tryz.prog 7 #[rV r s] w fun x w' => x = .returned (.tuple #[.string (if d1 && d2 then ⟨(recL r).toArray⟩ else ⟨#[]⟩), .int .i64 (if d1 && d2 then 0 else 181)]) ∧ Tch (fun _ => False) w w' := by
  obtain ⟨w0, hw0⟩ : ∃ w0, w0 = w.alloc (.cells #[.int .i64 r.k, .int .i64 r.x, .int .i64 r.l, .int .i64 r.e, .int .i64 r.t, .int .i64 r.tb.id, .int .i64 r.tb.ver, .string r.tb.nm, .slice s.co r.tb.cols.length s.cc, .int .i64 r.tb.key, .slice s.oo r.o.length s.oc, .slice s.no r.n.length s.nc] 28) := ⟨_, rfl⟩
  have t0 : Tch (fun _ => False) w w0 := by rw [hw0]; exact Tch.alloc _ _ _
  have b0 : w0.heap[w.heap.size]? = some (.cells #[.int .i64 r.k, .int .i64 r.x, .int .i64 r.l, .int .i64 r.e, .int .i64 r.t, .int .i64 r.tb.id, .int .i64 r.tb.ver, .string r.tb.nm, .slice s.co r.tb.cols.length s.cc, .int .i64 r.tb.key, .slice s.oo r.o.length s.oc, .slice s.no r.n.length s.nc] 28 (0, 0)) := by rw [hw0]; exact heap_new w _
  have q1 := messageOf_any r s w0
  rw [hk] at q1
  have q1 : Calls Tryz.prog 14 #[rV r s] w0 fun x w' => x = .returned (.iface 73 (.agg #[.int .i64 r.tb.id, .int .i64 r.tb.ver, .string r.tb.nm, .slice s.co r.tb.cols.length s.cc, .int .i64 r.tb.key])) ∧ Tch (fun _ => False) w0 w' := q1
  have HQ1 : Hid (∀ W, Tch (fun _ => False) w W → Calls Tryz.prog 117 #[.agg #[.int .i64 r.tb.id, .int .i64 r.tb.ver, .string r.tb.nm, .slice s.co r.tb.cols.length s.cc, .int .i64 r.tb.key]] W fun x w' => x = .returned (.bool d1) ∧ Tch (fun _ => False) W w') := fun W t => eqT_d (right_2 r s F W (hg.tch t (fun h => h)) (h.no t)) hd1
  have HQ2 : Hid (∀ W, Calls Tryz.prog 116 #[.agg #[.int .i64 r.tb.id, .int .i64 r.tb.ver, .string r.tb.nm, .slice s.co r.tb.cols.length s.cc, .int .i64 r.tb.key]] W fun x w' => x = .returned (rV (cutC 2 r) (cutS 2 s)) ∧ Tch (fun _ => False) W w') := fun W => fields_2 r s W (cls_k (c := 2) hk (by omega) (by omega))
  have HQ3 : Hid (∀ W, Tch (fun _ => False) w W → Calls Tryz.prog 15 #[rV r s, rV (cutC 2 r) (cutS 2 s)] W fun x w' => x = .returned (.bool d2) ∧ Tch (fun _ => False) W w') := fun W t => eqT_d (same_r r (cutC 2 r) s (cutS 2 s) F F W (h.no t) ((h.no t).cut 2)) hd2
  have HQ4 : Hid (d1 = true → ∀ W, Tch (fun _ => False) w W → Calls Tryz.prog 16 #[.iface 73 (.agg #[.int .i64 r.tb.id, .int .i64 r.tb.ver, .string r.tb.nm, .slice s.co r.tb.cols.length s.cc, .int .i64 r.tb.key])] W fun x w' => x = .returned (.string ⟨(recL r).toArray⟩) ∧ Tch (fun _ => False) W w') := fun e W t => laid_2 r s F W (hg.tch t (fun h => h)) (h.no t) hk (hd1.1 e)
  have m1 : ∀ (v : Array Value) (W : World), (method 318 73 (.agg v) "confluence/publish.isRight").run Tryz.prog W = .ok (117, .agg v) W := fun v W => by kernel_rfl
  have m2 : ∀ (v : Array Value) (W : World), (method 318 73 (.agg v) "confluence/publish.fields").run Tryz.prog W = .ok (116, .agg v) W := fun v W => by kernel_rfl
  obtain ⟨V, hV⟩ : ∃ V, V = rV (cutC 2 r) (cutS 2 s) := ⟨_, rfl⟩
  rw [← hV] at HQ2 HQ3
  obtain ⟨RB, hRB⟩ : ∃ RB : ByteArray, RB = ⟨(recL r).toArray⟩ := ⟨_, rfl⟩
  rw [← hRB] at HQ4 ⊢
  rw [hw0] at q1
  have HW0 : Hid (w0 = w.alloc (.cells #[.int .i64 r.k, .int .i64 r.x, .int .i64 r.l, .int .i64 r.e, .int .i64 r.t, .int .i64 r.tb.id, .int .i64 r.tb.ver, .string r.tb.nm, .slice s.co r.tb.cols.length s.cc, .int .i64 r.tb.key, .slice s.oo r.o.length s.oc, .slice s.no r.n.length s.nc] 28)) := hw0
  clear h hg hk hd1 hd2 hV hw0 hRB
  cases d1 <;> cases d2
  all_goals
    go_enter Tryz.func7, Tryz.ntmps7
    go_wp2_with fail
    refine q1.mono ?_
    rintro x w1 ⟨rfl, t1⟩
    rw [← HW0.out] at t1
    have T1 : Tch (fun _ => False) w w1 := t0.trans' t1
    have b1 : w1.heap[w.heap.size]? = some (.cells #[.int .i64 r.k, .int .i64 r.x, .int .i64 r.l, .int .i64 r.e, .int .i64 r.t, .int .i64 r.tb.id, .int .i64 r.tb.ver, .string r.tb.nm, .slice s.co r.tb.cols.length s.cc, .int .i64 r.tb.key, .slice s.oo r.o.length s.oc, .slice s.no r.n.length s.nc] 28 (0, 0)) := (t1.block _ (blk_lt b0) (fun h => h)).trans b0
    have y0 := blk_cell b1 0
    have y1 := blk_cell b1 1
    have y2 := blk_cell b1 2
    have y3 := blk_cell b1 3
    have y4 := blk_cell b1 4
    have y5 := blk_cell b1 5
    have y6 := blk_cell b1 6
    have y7 := blk_cell b1 7
    have y8 := blk_cell b1 8
    have y9 := blk_cell b1 9
    have y10 := blk_cell b1 10
    have y11 := blk_cell b1 11
    simp only [List.getElem?_toArray, List.getElem?_cons_succ, List.getElem?_cons_zero] at y0 y1 y2 y3 y4 y5 y6 y7 y8 y9 y10 y11
    have k0 := cell_regrown y0
    have k1 := cell_regrown y1
    have k2 := cell_regrown y2
    have k3 := cell_regrown y3
    have k4 := cell_regrown y4
    have k5 := cell_regrown y5
    have k6 := cell_regrown y6
    have k7 := cell_regrown y7
    have k8 := cell_regrown y8
    have k9 := cell_regrown y9
    have k10 := cell_regrown y10
    have k11 := cell_regrown y11
    have c1 := fun (d : Nat) (os : Array Obj) => regrown_calls (w := w1) (fun W t => HQ1.out W (T1.trans' t)) d os
    have c2 : ∀ d os, Calls Tryz.prog 116 #[.agg #[.int .i64 r.tb.id, .int .i64 r.tb.ver, .string r.tb.nm, .slice s.co r.tb.cols.length s.cc, .int .i64 r.tb.key]] (grow (redrawn w1 d) os) fun e w'' => e = .returned V ∧ ∃ p : Regrown, w'' = grow (redrawn w1 p.d) p.os := regrown_calls (fun W _ => HQ2.out W)
    have c3 := fun (d : Nat) (os : Array Obj) => regrown_calls (w := w1) (fun W t => HQ3.out W (T1.trans' t)) d os
    have HT1 : Hid (Tch (fun _ => False) w w1) := T1
    clear b0 b1 t0 t1 T1 q1 HW0 HQ1 HQ2 HQ3
    go_wp2_with fail
    refine wp_region_quiet_below (by kernel_rfl) (by kernel_rfl) ?_
    repeat (quiet_step (first | (go_at_call 117; exact c1 _ _) | (go_at_call 116; exact c2 _ _) | (go_at_call 15; exact c3 _ _)))
    refine wpQuiet_nil ?_
    rintro w2 ⟨p, rfl⟩
    have HE := HT1.out.trans' (Tch.regrown w1 p.d p.os)
    have HE2 : Hid _ := HE
    clear HE
    obtain ⟨W2, hW2⟩ : ∃ W2, W2 = grow (redrawn w1 p.d) p.os := ⟨_, rfl⟩
    rw [← hW2] at HE2 ⊢
    clear hW2 k0 k1 k2 k3 k4 k5 k6 k7 k8 k9 k10 k11 y0 y1 y2 y3 y4 y5 y6 y7 y8 y9 y10 y11 c1 c2 c3
    go_wp2_with fail
    first
      | (go_ret2
         exact ⟨rfl, HE2.out⟩)
      | (refine (HQ4.out (by trivial) W2 HE2.out).mono ?_
         rintro x w3 ⟨rfl, t3⟩
         go_wp2_with fail
         go_ret2
         exact ⟨rfl, HE2.out.trans' t3⟩)
end Go.Proofs.YteaagnlhkopgdaaGreatDoor.C
namespace Go.Proofs.YteaagnlhkopgdaaGreatDoor.C
open Go.RowKit Go Go.Sort
theorem laid_3 (r : Rc) (s : Sk) (F : Nat → Prop) (w : World) (hg : HE w) (h : RW w F r s) (hk : cls r.k = 3) (hr : rightC 3 r) : Calls Tryz.prog 16 #[.iface 75 (.agg #[.int .i64 r.t, .slice s.no r.n.length s.nc])] w fun x w' => x = .returned (.string ⟨(recL r).toArray⟩) ∧ Tch (fun _ => False) w w' := by
  have hkr : 1 ≤ r.k ∧ r.k ≤ 9 := by
    rcases cls_rng r.k with h1 | h1
    · rw [hk] at h1; cases h1
    · exact ⟨h1.1, h1.2.1⟩
  have m1 : ∀ (v : Array Value) (W : World), (method 318 75 (.agg v) "confluence/publish.lay").run Tryz.prog W = .ok (142, .agg v) W := fun v W => by kernel_rfl
  have m2 : ∀ (v : Array Value) (W : World), (method 318 75 (.agg v) "confluence/publish.fields").run Tryz.prog W = .ok (140, .agg v) W := fun v W => by kernel_rfl
  have fK := fldK
  have hgl : 0 < w.heap.size := cell_lt hg
  have HF : Hid (∀ W, Calls Tryz.prog 140 #[.agg #[.int .i64 r.t, .slice s.no r.n.length s.nc]] W fun x w' => x = .returned (.agg #[.int .i64 r.k, .int .i64 0, .int .i64 0, .int .i64 0, .int .i64 r.t, .int .i64 0, .int .i64 0, .string ⟨#[]⟩, .slice none 0 0, .int .i64 0, .slice none 0 0, .slice s.no r.n.length s.nc]) ∧ Tch (fun _ => False) W w') := fun W => fields_3 r s W (cls_k (c := 3) hk (by omega) (by omega))
  have HR : Hid (∀ W, Tch (fun _ => False) w W → RW W F r s ∧ HE W) := fun W t => ⟨h.no t, hg.tch t (fun h => h)⟩
  have HRC : Hid (rightC 3 r) := hr
  have HRL : Hid (recL r = bytesL [r.k] ++ bodyL 3 r) := by show _ = _; unfold recL; rw [hk]; rfl
  clear h hg hk hr
  go_enter Tryz.func16, Tryz.ntmps16
  go_wp2_with fail
  refine (newWriter_any w).mono ?_
  rintro x w1 ⟨rfl, h1, t1, z1⟩
  go_wp2_with fail
  refine (HF.out w1).mono ?_
  rintro x w2 ⟨rfl, t2⟩
  have h2 := h1.tch t2 (fun _ _ _ h => h)
  have T2 : Tch (fun _ => False) w w2 := t1.trans' t2
  clear h1 t1 t2
  go_wp2_with fail
  refine (wbyte1' _ [] r.k _ w2 h2 rfl (by omega) (by omega) (by simp)).mono ?_
  rintro x w3 ⟨rfl, h3, t3⟩
  have hz := T2.size
  have hrw : RW w3 (fun i => w.heap.size ≤ i) r s := (((HR.out w (Tch.refl _ _)).1.low (Nat.le_refl _)).tch (show Tch (fun i => w.heap.size ≤ i) w w3 from (T2.mono (fun _ _ h => h.elim)).trans' (wt_le t3)) (fun i _ h => h))
  have hhe : HE w3 := (HR.out w2 T2).2.tch (wt_le t3) (by omega)
  have q4 := lay_3 w.heap.size _ r s w3 h3 hhe (by omega) hrw HRC.out (by simp [bytesL])
  have T3 : Tch (fun i => w.heap.size ≤ i) w w3 := (T2.mono (fun _ _ h => h.elim)).trans' (wt_le t3)
  clear hrw hhe h2
  go_wp2_with fail
  refine q4.mono ?_
  rintro x w4 ⟨rfl, h4, t4⟩
  clear q4
  have T4 : Tch (fun i => w.heap.size ≤ i) w w4 := T3.trans' (wt_le t4)
  have hhe : HE w4 := (HR.out w (Tch.refl _ _)).2.tch T4 (by omega)
  have q5 := wdone_ok w.heap.size _ w4 h4 hhe
  rw [List.nil_append, ← HRL.out] at q5
  go_wp2_with fail
  refine q5.mono ?_
  rintro x w5 ⟨rfl, t5⟩
  go_wp2_with fail
  go_ret
  exact ⟨rfl, (T4.mono (fun i hi h => by omega)).trans' t5⟩
end Go.Proofs.YteaagnlhkopgdaaGreatDoor.C
