import Derived.Test.YteaagnlhkopgdaaGreatDoorRV3
import Derived.Test.YteaagnlhkopgdaaGreatDoorRS0
import Derived.Test.YteaagnlhkopgdaaGreatDoorCCat
set_option maxHeartbeats 4000000
set_option maxRecDepth 100000
namespace Go.Proofs.YteaagnlhkopgdaaGreatDoor.C
open Go.RowKit
theorem right_1 (r : Rc) (s : Sk) (F : Nat → Prop) (w : World) (_hg : HE w) (_h : RW w F r s) : Calls Tryz.prog 106 #[.agg #[.int .i64 r.x, .int .i64 r.l]] w fun x w' => EqT (rightC 1 r) w x w' := by
  have HK : Hid (∀ W, Tch (fun _ => False) (w.alloc (.cells #[.int .i64 r.x, .int .i64 r.l] 71)) W → W.cell? ⟨w.heap.size, 0, none⟩ = some (.int .i64 r.x) ∧ W.cell? ⟨w.heap.size, 1, none⟩ = some (.int .i64 r.l)) := fun W t => ⟨(t.cell (p := ⟨_, _, none⟩) (by simp) (fun h => h)).trans (by simp), (t.cell (p := ⟨_, _, none⟩) (by simp) (fun h => h)).trans (by simp)⟩
  have Q1 : Hid (∀ W, Tch (fun _ => False) w W → Calls Tryz.prog 109 #[.int .i64 r.x] W fun x w' => x = .returned (.bool (decide (rtN r.x))) ∧ Tch (fun _ => False) W w') := fun W _ => (isNumber_any r.x W).mono (fun x w1 h => ⟨h.1, by rw [h.2]; exact Tch.refl _ _⟩)
  obtain ⟨d1, hd1⟩ : ∃ d, d = decide (rtN r.x) := ⟨_, rfl⟩
  have H1 : Hid (d1 = true ↔ rtN r.x) := by rw [hd1]; exact decide_eq_true_iff
  rw [← hd1] at Q1
  clear hd1
  have Q2 : Hid (∀ W, Tch (fun _ => False) w W → Calls Tryz.prog 110 #[.int .i64 r.l] W fun x w' => x = .returned (.bool (decide (rtP r.l))) ∧ Tch (fun _ => False) W w') := fun W _ => (isPosition_any r.l W).mono (fun x w1 h => ⟨h.1, by rw [h.2]; exact Tch.refl _ _⟩)
  obtain ⟨d2, hd2⟩ : ∃ d, d = decide (rtP r.l) := ⟨_, rfl⟩
  have H2 : Hid (d2 = true ↔ rtP r.l) := by rw [hd2]; exact decide_eq_true_iff
  rw [← hd2] at Q2
  clear hd2
  cases d1
  · go_enter Tryz.func106, Tryz.ntmps106
    go_wp2_with fail
    refine (Q1.out _ (Tch.alloc _ _ _)).mono ?_
    rintro x w1 ⟨rfl, t1⟩
    have T1 : Tch (fun _ => False) w w1 := (Tch.alloc _ _ _).trans' t1
    obtain ⟨y0, y1⟩ := HK.out w1 (t1)
    go_wp2_with fail
    go_ret
    exact eqT_no (fun e => by have := H1.out.2 e.1; simp at this) T1
  · skip
    cases d2
    · go_enter Tryz.func106, Tryz.ntmps106
      go_wp2_with fail
      refine (Q1.out _ (Tch.alloc _ _ _)).mono ?_
      rintro x w1 ⟨rfl, t1⟩
      have T1 : Tch (fun _ => False) w w1 := (Tch.alloc _ _ _).trans' t1
      obtain ⟨y0, y1⟩ := HK.out w1 (t1)
      go_wp2_with fail
      refine (Q2.out _ T1).mono ?_
      rintro x w2 ⟨rfl, t2⟩
      have T2 : Tch (fun _ => False) w w2 := T1.trans' t2
      go_wp2_with fail
      go_ret
      exact eqT_no (fun e => by have := H2.out.2 e.2; simp at this) T2
    · go_enter Tryz.func106, Tryz.ntmps106
      go_wp2_with fail
      refine (Q1.out _ (Tch.alloc _ _ _)).mono ?_
      rintro x w1 ⟨rfl, t1⟩
      have T1 : Tch (fun _ => False) w w1 := (Tch.alloc _ _ _).trans' t1
      obtain ⟨y0, y1⟩ := HK.out w1 (t1)
      go_wp2_with fail
      refine (Q2.out _ T1).mono ?_
      rintro x w2 ⟨rfl, t2⟩
      have T2 : Tch (fun _ => False) w w2 := T1.trans' t2
      go_wp2_with fail
      go_ret
      exact ⟨true, rfl, ⟨fun _ => ⟨H1.out.1 (by trivial), H2.out.1 (by trivial)⟩, fun _ => rfl⟩, T2⟩
theorem right_3 (r : Rc) (s : Sk) (F : Nat → Prop) (w : World) (hg : HE w) (h : RW w F r s) : Calls Tryz.prog 141 #[.agg #[.int .i64 r.t, .slice s.no r.n.length s.nc]] w fun x w' => EqT (rightC 3 r) w x w' := by
  have HK : Hid (∀ W, Tch (fun _ => False) (w.alloc (.cells #[.int .i64 r.t, .slice s.no r.n.length s.nc] 75)) W → W.cell? ⟨w.heap.size, 0, none⟩ = some (.int .i64 r.t) ∧ W.cell? ⟨w.heap.size, 1, none⟩ = some (.slice s.no r.n.length s.nc)) := fun W t => ⟨(t.cell (p := ⟨_, _, none⟩) (by simp) (fun h => h)).trans (by simp), (t.cell (p := ⟨_, _, none⟩) (by simp) (fun h => h)).trans (by simp)⟩
  have Q1 : Hid (∀ W, Tch (fun _ => False) w W → Calls Tryz.prog 109 #[.int .i64 r.t] W fun x w' => x = .returned (.bool (decide (rtN r.t))) ∧ Tch (fun _ => False) W w') := fun W _ => (isNumber_any r.t W).mono (fun x w1 h => ⟨h.1, by rw [h.2]; exact Tch.refl _ _⟩)
  obtain ⟨d1, hd1⟩ : ∃ d, d = decide (rtN r.t) := ⟨_, rfl⟩
  have H1 : Hid (d1 = true ↔ rtN r.t) := by rw [hd1]; exact decide_eq_true_iff
  rw [← hd1] at Q1
  clear hd1
  have Q2 : Hid (∀ W, Tch (fun _ => False) w W → Calls Tryz.prog 144 #[.slice s.no r.n.length s.nc] W fun x w' => x = .returned (.bool (decide (rtRow r.n))) ∧ Tch (fun _ => False) W w') := fun W t => isRow_any r.n s.no s.nc W (hg.tch t (fun h => h)) ((h.no t).n) h.ni h.nl
  obtain ⟨d2, hd2⟩ : ∃ d, d = decide (rtRow r.n) := ⟨_, rfl⟩
  have H2 : Hid (d2 = true ↔ rtRow r.n) := by rw [hd2]; exact decide_eq_true_iff
  rw [← hd2] at Q2
  clear hd2
  clear h hg
  cases d1
  · go_enter Tryz.func141, Tryz.ntmps141
    go_wp2_with fail
    refine (Q1.out _ (Tch.alloc _ _ _)).mono ?_
    rintro x w1 ⟨rfl, t1⟩
    have T1 : Tch (fun _ => False) w w1 := (Tch.alloc _ _ _).trans' t1
    obtain ⟨y0, y1⟩ := HK.out w1 (t1)
    go_wp2_with fail
    go_ret
    exact eqT_no (fun e => by have := H1.out.2 e.1; simp at this) T1
  · skip
    cases d2
    · go_enter Tryz.func141, Tryz.ntmps141
      go_wp2_with fail
      refine (Q1.out _ (Tch.alloc _ _ _)).mono ?_
      rintro x w1 ⟨rfl, t1⟩
      have T1 : Tch (fun _ => False) w w1 := (Tch.alloc _ _ _).trans' t1
      obtain ⟨y0, y1⟩ := HK.out w1 (t1)
      go_wp2_with fail
      refine (Q2.out _ T1).mono ?_
      rintro x w2 ⟨rfl, t2⟩
      have T2 : Tch (fun _ => False) w w2 := T1.trans' t2
      go_wp2_with fail
      go_ret
      exact eqT_no (fun e => by have := H2.out.2 e.2; simp at this) T2
    · go_enter Tryz.func141, Tryz.ntmps141
      go_wp2_with fail
      refine (Q1.out _ (Tch.alloc _ _ _)).mono ?_
      rintro x w1 ⟨rfl, t1⟩
      have T1 : Tch (fun _ => False) w w1 := (Tch.alloc _ _ _).trans' t1
      obtain ⟨y0, y1⟩ := HK.out w1 (t1)
      go_wp2_with fail
      refine (Q2.out _ T1).mono ?_
      rintro x w2 ⟨rfl, t2⟩
      have T2 : Tch (fun _ => False) w w2 := T1.trans' t2
      go_wp2_with fail
      go_ret
      exact ⟨true, rfl, ⟨fun _ => ⟨H1.out.1 (by trivial), H2.out.1 (by trivial)⟩, fun _ => rfl⟩, T2⟩
theorem right_4 (r : Rc) (s : Sk) (F : Nat → Prop) (w : World) (hg : HE w) (h : RW w F r s) : Calls Tryz.prog 159 #[.agg #[.int .i64 r.t, .slice s.oo r.o.length s.oc, .slice s.no r.n.length s.nc]] w fun x w' => EqT (rightC 4 r) w x w' := by
  have HK : Hid (∀ W, Tch (fun _ => False) (w.alloc (.cells #[.int .i64 r.t, .slice s.oo r.o.length s.oc, .slice s.no r.n.length s.nc] 77)) W → W.cell? ⟨w.heap.size, 0, none⟩ = some (.int .i64 r.t) ∧ W.cell? ⟨w.heap.size, 1, none⟩ = some (.slice s.oo r.o.length s.oc) ∧ W.cell? ⟨w.heap.size, 2, none⟩ = some (.slice s.no r.n.length s.nc)) := fun W t => ⟨(t.cell (p := ⟨_, _, none⟩) (by simp) (fun h => h)).trans (by simp), (t.cell (p := ⟨_, _, none⟩) (by simp) (fun h => h)).trans (by simp), (t.cell (p := ⟨_, _, none⟩) (by simp) (fun h => h)).trans (by simp)⟩
  have Q1 : Hid (∀ W, Tch (fun _ => False) w W → Calls Tryz.prog 109 #[.int .i64 r.t] W fun x w' => x = .returned (.bool (decide (rtN r.t))) ∧ Tch (fun _ => False) W w') := fun W _ => (isNumber_any r.t W).mono (fun x w1 h => ⟨h.1, by rw [h.2]; exact Tch.refl _ _⟩)
  obtain ⟨d1, hd1⟩ : ∃ d, d = decide (rtN r.t) := ⟨_, rfl⟩
  have H1 : Hid (d1 = true ↔ rtN r.t) := by rw [hd1]; exact decide_eq_true_iff
  rw [← hd1] at Q1
  clear hd1
  have Q2 : Hid (∀ W, Tch (fun _ => False) w W → Calls Tryz.prog 144 #[.slice s.oo r.o.length s.oc] W fun x w' => x = .returned (.bool (decide (rtRow r.o))) ∧ Tch (fun _ => False) W w') := fun W t => isRow_any r.o s.oo s.oc W (hg.tch t (fun h => h)) ((h.no t).o) h.oi h.ol
  obtain ⟨d2, hd2⟩ : ∃ d, d = decide (rtRow r.o) := ⟨_, rfl⟩
  have H2 : Hid (d2 = true ↔ rtRow r.o) := by rw [hd2]; exact decide_eq_true_iff
  rw [← hd2] at Q2
  clear hd2
  have Q3 : Hid (∀ W, Tch (fun _ => False) w W → Calls Tryz.prog 144 #[.slice s.no r.n.length s.nc] W fun x w' => x = .returned (.bool (decide (rtRow r.n))) ∧ Tch (fun _ => False) W w') := fun W t => isRow_any r.n s.no s.nc W (hg.tch t (fun h => h)) ((h.no t).n) h.ni h.nl
  obtain ⟨d3, hd3⟩ : ∃ d, d = decide (rtRow r.n) := ⟨_, rfl⟩
  have H3 : Hid (d3 = true ↔ rtRow r.n) := by rw [hd3]; exact decide_eq_true_iff
  rw [← hd3] at Q3
  clear hd3
  clear h hg
  cases d1
  · go_enter Tryz.func159, Tryz.ntmps159
    go_wp2_with fail
    refine (Q1.out _ (Tch.alloc _ _ _)).mono ?_
    rintro x w1 ⟨rfl, t1⟩
    have T1 : Tch (fun _ => False) w w1 := (Tch.alloc _ _ _).trans' t1
    obtain ⟨y0, y1, y2⟩ := HK.out w1 (t1)
    go_wp2_with fail
    go_ret
    exact eqT_no (fun e => by have := H1.out.2 e.1; simp at this) T1
  · skip
    cases d2
    · go_enter Tryz.func159, Tryz.ntmps159
      go_wp2_with fail
      refine (Q1.out _ (Tch.alloc _ _ _)).mono ?_
      rintro x w1 ⟨rfl, t1⟩
      have T1 : Tch (fun _ => False) w w1 := (Tch.alloc _ _ _).trans' t1
      obtain ⟨y0, y1, y2⟩ := HK.out w1 (t1)
      go_wp2_with fail
      refine (Q2.out _ T1).mono ?_
      rintro x w2 ⟨rfl, t2⟩
      have T2 : Tch (fun _ => False) w w2 := T1.trans' t2
      obtain ⟨y0, y1, y2⟩ := HK.out w2 (t1.trans' t2)
      go_wp2_with fail
      go_ret
      exact eqT_no (fun e => by have := H2.out.2 e.2.1; simp at this) T2
    · skip
      cases d3
      · go_enter Tryz.func159, Tryz.ntmps159
        go_wp2_with fail
        refine (Q1.out _ (Tch.alloc _ _ _)).mono ?_
        rintro x w1 ⟨rfl, t1⟩
        have T1 : Tch (fun _ => False) w w1 := (Tch.alloc _ _ _).trans' t1
        obtain ⟨y0, y1, y2⟩ := HK.out w1 (t1)
        go_wp2_with fail
        refine (Q2.out _ T1).mono ?_
        rintro x w2 ⟨rfl, t2⟩
        have T2 : Tch (fun _ => False) w w2 := T1.trans' t2
        obtain ⟨y0, y1, y2⟩ := HK.out w2 (t1.trans' t2)
        go_wp2_with fail
        refine (Q3.out _ T2).mono ?_
        rintro x w3 ⟨rfl, t3⟩
        have T3 : Tch (fun _ => False) w w3 := T2.trans' t3
        go_wp2_with fail
        go_ret
        exact eqT_no (fun e => by have := H3.out.2 e.2.2; simp at this) T3
      · go_enter Tryz.func159, Tryz.ntmps159
        go_wp2_with fail
        refine (Q1.out _ (Tch.alloc _ _ _)).mono ?_
        rintro x w1 ⟨rfl, t1⟩
        have T1 : Tch (fun _ => False) w w1 := (Tch.alloc _ _ _).trans' t1
        obtain ⟨y0, y1, y2⟩ := HK.out w1 (t1)
        go_wp2_with fail
        refine (Q2.out _ T1).mono ?_
        rintro x w2 ⟨rfl, t2⟩
        have T2 : Tch (fun _ => False) w w2 := T1.trans' t2
        obtain ⟨y0, y1, y2⟩ := HK.out w2 (t1.trans' t2)
        go_wp2_with fail
        refine (Q3.out _ T2).mono ?_
        rintro x w3 ⟨rfl, t3⟩
        have T3 : Tch (fun _ => False) w w3 := T2.trans' t3
        go_wp2_with fail
        go_ret
        exact ⟨true, rfl, ⟨fun _ => ⟨H1.out.1 (by trivial), H2.out.1 (by trivial), H3.out.1 (by trivial)⟩, fun _ => rfl⟩, T3⟩
theorem right_5 (r : Rc) (s : Sk) (F : Nat → Prop) (w : World) (hg : HE w) (h : RW w F r s) : Calls Tryz.prog 163 #[.agg #[.int .i64 r.t, .slice s.oo r.o.length s.oc]] w fun x w' => EqT (rightC 5 r) w x w' := by
  have HK : Hid (∀ W, Tch (fun _ => False) (w.alloc (.cells #[.int .i64 r.t, .slice s.oo r.o.length s.oc] 78)) W → W.cell? ⟨w.heap.size, 0, none⟩ = some (.int .i64 r.t) ∧ W.cell? ⟨w.heap.size, 1, none⟩ = some (.slice s.oo r.o.length s.oc)) := fun W t => ⟨(t.cell (p := ⟨_, _, none⟩) (by simp) (fun h => h)).trans (by simp), (t.cell (p := ⟨_, _, none⟩) (by simp) (fun h => h)).trans (by simp)⟩
  have Q1 : Hid (∀ W, Tch (fun _ => False) w W → Calls Tryz.prog 109 #[.int .i64 r.t] W fun x w' => x = .returned (.bool (decide (rtN r.t))) ∧ Tch (fun _ => False) W w') := fun W _ => (isNumber_any r.t W).mono (fun x w1 h => ⟨h.1, by rw [h.2]; exact Tch.refl _ _⟩)
  obtain ⟨d1, hd1⟩ : ∃ d, d = decide (rtN r.t) := ⟨_, rfl⟩
  have H1 : Hid (d1 = true ↔ rtN r.t) := by rw [hd1]; exact decide_eq_true_iff
  rw [← hd1] at Q1
  clear hd1
  have Q2 : Hid (∀ W, Tch (fun _ => False) w W → Calls Tryz.prog 144 #[.slice s.oo r.o.length s.oc] W fun x w' => x = .returned (.bool (decide (rtRow r.o))) ∧ Tch (fun _ => False) W w') := fun W t => isRow_any r.o s.oo s.oc W (hg.tch t (fun h => h)) ((h.no t).o) h.oi h.ol
  obtain ⟨d2, hd2⟩ : ∃ d, d = decide (rtRow r.o) := ⟨_, rfl⟩
  have H2 : Hid (d2 = true ↔ rtRow r.o) := by rw [hd2]; exact decide_eq_true_iff
  rw [← hd2] at Q2
  clear hd2
  clear h hg
  cases d1
  · go_enter Tryz.func163, Tryz.ntmps163
    go_wp2_with fail
    refine (Q1.out _ (Tch.alloc _ _ _)).mono ?_
    rintro x w1 ⟨rfl, t1⟩
    have T1 : Tch (fun _ => False) w w1 := (Tch.alloc _ _ _).trans' t1
    obtain ⟨y0, y1⟩ := HK.out w1 (t1)
    go_wp2_with fail
    go_ret
    exact eqT_no (fun e => by have := H1.out.2 e.1; simp at this) T1
  · skip
    cases d2
    · go_enter Tryz.func163, Tryz.ntmps163
      go_wp2_with fail
      refine (Q1.out _ (Tch.alloc _ _ _)).mono ?_
      rintro x w1 ⟨rfl, t1⟩
      have T1 : Tch (fun _ => False) w w1 := (Tch.alloc _ _ _).trans' t1
      obtain ⟨y0, y1⟩ := HK.out w1 (t1)
      go_wp2_with fail
      refine (Q2.out _ T1).mono ?_
      rintro x w2 ⟨rfl, t2⟩
      have T2 : Tch (fun _ => False) w w2 := T1.trans' t2
      go_wp2_with fail
      go_ret
      exact eqT_no (fun e => by have := H2.out.2 e.2; simp at this) T2
    · go_enter Tryz.func163, Tryz.ntmps163
      go_wp2_with fail
      refine (Q1.out _ (Tch.alloc _ _ _)).mono ?_
      rintro x w1 ⟨rfl, t1⟩
      have T1 : Tch (fun _ => False) w w1 := (Tch.alloc _ _ _).trans' t1
      obtain ⟨y0, y1⟩ := HK.out w1 (t1)
      go_wp2_with fail
      refine (Q2.out _ T1).mono ?_
      rintro x w2 ⟨rfl, t2⟩
      have T2 : Tch (fun _ => False) w w2 := T1.trans' t2
      go_wp2_with fail
      go_ret
      exact ⟨true, rfl, ⟨fun _ => ⟨H1.out.1 (by trivial), H2.out.1 (by trivial)⟩, fun _ => rfl⟩, T2⟩
theorem right_6 (r : Rc) (s : Sk) (F : Nat → Prop) (w : World) (_hg : HE w) (_h : RW w F r s) : Calls Tryz.prog 167 #[.agg #[.int .i64 r.t]] w fun x w' => EqT (rightC 6 r) w x w' := by
  have _HK : Hid (∀ W, Tch (fun _ => False) (w.alloc (.cells #[.int .i64 r.t] 80)) W → W.cell? ⟨w.heap.size, 0, none⟩ = some (.int .i64 r.t)) := fun W t => (t.cell (p := ⟨_, _, none⟩) (by simp) (fun h => h)).trans (by simp)
  have Q1 : Hid (∀ W, Tch (fun _ => False) w W → Calls Tryz.prog 109 #[.int .i64 r.t] W fun x w' => x = .returned (.bool (decide (rtN r.t))) ∧ Tch (fun _ => False) W w') := fun W _ => (isNumber_any r.t W).mono (fun x w1 h => ⟨h.1, by rw [h.2]; exact Tch.refl _ _⟩)
  obtain ⟨d1, hd1⟩ : ∃ d, d = decide (rtN r.t) := ⟨_, rfl⟩
  have H1 : Hid (d1 = true ↔ rtN r.t) := by rw [hd1]; exact decide_eq_true_iff
  rw [← hd1] at Q1
  clear hd1
  cases d1
  · go_enter Tryz.func167, Tryz.ntmps167
    go_wp2_with fail
    refine (Q1.out _ (Tch.alloc _ _ _)).mono ?_
    rintro x w1 ⟨rfl, t1⟩
    have T1 : Tch (fun _ => False) w w1 := (Tch.alloc _ _ _).trans' t1
    go_wp2_with fail
    go_ret
    exact eqT_no (fun e => by have := H1.out.2 e; simp at this) T1
  · go_enter Tryz.func167, Tryz.ntmps167
    go_wp2_with fail
    refine (Q1.out _ (Tch.alloc _ _ _)).mono ?_
    rintro x w1 ⟨rfl, t1⟩
    have T1 : Tch (fun _ => False) w w1 := (Tch.alloc _ _ _).trans' t1
    go_wp2_with fail
    go_ret
    exact ⟨true, rfl, ⟨fun _ => H1.out.1 (by trivial), fun _ => rfl⟩, T1⟩
theorem right_8 (r : Rc) (s : Sk) (F : Nat → Prop) (w : World) (_hg : HE w) (_h : RW w F r s) : Calls Tryz.prog 175 #[.agg #[.int .i64 r.k, .int .i64 r.l]] w fun x w' => EqT (rightC 8 r) w x w' := by
  have _HK : Hid (∀ W, Tch (fun _ => False) (w.alloc (.cells #[.int .i64 r.k, .int .i64 r.l] 84)) W → W.cell? ⟨w.heap.size, 0, none⟩ = some (.int .i64 r.k) ∧ W.cell? ⟨w.heap.size, 1, none⟩ = some (.int .i64 r.l)) := fun W t => ⟨(t.cell (p := ⟨_, _, none⟩) (by simp) (fun h => h)).trans (by simp), (t.cell (p := ⟨_, _, none⟩) (by simp) (fun h => h)).trans (by simp)⟩
  have Q1 : Hid (∀ W, Tch (fun _ => False) w W → Calls Tryz.prog 110 #[.int .i64 r.l] W fun x w' => x = .returned (.bool (decide (rtP r.l))) ∧ Tch (fun _ => False) W w') := fun W _ => (isPosition_any r.l W).mono (fun x w1 h => ⟨h.1, by rw [h.2]; exact Tch.refl _ _⟩)
  obtain ⟨d1, hd1⟩ : ∃ d, d = decide (rtP r.l) := ⟨_, rfl⟩
  have H1 : Hid (d1 = true ↔ rtP r.l) := by rw [hd1]; exact decide_eq_true_iff
  rw [← hd1] at Q1
  clear hd1
  cases d1
  · go_enter Tryz.func175, Tryz.ntmps175
    go_wp2_with fail
    refine (Q1.out _ (Tch.alloc _ _ _)).mono ?_
    rintro x w1 ⟨rfl, t1⟩
    have T1 : Tch (fun _ => False) w w1 := (Tch.alloc _ _ _).trans' t1
    go_wp2_with fail
    go_ret
    exact eqT_no (fun e => by have := H1.out.2 e; simp at this) T1
  · go_enter Tryz.func175, Tryz.ntmps175
    go_wp2_with fail
    refine (Q1.out _ (Tch.alloc _ _ _)).mono ?_
    rintro x w1 ⟨rfl, t1⟩
    have T1 : Tch (fun _ => False) w w1 := (Tch.alloc _ _ _).trans' t1
    go_wp2_with fail
    go_ret
    exact ⟨true, rfl, ⟨fun _ => H1.out.1 (by trivial), fun _ => rfl⟩, T1⟩
theorem right_2 (r : Rc) (s : Sk) (F : Nat → Prop) (w : World) (_hg : HE w) (h : RW w F r s) : Calls Tryz.prog 117 #[.agg #[.int .i64 r.tb.id, .int .i64 r.tb.ver, .string r.tb.nm, .slice s.co r.tb.cols.length s.cc, .int .i64 r.tb.key]] w fun x w' => EqT (rightC 2 r) w x w' := by
  have HQ2 : Hid (∀ W, Tch (fun _ => False) w W → Calls Tryz.prog 120 #[tA r.tb.id r.tb.ver r.tb.nm (.slice s.co r.tb.cols.length s.cc) r.tb.key] W fun x w' => x = .returned (.int .i64 (rightE r.tb)) ∧ Tch (fun _ => False) W w') := fun W t => right_any r.tb s.co s.cc W ((h.no t).tb.sl) h.tb.cap h.cl
  obtain ⟨E, hE⟩ : ∃ E, E = rightE r.tb := ⟨_, rfl⟩
  have HE : Hid (E = rightE r.tb) := hE
  rw [← hE] at HQ2
  obtain ⟨n, hn⟩ : ∃ n, n = r.tb.cols.length := ⟨_, rfl⟩
  rw [← hn] at HQ2 ⊢
  clear h _hg hE hn
  by_cases hE0 : E = 0
  · have hE1 : (E == 0) = true := int_eq' hE0
    go_enter Tryz.func117, Tryz.ntmps117
    go_wp2_with fail
    refine (HQ2.out _ (Tch.alloc _ _ _)).mono ?_
    rintro x w1 ⟨rfl, t1⟩
    go_wp2_with fail
    go_ret
    exact ⟨true, rfl, ⟨fun _ => HE.out.symm.trans hE0, fun _ => rfl⟩, (Tch.alloc _ _ _).trans' t1⟩
  · have hE1 : (E == 0) = false := int_ne hE0
    go_enter Tryz.func117, Tryz.ntmps117
    go_wp2_with fail
    refine (HQ2.out _ (Tch.alloc _ _ _)).mono ?_
    rintro x w1 ⟨rfl, t1⟩
    go_wp2_with fail
    go_ret
    exact eqT_no (fun e => hE0 (HE.out.trans e)) ((Tch.alloc _ _ _).trans' t1)
theorem right_7 (r : Rc) (s : Sk) (F : Nat → Prop) (w : World) (hg : HE w) (h : RW w F r s) : Calls Tryz.prog 171 #[.agg #[.int .i64 r.x, .int .i64 r.l, .int .i64 r.e]] w fun x w' => EqT (rightC 7 r) w x w' := by
  have HK : Hid (∀ W, Tch (fun _ => False) (w.alloc (.cells #[.int .i64 r.x, .int .i64 r.l, .int .i64 r.e] 82)) W → W.cell? ⟨w.heap.size, 0, none⟩ = some (.int .i64 r.x) ∧ W.cell? ⟨w.heap.size, 1, none⟩ = some (.int .i64 r.l) ∧ W.cell? ⟨w.heap.size, 2, none⟩ = some (.int .i64 r.e)) := fun W t => ⟨(t.cell (p := ⟨_, _, none⟩) (by simp) (fun h => h)).trans (by simp), (t.cell (p := ⟨_, _, none⟩) (by simp) (fun h => h)).trans (by simp), (t.cell (p := ⟨_, _, none⟩) (by simp) (fun h => h)).trans (by simp)⟩
  have Q1 : Hid (∀ W, Tch (fun _ => False) w W → Calls Tryz.prog 106 #[.agg #[.int .i64 r.x, .int .i64 r.l]] W fun x w' => EqT (rightC 1 r) W x w') := fun W t => right_1 r s F W (hg.tch t (fun h => h)) (h.no t)
  have Q2 : Hid (∀ W, Calls Tryz.prog 110 #[.int .i64 r.e] W fun x w' => x = .returned (.bool (decide (rtP r.e))) ∧ w' = W) := fun W => isPosition_any r.e W
  obtain ⟨d2, hd2⟩ : ∃ d, d = decide (rtP r.e) := ⟨_, rfl⟩
  have H2 : Hid (d2 = true ↔ rtP r.e) := by rw [hd2]; exact decide_eq_true_iff
  rw [← hd2] at Q2
  clear hd2 h hg
  go_enter Tryz.func171, Tryz.ntmps171
  go_wp2_with fail
  refine (Q1.out _ (Tch.alloc _ _ _)).mono ?_
  rintro x w1 ⟨d1, rfl, h1, t1⟩
  have H1 : Hid (d1 = true ↔ rightC 1 r) := h1
  have T1 : Tch (fun _ => False) w w1 := (Tch.alloc _ _ _).trans' t1
  obtain ⟨y0, y1, y2⟩ := HK.out w1 t1
  clear h1 t1
  cases d1
  · go_wp2_with fail
    go_ret
    exact eqT_no (fun e => by have := H1.out.2 e.1; simp at this) T1
  · go_wp2_with fail
    refine (Q2.out _).mono ?_
    rintro x w2 ⟨rfl, rfl⟩
    cases d2
    · go_wp2_with fail
      go_ret
      exact eqT_no (fun e => by have := H2.out.2 e.2.1; simp at this) T1
    · go_wp2_with fail
      go_ret
      exact ⟨decide (r.l < r.e), rfl, ⟨fun h => ⟨H1.out.1 (by trivial), H2.out.1 (by trivial), of_decide_eq_true h⟩, fun e => decide_eq_true (by have e : (rtN r.x ∧ rtP r.l) ∧ rtP r.e ∧ r.l < r.e := e; exact e.2.2)⟩, T1⟩
end Go.Proofs.YteaagnlhkopgdaaGreatDoor.C
namespace Go.Proofs.YteaagnlhkopgdaaGreatDoor.C
open Go.RowKit
theorem fields_1 (r : Rc) (s : Sk) (w : World) (hk : r.k = 1) : Calls Tryz.prog 105 #[.agg #[.int .i64 r.x, .int .i64 r.l]] w fun x w' => x = .returned (rV (cutC 1 r) (cutS 1 s)) ∧ Tch (fun _ => False) w w' := by
  obtain ⟨k, rx, rl, re, rt, rb, ro, rn⟩ := r
  simp only at hk
  subst hk
  go_enter Tryz.func105, Tryz.ntmps105
  go_wp2_with fail
  have hrs : Tryz.f105.results = #[.cell 2 28] := by kernel_rfl
  refine bodyPost_ret (v := rV (cutC 1 ⟨1, rx, rl, re, rt, rb, ro, rn⟩) (cutS 1 s)) (by simp only [results, hrs]; go_simp; (repeat' apply And.intro) <;> rfl) rfl ⟨rfl, ?_⟩
  exact (Tch.alloc _ _ _).allocR _
theorem fields_2 (r : Rc) (s : Sk) (w : World) (hk : r.k = 2) : Calls Tryz.prog 116 #[.agg #[.int .i64 r.tb.id, .int .i64 r.tb.ver, .string r.tb.nm, .slice s.co r.tb.cols.length s.cc, .int .i64 r.tb.key]] w fun x w' => x = .returned (rV (cutC 2 r) (cutS 2 s)) ∧ Tch (fun _ => False) w w' := by
  obtain ⟨k, rx, rl, re, rt, rb, ro, rn⟩ := r
  simp only at hk
  subst hk
  go_enter Tryz.func116, Tryz.ntmps116
  go_wp2_with fail
  have hrs : Tryz.f116.results = #[.cell 2 28] := by kernel_rfl
  refine bodyPost_ret (v := rV (cutC 2 ⟨2, rx, rl, re, rt, rb, ro, rn⟩) (cutS 2 s)) (by simp only [results, hrs]; go_simp; (repeat' apply And.intro) <;> rfl) rfl ⟨rfl, ?_⟩
  exact (Tch.alloc _ _ _).allocR _
theorem fields_3 (r : Rc) (s : Sk) (w : World) (hk : r.k = 3) : Calls Tryz.prog 140 #[.agg #[.int .i64 r.t, .slice s.no r.n.length s.nc]] w fun x w' => x = .returned (rV (cutC 3 r) (cutS 3 s)) ∧ Tch (fun _ => False) w w' := by
  obtain ⟨k, rx, rl, re, rt, rb, ro, rn⟩ := r
  simp only at hk
  subst hk
  go_enter Tryz.func140, Tryz.ntmps140
  go_wp2_with fail
  have hrs : Tryz.f140.results = #[.cell 2 28] := by kernel_rfl
  refine bodyPost_ret (v := rV (cutC 3 ⟨3, rx, rl, re, rt, rb, ro, rn⟩) (cutS 3 s)) (by simp only [results, hrs]; go_simp; (repeat' apply And.intro) <;> rfl) rfl ⟨rfl, ?_⟩
  exact (Tch.alloc _ _ _).allocR _
theorem fields_4 (r : Rc) (s : Sk) (w : World) (hk : r.k = 4) : Calls Tryz.prog 158 #[.agg #[.int .i64 r.t, .slice s.oo r.o.length s.oc, .slice s.no r.n.length s.nc]] w fun x w' => x = .returned (rV (cutC 4 r) (cutS 4 s)) ∧ Tch (fun _ => False) w w' := by
  obtain ⟨k, rx, rl, re, rt, rb, ro, rn⟩ := r
  simp only at hk
  subst hk
  go_enter Tryz.func158, Tryz.ntmps158
  go_wp2_with fail
  have hrs : Tryz.f158.results = #[.cell 2 28] := by kernel_rfl
  refine bodyPost_ret (v := rV (cutC 4 ⟨4, rx, rl, re, rt, rb, ro, rn⟩) (cutS 4 s)) (by simp only [results, hrs]; go_simp; (repeat' apply And.intro) <;> rfl) rfl ⟨rfl, ?_⟩
  exact (Tch.alloc _ _ _).allocR _
theorem fields_5 (r : Rc) (s : Sk) (w : World) (hk : r.k = 5) : Calls Tryz.prog 162 #[.agg #[.int .i64 r.t, .slice s.oo r.o.length s.oc]] w fun x w' => x = .returned (rV (cutC 5 r) (cutS 5 s)) ∧ Tch (fun _ => False) w w' := by
  obtain ⟨k, rx, rl, re, rt, rb, ro, rn⟩ := r
  simp only at hk
  subst hk
  go_enter Tryz.func162, Tryz.ntmps162
  go_wp2_with fail
  have hrs : Tryz.f162.results = #[.cell 2 28] := by kernel_rfl
  refine bodyPost_ret (v := rV (cutC 5 ⟨5, rx, rl, re, rt, rb, ro, rn⟩) (cutS 5 s)) (by simp only [results, hrs]; go_simp; (repeat' apply And.intro) <;> rfl) rfl ⟨rfl, ?_⟩
  exact (Tch.alloc _ _ _).allocR _
theorem fields_6 (r : Rc) (s : Sk) (w : World) (hk : r.k = 6) : Calls Tryz.prog 166 #[.agg #[.int .i64 r.t]] w fun x w' => x = .returned (rV (cutC 6 r) (cutS 6 s)) ∧ Tch (fun _ => False) w w' := by
  obtain ⟨k, rx, rl, re, rt, rb, ro, rn⟩ := r
  simp only at hk
  subst hk
  go_enter Tryz.func166, Tryz.ntmps166
  go_wp2_with fail
  have hrs : Tryz.f166.results = #[.cell 2 28] := by kernel_rfl
  refine bodyPost_ret (v := rV (cutC 6 ⟨6, rx, rl, re, rt, rb, ro, rn⟩) (cutS 6 s)) (by simp only [results, hrs]; go_simp; (repeat' apply And.intro) <;> rfl) rfl ⟨rfl, ?_⟩
  exact (Tch.alloc _ _ _).allocR _
theorem fields_7 (r : Rc) (s : Sk) (w : World) (hk : r.k = 7) : Calls Tryz.prog 170 #[.agg #[.int .i64 r.x, .int .i64 r.l, .int .i64 r.e]] w fun x w' => x = .returned (rV (cutC 7 r) (cutS 7 s)) ∧ Tch (fun _ => False) w w' := by
  obtain ⟨k, rx, rl, re, rt, rb, ro, rn⟩ := r
  simp only at hk
  subst hk
  go_enter Tryz.func170, Tryz.ntmps170
  go_wp2_with fail
  have hrs : Tryz.f170.results = #[.cell 2 28] := by kernel_rfl
  refine bodyPost_ret (v := rV (cutC 7 ⟨7, rx, rl, re, rt, rb, ro, rn⟩) (cutS 7 s)) (by simp only [results, hrs]; go_simp; (repeat' apply And.intro) <;> rfl) rfl ⟨rfl, ?_⟩
  exact (Tch.alloc _ _ _).allocR _
theorem fields_8 (r : Rc) (s : Sk) (w : World) : Calls Tryz.prog 174 #[.agg #[.int .i64 r.k, .int .i64 r.l]] w fun x w' => x = .returned (rV (cutC 8 r) (cutS 8 s)) ∧ Tch (fun _ => False) w w' := by
  go_enter Tryz.func174, Tryz.ntmps174
  go_wp2_with fail
  have hrs : Tryz.f174.results = #[.cell 2 28] := by kernel_rfl
  refine bodyPost_ret (v := rV (cutC 8 r) (cutS 8 s)) (by simp only [results, hrs]; go_simp; (repeat' apply And.intro) <;> rfl) rfl ⟨rfl, ?_⟩
  exact (Tch.alloc _ _ _).allocR _
end Go.Proofs.YteaagnlhkopgdaaGreatDoor.C
