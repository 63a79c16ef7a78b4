import Derived.Test.YtmfbhhloabkecaaGreatDoorRV0
set_option maxHeartbeats 2000000
namespace Go.Proofs.YtmfbhhloabkecaaGreatDoor.C
open Go.RowKit
theorem rowL_len (vs : List Val) : (rowL vs).length ≤ 1700 := by
  have h1 := encR_len vs
  unfold rowL textL
  have h2 := fol_dg_len (⟨(encR vs).1.toArray⟩ : ByteArray).size
  have h3 : (⟨(encR vs).1.toArray⟩ : ByteArray).data.toList.length = (encR vs).1.length := by simp
  rw [List.length_append]; omega
theorem textL_len {s : ByteArray} (h : s.size ≤ 16) : (textL s).length ≤ 26 := by
  have h2 := fol_dg_len s.size
  have h3 : s.data.toList.length = s.size := by simp
  unfold textL; rw [List.length_append]; omega
theorem wt_ge {b : Nat} {w : World} {i : Nat} (h : WT b w i) : b ≤ i := by
  rcases h with h | ⟨h, _⟩ <;> omega
theorem lay_1 (b : Nat) (bs : List UInt8) (r : Rc) (s : Sk) (w : World) (h : WS w b bs 0) (hg : HE w) (hgb : 1 < b) (hw : RW w (fun i => b ≤ i) r s) (hr : rightC 1 r) (hlen : bs.length + 100000 ≤ 140737488355328) :
    Calls Tryz.prog 186 #[.agg #[.int .i64 r.x], .pointer (some ⟨b, 0, none⟩)] w fun x w' => x = .returned (.tuple #[]) ∧ WS w' b (bs ++ bodyL 1 r) 0 ∧ Tch (WT b w) w w' := by
  have g1 : rtN r.x := hr
  unfold rtN at g1
  have hlt := h.lt
  obtain ⟨w0, hw0⟩ : ∃ w0, w0 = w.alloc (.cells #[.int .i64 r.x] 128) := ⟨_, rfl⟩
  have t0 : Tch (fun _ => False) w w0 := by rw [hw0]; exact Tch.alloc _ _ _
  have b0 : w0.heap[w.heap.size]? = some (.cells #[.int .i64 r.x] 128 (0, 0)) := by rw [hw0]; exact heap_new w _
  have HK : Hid (∀ W, Tch (WT b w0) w0 W → (W.cell? ⟨w.heap.size, 0, none⟩ = some (.int .i64 r.x)) ∧ RW W (fun i => b ≤ i) r s ∧ HE W) := fun W t => by
    have hb := wt_keep t b0 (by decide) (by omega)
    exact ⟨blk_cell hb 0, (hw.no t0).tch t (fun i _ h => wt_ge h), (hg.tch t0 (fun h => h)).tch t (fun h => by have := wt_ge h; omega)⟩
  have h0 : WS w0 b bs 0 := h.tch t0 (fun _ _ _ h => h)
  have HT0 : Hid (Tch (fun _ => False) w w0) := t0
  have HW0 : Hid (w0 = w.alloc (.cells #[.int .i64 r.x] 128)) := hw0
  obtain ⟨-, hR0, hE0⟩ := HK.out w0 (Tch.refl _ _)
  have HR0 : Hid _ := hR0
  have HE0 : Hid _ := hE0
  clear h hg hw t0 b0 hw0 hR0 hE0
  try clear hr
  go_enter Tryz.func186, Tryz.ntmps186
  go_wp2_with fail
  have q1 := wvar_ok b _ r.x w0 h0 (by omega) (by omega) (by first | omega | (simp only [List.length_append]; omega))
  rw [HW0.out] at q1
  refine q1.mono ?_
  rintro x w1 ⟨rfl, h1, t1⟩
  rw [← HW0.out] at t1
  clear q1 h0
  have T1 := t1
  have l1 := fol_dg_len r.x.toNat
  go_wp2_with fail
  go_end0
  refine ⟨rfl, ?_, wt_new HT0.out T1⟩
  unfold bodyL
  simpa only [List.append_assoc] using h1
theorem lay_2 (b : Nat) (bs : List UInt8) (r : Rc) (s : Sk) (w : World) (h : WS w b bs 0) (hg : HE w) (hgb : 1 < b) (hw : RW w (fun i => b ≤ i) r s) (hr : rightC 2 r) (hlen : bs.length + 100000 ≤ 140737488355328) :
    Calls Tryz.prog 193 #[.agg #[.int .i64 r.x, .int .i64 r.p], .pointer (some ⟨b, 0, none⟩)] w fun x w' => x = .returned (.tuple #[]) ∧ WS w' b (bs ++ bodyL 2 r) 0 ∧ Tch (WT b w) w w' := by
  obtain ⟨g1, g2, g3⟩ : rtN r.x ∧ rtN r.p ∧ r.p < r.x := hr
  unfold rtN at g1 g2
  have hlt := h.lt
  obtain ⟨w0, hw0⟩ : ∃ w0, w0 = w.alloc (.cells #[.int .i64 r.x, .int .i64 r.p] 130) := ⟨_, rfl⟩
  have t0 : Tch (fun _ => False) w w0 := by rw [hw0]; exact Tch.alloc _ _ _
  have b0 : w0.heap[w.heap.size]? = some (.cells #[.int .i64 r.x, .int .i64 r.p] 130 (0, 0)) := by rw [hw0]; exact heap_new w _
  have HK : Hid (∀ W, Tch (WT b w0) w0 W → (W.cell? ⟨w.heap.size, 0, none⟩ = some (.int .i64 r.x) ∧ W.cell? ⟨w.heap.size, 1, none⟩ = some (.int .i64 r.p)) ∧ RW W (fun i => b ≤ i) r s ∧ HE W) := fun W t => by
    have hb := wt_keep t b0 (by decide) (by omega)
    exact ⟨⟨blk_cell hb 0, blk_cell hb 1⟩, (hw.no t0).tch t (fun i _ h => wt_ge h), (hg.tch t0 (fun h => h)).tch t (fun h => by have := wt_ge h; omega)⟩
  have h0 : WS w0 b bs 0 := h.tch t0 (fun _ _ _ h => h)
  have HT0 : Hid (Tch (fun _ => False) w w0) := t0
  have HW0 : Hid (w0 = w.alloc (.cells #[.int .i64 r.x, .int .i64 r.p] 130)) := hw0
  obtain ⟨-, hR0, hE0⟩ := HK.out w0 (Tch.refl _ _)
  have HR0 : Hid _ := hR0
  have HE0 : Hid _ := hE0
  clear h hg hw t0 b0 hw0 hR0 hE0
  try clear hr
  go_enter Tryz.func193, Tryz.ntmps193
  go_wp2_with fail
  have q1 := wvar_ok b _ r.x w0 h0 (by omega) (by omega) (by first | omega | (simp only [List.length_append]; omega))
  rw [HW0.out] at q1
  refine q1.mono ?_
  rintro x w1 ⟨rfl, h1, t1⟩
  rw [← HW0.out] at t1
  clear q1 h0
  have T1 := t1
  have l1 := fol_dg_len r.x.toNat
  obtain ⟨⟨y0, y1⟩, hR1, hE1⟩ := HK.out w1 T1
  have HR1 : Hid _ := hR1
  have HE1 : Hid _ := hE1
  clear hR1 hE1 t1
  go_wp2_with fail
  refine (wvar_ok b _ r.p w1 h1 (by omega) (by omega) (by first | omega | (simp only [List.length_append]; omega))).mono ?_
  rintro x w2 ⟨rfl, h2, t2⟩
  have T2 := wt_trans T1 t2
  clear y0 y1 h1 T1
  have l2 := fol_dg_len r.p.toNat
  go_wp2_with fail
  go_end0
  refine ⟨rfl, ?_, wt_new HT0.out T2⟩
  unfold bodyL
  simpa only [List.append_assoc] using h2
theorem lay_3 (b : Nat) (bs : List UInt8) (r : Rc) (s : Sk) (w : World) (h : WS w b bs 0) (hg : HE w) (hgb : 1 < b) (hw : RW w (fun i => b ≤ i) r s) (hr : rightC 3 r) (hlen : bs.length + 100000 ≤ 140737488355328) :
    Calls Tryz.prog 196 #[.agg #[.int .i64 r.x, .int .i64 r.t, .slice s.no r.n.length s.nc], .pointer (some ⟨b, 0, none⟩)] w fun x w' => x = .returned (.tuple #[]) ∧ WS w' b (bs ++ bodyL 3 r) 0 ∧ Tch (WT b w) w w' := by
  obtain ⟨g1, g2, -⟩ : rtN r.x ∧ rtN r.t ∧ rtRow r.n := hr
  unfold rtN at g1 g2
  have hlt := h.lt
  obtain ⟨w0, hw0⟩ : ∃ w0, w0 = w.alloc (.cells #[.int .i64 r.x, .int .i64 r.t, .slice s.no r.n.length s.nc] 132) := ⟨_, rfl⟩
  have t0 : Tch (fun _ => False) w w0 := by rw [hw0]; exact Tch.alloc _ _ _
  have b0 : w0.heap[w.heap.size]? = some (.cells #[.int .i64 r.x, .int .i64 r.t, .slice s.no r.n.length s.nc] 132 (0, 0)) := by rw [hw0]; exact heap_new w _
  have HK : Hid (∀ W, Tch (WT b w0) w0 W → (W.cell? ⟨w.heap.size, 0, none⟩ = some (.int .i64 r.x) ∧ W.cell? ⟨w.heap.size, 1, none⟩ = some (.int .i64 r.t) ∧ W.cell? ⟨w.heap.size, 2, none⟩ = some (.slice s.no r.n.length s.nc)) ∧ RW W (fun i => b ≤ i) r s ∧ HE W) := fun W t => by
    have hb := wt_keep t b0 (by decide) (by omega)
    exact ⟨⟨blk_cell hb 0, blk_cell hb 1, blk_cell hb 2⟩, (hw.no t0).tch t (fun i _ h => wt_ge h), (hg.tch t0 (fun h => h)).tch t (fun h => by have := wt_ge h; omega)⟩
  have h0 : WS w0 b bs 0 := h.tch t0 (fun _ _ _ h => h)
  have HT0 : Hid (Tch (fun _ => False) w w0) := t0
  have HW0 : Hid (w0 = w.alloc (.cells #[.int .i64 r.x, .int .i64 r.t, .slice s.no r.n.length s.nc] 132)) := hw0
  obtain ⟨-, hR0, hE0⟩ := HK.out w0 (Tch.refl _ _)
  have HR0 : Hid _ := hR0
  have HE0 : Hid _ := hE0
  clear h hg hw t0 b0 hw0 hR0 hE0
  try clear hr
  go_enter Tryz.func196, Tryz.ntmps196
  go_wp2_with fail
  have q1 := wvar_ok b _ r.x w0 h0 (by omega) (by omega) (by first | omega | (simp only [List.length_append]; omega))
  rw [HW0.out] at q1
  refine q1.mono ?_
  rintro x w1 ⟨rfl, h1, t1⟩
  rw [← HW0.out] at t1
  clear q1 h0
  have T1 := t1
  have l1 := fol_dg_len r.x.toNat
  obtain ⟨⟨y0, y1, y2⟩, hR1, hE1⟩ := HK.out w1 T1
  have HR1 : Hid _ := hR1
  have HE1 : Hid _ := hE1
  clear hR1 hE1 t1
  go_wp2_with fail
  refine (wvar_ok b _ r.t w1 h1 (by omega) (by omega) (by first | omega | (simp only [List.length_append]; omega))).mono ?_
  rintro x w2 ⟨rfl, h2, t2⟩
  have T2 := wt_trans T1 t2
  clear y0 y1 y2 h1 T1
  have l2 := fol_dg_len r.t.toNat
  obtain ⟨⟨y0, y1, y2⟩, hR2, hE2⟩ := HK.out w2 T2
  have HR2 : Hid _ := hR2
  have HE2 : Hid _ := hE2
  clear hR2 hE2 t2
  go_wp2_with fail
  refine (layRow_any b _ r.n s.no s.nc w2 h2 HE2.out HR2.out.n HR2.out.ni HR2.out.nl (by first | omega | (simp only [List.length_append]; omega))).mono ?_
  rintro x w3 ⟨rfl, h3, t3⟩
  have T3 := wt_trans T2 t3
  clear y0 y1 y2 h2 T2
  have l3 := rowL_len r.n
  go_wp2_with fail
  go_end0
  refine ⟨rfl, ?_, wt_new HT0.out T3⟩
  unfold bodyL
  simpa only [List.append_assoc] using h3
theorem lay_4 (b : Nat) (bs : List UInt8) (r : Rc) (s : Sk) (w : World) (h : WS w b bs 0) (hg : HE w) (hgb : 1 < b) (hw : RW w (fun i => b ≤ i) r s) (hr : rightC 4 r) (hlen : bs.length + 100000 ≤ 140737488355328) :
    Calls Tryz.prog 211 #[.agg #[.int .i64 r.x, .int .i64 r.t, .slice s.oo r.o.length s.oc, .slice s.no r.n.length s.nc], .pointer (some ⟨b, 0, none⟩)] w fun x w' => x = .returned (.tuple #[]) ∧ WS w' b (bs ++ bodyL 4 r) 0 ∧ Tch (WT b w) w w' := by
  obtain ⟨g1, g2, -⟩ : rtN r.x ∧ rtN r.t ∧ rtRow r.o ∧ rtRow r.n := hr
  unfold rtN at g1 g2
  have hlt := h.lt
  obtain ⟨w0, hw0⟩ : ∃ w0, w0 = w.alloc (.cells #[.int .i64 r.x, .int .i64 r.t, .slice s.oo r.o.length s.oc, .slice s.no r.n.length s.nc] 134) := ⟨_, rfl⟩
  have t0 : Tch (fun _ => False) w w0 := by rw [hw0]; exact Tch.alloc _ _ _
  have b0 : w0.heap[w.heap.size]? = some (.cells #[.int .i64 r.x, .int .i64 r.t, .slice s.oo r.o.length s.oc, .slice s.no r.n.length s.nc] 134 (0, 0)) := by rw [hw0]; exact heap_new w _
  have HK : Hid (∀ W, Tch (WT b w0) w0 W → (W.cell? ⟨w.heap.size, 0, none⟩ = some (.int .i64 r.x) ∧ W.cell? ⟨w.heap.size, 1, none⟩ = some (.int .i64 r.t) ∧ W.cell? ⟨w.heap.size, 2, none⟩ = some (.slice s.oo r.o.length s.oc) ∧ W.cell? ⟨w.heap.size, 3, none⟩ = some (.slice s.no r.n.length s.nc)) ∧ RW W (fun i => b ≤ i) r s ∧ HE W) := fun W t => by
    have hb := wt_keep t b0 (by decide) (by omega)
    exact ⟨⟨blk_cell hb 0, blk_cell hb 1, blk_cell hb 2, blk_cell hb 3⟩, (hw.no t0).tch t (fun i _ h => wt_ge h), (hg.tch t0 (fun h => h)).tch t (fun h => by have := wt_ge h; omega)⟩
  have h0 : WS w0 b bs 0 := h.tch t0 (fun _ _ _ h => h)
  have HT0 : Hid (Tch (fun _ => False) w w0) := t0
  have HW0 : Hid (w0 = w.alloc (.cells #[.int .i64 r.x, .int .i64 r.t, .slice s.oo r.o.length s.oc, .slice s.no r.n.length s.nc] 134)) := hw0
  obtain ⟨-, hR0, hE0⟩ := HK.out w0 (Tch.refl _ _)
  have HR0 : Hid _ := hR0
  have HE0 : Hid _ := hE0
  clear h hg hw t0 b0 hw0 hR0 hE0
  try clear hr
  go_enter Tryz.func211, Tryz.ntmps211
  go_wp2_with fail
  have q1 := wvar_ok b _ r.x w0 h0 (by omega) (by omega) (by first | omega | (simp only [List.length_append]; omega))
  rw [HW0.out] at q1
  refine q1.mono ?_
  rintro x w1 ⟨rfl, h1, t1⟩
  rw [← HW0.out] at t1
  clear q1 h0
  have T1 := t1
  have l1 := fol_dg_len r.x.toNat
  obtain ⟨⟨y0, y1, y2, y3⟩, hR1, hE1⟩ := HK.out w1 T1
  have HR1 : Hid _ := hR1
  have HE1 : Hid _ := hE1
  clear hR1 hE1 t1
  go_wp2_with fail
  refine (wvar_ok b _ r.t w1 h1 (by omega) (by omega) (by first | omega | (simp only [List.length_append]; omega))).mono ?_
  rintro x w2 ⟨rfl, h2, t2⟩
  have T2 := wt_trans T1 t2
  clear y0 y1 y2 y3 h1 T1
  have l2 := fol_dg_len r.t.toNat
  obtain ⟨⟨y0, y1, y2, y3⟩, hR2, hE2⟩ := HK.out w2 T2
  have HR2 : Hid _ := hR2
  have HE2 : Hid _ := hE2
  clear hR2 hE2 t2
  go_wp2_with fail
  refine (layRow_any b _ r.o s.oo s.oc w2 h2 HE2.out HR2.out.o HR2.out.oi HR2.out.ol (by first | omega | (simp only [List.length_append]; omega))).mono ?_
  rintro x w3 ⟨rfl, h3, t3⟩
  have T3 := wt_trans T2 t3
  clear y0 y1 y2 y3 h2 T2
  have l3 := rowL_len r.o
  obtain ⟨⟨y0, y1, y2, y3⟩, hR3, hE3⟩ := HK.out w3 T3
  have HR3 : Hid _ := hR3
  have HE3 : Hid _ := hE3
  clear hR3 hE3 t3
  go_wp2_with fail
  refine (layRow_any b _ r.n s.no s.nc w3 h3 HE3.out HR3.out.n HR3.out.ni HR3.out.nl (by first | omega | (simp only [List.length_append]; omega))).mono ?_
  rintro x w4 ⟨rfl, h4, t4⟩
  have T4 := wt_trans T3 t4
  clear y0 y1 y2 y3 h3 T3
  have l4 := rowL_len r.n
  go_wp2_with fail
  go_end0
  refine ⟨rfl, ?_, wt_new HT0.out T4⟩
  unfold bodyL
  simpa only [List.append_assoc] using h4
theorem lay_5 (b : Nat) (bs : List UInt8) (r : Rc) (s : Sk) (w : World) (h : WS w b bs 0) (hg : HE w) (hgb : 1 < b) (hw : RW w (fun i => b ≤ i) r s) (hr : rightC 5 r) (hlen : bs.length + 100000 ≤ 140737488355328) :
    Calls Tryz.prog 214 #[.agg #[.int .i64 r.x, .int .i64 r.t, .slice s.oo r.o.length s.oc], .pointer (some ⟨b, 0, none⟩)] w fun x w' => x = .returned (.tuple #[]) ∧ WS w' b (bs ++ bodyL 5 r) 0 ∧ Tch (WT b w) w w' := by
  obtain ⟨g1, g2, -⟩ : rtN r.x ∧ rtN r.t ∧ rtRow r.o := hr
  unfold rtN at g1 g2
  have hlt := h.lt
  obtain ⟨w0, hw0⟩ : ∃ w0, w0 = w.alloc (.cells #[.int .i64 r.x, .int .i64 r.t, .slice s.oo r.o.length s.oc] 135) := ⟨_, rfl⟩
  have t0 : Tch (fun _ => False) w w0 := by rw [hw0]; exact Tch.alloc _ _ _
  have b0 : w0.heap[w.heap.size]? = some (.cells #[.int .i64 r.x, .int .i64 r.t, .slice s.oo r.o.length s.oc] 135 (0, 0)) := by rw [hw0]; exact heap_new w _
  have HK : Hid (∀ W, Tch (WT b w0) w0 W → (W.cell? ⟨w.heap.size, 0, none⟩ = some (.int .i64 r.x) ∧ W.cell? ⟨w.heap.size, 1, none⟩ = some (.int .i64 r.t) ∧ W.cell? ⟨w.heap.size, 2, none⟩ = some (.slice s.oo r.o.length s.oc)) ∧ RW W (fun i => b ≤ i) r s ∧ HE W) := fun W t => by
    have hb := wt_keep t b0 (by decide) (by omega)
    exact ⟨⟨blk_cell hb 0, blk_cell hb 1, blk_cell hb 2⟩, (hw.no t0).tch t (fun i _ h => wt_ge h), (hg.tch t0 (fun h => h)).tch t (fun h => by have := wt_ge h; omega)⟩
  have h0 : WS w0 b bs 0 := h.tch t0 (fun _ _ _ h => h)
  have HT0 : Hid (Tch (fun _ => False) w w0) := t0
  have HW0 : Hid (w0 = w.alloc (.cells #[.int .i64 r.x, .int .i64 r.t, .slice s.oo r.o.length s.oc] 135)) := hw0
  obtain ⟨-, hR0, hE0⟩ := HK.out w0 (Tch.refl _ _)
  have HR0 : Hid _ := hR0
  have HE0 : Hid _ := hE0
  clear h hg hw t0 b0 hw0 hR0 hE0
  try clear hr
  go_enter Tryz.func214, Tryz.ntmps214
  go_wp2_with fail
  have q1 := wvar_ok b _ r.x w0 h0 (by omega) (by omega) (by first | omega | (simp only [List.length_append]; omega))
  rw [HW0.out] at q1
  refine q1.mono ?_
  rintro x w1 ⟨rfl, h1, t1⟩
  rw [← HW0.out] at t1
  clear q1 h0
  have T1 := t1
  have l1 := fol_dg_len r.x.toNat
  obtain ⟨⟨y0, y1, y2⟩, hR1, hE1⟩ := HK.out w1 T1
  have HR1 : Hid _ := hR1
  have HE1 : Hid _ := hE1
  clear hR1 hE1 t1
  go_wp2_with fail
  refine (wvar_ok b _ r.t w1 h1 (by omega) (by omega) (by first | omega | (simp only [List.length_append]; omega))).mono ?_
  rintro x w2 ⟨rfl, h2, t2⟩
  have T2 := wt_trans T1 t2
  clear y0 y1 y2 h1 T1
  have l2 := fol_dg_len r.t.toNat
  obtain ⟨⟨y0, y1, y2⟩, hR2, hE2⟩ := HK.out w2 T2
  have HR2 : Hid _ := hR2
  have HE2 : Hid _ := hE2
  clear hR2 hE2 t2
  go_wp2_with fail
  refine (layRow_any b _ r.o s.oo s.oc w2 h2 HE2.out HR2.out.o HR2.out.oi HR2.out.ol (by first | omega | (simp only [List.length_append]; omega))).mono ?_
  rintro x w3 ⟨rfl, h3, t3⟩
  have T3 := wt_trans T2 t3
  clear y0 y1 y2 h2 T2
  have l3 := rowL_len r.o
  go_wp2_with fail
  go_end0
  refine ⟨rfl, ?_, wt_new HT0.out T3⟩
  unfold bodyL
  simpa only [List.append_assoc] using h3
theorem lay_6 (b : Nat) (bs : List UInt8) (r : Rc) (s : Sk) (w : World) (h : WS w b bs 0) (hg : HE w) (hgb : 1 < b) (hw : RW w (fun i => b ≤ i) r s) (hr : rightC 6 r) (hlen : bs.length + 100000 ≤ 140737488355328) :
    Calls Tryz.prog 217 #[.agg #[.int .i64 r.x, .string r.nm, .int .i64 r.org], .pointer (some ⟨b, 0, none⟩)] w fun x w' => x = .returned (.tuple #[]) ∧ WS w' b (bs ++ bodyL 6 r) 0 ∧ Tch (WT b w) w w' := by
  obtain ⟨g1, g2⟩ : rtN r.x ∧ ((r.nm.size = 0 ∧ r.org = 0) ∨ (nmOk r.nm = true ∧ 1 ≤ r.org ∧ r.org ≤ 819208192)) := hr
  have hnm : r.nm.size ≤ 16 := by
    rcases g2 with h | h
    · omega
    · exact nm_size h.1
  have g3 : 0 ≤ r.org ∧ r.org ≤ 819208192 := by rcases g2 with h | h <;> omega
  unfold rtN at g1
  clear g2
  have hlt := h.lt
  obtain ⟨w0, hw0⟩ : ∃ w0, w0 = w.alloc (.cells #[.int .i64 r.x, .string r.nm, .int .i64 r.org] 137) := ⟨_, rfl⟩
  have t0 : Tch (fun _ => False) w w0 := by rw [hw0]; exact Tch.alloc _ _ _
  have b0 : w0.heap[w.heap.size]? = some (.cells #[.int .i64 r.x, .string r.nm, .int .i64 r.org] 137 (0, 0)) := by rw [hw0]; exact heap_new w _
  have HK : Hid (∀ W, Tch (WT b w0) w0 W → (W.cell? ⟨w.heap.size, 0, none⟩ = some (.int .i64 r.x) ∧ W.cell? ⟨w.heap.size, 1, none⟩ = some (.string r.nm) ∧ W.cell? ⟨w.heap.size, 2, none⟩ = some (.int .i64 r.org)) ∧ RW W (fun i => b ≤ i) r s ∧ HE W) := fun W t => by
    have hb := wt_keep t b0 (by decide) (by omega)
    exact ⟨⟨blk_cell hb 0, blk_cell hb 1, blk_cell hb 2⟩, (hw.no t0).tch t (fun i _ h => wt_ge h), (hg.tch t0 (fun h => h)).tch t (fun h => by have := wt_ge h; omega)⟩
  have h0 : WS w0 b bs 0 := h.tch t0 (fun _ _ _ h => h)
  have HT0 : Hid (Tch (fun _ => False) w w0) := t0
  have HW0 : Hid (w0 = w.alloc (.cells #[.int .i64 r.x, .string r.nm, .int .i64 r.org] 137)) := hw0
  obtain ⟨-, hR0, hE0⟩ := HK.out w0 (Tch.refl _ _)
  have HR0 : Hid _ := hR0
  have HE0 : Hid _ := hE0
  clear h hg hw t0 b0 hw0 hR0 hE0
  try clear hr
  go_enter Tryz.func217, Tryz.ntmps217
  go_wp2_with fail
  have q1 := wvar_ok b _ r.x w0 h0 (by omega) (by omega) (by first | omega | (simp only [List.length_append]; omega))
  rw [HW0.out] at q1
  refine q1.mono ?_
  rintro x w1 ⟨rfl, h1, t1⟩
  rw [← HW0.out] at t1
  clear q1 h0
  have T1 := t1
  have l1 := fol_dg_len r.x.toNat
  obtain ⟨⟨y0, y1, y2⟩, hR1, hE1⟩ := HK.out w1 T1
  have HR1 : Hid _ := hR1
  have HE1 : Hid _ := hE1
  clear hR1 hE1 t1
  go_wp2_with fail
  refine (wtext_ok b _ r.nm 16 w1 h1 (by omega) (by first | omega | (simp only [List.length_append]; omega))).mono ?_
  rintro x w2 ⟨rfl, h2, t2⟩
  have T2 := wt_trans T1 t2
  clear y0 y1 y2 h1 T1
  have l2 := textL_len hnm
  obtain ⟨⟨y0, y1, y2⟩, hR2, hE2⟩ := HK.out w2 T2
  have HR2 : Hid _ := hR2
  have HE2 : Hid _ := hE2
  clear hR2 hE2 t2
  go_wp2_with fail
  refine (wvar_ok b _ r.org w2 h2 (by omega) (by omega) (by first | omega | (simp only [List.length_append]; omega))).mono ?_
  rintro x w3 ⟨rfl, h3, t3⟩
  have T3 := wt_trans T2 t3
  clear y0 y1 y2 h2 T2
  have l3 := fol_dg_len r.org.toNat
  go_wp2_with fail
  go_end0
  refine ⟨rfl, ?_, wt_new HT0.out T3⟩
  unfold bodyL
  simpa only [List.append_assoc] using h3
theorem lay_7 (b : Nat) (bs : List UInt8) (r : Rc) (s : Sk) (w : World) (h : WS w b bs 0) (hg : HE w) (hgb : 1 < b) (hw : RW w (fun i => b ≤ i) r s) (hr : rightC 7 r) (hlen : bs.length + 100000 ≤ 140737488355328) :
    Calls Tryz.prog 222 #[.agg #[.int .i64 r.x, .string r.nm], .pointer (some ⟨b, 0, none⟩)] w fun x w' => x = .returned (.tuple #[]) ∧ WS w' b (bs ++ bodyL 7 r) 0 ∧ Tch (WT b w) w w' := by
  obtain ⟨g1, g2⟩ : rtN r.x ∧ nmOk r.nm = true := hr
  have hnm := nm_size g2
  unfold rtN at g1
  clear g2
  have hlt := h.lt
  obtain ⟨w0, hw0⟩ : ∃ w0, w0 = w.alloc (.cells #[.int .i64 r.x, .string r.nm] 139) := ⟨_, rfl⟩
  have t0 : Tch (fun _ => False) w w0 := by rw [hw0]; exact Tch.alloc _ _ _
  have b0 : w0.heap[w.heap.size]? = some (.cells #[.int .i64 r.x, .string r.nm] 139 (0, 0)) := by rw [hw0]; exact heap_new w _
  have HK : Hid (∀ W, Tch (WT b w0) w0 W → (W.cell? ⟨w.heap.size, 0, none⟩ = some (.int .i64 r.x) ∧ W.cell? ⟨w.heap.size, 1, none⟩ = some (.string r.nm)) ∧ RW W (fun i => b ≤ i) r s ∧ HE W) := fun W t => by
    have hb := wt_keep t b0 (by decide) (by omega)
    exact ⟨⟨blk_cell hb 0, blk_cell hb 1⟩, (hw.no t0).tch t (fun i _ h => wt_ge h), (hg.tch t0 (fun h => h)).tch t (fun h => by have := wt_ge h; omega)⟩
  have h0 : WS w0 b bs 0 := h.tch t0 (fun _ _ _ h => h)
  have HT0 : Hid (Tch (fun _ => False) w w0) := t0
  have HW0 : Hid (w0 = w.alloc (.cells #[.int .i64 r.x, .string r.nm] 139)) := hw0
  obtain ⟨-, hR0, hE0⟩ := HK.out w0 (Tch.refl _ _)
  have HR0 : Hid _ := hR0
  have HE0 : Hid _ := hE0
  clear h hg hw t0 b0 hw0 hR0 hE0
  try clear hr
  go_enter Tryz.func222, Tryz.ntmps222
  go_wp2_with fail
  have q1 := wvar_ok b _ r.x w0 h0 (by omega) (by omega) (by first | omega | (simp only [List.length_append]; omega))
  rw [HW0.out] at q1
  refine q1.mono ?_
  rintro x w1 ⟨rfl, h1, t1⟩
  rw [← HW0.out] at t1
  clear q1 h0
  have T1 := t1
  have l1 := fol_dg_len r.x.toNat
  obtain ⟨⟨y0, y1⟩, hR1, hE1⟩ := HK.out w1 T1
  have HR1 : Hid _ := hR1
  have HE1 : Hid _ := hE1
  clear hR1 hE1 t1
  go_wp2_with fail
  refine (wtext_ok b _ r.nm 16 w1 h1 (by omega) (by first | omega | (simp only [List.length_append]; omega))).mono ?_
  rintro x w2 ⟨rfl, h2, t2⟩
  have T2 := wt_trans T1 t2
  clear y0 y1 h1 T1
  have l2 := textL_len hnm
  go_wp2_with fail
  go_end0
  refine ⟨rfl, ?_, wt_new HT0.out T2⟩
  unfold bodyL
  simpa only [List.append_assoc] using h2
theorem lay_8 (b : Nat) (bs : List UInt8) (r : Rc) (s : Sk) (w : World) (h : WS w b bs 0) (hg : HE w) (hgb : 1 < b) (hw : RW w (fun i => b ≤ i) r s) (hr : rightC 8 r) (hlen : bs.length + 100000 ≤ 140737488355328) :
    Calls Tryz.prog 225 #[.agg #[.int .i64 r.x, .int .i64 r.tb.id, .int .i64 r.tb.ver, .string r.tb.nm, .slice s.co r.tb.cols.length s.cc, .int .i64 r.tb.key], .pointer (some ⟨b, 0, none⟩)] w fun x w' => x = .returned (.tuple #[]) ∧ WS w' b (bs ++ bodyL 8 r) 0 ∧ Tch (WT b w) w w' := by
  obtain ⟨g1, g2⟩ : rtN r.x ∧ rightE r.tb = 0 := hr
  have HRT : Hid (RT r.tb) := right_rt g2
  unfold rtN at g1
  have HNF : Hid (∀ g o, s.co = some ⟨g, o, none⟩ → g < b) := fun g o e => by
    have hne : r.tb.cols ≠ [] := fun e0 => by have h1 := HRT.out.len; rw [e0] at h1; simp at h1
    have := (hw.tb.nf hne g o e).1
    omega
  clear g2
  have hlt := h.lt
  obtain ⟨w0, hw0⟩ : ∃ w0, w0 = w.alloc (.cells #[.int .i64 r.x, .int .i64 r.tb.id, .int .i64 r.tb.ver, .string r.tb.nm, .slice s.co r.tb.cols.length s.cc, .int .i64 r.tb.key] 141) := ⟨_, rfl⟩
  have t0 : Tch (fun _ => False) w w0 := by rw [hw0]; exact Tch.alloc _ _ _
  have b0 : w0.heap[w.heap.size]? = some (.cells #[.int .i64 r.x, .int .i64 r.tb.id, .int .i64 r.tb.ver, .string r.tb.nm, .slice s.co r.tb.cols.length s.cc, .int .i64 r.tb.key] 141 (0, 0)) := by rw [hw0]; exact heap_new w _
  have HK : Hid (∀ W, Tch (WT b w0) w0 W → (W.cell? ⟨w.heap.size, 0, none⟩ = some (.int .i64 r.x) ∧ W.cell? ⟨w.heap.size, 1, none⟩ = some (.int .i64 r.tb.id) ∧ W.cell? ⟨w.heap.size, 2, none⟩ = some (.int .i64 r.tb.ver) ∧ W.cell? ⟨w.heap.size, 3, none⟩ = some (.string r.tb.nm) ∧ W.cell? ⟨w.heap.size, 4, none⟩ = some (.slice s.co r.tb.cols.length s.cc) ∧ W.cell? ⟨w.heap.size, 5, none⟩ = some (.int .i64 r.tb.key)) ∧ RW W (fun i => b ≤ i) r s ∧ HE W) := fun W t => by
    have hb := wt_keep t b0 (by decide) (by omega)
    exact ⟨⟨blk_cell hb 0, blk_cell hb 1, blk_cell hb 2, blk_cell hb 3, blk_cell hb 4, blk_cell hb 5⟩, (hw.no t0).tch t (fun i _ h => wt_ge h), (hg.tch t0 (fun h => h)).tch t (fun h => by have := wt_ge h; omega)⟩
  have h0 : WS w0 b bs 0 := h.tch t0 (fun _ _ _ h => h)
  have HT0 : Hid (Tch (fun _ => False) w w0) := t0
  have HW0 : Hid (w0 = w.alloc (.cells #[.int .i64 r.x, .int .i64 r.tb.id, .int .i64 r.tb.ver, .string r.tb.nm, .slice s.co r.tb.cols.length s.cc, .int .i64 r.tb.key] 141)) := hw0
  obtain ⟨-, hR0, hE0⟩ := HK.out w0 (Tch.refl _ _)
  have HR0 : Hid _ := hR0
  have HE0 : Hid _ := hE0
  clear h hg hw t0 b0 hw0 hR0 hE0
  try clear hr
  go_enter Tryz.func225, Tryz.ntmps225
  go_wp2_with fail
  have q1 := wvar_ok b _ r.x w0 h0 (by omega) (by omega) (by first | omega | (simp only [List.length_append]; omega))
  rw [HW0.out] at q1
  refine q1.mono ?_
  rintro x w1 ⟨rfl, h1, t1⟩
  rw [← HW0.out] at t1
  clear q1 h0
  have T1 := t1
  have l1 := fol_dg_len r.x.toNat
  obtain ⟨⟨y0, y1, y2, y3, y4, y5⟩, hR1, hE1⟩ := HK.out w1 T1
  have HR1 : Hid _ := hR1
  have HE1 : Hid _ := hE1
  clear hR1 hE1 t1
  go_wp2_with fail
  refine (layTable_any b _ r.tb s.co s.cc w1 h1 HRT.out HR1.out.tb.sl (HNF.out) (by first | omega | (simp only [List.length_append]; omega))).mono ?_
  rintro x w2 ⟨rfl, h2, t2⟩
  have T2 := wt_trans T1 t2
  clear y0 y1 y2 y3 y4 y5 h1 T1
  go_wp2_with fail
  go_end0
  refine ⟨rfl, ?_, wt_new HT0.out T2⟩
  unfold bodyL
  simpa only [List.append_assoc] using h2
theorem lay_9 (b : Nat) (bs : List UInt8) (r : Rc) (s : Sk) (w : World) (h : WS w b bs 0) (hg : HE w) (hgb : 1 < b) (hw : RW w (fun i => b ≤ i) r s) (hr : rightC 9 r) (hlen : bs.length + 100000 ≤ 140737488355328) :
    Calls Tryz.prog 232 #[.agg #[.int .i64 r.x, .int .i64 r.t], .pointer (some ⟨b, 0, none⟩)] w fun x w' => x = .returned (.tuple #[]) ∧ WS w' b (bs ++ bodyL 9 r) 0 ∧ Tch (WT b w) w w' := by
  obtain ⟨g1, g2⟩ : rtN r.x ∧ rtN r.t := hr
  unfold rtN at g1 g2
  have hlt := h.lt
  obtain ⟨w0, hw0⟩ : ∃ w0, w0 = w.alloc (.cells #[.int .i64 r.x, .int .i64 r.t] 143) := ⟨_, rfl⟩
  have t0 : Tch (fun _ => False) w w0 := by rw [hw0]; exact Tch.alloc _ _ _
  have b0 : w0.heap[w.heap.size]? = some (.cells #[.int .i64 r.x, .int .i64 r.t] 143 (0, 0)) := by rw [hw0]; exact heap_new w _
  have HK : Hid (∀ W, Tch (WT b w0) w0 W → (W.cell? ⟨w.heap.size, 0, none⟩ = some (.int .i64 r.x) ∧ W.cell? ⟨w.heap.size, 1, none⟩ = some (.int .i64 r.t)) ∧ RW W (fun i => b ≤ i) r s ∧ HE W) := fun W t => by
    have hb := wt_keep t b0 (by decide) (by omega)
    exact ⟨⟨blk_cell hb 0, blk_cell hb 1⟩, (hw.no t0).tch t (fun i _ h => wt_ge h), (hg.tch t0 (fun h => h)).tch t (fun h => by have := wt_ge h; omega)⟩
  have h0 : WS w0 b bs 0 := h.tch t0 (fun _ _ _ h => h)
  have HT0 : Hid (Tch (fun _ => False) w w0) := t0
  have HW0 : Hid (w0 = w.alloc (.cells #[.int .i64 r.x, .int .i64 r.t] 143)) := hw0
  obtain ⟨-, hR0, hE0⟩ := HK.out w0 (Tch.refl _ _)
  have HR0 : Hid _ := hR0
  have HE0 : Hid _ := hE0
  clear h hg hw t0 b0 hw0 hR0 hE0
  try clear hr
  go_enter Tryz.func232, Tryz.ntmps232
  go_wp2_with fail
  have q1 := wvar_ok b _ r.x w0 h0 (by omega) (by omega) (by first | omega | (simp only [List.length_append]; omega))
  rw [HW0.out] at q1
  refine q1.mono ?_
  rintro x w1 ⟨rfl, h1, t1⟩
  rw [← HW0.out] at t1
  clear q1 h0
  have T1 := t1
  have l1 := fol_dg_len r.x.toNat
  obtain ⟨⟨y0, y1⟩, hR1, hE1⟩ := HK.out w1 T1
  have HR1 : Hid _ := hR1
  have HE1 : Hid _ := hE1
  clear hR1 hE1 t1
  go_wp2_with fail
  refine (wvar_ok b _ r.t w1 h1 (by omega) (by omega) (by first | omega | (simp only [List.length_append]; omega))).mono ?_
  rintro x w2 ⟨rfl, h2, t2⟩
  have T2 := wt_trans T1 t2
  clear y0 y1 h1 T1
  have l2 := fol_dg_len r.t.toNat
  go_wp2_with fail
  go_end0
  refine ⟨rfl, ?_, wt_new HT0.out T2⟩
  unfold bodyL
  simpa only [List.append_assoc] using h2
end Go.Proofs.YtmfbhhloabkecaaGreatDoor.C
