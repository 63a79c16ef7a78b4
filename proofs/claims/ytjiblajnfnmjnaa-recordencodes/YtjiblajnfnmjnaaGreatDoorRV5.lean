import Derived.Test.YtjiblajnfnmjnaaGreatDoorCLd
import Derived.Test.YtjiblajnfnmjnaaGreatDoorCDel
import Derived.Lib.QuietBelow
set_option maxHeartbeats 4000000
set_option maxRecDepth 100000
namespace Go.Proofs.YtjiblajnfnmjnaaGreatDoor.C
open Go.RowKit
theorem load_e (s : Sk) (F : Nat → Prop) (n : Int) (w : World) (h : TL w F s.to s.P) (hp : ∀ i (hi : i < s.P.length), s.P[i].1.cols.length ≤ 9223372036854775807) (e : Int) (he : e = ldE (s.P.map Prod.fst) n) : Calls Tryz.prog 237 #[.slice s.to s.P.length s.tc, .int .i64 n] w fun x w' => (∃ p, x = .returned (.tuple #[.pointer p, .int .i64 e])) ∧ Tch (fun _ => False) w w' := by
  refine (load_any s.P s.to s.tc F n w h hp).mono ?_
  rintro x w' ⟨⟨h1, h2⟩, t⟩
  refine ⟨?_, t⟩
  by_cases h0 : ldE (s.P.map Prod.fst) n = 0
  · obtain ⟨d, P, tv, hx, -⟩ := h1 h0
    exact ⟨_, by rw [hx, he, h0]⟩
  · exact ⟨_, by rw [h2 h0, he]⟩
theorem right_10i (r : Rc) (s : Sk) (F : Nat → Prop) (w : World) (h : RW w F r s) : Calls Tryz.prog 234 #[.agg #[.int .i64 r.x, .int .i64 r.t, .slice s.to s.P.length s.tc]] w fun x w' => EqT (rightC 10 r) w x w' := by
  obtain ⟨e, he⟩ : ∃ e, e = ldE (s.P.map Prod.fst) r.t := ⟨_, rfl⟩
  have HQ1 : Hid (∀ W, Tch (fun _ => False) w W → Calls Tryz.prog 237 #[.slice s.to s.P.length s.tc, .int .i64 r.t] W fun x w' => (∃ p, x = .returned (.tuple #[.pointer p, .int .i64 e])) ∧ Tch (fun _ => False) W w') := fun W t => load_e s F r.t W (h.tbs.no t) h.pl e he
  have q2 := isNext_any r.x
  obtain ⟨d, hd⟩ : ∃ d, d = decide (rtNx r.x) := ⟨_, rfl⟩
  rw [← hd] at q2
  have HQ2 : Hid _ := q2
  have HK : Hid (∀ W, Tch (fun _ => False) (w.alloc (.cells #[.int .i64 r.x, .int .i64 r.t, .slice s.to s.P.length s.tc] 145)) W → W.cell? ⟨w.heap.size, 0, none⟩ = some (.int .i64 r.x)) := fun W t => (t.cell (p := ⟨_, _, none⟩) (by simp) (fun h => h)).trans (by simp)
  have HR : Hid (rightC 10 r ↔ d = true ∧ e = 0) := by
    show rightC 10 r ↔ _
    rw [he, hd, h.eq, ldE_iff, decide_eq_true_iff]
    exact Iff.rfl
  clear h q2 hd he
  cases d
  · go_enter Tryz.func234, Tryz.ntmps234
    go_wp2_with fail
    refine (HQ1.out _ (Tch.alloc _ _ _)).mono ?_
    rintro x w1 ⟨⟨p, rfl⟩, t1⟩
    have y0 := HK.out _ t1
    go_wp2_with fail
    refine (HQ2.out _).mono ?_
    rintro x w2 ⟨rfl, rfl⟩
    go_wp2_with fail
    go_ret
    exact eqT_no (fun e => by have := (HR.out.1 e).1; simp at this) ((Tch.alloc _ _ _).trans' t1)
  · by_cases h0 : e = 0
    · have H0 : Hid (e = 0) := h0
      subst h0
      go_enter Tryz.func234, Tryz.ntmps234
      go_wp2_with fail
      refine (HQ1.out _ (Tch.alloc _ _ _)).mono ?_
      rintro x w1 ⟨⟨p, rfl⟩, t1⟩
      have y0 := HK.out _ t1
      go_wp2_with fail
      refine (HQ2.out _).mono ?_
      rintro x w2 ⟨rfl, rfl⟩
      go_wp2_with fail
      go_ret
      exact ⟨true, rfl, ⟨fun _ => HR.out.2 ⟨by first | rfl | trivial, by first | rfl | trivial⟩, fun _ => rfl⟩, (Tch.alloc _ _ _).trans' t1⟩
    · have h0b : (e == 0) = false := int_ne h0
      have HN : Hid (¬ e = 0) := h0
      clear h0
      go_enter Tryz.func234, Tryz.ntmps234
      go_wp2_with fail
      refine (HQ1.out _ (Tch.alloc _ _ _)).mono ?_
      rintro x w1 ⟨⟨p, rfl⟩, t1⟩
      have y0 := HK.out _ t1
      go_wp2_with fail
      refine (HQ2.out _).mono ?_
      rintro x w2 ⟨rfl, rfl⟩
      go_wp2_with fail
      go_ret
      exact eqT_no (fun e => HN.out (HR.out.1 e).2) ((Tch.alloc _ _ _).trans' t1)
end Go.Proofs.YtjiblajnfnmjnaaGreatDoor.C
namespace Go.Proofs.YtjiblajnfnmjnaaGreatDoor.C
open Go.RowKit Go Go.Sort
theorem Tch.regrown (w : World) (d : Nat) (os : Array Obj) : Tch (fun _ => False) w (grow (redrawn w d) os) := Tch.of_below (below_regrown w d os) (Nat.le_refl _)
theorem regrown_calls {P : Program} {f : FuncId} {args : Array Value} {v : Value} {w : World} (h : ∀ W, Tch (fun _ => False) w W → Calls P f args W fun x w' => x = .returned v ∧ Tch (fun _ => False) W w') (d : Nat) (os : Array Obj) : Calls P f args (grow (redrawn w d) os) fun e w'' => e = .returned v ∧ ∃ p : Regrown, w'' = grow (redrawn w p.d) p.os :=
  Calls.regrown_of ((h _ (Tch.regrown w d os)).mono fun _ _ ⟨he, t⟩ => ⟨he, t.below (Nat.le_refl _) (fun _ _ h => h)⟩)
theorem sl_nil (W : World) (cs : List Value) (h : cs = []) : SL W none cs := fun hc => absurd h hc
theorem ck_nil (W : World) (F : Nat → Prop) : CK W F (tb0, .slice none 0 0) none 0 := ⟨rfl, sl_nil W _ rfl, fun _ => ⟨rfl, rfl⟩, Nat.le_refl _, fun h => absurd rfl h⟩
theorem tl_nil (W : World) (F : Nat → Prop) : TL W F none [] := ⟨sl_nil W _ rfl, fun h => absurd rfl h, fun i hi => by simp at hi⟩
theorem RW.cut {W : World} {F : Nat → Prop} {r : Rc} {s : Sk} (h : RW W F r s) (c : Nat) : RW W F (cutC c r) (cutS c s) := by
  have hc : c = 3 ∨ c = 4 ∨ c = 5 ∨ c = 8 ∨ c = 10 ∨ c = 1 ∨ c = 2 ∨ c = 6 ∨ c = 7 ∨ c = 9 ∨ c = 0 ∨ 10 < c := by omega
  have n0 : ∀ v ∈ ([] : List Val), v.i64 := fun v hv => by simp at hv
  have e0 : ∀ {F : Nat → Prop}, ([] : List Val) ≠ [] → ∀ g o, (none : Option Addr) = some ⟨g, o, none⟩ → ¬ F g := fun h => absurd rfl h
  have z0 : (0 : Nat) ≤ 9223372036854775807 := Nat.zero_le _
  have p0 : ∀ i (hi : i < ([] : List (Tbl × Value)).length), ([] : List (Tbl × Value))[i].1.cols.length ≤ 9223372036854775807 := fun i hi => by simp at hi
  have q0 : ∀ k, RW W F (rc0 k) sk0 := fun k => ⟨sl_nil W _ rfl, sl_nil W _ rfl, ck_nil W F, tl_nil W F, rfl, e0, e0, n0, n0, z0, z0, z0, z0, p0⟩
  rcases hc with rfl | rfl | rfl | rfl | rfl | rfl | rfl | rfl | rfl | rfl | rfl | hc
  · exact ⟨sl_nil W _ rfl, h.n, ck_nil W F, tl_nil W F, rfl, e0, h.nnf, n0, h.ni, z0, h.nl, z0, z0, p0⟩
  · exact ⟨h.o, h.n, ck_nil W F, tl_nil W F, rfl, h.onf, h.nnf, h.oi, h.ni, h.ol, h.nl, z0, z0, p0⟩
  · exact ⟨h.o, sl_nil W _ rfl, ck_nil W F, tl_nil W F, rfl, h.onf, e0, h.oi, n0, h.ol, z0, z0, z0, p0⟩
  · exact ⟨sl_nil W _ rfl, sl_nil W _ rfl, h.tb, tl_nil W F, rfl, e0, e0, n0, n0, z0, z0, h.cl, z0, p0⟩
  · exact ⟨sl_nil W _ rfl, sl_nil W _ rfl, ck_nil W F, h.tbs, h.eq, e0, e0, n0, n0, z0, z0, z0, h.tl, h.pl⟩
  · exact ⟨sl_nil W _ rfl, sl_nil W _ rfl, ck_nil W F, tl_nil W F, rfl, e0, e0, n0, n0, z0, z0, z0, z0, p0⟩
  · exact ⟨sl_nil W _ rfl, sl_nil W _ rfl, ck_nil W F, tl_nil W F, rfl, e0, e0, n0, n0, z0, z0, z0, z0, p0⟩
  · exact ⟨sl_nil W _ rfl, sl_nil W _ rfl, ck_nil W F, tl_nil W F, rfl, e0, e0, n0, n0, z0, z0, z0, z0, p0⟩
  · exact ⟨sl_nil W _ rfl, sl_nil W _ rfl, ck_nil W F, tl_nil W F, rfl, e0, e0, n0, n0, z0, z0, z0, z0, p0⟩
  · exact ⟨sl_nil W _ rfl, sl_nil W _ rfl, ck_nil W F, tl_nil W F, rfl, e0, e0, n0, n0, z0, z0, z0, z0, p0⟩
  · exact q0 r.k
  · have e1 : cutC c r = rc0 r.k := by unfold cutC; split <;> first | omega | rfl
    have e2 : cutS c s = sk0 := by unfold cutS; split <;> first | omega | rfl
    rw [e1, e2]; exact q0 r.k
theorem eqT_true {p : Prop} {P : Program} {f : FuncId} {ar : Array Value} {W : World} (h : Calls P f ar W fun x w' => EqT p W x w') (hp : p) : Calls P f ar W fun x w' => x = .returned (.bool true) ∧ Tch (fun _ => False) W w' :=
  h.mono fun _ _ ⟨_, h1, h2, h3⟩ => ⟨by rw [h1, h2.2 hp], h3⟩
theorem eqT_d {p : Prop} {P : Program} {f : FuncId} {ar : Array Value} {W : World} {d : Bool} (h : Calls P f ar W fun x w' => EqT p W x w') (hd : d = true ↔ p) : Calls P f ar W fun x w' => x = .returned (.bool d) ∧ Tch (fun _ => False) W w' :=
  h.mono fun _ _ ⟨_, h1, h2, h3⟩ => ⟨by rw [h1]; congr 2; rw [Bool.eq_iff_iff, h2, hd], h3⟩
end Go.Proofs.YtjiblajnfnmjnaaGreatDoor.C
namespace Go.Proofs.YtjiblajnfnmjnaaGreatDoor.C
open Go.RowKit
theorem rowL_len (vs : List Val) : (rowL vs).length ≤ 1700 := by
  have h1 := encR_len vs
  unfold rowL textL
  have h2 := fol_dg_len (⟨(encR vs).1.toArray⟩ : ByteArray).size
  have h3 : (⟨(encR vs).1.toArray⟩ : ByteArray).data.toList.length = (encR vs).1.length := by simp
  rw [List.length_append]; omega
theorem textL_len {s : ByteArray} (h : s.size ≤ 16) : (textL s).length ≤ 26 := by
  have h2 := fol_dg_len s.size
  have h3 : s.data.toList.length = s.size := by simp
  unfold textL; rw [List.length_append]; omega
theorem wt_ge {b : Nat} {w : World} {i : Nat} (h : WT b w i) : b ≤ i := by
  rcases h with h | ⟨h, _⟩ <;> omega
theorem lay_1 (b : Nat) (bs : List UInt8) (r : Rc) (s : Sk) (w : World) (h : WS w b bs 0) (hg : HE w) (hgb : 1 < b) (hw : RW w (fun i => b ≤ i) r s) (hr : rightC 1 r) (hlen : bs.length + 100000 ≤ 140737488355328) :
    Calls Tryz.prog 186 #[.agg #[.int .i64 r.x], .pointer (some ⟨b, 0, none⟩)] w fun x w' => x = .returned (.tuple #[]) ∧ WS w' b (bs ++ bodyL 1 r) 0 ∧ Tch (WT b w) w w' := by
  have g1 : rtN r.x := hr
  unfold rtN at g1
  have hlt := h.lt
  obtain ⟨w0, hw0⟩ : ∃ w0, w0 = w.alloc (.cells #[.int .i64 r.x] 128) := ⟨_, rfl⟩
  have t0 : Tch (fun _ => False) w w0 := by rw [hw0]; exact Tch.alloc _ _ _
  have b0 : w0.heap[w.heap.size]? = some (.cells #[.int .i64 r.x] 128 (0, 0)) := by rw [hw0]; exact heap_new w _
  have HK : Hid (∀ W, Tch (WT b w0) w0 W → (W.cell? ⟨w.heap.size, 0, none⟩ = some (.int .i64 r.x)) ∧ RW W (fun i => b ≤ i) r s ∧ HE W) := fun W t => by
    have hb := wt_keep t b0 (by decide) (by omega)
    exact ⟨blk_cell hb 0, (hw.no t0).tch t (fun i _ h => wt_ge h), (hg.tch t0 (fun h => h)).tch t (fun h => by have := wt_ge h; omega)⟩
  have h0 : WS w0 b bs 0 := h.tch t0 (fun _ _ _ h => h)
  have HT0 : Hid (Tch (fun _ => False) w w0) := t0
  have HW0 : Hid (w0 = w.alloc (.cells #[.int .i64 r.x] 128)) := hw0
  obtain ⟨-, hR0, hE0⟩ := HK.out w0 (Tch.refl _ _)
  have HR0 : Hid _ := hR0
  have HE0 : Hid _ := hE0
  clear h hg hw t0 b0 hw0 hR0 hE0
  try clear hr
  go_enter Tryz.func186, Tryz.ntmps186
  go_wp2_with fail
  have q1 := wvar_ok b _ r.x w0 h0 (by omega) (by omega) (by first | omega | (simp only [List.length_append]; omega))
  rw [HW0.out] at q1
  refine q1.mono ?_
  rintro x w1 ⟨rfl, h1, t1⟩
  rw [← HW0.out] at t1
  clear q1 h0
  have T1 := t1
  have l1 := fol_dg_len r.x.toNat
  go_wp2_with fail
  go_end0
  refine ⟨rfl, ?_, wt_new HT0.out T1⟩
  unfold bodyL
  simpa only [List.append_assoc] using h1
theorem lay_2 (b : Nat) (bs : List UInt8) (r : Rc) (s : Sk) (w : World) (h : WS w b bs 0) (hg : HE w) (hgb : 1 < b) (hw : RW w (fun i => b ≤ i) r s) (hr : rightC 2 r) (hlen : bs.length + 100000 ≤ 140737488355328) :
    Calls Tryz.prog 193 #[.agg #[.int .i64 r.x, .int .i64 r.p], .pointer (some ⟨b, 0, none⟩)] w fun x w' => x = .returned (.tuple #[]) ∧ WS w' b (bs ++ bodyL 2 r) 0 ∧ Tch (WT b w) w w' := by
  obtain ⟨g1, g2, g3⟩ : rtN r.x ∧ rtN r.p ∧ r.p < r.x := hr
  unfold rtN at g1 g2
  have hlt := h.lt
  obtain ⟨w0, hw0⟩ : ∃ w0, w0 = w.alloc (.cells #[.int .i64 r.x, .int .i64 r.p] 130) := ⟨_, rfl⟩
  have t0 : Tch (fun _ => False) w w0 := by rw [hw0]; exact Tch.alloc _ _ _
  have b0 : w0.heap[w.heap.size]? = some (.cells #[.int .i64 r.x, .int .i64 r.p] 130 (0, 0)) := by rw [hw0]; exact heap_new w _
  have HK : Hid (∀ W, Tch (WT b w0) w0 W → (W.cell? ⟨w.heap.size, 0, none⟩ = some (.int .i64 r.x) ∧ W.cell? ⟨w.heap.size, 1, none⟩ = some (.int .i64 r.p)) ∧ RW W (fun i => b ≤ i) r s ∧ HE W) := fun W t => by
    have hb := wt_keep t b0 (by decide) (by omega)
    exact ⟨⟨blk_cell hb 0, blk_cell hb 1⟩, (hw.no t0).tch t (fun i _ h => wt_ge h), (hg.tch t0 (fun h => h)).tch t (fun h => by have := wt_ge h; omega)⟩
  have h0 : WS w0 b bs 0 := h.tch t0 (fun _ _ _ h => h)
  have HT0 : Hid (Tch (fun _ => False) w w0) := t0
  have HW0 : Hid (w0 = w.alloc (.cells #[.int .i64 r.x, .int .i64 r.p] 130)) := hw0
  obtain ⟨-, hR0, hE0⟩ := HK.out w0 (Tch.refl _ _)
  have HR0 : Hid _ := hR0
  have HE0 : Hid _ := hE0
  clear h hg hw t0 b0 hw0 hR0 hE0
  try clear hr
  go_enter Tryz.func193, Tryz.ntmps193
  go_wp2_with fail
  have q1 := wvar_ok b _ r.x w0 h0 (by omega) (by omega) (by first | omega | (simp only [List.length_append]; omega))
  rw [HW0.out] at q1
  refine q1.mono ?_
  rintro x w1 ⟨rfl, h1, t1⟩
  rw [← HW0.out] at t1
  clear q1 h0
  have T1 := t1
  have l1 := fol_dg_len r.x.toNat
  obtain ⟨⟨y0, y1⟩, hR1, hE1⟩ := HK.out w1 T1
  have HR1 : Hid _ := hR1
  have HE1 : Hid _ := hE1
  clear hR1 hE1 t1
  go_wp2_with fail
  refine (wvar_ok b _ r.p w1 h1 (by omega) (by omega) (by first | omega | (simp only [List.length_append]; omega))).mono ?_
  rintro x w2 ⟨rfl, h2, t2⟩
  have T2 := wt_trans T1 t2
  clear y0 y1 h1 T1
  have l2 := fol_dg_len r.p.toNat
  go_wp2_with fail
  go_end0
  refine ⟨rfl, ?_, wt_new HT0.out T2⟩
  unfold bodyL
  simpa only [List.append_assoc] using h2
theorem lay_3 (b : Nat) (bs : List UInt8) (r : Rc) (s : Sk) (w : World) (h : WS w b bs 0) (hg : HE w) (hgb : 1 < b) (hw : RW w (fun i => b ≤ i) r s) (hr : rightC 3 r) (hlen : bs.length + 100000 ≤ 140737488355328) :
    Calls Tryz.prog 196 #[.agg #[.int .i64 r.x, .int .i64 r.t, .slice s.no r.n.length s.nc], .pointer (some ⟨b, 0, none⟩)] w fun x w' => x = .returned (.tuple #[]) ∧ WS w' b (bs ++ bodyL 3 r) 0 ∧ Tch (WT b w) w w' := by
  obtain ⟨g1, g2, -⟩ : rtN r.x ∧ rtN r.t ∧ rtRow r.n := hr
  unfold rtN at g1 g2
  have hlt := h.lt
  obtain ⟨w0, hw0⟩ : ∃ w0, w0 = w.alloc (.cells #[.int .i64 r.x, .int .i64 r.t, .slice s.no r.n.length s.nc] 132) := ⟨_, rfl⟩
  have t0 : Tch (fun _ => False) w w0 := by rw [hw0]; exact Tch.alloc _ _ _
  have b0 : w0.heap[w.heap.size]? = some (.cells #[.int .i64 r.x, .int .i64 r.t, .slice s.no r.n.length s.nc] 132 (0, 0)) := by rw [hw0]; exact heap_new w _
  have HK : Hid (∀ W, Tch (WT b w0) w0 W → (W.cell? ⟨w.heap.size, 0, none⟩ = some (.int .i64 r.x) ∧ W.cell? ⟨w.heap.size, 1, none⟩ = some (.int .i64 r.t) ∧ W.cell? ⟨w.heap.size, 2, none⟩ = some (.slice s.no r.n.length s.nc)) ∧ RW W (fun i => b ≤ i) r s ∧ HE W) := fun W t => by
    have hb := wt_keep t b0 (by decide) (by omega)
    exact ⟨⟨blk_cell hb 0, blk_cell hb 1, blk_cell hb 2⟩, (hw.no t0).tch t (fun i _ h => wt_ge h), (hg.tch t0 (fun h => h)).tch t (fun h => by have := wt_ge h; omega)⟩
  have h0 : WS w0 b bs 0 := h.tch t0 (fun _ _ _ h => h)
  have HT0 : Hid (Tch (fun _ => False) w w0) := t0
  have HW0 : Hid (w0 = w.alloc (.cells #[.int .i64 r.x, .int .i64 r.t, .slice s.no r.n.length s.nc] 132)) := hw0
  obtain ⟨-, hR0, hE0⟩ := HK.out w0 (Tch.refl _ _)
  have HR0 : Hid _ := hR0
  have HE0 : Hid _ := hE0
  clear h hg hw t0 b0 hw0 hR0 hE0
  try clear hr
  go_enter Tryz.func196, Tryz.ntmps196
  go_wp2_with fail
  have q1 := wvar_ok b _ r.x w0 h0 (by omega) (by omega) (by first | omega | (simp only [List.length_append]; omega))
  rw [HW0.out] at q1
  refine q1.mono ?_
  rintro x w1 ⟨rfl, h1, t1⟩
  rw [← HW0.out] at t1
  clear q1 h0
  have T1 := t1
  have l1 := fol_dg_len r.x.toNat
  obtain ⟨⟨y0, y1, y2⟩, hR1, hE1⟩ := HK.out w1 T1
  have HR1 : Hid _ := hR1
  have HE1 : Hid _ := hE1
  clear hR1 hE1 t1
  go_wp2_with fail
  refine (wvar_ok b _ r.t w1 h1 (by omega) (by omega) (by first | omega | (simp only [List.length_append]; omega))).mono ?_
  rintro x w2 ⟨rfl, h2, t2⟩
  have T2 := wt_trans T1 t2
  clear y0 y1 y2 h1 T1
  have l2 := fol_dg_len r.t.toNat
  obtain ⟨⟨y0, y1, y2⟩, hR2, hE2⟩ := HK.out w2 T2
  have HR2 : Hid _ := hR2
  have HE2 : Hid _ := hE2
  clear hR2 hE2 t2
  go_wp2_with fail
  refine (layRow_any b _ r.n s.no s.nc w2 h2 HE2.out HR2.out.n HR2.out.ni HR2.out.nl (by first | omega | (simp only [List.length_append]; omega))).mono ?_
  rintro x w3 ⟨rfl, h3, t3⟩
  have T3 := wt_trans T2 t3
  clear y0 y1 y2 h2 T2
  have l3 := rowL_len r.n
  go_wp2_with fail
  go_end0
  refine ⟨rfl, ?_, wt_new HT0.out T3⟩
  unfold bodyL
  simpa only [List.append_assoc] using h3
theorem lay_4 (b : Nat) (bs : List UInt8) (r : Rc) (s : Sk) (w : World) (h : WS w b bs 0) (hg : HE w) (hgb : 1 < b) (hw : RW w (fun i => b ≤ i) r s) (hr : rightC 4 r) (hlen : bs.length + 100000 ≤ 140737488355328) :
    Calls Tryz.prog 211 #[.agg #[.int .i64 r.x, .int .i64 r.t, .slice s.oo r.o.length s.oc, .slice s.no r.n.length s.nc], .pointer (some ⟨b, 0, none⟩)] w fun x w' => x = .returned (.tuple #[]) ∧ WS w' b (bs ++ bodyL 4 r) 0 ∧ Tch (WT b w) w w' := by
  obtain ⟨g1, g2, -⟩ : rtN r.x ∧ rtN r.t ∧ rtRow r.o ∧ rtRow r.n := hr
  unfold rtN at g1 g2
  have hlt := h.lt
  obtain ⟨w0, hw0⟩ : ∃ w0, w0 = w.alloc (.cells #[.int .i64 r.x, .int .i64 r.t, .slice s.oo r.o.length s.oc, .slice s.no r.n.length s.nc] 134) := ⟨_, rfl⟩
  have t0 : Tch (fun _ => False) w w0 := by rw [hw0]; exact Tch.alloc _ _ _
  have b0 : w0.heap[w.heap.size]? = some (.cells #[.int .i64 r.x, .int .i64 r.t, .slice s.oo r.o.length s.oc, .slice s.no r.n.length s.nc] 134 (0, 0)) := by rw [hw0]; exact heap_new w _
  have HK : Hid (∀ W, Tch (WT b w0) w0 W → (W.cell? ⟨w.heap.size, 0, none⟩ = some (.int .i64 r.x) ∧ W.cell? ⟨w.heap.size, 1, none⟩ = some (.int .i64 r.t) ∧ W.cell? ⟨w.heap.size, 2, none⟩ = some (.slice s.oo r.o.length s.oc) ∧ W.cell? ⟨w.heap.size, 3, none⟩ = some (.slice s.no r.n.length s.nc)) ∧ RW W (fun i => b ≤ i) r s ∧ HE W) := fun W t => by
    have hb := wt_keep t b0 (by decide) (by omega)
    exact ⟨⟨blk_cell hb 0, blk_cell hb 1, blk_cell hb 2, blk_cell hb 3⟩, (hw.no t0).tch t (fun i _ h => wt_ge h), (hg.tch t0 (fun h => h)).tch t (fun h => by have := wt_ge h; omega)⟩
  have h0 : WS w0 b bs 0 := h.tch t0 (fun _ _ _ h => h)
  have HT0 : Hid (Tch (fun _ => False) w w0) := t0
  have HW0 : Hid (w0 = w.alloc (.cells #[.int .i64 r.x, .int .i64 r.t, .slice s.oo r.o.length s.oc, .slice s.no r.n.length s.nc] 134)) := hw0
  obtain ⟨-, hR0, hE0⟩ := HK.out w0 (Tch.refl _ _)
  have HR0 : Hid _ := hR0
  have HE0 : Hid _ := hE0
  clear h hg hw t0 b0 hw0 hR0 hE0
  try clear hr
  go_enter Tryz.func211, Tryz.ntmps211
  go_wp2_with fail
  have q1 := wvar_ok b _ r.x w0 h0 (by omega) (by omega) (by first | omega | (simp only [List.length_append]; omega))
  rw [HW0.out] at q1
  refine q1.mono ?_
  rintro x w1 ⟨rfl, h1, t1⟩
  rw [← HW0.out] at t1
  clear q1 h0
  have T1 := t1
  have l1 := fol_dg_len r.x.toNat
  obtain ⟨⟨y0, y1, y2, y3⟩, hR1, hE1⟩ := HK.out w1 T1
  have HR1 : Hid _ := hR1
  have HE1 : Hid _ := hE1
  clear hR1 hE1 t1
  go_wp2_with fail
  refine (wvar_ok b _ r.t w1 h1 (by omega) (by omega) (by first | omega | (simp only [List.length_append]; omega))).mono ?_
  rintro x w2 ⟨rfl, h2, t2⟩
  have T2 := wt_trans T1 t2
  clear y0 y1 y2 y3 h1 T1
  have l2 := fol_dg_len r.t.toNat
  obtain ⟨⟨y0, y1, y2, y3⟩, hR2, hE2⟩ := HK.out w2 T2
  have HR2 : Hid _ := hR2
  have HE2 : Hid _ := hE2
  clear hR2 hE2 t2
  go_wp2_with fail
  refine (layRow_any b _ r.o s.oo s.oc w2 h2 HE2.out HR2.out.o HR2.out.oi HR2.out.ol (by first | omega | (simp only [List.length_append]; omega))).mono ?_
  rintro x w3 ⟨rfl, h3, t3⟩
  have T3 := wt_trans T2 t3
  clear y0 y1 y2 y3 h2 T2
  have l3 := rowL_len r.o
  obtain ⟨⟨y0, y1, y2, y3⟩, hR3, hE3⟩ := HK.out w3 T3
  have HR3 : Hid _ := hR3
  have HE3 : Hid _ := hE3
  clear hR3 hE3 t3
  go_wp2_with fail
  refine (layRow_any b _ r.n s.no s.nc w3 h3 HE3.out HR3.out.n HR3.out.ni HR3.out.nl (by first | omega | (simp only [List.length_append]; omega))).mono ?_
  rintro x w4 ⟨rfl, h4, t4⟩
  have T4 := wt_trans T3 t4
  clear y0 y1 y2 y3 h3 T3
  have l4 := rowL_len r.n
  go_wp2_with fail
  go_end0
  refine ⟨rfl, ?_, wt_new HT0.out T4⟩
  unfold bodyL
  simpa only [List.append_assoc] using h4
theorem lay_5 (b : Nat) (bs : List UInt8) (r : Rc) (s : Sk) (w : World) (h : WS w b bs 0) (hg : HE w) (hgb : 1 < b) (hw : RW w (fun i => b ≤ i) r s) (hr : rightC 5 r) (hlen : bs.length + 100000 ≤ 140737488355328) :
    Calls Tryz.prog 214 #[.agg #[.int .i64 r.x, .int .i64 r.t, .slice s.oo r.o.length s.oc], .pointer (some ⟨b, 0, none⟩)] w fun x w' => x = .returned (.tuple #[]) ∧ WS w' b (bs ++ bodyL 5 r) 0 ∧ Tch (WT b w) w w' := by
  obtain ⟨g1, g2, -⟩ : rtN r.x ∧ rtN r.t ∧ rtRow r.o := hr
  unfold rtN at g1 g2
  have hlt := h.lt
  obtain ⟨w0, hw0⟩ : ∃ w0, w0 = w.alloc (.cells #[.int .i64 r.x, .int .i64 r.t, .slice s.oo r.o.length s.oc] 135) := ⟨_, rfl⟩
  have t0 : Tch (fun _ => False) w w0 := by rw [hw0]; exact Tch.alloc _ _ _
  have b0 : w0.heap[w.heap.size]? = some (.cells #[.int .i64 r.x, .int .i64 r.t, .slice s.oo r.o.length s.oc] 135 (0, 0)) := by rw [hw0]; exact heap_new w _
  have HK : Hid (∀ W, Tch (WT b w0) w0 W → (W.cell? ⟨w.heap.size, 0, none⟩ = some (.int .i64 r.x) ∧ W.cell? ⟨w.heap.size, 1, none⟩ = some (.int .i64 r.t) ∧ W.cell? ⟨w.heap.size, 2, none⟩ = some (.slice s.oo r.o.length s.oc)) ∧ RW W (fun i => b ≤ i) r s ∧ HE W) := fun W t => by
    have hb := wt_keep t b0 (by decide) (by omega)
    exact ⟨⟨blk_cell hb 0, blk_cell hb 1, blk_cell hb 2⟩, (hw.no t0).tch t (fun i _ h => wt_ge h), (hg.tch t0 (fun h => h)).tch t (fun h => by have := wt_ge h; omega)⟩
  have h0 : WS w0 b bs 0 := h.tch t0 (fun _ _ _ h => h)
  have HT0 : Hid (Tch (fun _ => False) w w0) := t0
  have HW0 : Hid (w0 = w.alloc (.cells #[.int .i64 r.x, .int .i64 r.t, .slice s.oo r.o.length s.oc] 135)) := hw0
  obtain ⟨-, hR0, hE0⟩ := HK.out w0 (Tch.refl _ _)
  have HR0 : Hid _ := hR0
  have HE0 : Hid _ := hE0
  clear h hg hw t0 b0 hw0 hR0 hE0
  try clear hr
  go_enter Tryz.func214, Tryz.ntmps214
  go_wp2_with fail
  have q1 := wvar_ok b _ r.x w0 h0 (by omega) (by omega) (by first | omega | (simp only [List.length_append]; omega))
  rw [HW0.out] at q1
  refine q1.mono ?_
  rintro x w1 ⟨rfl, h1, t1⟩
  rw [← HW0.out] at t1
  clear q1 h0
  have T1 := t1
  have l1 := fol_dg_len r.x.toNat
  obtain ⟨⟨y0, y1, y2⟩, hR1, hE1⟩ := HK.out w1 T1
  have HR1 : Hid _ := hR1
  have HE1 : Hid _ := hE1
  clear hR1 hE1 t1
  go_wp2_with fail
  refine (wvar_ok b _ r.t w1 h1 (by omega) (by omega) (by first | omega | (simp only [List.length_append]; omega))).mono ?_
  rintro x w2 ⟨rfl, h2, t2⟩
  have T2 := wt_trans T1 t2
  clear y0 y1 y2 h1 T1
  have l2 := fol_dg_len r.t.toNat
  obtain ⟨⟨y0, y1, y2⟩, hR2, hE2⟩ := HK.out w2 T2
  have HR2 : Hid _ := hR2
  have HE2 : Hid _ := hE2
  clear hR2 hE2 t2
  go_wp2_with fail
  refine (layRow_any b _ r.o s.oo s.oc w2 h2 HE2.out HR2.out.o HR2.out.oi HR2.out.ol (by first | omega | (simp only [List.length_append]; omega))).mono ?_
  rintro x w3 ⟨rfl, h3, t3⟩
  have T3 := wt_trans T2 t3
  clear y0 y1 y2 h2 T2
  have l3 := rowL_len r.o
  go_wp2_with fail
  go_end0
  refine ⟨rfl, ?_, wt_new HT0.out T3⟩
  unfold bodyL
  simpa only [List.append_assoc] using h3
theorem lay_6 (b : Nat) (bs : List UInt8) (r : Rc) (s : Sk) (w : World) (h : WS w b bs 0) (hg : HE w) (hgb : 1 < b) (hw : RW w (fun i => b ≤ i) r s) (hr : rightC 6 r) (hlen : bs.length + 100000 ≤ 140737488355328) :
    Calls Tryz.prog 217 #[.agg #[.int .i64 r.x, .string r.nm, .int .i64 r.org], .pointer (some ⟨b, 0, none⟩)] w fun x w' => x = .returned (.tuple #[]) ∧ WS w' b (bs ++ bodyL 6 r) 0 ∧ Tch (WT b w) w w' := by
  obtain ⟨g1, g2⟩ : rtN r.x ∧ ((r.nm.size = 0 ∧ r.org = 0) ∨ (nmOk r.nm = true ∧ 1 ≤ r.org ∧ r.org ≤ 819208192)) := hr
  have hnm : r.nm.size ≤ 16 := by
    rcases g2 with h | h
    · omega
    · exact nm_size h.1
  have g3 : 0 ≤ r.org ∧ r.org ≤ 819208192 := by rcases g2 with h | h <;> omega
  unfold rtN at g1
  clear g2
  have hlt := h.lt
  obtain ⟨w0, hw0⟩ : ∃ w0, w0 = w.alloc (.cells #[.int .i64 r.x, .string r.nm, .int .i64 r.org] 137) := ⟨_, rfl⟩
  have t0 : Tch (fun _ => False) w w0 := by rw [hw0]; exact Tch.alloc _ _ _
  have b0 : w0.heap[w.heap.size]? = some (.cells #[.int .i64 r.x, .string r.nm, .int .i64 r.org] 137 (0, 0)) := by rw [hw0]; exact heap_new w _
  have HK : Hid (∀ W, Tch (WT b w0) w0 W → (W.cell? ⟨w.heap.size, 0, none⟩ = some (.int .i64 r.x) ∧ W.cell? ⟨w.heap.size, 1, none⟩ = some (.string r.nm) ∧ W.cell? ⟨w.heap.size, 2, none⟩ = some (.int .i64 r.org)) ∧ RW W (fun i => b ≤ i) r s ∧ HE W) := fun W t => by
    have hb := wt_keep t b0 (by decide) (by omega)
    exact ⟨⟨blk_cell hb 0, blk_cell hb 1, blk_cell hb 2⟩, (hw.no t0).tch t (fun i _ h => wt_ge h), (hg.tch t0 (fun h => h)).tch t (fun h => by have := wt_ge h; omega)⟩
  have h0 : WS w0 b bs 0 := h.tch t0 (fun _ _ _ h => h)
  have HT0 : Hid (Tch (fun _ => False) w w0) := t0
  have HW0 : Hid (w0 = w.alloc (.cells #[.int .i64 r.x, .string r.nm, .int .i64 r.org] 137)) := hw0
  obtain ⟨-, hR0, hE0⟩ := HK.out w0 (Tch.refl _ _)
  have HR0 : Hid _ := hR0
  have HE0 : Hid _ := hE0
  clear h hg hw t0 b0 hw0 hR0 hE0
  try clear hr
  go_enter Tryz.func217, Tryz.ntmps217
  go_wp2_with fail
  have q1 := wvar_ok b _ r.x w0 h0 (by omega) (by omega) (by first | omega | (simp only [List.length_append]; omega))
  rw [HW0.out] at q1
  refine q1.mono ?_
  rintro x w1 ⟨rfl, h1, t1⟩
  rw [← HW0.out] at t1
  clear q1 h0
  have T1 := t1
  have l1 := fol_dg_len r.x.toNat
  obtain ⟨⟨y0, y1, y2⟩, hR1, hE1⟩ := HK.out w1 T1
  have HR1 : Hid _ := hR1
  have HE1 : Hid _ := hE1
  clear hR1 hE1 t1
  go_wp2_with fail
  refine (wtext_ok b _ r.nm 16 w1 h1 (by omega) (by first | omega | (simp only [List.length_append]; omega))).mono ?_
  rintro x w2 ⟨rfl, h2, t2⟩
  have T2 := wt_trans T1 t2
  clear y0 y1 y2 h1 T1
  have l2 := textL_len hnm
  obtain ⟨⟨y0, y1, y2⟩, hR2, hE2⟩ := HK.out w2 T2
  have HR2 : Hid _ := hR2
  have HE2 : Hid _ := hE2
  clear hR2 hE2 t2
  go_wp2_with fail
  refine (wvar_ok b _ r.org w2 h2 (by omega) (by omega) (by first | omega | (simp only [List.length_append]; omega))).mono ?_
  rintro x w3 ⟨rfl, h3, t3⟩
  have T3 := wt_trans T2 t3
  clear y0 y1 y2 h2 T2
  have l3 := fol_dg_len r.org.toNat
  go_wp2_with fail
  go_end0
  refine ⟨rfl, ?_, wt_new HT0.out T3⟩
  unfold bodyL
  simpa only [List.append_assoc] using h3
theorem lay_7 (b : Nat) (bs : List UInt8) (r : Rc) (s : Sk) (w : World) (h : WS w b bs 0) (hg : HE w) (hgb : 1 < b) (hw : RW w (fun i => b ≤ i) r s) (hr : rightC 7 r) (hlen : bs.length + 100000 ≤ 140737488355328) :
    Calls Tryz.prog 222 #[.agg #[.int .i64 r.x, .string r.nm], .pointer (some ⟨b, 0, none⟩)] w fun x w' => x = .returned (.tuple #[]) ∧ WS w' b (bs ++ bodyL 7 r) 0 ∧ Tch (WT b w) w w' := by
  obtain ⟨g1, g2⟩ : rtN r.x ∧ nmOk r.nm = true := hr
  have hnm := nm_size g2
  unfold rtN at g1
  clear g2
  have hlt := h.lt
  obtain ⟨w0, hw0⟩ : ∃ w0, w0 = w.alloc (.cells #[.int .i64 r.x, .string r.nm] 139) := ⟨_, rfl⟩
  have t0 : Tch (fun _ => False) w w0 := by rw [hw0]; exact Tch.alloc _ _ _
  have b0 : w0.heap[w.heap.size]? = some (.cells #[.int .i64 r.x, .string r.nm] 139 (0, 0)) := by rw [hw0]; exact heap_new w _
  have HK : Hid (∀ W, Tch (WT b w0) w0 W → (W.cell? ⟨w.heap.size, 0, none⟩ = some (.int .i64 r.x) ∧ W.cell? ⟨w.heap.size, 1, none⟩ = some (.string r.nm)) ∧ RW W (fun i => b ≤ i) r s ∧ HE W) := fun W t => by
    have hb := wt_keep t b0 (by decide) (by omega)
    exact ⟨⟨blk_cell hb 0, blk_cell hb 1⟩, (hw.no t0).tch t (fun i _ h => wt_ge h), (hg.tch t0 (fun h => h)).tch t (fun h => by have := wt_ge h; omega)⟩
  have h0 : WS w0 b bs 0 := h.tch t0 (fun _ _ _ h => h)
  have HT0 : Hid (Tch (fun _ => False) w w0) := t0
  have HW0 : Hid (w0 = w.alloc (.cells #[.int .i64 r.x, .string r.nm] 139)) := hw0
  obtain ⟨-, hR0, hE0⟩ := HK.out w0 (Tch.refl _ _)
  have HR0 : Hid _ := hR0
  have HE0 : Hid _ := hE0
  clear h hg hw t0 b0 hw0 hR0 hE0
  try clear hr
  go_enter Tryz.func222, Tryz.ntmps222
  go_wp2_with fail
  have q1 := wvar_ok b _ r.x w0 h0 (by omega) (by omega) (by first | omega | (simp only [List.length_append]; omega))
  rw [HW0.out] at q1
  refine q1.mono ?_
  rintro x w1 ⟨rfl, h1, t1⟩
  rw [← HW0.out] at t1
  clear q1 h0
  have T1 := t1
  have l1 := fol_dg_len r.x.toNat
  obtain ⟨⟨y0, y1⟩, hR1, hE1⟩ := HK.out w1 T1
  have HR1 : Hid _ := hR1
  have HE1 : Hid _ := hE1
  clear hR1 hE1 t1
  go_wp2_with fail
  refine (wtext_ok b _ r.nm 16 w1 h1 (by omega) (by first | omega | (simp only [List.length_append]; omega))).mono ?_
  rintro x w2 ⟨rfl, h2, t2⟩
  have T2 := wt_trans T1 t2
  clear y0 y1 h1 T1
  have l2 := textL_len hnm
  go_wp2_with fail
  go_end0
  refine ⟨rfl, ?_, wt_new HT0.out T2⟩
  unfold bodyL
  simpa only [List.append_assoc] using h2
theorem lay_8 (b : Nat) (bs : List UInt8) (r : Rc) (s : Sk) (w : World) (h : WS w b bs 0) (hg : HE w) (hgb : 1 < b) (hw : RW w (fun i => b ≤ i) r s) (hr : rightC 8 r) (hlen : bs.length + 100000 ≤ 140737488355328) :
    Calls Tryz.prog 225 #[.agg #[.int .i64 r.x, .int .i64 r.tb.id, .int .i64 r.tb.ver, .string r.tb.nm, .slice s.co r.tb.cols.length s.cc, .int .i64 r.tb.key], .pointer (some ⟨b, 0, none⟩)] w fun x w' => x = .returned (.tuple #[]) ∧ WS w' b (bs ++ bodyL 8 r) 0 ∧ Tch (WT b w) w w' := by
  obtain ⟨g1, g2⟩ : rtN r.x ∧ rightE r.tb = 0 := hr
  have HRT : Hid (RT r.tb) := right_rt g2
  unfold rtN at g1
  have HNF : Hid (∀ g o, s.co = some ⟨g, o, none⟩ → g < b) := fun g o e => by
    have hne : r.tb.cols ≠ [] := fun e0 => by have h1 := HRT.out.len; rw [e0] at h1; simp at h1
    have := (hw.tb.nf hne g o e).1
    omega
  clear g2
  have hlt := h.lt
  obtain ⟨w0, hw0⟩ : ∃ w0, w0 = w.alloc (.cells #[.int .i64 r.x, .int .i64 r.tb.id, .int .i64 r.tb.ver, .string r.tb.nm, .slice s.co r.tb.cols.length s.cc, .int .i64 r.tb.key] 141) := ⟨_, rfl⟩
  have t0 : Tch (fun _ => False) w w0 := by rw [hw0]; exact Tch.alloc _ _ _
  have b0 : w0.heap[w.heap.size]? = some (.cells #[.int .i64 r.x, .int .i64 r.tb.id, .int .i64 r.tb.ver, .string r.tb.nm, .slice s.co r.tb.cols.length s.cc, .int .i64 r.tb.key] 141 (0, 0)) := by rw [hw0]; exact heap_new w _
  have HK : Hid (∀ W, Tch (WT b w0) w0 W → (W.cell? ⟨w.heap.size, 0, none⟩ = some (.int .i64 r.x) ∧ W.cell? ⟨w.heap.size, 1, none⟩ = some (.int .i64 r.tb.id) ∧ W.cell? ⟨w.heap.size, 2, none⟩ = some (.int .i64 r.tb.ver) ∧ W.cell? ⟨w.heap.size, 3, none⟩ = some (.string r.tb.nm) ∧ W.cell? ⟨w.heap.size, 4, none⟩ = some (.slice s.co r.tb.cols.length s.cc) ∧ W.cell? ⟨w.heap.size, 5, none⟩ = some (.int .i64 r.tb.key)) ∧ RW W (fun i => b ≤ i) r s ∧ HE W) := fun W t => by
    have hb := wt_keep t b0 (by decide) (by omega)
    exact ⟨⟨blk_cell hb 0, blk_cell hb 1, blk_cell hb 2, blk_cell hb 3, blk_cell hb 4, blk_cell hb 5⟩, (hw.no t0).tch t (fun i _ h => wt_ge h), (hg.tch t0 (fun h => h)).tch t (fun h => by have := wt_ge h; omega)⟩
  have h0 : WS w0 b bs 0 := h.tch t0 (fun _ _ _ h => h)
  have HT0 : Hid (Tch (fun _ => False) w w0) := t0
  have HW0 : Hid (w0 = w.alloc (.cells #[.int .i64 r.x, .int .i64 r.tb.id, .int .i64 r.tb.ver, .string r.tb.nm, .slice s.co r.tb.cols.length s.cc, .int .i64 r.tb.key] 141)) := hw0
  obtain ⟨-, hR0, hE0⟩ := HK.out w0 (Tch.refl _ _)
  have HR0 : Hid _ := hR0
  have HE0 : Hid _ := hE0
  clear h hg hw t0 b0 hw0 hR0 hE0
  try clear hr
  go_enter Tryz.func225, Tryz.ntmps225
  go_wp2_with fail
  have q1 := wvar_ok b _ r.x w0 h0 (by omega) (by omega) (by first | omega | (simp only [List.length_append]; omega))
  rw [HW0.out] at q1
  refine q1.mono ?_
  rintro x w1 ⟨rfl, h1, t1⟩
  rw [← HW0.out] at t1
  clear q1 h0
  have T1 := t1
  have l1 := fol_dg_len r.x.toNat
  obtain ⟨⟨y0, y1, y2, y3, y4, y5⟩, hR1, hE1⟩ := HK.out w1 T1
  have HR1 : Hid _ := hR1
  have HE1 : Hid _ := hE1
  clear hR1 hE1 t1
  go_wp2_with fail
  refine (layTable_any b _ r.tb s.co s.cc w1 h1 HRT.out HR1.out.tb.sl (HNF.out) (by first | omega | (simp only [List.length_append]; omega))).mono ?_
  rintro x w2 ⟨rfl, h2, t2⟩
  have T2 := wt_trans T1 t2
  clear y0 y1 y2 y3 y4 y5 h1 T1
  go_wp2_with fail
  go_end0
  refine ⟨rfl, ?_, wt_new HT0.out T2⟩
  unfold bodyL
  simpa only [List.append_assoc] using h2
theorem lay_9 (b : Nat) (bs : List UInt8) (r : Rc) (s : Sk) (w : World) (h : WS w b bs 0) (hg : HE w) (hgb : 1 < b) (hw : RW w (fun i => b ≤ i) r s) (hr : rightC 9 r) (hlen : bs.length + 100000 ≤ 140737488355328) :
    Calls Tryz.prog 232 #[.agg #[.int .i64 r.x, .int .i64 r.t], .pointer (some ⟨b, 0, none⟩)] w fun x w' => x = .returned (.tuple #[]) ∧ WS w' b (bs ++ bodyL 9 r) 0 ∧ Tch (WT b w) w w' := by
  obtain ⟨g1, g2⟩ : rtN r.x ∧ rtN r.t := hr
  unfold rtN at g1 g2
  have hlt := h.lt
  obtain ⟨w0, hw0⟩ : ∃ w0, w0 = w.alloc (.cells #[.int .i64 r.x, .int .i64 r.t] 143) := ⟨_, rfl⟩
  have t0 : Tch (fun _ => False) w w0 := by rw [hw0]; exact Tch.alloc _ _ _
  have b0 : w0.heap[w.heap.size]? = some (.cells #[.int .i64 r.x, .int .i64 r.t] 143 (0, 0)) := by rw [hw0]; exact heap_new w _
  have HK : Hid (∀ W, Tch (WT b w0) w0 W → (W.cell? ⟨w.heap.size, 0, none⟩ = some (.int .i64 r.x) ∧ W.cell? ⟨w.heap.size, 1, none⟩ = some (.int .i64 r.t)) ∧ RW W (fun i => b ≤ i) r s ∧ HE W) := fun W t => by
    have hb := wt_keep t b0 (by decide) (by omega)
    exact ⟨⟨blk_cell hb 0, blk_cell hb 1⟩, (hw.no t0).tch t (fun i _ h => wt_ge h), (hg.tch t0 (fun h => h)).tch t (fun h => by have := wt_ge h; omega)⟩
  have h0 : WS w0 b bs 0 := h.tch t0 (fun _ _ _ h => h)
  have HT0 : Hid (Tch (fun _ => False) w w0) := t0
  have HW0 : Hid (w0 = w.alloc (.cells #[.int .i64 r.x, .int .i64 r.t] 143)) := hw0
  obtain ⟨-, hR0, hE0⟩ := HK.out w0 (Tch.refl _ _)
  have HR0 : Hid _ := hR0
  have HE0 : Hid _ := hE0
  clear h hg hw t0 b0 hw0 hR0 hE0
  try clear hr
  go_enter Tryz.func232, Tryz.ntmps232
  go_wp2_with fail
  have q1 := wvar_ok b _ r.x w0 h0 (by omega) (by omega) (by first | omega | (simp only [List.length_append]; omega))
  rw [HW0.out] at q1
  refine q1.mono ?_
  rintro x w1 ⟨rfl, h1, t1⟩
  rw [← HW0.out] at t1
  clear q1 h0
  have T1 := t1
  have l1 := fol_dg_len r.x.toNat
  obtain ⟨⟨y0, y1⟩, hR1, hE1⟩ := HK.out w1 T1
  have HR1 : Hid _ := hR1
  have HE1 : Hid _ := hE1
  clear hR1 hE1 t1
  go_wp2_with fail
  refine (wvar_ok b _ r.t w1 h1 (by omega) (by omega) (by first | omega | (simp only [List.length_append]; omega))).mono ?_
  rintro x w2 ⟨rfl, h2, t2⟩
  have T2 := wt_trans T1 t2
  clear y0 y1 h1 T1
  have l2 := fol_dg_len r.t.toNat
  go_wp2_with fail
  go_end0
  refine ⟨rfl, ?_, wt_new HT0.out T2⟩
  unfold bodyL
  simpa only [List.append_assoc] using h2
theorem tabL_len {t : Tbl} (h : RT t) : (tabL t).length ≤ 400 := by
  have h1 := fol_dg_len t.id.toNat
  have h2 := fol_dg_len t.ver.toNat
  have h3 := textL_len (nm_size h.nm)
  have h4 := colsL_len h.cols
  have h5 := h.len
  have e1 : ∀ n : Int, (bytesL [n]).length = 1 := fun _ => rfl
  unfold tabL
  simp only [List.length_append, e1]
  omega
theorem tabsL_len : ∀ {l : List Tbl}, (∀ t ∈ l, RT t) → (tabsL l).length ≤ l.length * 400
  | [], _ => by simp [tabsL]
  | c :: l, h => by
    have e : tabsL (c :: l) = tabL c ++ tabsL l := List.flatMap_cons
    have h1 := tabL_len (h c (by simp))
    have h2 := tabsL_len (l := l) (fun x hx => h x (by simp [hx]))
    rw [e, List.length_append, List.length_cons]; omega
theorem tabsL_succ (l : List Tbl) (k : Nat) (hk : k < l.length) : tabsL (l.take (k + 1)) = tabsL (l.take k) ++ tabL l[k] := by
  have h : l.take (k + 1) = l.take k ++ [l[k]] := (List.take_append_getElem hk).symm
  unfold tabsL
  rw [h, List.flatMap_append, List.flatMap_cons, List.flatMap_nil, List.append_nil]
theorem lay_10 (b : Nat) (bs : List UInt8) (r : Rc) (s : Sk) (w : World) (h : WS w b bs 0) (_hg : HE w) (_hgb : 1 < b) (hw : RW w (fun i => b ≤ i) r s) (hr : rightC 10 r) (hlen : bs.length + 100000 ≤ 140737488355328) :
    Calls Tryz.prog 235 #[.agg #[.int .i64 r.x, .int .i64 r.t, .slice s.to s.P.length s.tc], .pointer (some ⟨b, 0, none⟩)] w fun x w' => x = .returned (.tuple #[]) ∧ WS w' b (bs ++ bodyL 10 r) 0 ∧ Tch (WT b w) w w' := by
  obtain ⟨g1, g2, g3⟩ : (1 ≤ r.x ∧ r.x ≤ 2147483648) ∧ (1 ≤ r.t ∧ r.t ≤ 2147483648) ∧ LDp r.tbs r.t := hr
  have hlt := h.lt
  have HRT : Hid (∀ t ∈ r.tbs, RT t) := g3.rt
  obtain ⟨n, hn⟩ : ∃ n, n = s.P.length := ⟨_, rfl⟩
  have hnt : n = r.tbs.length := by rw [hn, ← hw.eq, List.length_map]
  have hn16 : n ≤ 16 := by have := g3.len; omega
  have HEQ : Hid (s.P.map Prod.fst = r.tbs ∧ n = s.P.length ∧ n = r.tbs.length) := ⟨hw.eq, hn, hnt⟩
  rw [← hn]
  obtain ⟨w0, hw0⟩ : ∃ w0, w0 = w.alloc (.cells #[.int .i64 r.x, .int .i64 r.t, .slice s.to n s.tc] 145) := ⟨_, rfl⟩
  have t0 : Tch (fun _ => False) w w0 := by rw [hw0]; exact Tch.alloc _ _ _
  have b0 : w0.heap[w.heap.size]? = some (.cells #[.int .i64 r.x, .int .i64 r.t, .slice s.to n s.tc] 145 (0, 0)) := by rw [hw0]; exact heap_new w _
  have HK : Hid (∀ W, Tch (WT b w0) w0 W → (W.cell? ⟨w.heap.size, 0, none⟩ = some (.int .i64 r.x) ∧ W.cell? ⟨w.heap.size, 1, none⟩ = some (.int .i64 r.t) ∧ W.cell? ⟨w.heap.size, 2, none⟩ = some (.slice s.to n s.tc)) ∧ TL W (fun i => b ≤ i) s.to s.P) := fun W t => by
    have hb := wt_keep t b0 (by decide) (by omega)
    exact ⟨⟨blk_cell hb 0, blk_cell hb 1, blk_cell hb 2⟩, ((hw.no t0).tch t (fun i _ h => wt_ge h)).tbs⟩
  have h0 : WS w0 b bs 0 := h.tch t0 (fun _ _ _ h => h)
  have HT0 : Hid (Tch (fun _ => False) w w0) := t0
  have HW0 : Hid (w0 = w.alloc (.cells #[.int .i64 r.x, .int .i64 r.t, .slice s.to n s.tc] 145)) := hw0
  clear h hw t0 b0 hw0 hn hnt g3
  go_enter Tryz.func235, Tryz.ntmps235
  go_wp2_with fail
  have q1 := wvar_ok b _ r.x w0 h0 (by omega) (by omega) (by omega)
  rw [HW0.out] at q1
  refine q1.mono ?_
  rintro x w1 ⟨rfl, h1, t1⟩
  rw [← HW0.out] at t1
  clear q1 h0
  have l1 := fol_dg_len r.x.toNat
  obtain ⟨⟨y0, y1, y2⟩, -⟩ := HK.out w1 t1
  go_wp2_with fail
  refine (wvar_ok b _ r.t w1 h1 (by omega) (by omega) (by simp only [List.length_append]; omega)).mono ?_
  rintro x w2 ⟨rfl, h2, t2⟩
  have T2 := wt_trans t1 t2
  have l2 := fol_dg_len r.t.toNat
  clear y0 y1 y2 h1 t1 t2
  obtain ⟨⟨y0, y1, y2⟩, -⟩ := HK.out w2 T2
  go_wp2_with fail
  refine (wbyte1' b _ n _ w2 h2 (by simp) (by omega) (by omega) (by simp only [List.length_append]; omega)).mono ?_
  rintro x w3 ⟨rfl, h3, t3⟩
  have T3 := wt_trans T2 t3
  clear y0 y1 y2 h2 T2 t3
  obtain ⟨⟨y0, y1, y2⟩, -⟩ := HK.out w3 T3
  obtain ⟨B, hB⟩ : ∃ B, B = bs ++ dg r.x.toNat ++ dg r.t.toNat ++ bytesL [(n : Int)] := ⟨_, rfl⟩
  have lB : B.length ≤ bs.length + 21 := by
    have : (bytesL [(n : Int)]).length = 1 := rfl
    rw [hB]; simp only [List.length_append]; omega
  rw [← hB] at h3
  have HB : Hid (B = bs ++ dg r.x.toNat ++ dg r.t.toNat ++ bytesL [(n : Int)]) := hB
  clear hB l1 l2
  go_wp2_with fail
  go_loopw [23] (fun i wr => ∃ k : Nat, i = .int .i64 k ∧ k ≤ n ∧ WS wr b (B ++ tabsL (r.tbs.take k)) 0 ∧ Tch (WT b w0) w0 wr) (fun i _ => n - (intOf i).toNat)
  case atStart => exact ⟨0, rfl, Nat.zero_le _, by simpa [tabsL] using h3, T3⟩
  case round =>
    obtain ⟨k, rfl, hk, hW, hT⟩ := hrel
    clear h3 T3 y0 y1 y2
    have HCt : Hid (∀ c ∈ r.tbs.take k, RT c) := fun c hc => HRT.out c (List.mem_of_mem_take hc)
    have lc := tabsL_len HCt.out
    have lk : (r.tbs.take k).length ≤ 16 := by rw [List.length_take]; omega
    obtain ⟨-, hs⟩ := HK.out _ hT
    have hwl := hW.lt
    by_cases hkn : k < n
    · have hkn' : (k : Int) < n := by omega
      have hkP : k < s.P.length := by have := HEQ.out.2.1; omega
      have hkt : k < r.tbs.length := by have := HEQ.out.2.2; omega
      obtain ⟨g, o, e, c0, c1, c2, c3, c4⟩ := hs.at k hkP
      obtain ⟨co, cc, hck⟩ := hs.col k hkP
      obtain ⟨p, hp⟩ : ∃ p, p = s.P[k] := ⟨_, rfl⟩
      have hpt : p.1 = r.tbs[k] := by
        have h1 : (s.P.map Prod.fst)[k]? = r.tbs[k]? := by rw [HEQ.out.1]
        rw [List.getElem?_map, List.getElem?_eq_getElem hkP, List.getElem?_eq_getElem hkt] at h1
        rw [hp]; simpa using h1
      have hrt := HRT.out p.1 (by rw [hpt]; exact List.getElem_mem hkt)
      have HS : Hid (tabsL (r.tbs.take (k + 1)) = tabsL (r.tbs.take k) ++ tabL p.1) := by show _ = _; rw [hpt]; exact tabsL_succ _ _ hkt
      rw [← hp] at c0 c1 c2 c3 c4 hck
      rw [hck.eq] at c3
      obtain ⟨to', hto⟩ : ∃ to', to' = s.to := ⟨_, rfl⟩
      rw [← hto] at e ⊢
      subst e
      obtain ⟨wb, hwb⟩ : ∃ wb, wb = wr.alloc (.cells #[.int .i64 p.1.id, .int .i64 p.1.ver, .string p.1.nm, .slice co p.1.cols.length cc, .int .i64 p.1.key] 29) := ⟨_, rfl⟩
      have tb : Tch (fun _ => False) wr wb := by rw [hwb]; exact Tch.alloc _ _ _
      have hne : p.1.cols ≠ [] := fun e0 => by have h1 := hrt.len; rw [e0] at h1; simp at h1
      have q := layTable_any b _ p.1 co cc wb (hW.tch tb (fun _ _ _ h => h)) hrt (hck.sl.no tb) (fun g o e => by have := (hck.nf hne g o e).1; omega) (by rw [List.length_append]; omega)
      have HTB : Hid (Tch (WT b w0) w0 wb) := wt_trans hT (wt_new tb (Tch.refl _ _))
      rw [hwb] at q
      have HWB : Hid (wb = wr.alloc (.cells #[.int .i64 p.1.id, .int .i64 p.1.ver, .string p.1.nm, .slice co p.1.cols.length cc, .int .i64 p.1.key] 29)) := hwb
      clear hwb tb hW hT hs hck hrt hpt hp hne hto
      go_wp2_with fail
      refine q.mono ?_
      rintro x w5 ⟨rfl, h5, t5⟩
      rw [← HWB.out] at t5
      have T5 := wt_trans HTB.out t5
      clear q t5 c0 c1 c2 c3 c4
      go_wp2_with fail
      go_roundw
      case rel =>
        refine ⟨k + 1, by go_num, by omega, ?_, T5⟩
        show WS _ _ _ _
        rw [HS.out]
        simpa only [List.append_assoc] using h5
      case measure => simp [intOf]; omega
    · have hkn' : ¬ (k : Int) < n := by omega
      have HTk : Hid (r.tbs.take k = r.tbs) := by
        show _ = _
        rw [List.take_of_length_le]; have := HEQ.out.2.2; omega
      clear hs
      go_wp2_with fail
      go_end0
      refine ⟨rfl, ?_, wt_new HT0.out hT⟩
      rw [HTk.out, HB.out] at hW
      unfold bodyL
      simp only
      rw [← HEQ.out.2.2]
      simpa only [List.append_assoc] using hW
end Go.Proofs.YtjiblajnfnmjnaaGreatDoor.C
