import Derived.Test.YtmfbhhloabkecaaGreatDoorRV0
set_option maxHeartbeats 2000000
namespace Go.Proofs.YtmfbhhloabkecaaGreatDoor.C
open Go.RowKit
structure RN (W : World) (base : Nat) (r : Rc) (s : Sk) : Prop where
  o : W.ownsRow base 58 3 (.slice s.oo r.o.length s.oc) r.o.length (vcl r.o)
  n : W.ownsRow base 58 3 (.slice s.no r.n.length s.nc) r.n.length (vcl r.n)
  tb : W.ownsRow base 43 3 (.slice s.co r.tb.cols.length s.cc) r.tb.cols.length (ccl r.tb.cols)
  tbs : TO W base (.slice s.to s.P.length s.tc) s.P
  eq : s.P.map Prod.fst = r.tbs
  on : ∀ g, (Value.slice s.oo r.o.length s.oc).ownBlock = some g → (Value.slice s.no r.n.length s.nc).ownBlock ≠ some g
theorem to_nil (W : World) (base : Nat) : TO W base (.slice none 0 0) [] := ⟨World.ownsRow_nil _ _ _ _, fun i hi => by simp at hi, fun i hi => by simp at hi, fun i j hi => by simp at hi⟩
theorem own_tchb {W W' : World} {b base sz n : Nat} {t : TypeId} {v : Value} {xs : List Value} (h : W.ownsRow base t sz v n xs) (tc : Tch (fun i => i = b) W W') (hb : b < base) : W'.ownsRow base t sz v n xs := own_tch h tc (fun g hg e => by have := row_ge h hg; omega)
theorem to_low {W : World} {N N' : Nat} {tv : Value} {P : List (Tbl × Value)} (h : TO W N tv P) (hN : N' ≤ N) : TO W N' tv P := ⟨own_low h.own hN, fun i hi => own_low (h.col i hi) hN, h.sep, h.dis⟩
def TkOut (S : ByteArray) (k : Int) (c : Nat) (p : Nat × Int) (b : Nat) (w : World) (x : Ending) (w' : World) : Prop :=
  (∃ s, x = .returned (bV c (tkC S k c p).1 s) ∧ RN w' w.heap.size (tkC S k c p).1 s) ∧ RD w' b S (tkC S k c p).2.1 (tkC S k c p).2.2 ∧ Tch (fun i => i = b) w w'
theorem take_1 (b : Nat) (S : ByteArray) (k : Int) (a : Nat) (e : Int) (w : World) (h : RD w b S a e) (hg : HE w) (hgb : 1 ≠ b) (hS : S.size ≤ 281474976710656) :
    Calls Tryz.prog 187 #[.agg #[.int .i64 0], .pointer (some ⟨b, 0, none⟩)] w fun x w' => TkOut S k 1 (a, e) b w x w' := by
  have hb := cell_lt h.st.c0
  obtain ⟨w0, hw0⟩ : ∃ w0, w0 = w.alloc (.cells #[.int .i64 0] 128) := ⟨_, rfl⟩
  have t0 : Tch (fun _ => False) w w0 := by rw [hw0]; exact Tch.alloc _ _ _
  have h0 := RD.no h t0
  have HG : Hid (∀ W, Tch (fun i => i = b) w W → HE W) := fun W t => hg.tch t hgb
  have T0 : Tch (fun i => i = b) w w0 := t0.mono (fun _ _ h => h.elim)
  have HW0 : Hid (w0 = w.alloc (.cells #[.int .i64 0] 128)) := hw0
  have z0 := T0.size
  obtain ⟨A1, hA1⟩ : ∃ A, A = numR 9 127 S (a, e).1 (a, e).2 := ⟨_, rfl⟩
  have HA1 : Hid (A1 = numR 9 127 S (a, e).1 (a, e).2) := hA1
  have HT : Hid (tkC S k 1 (a, e) = ({ rc0 k with x := A1.1 }, A1.2)) := by
    show _ = _
    rw [hA1]
    rfl
  clear hA1 h hg t0 hw0
  go_enter Tryz.func187, Tryz.ntmps187
  have q1 := rvar_any b S (a, e).1 (a, e).2 w0 h0 hS
  rw [← HA1.out] at q1
  rw [HW0.out] at q1
  go_wp2_with fail
  refine q1.mono ?_
  rintro x w1 ⟨rfl, h1, t1⟩
  rw [← HW0.out] at t1
  have T1 := T0.trans' t1
  have z1 := T1.size
  clear q1
  go_wp2_with fail
  go_ret
  unfold TkOut
  rw [HT.out]
  refine ⟨⟨sk0, rfl, World.ownsRow_nil _ _ _ _, World.ownsRow_nil _ _ _ _, World.ownsRow_nil _ _ _ _, to_nil _ _, rfl, ?_⟩, h1, T1⟩
  exact fun g e1 e2 => by cases e1
theorem take_2 (b : Nat) (S : ByteArray) (k : Int) (a : Nat) (e : Int) (w : World) (h : RD w b S a e) (hg : HE w) (hgb : 1 ≠ b) (hS : S.size ≤ 281474976710656) :
    Calls Tryz.prog 194 #[.agg #[.int .i64 0, .int .i64 0], .pointer (some ⟨b, 0, none⟩)] w fun x w' => TkOut S k 2 (a, e) b w x w' := by
  have hb := cell_lt h.st.c0
  obtain ⟨w0, hw0⟩ : ∃ w0, w0 = w.alloc (.cells #[.int .i64 0, .int .i64 0] 130) := ⟨_, rfl⟩
  have t0 : Tch (fun _ => False) w w0 := by rw [hw0]; exact Tch.alloc _ _ _
  have h0 := RD.no h t0
  have HG : Hid (∀ W, Tch (fun i => i = b) w W → HE W) := fun W t => hg.tch t hgb
  have T0 : Tch (fun i => i = b) w w0 := t0.mono (fun _ _ h => h.elim)
  have HW0 : Hid (w0 = w.alloc (.cells #[.int .i64 0, .int .i64 0] 130)) := hw0
  have z0 := T0.size
  obtain ⟨A1, hA1⟩ : ∃ A, A = numR 9 127 S (a, e).1 (a, e).2 := ⟨_, rfl⟩
  have HA1 : Hid (A1 = numR 9 127 S (a, e).1 (a, e).2) := hA1
  obtain ⟨A2, hA2⟩ : ∃ A, A = numR 9 127 S A1.2.1 A1.2.2 := ⟨_, rfl⟩
  have HA2 : Hid (A2 = numR 9 127 S A1.2.1 A1.2.2) := hA2
  have HT : Hid (tkC S k 2 (a, e) = ({ rc0 k with x := A1.1, p := A2.1 }, A2.2)) := by
    show _ = _
    rw [hA2, hA1]
    rfl
  clear hA1 hA2 h hg t0 hw0
  go_enter Tryz.func194, Tryz.ntmps194
  have q1 := rvar_any b S (a, e).1 (a, e).2 w0 h0 hS
  rw [← HA1.out] at q1
  rw [HW0.out] at q1
  go_wp2_with fail
  refine q1.mono ?_
  rintro x w1 ⟨rfl, h1, t1⟩
  rw [← HW0.out] at t1
  have T1 := T0.trans' t1
  have z1 := T1.size
  clear q1
  have q2 := rvar_any b S A1.2.1 A1.2.2 w1 h1 hS
  rw [← HA2.out] at q2
  go_wp2_with fail
  refine q2.mono ?_
  rintro x w2 ⟨rfl, h2, t2⟩
  have T2 := T1.trans' t2
  have z2 := T2.size
  clear q2
  go_wp2_with fail
  go_ret
  unfold TkOut
  rw [HT.out]
  refine ⟨⟨sk0, rfl, World.ownsRow_nil _ _ _ _, World.ownsRow_nil _ _ _ _, World.ownsRow_nil _ _ _ _, to_nil _ _, rfl, ?_⟩, h2, T2⟩
  exact fun g e1 e2 => by cases e1
theorem take_3 (b : Nat) (S : ByteArray) (k : Int) (a : Nat) (e : Int) (w : World) (h : RD w b S a e) (hg : HE w) (hgb : 1 ≠ b) (hS : S.size ≤ 281474976710656) :
    Calls Tryz.prog 197 #[.agg #[.int .i64 0, .int .i64 0, .slice none 0 0], .pointer (some ⟨b, 0, none⟩)] w fun x w' => TkOut S k 3 (a, e) b w x w' := by
  have hb := cell_lt h.st.c0
  obtain ⟨w0, hw0⟩ : ∃ w0, w0 = w.alloc (.cells #[.int .i64 0, .int .i64 0, .slice none 0 0] 132) := ⟨_, rfl⟩
  have t0 : Tch (fun _ => False) w w0 := by rw [hw0]; exact Tch.alloc _ _ _
  have h0 := RD.no h t0
  have HG : Hid (∀ W, Tch (fun i => i = b) w W → HE W) := fun W t => hg.tch t hgb
  have T0 : Tch (fun i => i = b) w w0 := t0.mono (fun _ _ h => h.elim)
  have HW0 : Hid (w0 = w.alloc (.cells #[.int .i64 0, .int .i64 0, .slice none 0 0] 132)) := hw0
  have z0 := T0.size
  obtain ⟨A1, hA1⟩ : ∃ A, A = numR 9 127 S (a, e).1 (a, e).2 := ⟨_, rfl⟩
  have HA1 : Hid (A1 = numR 9 127 S (a, e).1 (a, e).2) := hA1
  obtain ⟨A2, hA2⟩ : ∃ A, A = numR 9 127 S A1.2.1 A1.2.2 := ⟨_, rfl⟩
  have HA2 : Hid (A2 = numR 9 127 S A1.2.1 A1.2.2) := hA2
  obtain ⟨A3, hA3⟩ : ∃ A, A = tkRow S A2.2 := ⟨_, rfl⟩
  have HA3 : Hid (A3 = tkRow S A2.2) := hA3
  have HT : Hid (tkC S k 3 (a, e) = ({ rc0 k with x := A1.1, t := A2.1, n := A3.1 }, A3.2)) := by
    show _ = _
    rw [hA3, hA2, hA1]
    rfl
  clear hA1 hA2 hA3 h hg t0 hw0
  go_enter Tryz.func197, Tryz.ntmps197
  have q1 := rvar_any b S (a, e).1 (a, e).2 w0 h0 hS
  rw [← HA1.out] at q1
  rw [HW0.out] at q1
  go_wp2_with fail
  refine q1.mono ?_
  rintro x w1 ⟨rfl, h1, t1⟩
  rw [← HW0.out] at t1
  have T1 := T0.trans' t1
  have z1 := T1.size
  clear q1
  have q2 := rvar_any b S A1.2.1 A1.2.2 w1 h1 hS
  rw [← HA2.out] at q2
  go_wp2_with fail
  refine q2.mono ?_
  rintro x w2 ⟨rfl, h2, t2⟩
  have T2 := T1.trans' t2
  have z2 := T2.size
  clear q2
  have q3 := takeRow_any b S A2.2.1 A2.2.2 w2 h2 (HG.out w2 T2) hgb hS
  rw [show (A2.2.1, A2.2.2) = A2.2 from rfl, ← HA3.out] at q3
  go_wp2_with fail
  refine q3.mono ?_
  rintro x w3 ⟨⟨v3, rfl, hv3⟩, h3, t3⟩
  obtain ⟨vo3, vc3, e3⟩ := row_slice hv3
  subst e3
  have T3 := T2.trans' t3
  have z3 := T3.size
  clear q3
  have HV3 : Hid _ := hv3
  clear hv3
  go_wp2_with fail
  go_ret
  unfold TkOut
  rw [HT.out]
  refine ⟨⟨{ sk0 with no := vo3, nc := vc3 }, rfl, World.ownsRow_nil _ _ _ _, own_low HV3.out (by omega), World.ownsRow_nil _ _ _ _, to_nil _ _, rfl, ?_⟩, h3, T3⟩
  exact fun g e1 e2 => by cases e1
theorem take_4 (b : Nat) (S : ByteArray) (k : Int) (a : Nat) (e : Int) (w : World) (h : RD w b S a e) (hg : HE w) (hgb : 1 ≠ b) (hS : S.size ≤ 281474976710656) :
    Calls Tryz.prog 212 #[.agg #[.int .i64 0, .int .i64 0, .slice none 0 0, .slice none 0 0], .pointer (some ⟨b, 0, none⟩)] w fun x w' => TkOut S k 4 (a, e) b w x w' := by
  have hb := cell_lt h.st.c0
  obtain ⟨w0, hw0⟩ : ∃ w0, w0 = w.alloc (.cells #[.int .i64 0, .int .i64 0, .slice none 0 0, .slice none 0 0] 134) := ⟨_, rfl⟩
  have t0 : Tch (fun _ => False) w w0 := by rw [hw0]; exact Tch.alloc _ _ _
  have h0 := RD.no h t0
  have HG : Hid (∀ W, Tch (fun i => i = b) w W → HE W) := fun W t => hg.tch t hgb
  have T0 : Tch (fun i => i = b) w w0 := t0.mono (fun _ _ h => h.elim)
  have HW0 : Hid (w0 = w.alloc (.cells #[.int .i64 0, .int .i64 0, .slice none 0 0, .slice none 0 0] 134)) := hw0
  have z0 := T0.size
  obtain ⟨A1, hA1⟩ : ∃ A, A = numR 9 127 S (a, e).1 (a, e).2 := ⟨_, rfl⟩
  have HA1 : Hid (A1 = numR 9 127 S (a, e).1 (a, e).2) := hA1
  obtain ⟨A2, hA2⟩ : ∃ A, A = numR 9 127 S A1.2.1 A1.2.2 := ⟨_, rfl⟩
  have HA2 : Hid (A2 = numR 9 127 S A1.2.1 A1.2.2) := hA2
  obtain ⟨A3, hA3⟩ : ∃ A, A = tkRow S A2.2 := ⟨_, rfl⟩
  have HA3 : Hid (A3 = tkRow S A2.2) := hA3
  obtain ⟨A4, hA4⟩ : ∃ A, A = tkRow S A3.2 := ⟨_, rfl⟩
  have HA4 : Hid (A4 = tkRow S A3.2) := hA4
  have HT : Hid (tkC S k 4 (a, e) = ({ rc0 k with x := A1.1, t := A2.1, o := A3.1, n := A4.1 }, A4.2)) := by
    show _ = _
    rw [hA4, hA3, hA2, hA1]
    rfl
  clear hA1 hA2 hA3 hA4 h hg t0 hw0
  go_enter Tryz.func212, Tryz.ntmps212
  have q1 := rvar_any b S (a, e).1 (a, e).2 w0 h0 hS
  rw [← HA1.out] at q1
  rw [HW0.out] at q1
  go_wp2_with fail
  refine q1.mono ?_
  rintro x w1 ⟨rfl, h1, t1⟩
  rw [← HW0.out] at t1
  have T1 := T0.trans' t1
  have z1 := T1.size
  clear q1
  have q2 := rvar_any b S A1.2.1 A1.2.2 w1 h1 hS
  rw [← HA2.out] at q2
  go_wp2_with fail
  refine q2.mono ?_
  rintro x w2 ⟨rfl, h2, t2⟩
  have T2 := T1.trans' t2
  have z2 := T2.size
  clear q2
  have q3 := takeRow_any b S A2.2.1 A2.2.2 w2 h2 (HG.out w2 T2) hgb hS
  rw [show (A2.2.1, A2.2.2) = A2.2 from rfl, ← HA3.out] at q3
  go_wp2_with fail
  refine q3.mono ?_
  rintro x w3 ⟨⟨v3, rfl, hv3⟩, h3, t3⟩
  obtain ⟨vo3, vc3, e3⟩ := row_slice hv3
  subst e3
  have T3 := T2.trans' t3
  have z3 := T3.size
  clear q3
  have q4 := takeRow_any b S A3.2.1 A3.2.2 w3 h3 (HG.out w3 T3) hgb hS
  rw [show (A3.2.1, A3.2.2) = A3.2 from rfl, ← HA4.out] at q4
  go_wp2_with fail
  refine q4.mono ?_
  rintro x w4 ⟨⟨v4, rfl, hv4⟩, h4, t4⟩
  obtain ⟨vo4, vc4, e4⟩ := row_slice hv4
  subst e4
  have T4 := T3.trans' t4
  have z4 := T4.size
  clear q4
  have HV3 : Hid (w4.ownsRow w2.heap.size 58 3 (.slice vo3 A3.1.length vc3) A3.1.length (vcl A3.1)) := own_tchb hv3 t4 (by omega)
  have HV4 : Hid _ := hv4
  have HLT : Hid (∀ g, (Value.slice vo3 A3.1.length vc3).ownBlock = some g → g < w3.heap.size) := fun g hg => (hv3.lt g hg).2
  clear hv3 hv4
  go_wp2_with fail
  go_ret
  unfold TkOut
  rw [HT.out]
  refine ⟨⟨{ sk0 with oo := vo3, oc := vc3, no := vo4, nc := vc4 }, rfl, own_low HV3.out (by omega), own_low HV4.out (by omega), World.ownsRow_nil _ _ _ _, to_nil _ _, rfl, ?_⟩, h4, T4⟩
  exact fun g e1 e2 => by have := HLT.out g e1; have := row_ge HV4.out e2; omega
theorem take_5 (b : Nat) (S : ByteArray) (k : Int) (a : Nat) (e : Int) (w : World) (h : RD w b S a e) (hg : HE w) (hgb : 1 ≠ b) (hS : S.size ≤ 281474976710656) :
    Calls Tryz.prog 215 #[.agg #[.int .i64 0, .int .i64 0, .slice none 0 0], .pointer (some ⟨b, 0, none⟩)] w fun x w' => TkOut S k 5 (a, e) b w x w' := by
  have hb := cell_lt h.st.c0
  obtain ⟨w0, hw0⟩ : ∃ w0, w0 = w.alloc (.cells #[.int .i64 0, .int .i64 0, .slice none 0 0] 135) := ⟨_, rfl⟩
  have t0 : Tch (fun _ => False) w w0 := by rw [hw0]; exact Tch.alloc _ _ _
  have h0 := RD.no h t0
  have HG : Hid (∀ W, Tch (fun i => i = b) w W → HE W) := fun W t => hg.tch t hgb
  have T0 : Tch (fun i => i = b) w w0 := t0.mono (fun _ _ h => h.elim)
  have HW0 : Hid (w0 = w.alloc (.cells #[.int .i64 0, .int .i64 0, .slice none 0 0] 135)) := hw0
  have z0 := T0.size
  obtain ⟨A1, hA1⟩ : ∃ A, A = numR 9 127 S (a, e).1 (a, e).2 := ⟨_, rfl⟩
  have HA1 : Hid (A1 = numR 9 127 S (a, e).1 (a, e).2) := hA1
  obtain ⟨A2, hA2⟩ : ∃ A, A = numR 9 127 S A1.2.1 A1.2.2 := ⟨_, rfl⟩
  have HA2 : Hid (A2 = numR 9 127 S A1.2.1 A1.2.2) := hA2
  obtain ⟨A3, hA3⟩ : ∃ A, A = tkRow S A2.2 := ⟨_, rfl⟩
  have HA3 : Hid (A3 = tkRow S A2.2) := hA3
  have HT : Hid (tkC S k 5 (a, e) = ({ rc0 k with x := A1.1, t := A2.1, o := A3.1 }, A3.2)) := by
    show _ = _
    rw [hA3, hA2, hA1]
    rfl
  clear hA1 hA2 hA3 h hg t0 hw0
  go_enter Tryz.func215, Tryz.ntmps215
  have q1 := rvar_any b S (a, e).1 (a, e).2 w0 h0 hS
  rw [← HA1.out] at q1
  rw [HW0.out] at q1
  go_wp2_with fail
  refine q1.mono ?_
  rintro x w1 ⟨rfl, h1, t1⟩
  rw [← HW0.out] at t1
  have T1 := T0.trans' t1
  have z1 := T1.size
  clear q1
  have q2 := rvar_any b S A1.2.1 A1.2.2 w1 h1 hS
  rw [← HA2.out] at q2
  go_wp2_with fail
  refine q2.mono ?_
  rintro x w2 ⟨rfl, h2, t2⟩
  have T2 := T1.trans' t2
  have z2 := T2.size
  clear q2
  have q3 := takeRow_any b S A2.2.1 A2.2.2 w2 h2 (HG.out w2 T2) hgb hS
  rw [show (A2.2.1, A2.2.2) = A2.2 from rfl, ← HA3.out] at q3
  go_wp2_with fail
  refine q3.mono ?_
  rintro x w3 ⟨⟨v3, rfl, hv3⟩, h3, t3⟩
  obtain ⟨vo3, vc3, e3⟩ := row_slice hv3
  subst e3
  have T3 := T2.trans' t3
  have z3 := T3.size
  clear q3
  have HV3 : Hid _ := hv3
  clear hv3
  go_wp2_with fail
  go_ret
  unfold TkOut
  rw [HT.out]
  refine ⟨⟨{ sk0 with oo := vo3, oc := vc3 }, rfl, own_low HV3.out (by omega), World.ownsRow_nil _ _ _ _, World.ownsRow_nil _ _ _ _, to_nil _ _, rfl, ?_⟩, h3, T3⟩
  exact fun g e1 e2 => by cases e2
theorem take_6 (b : Nat) (S : ByteArray) (k : Int) (a : Nat) (e : Int) (w : World) (h : RD w b S a e) (hg : HE w) (hgb : 1 ≠ b) (hS : S.size ≤ 281474976710656) :
    Calls Tryz.prog 218 #[.agg #[.int .i64 0, .string ⟨#[]⟩, .int .i64 0], .pointer (some ⟨b, 0, none⟩)] w fun x w' => TkOut S k 6 (a, e) b w x w' := by
  have hb := cell_lt h.st.c0
  obtain ⟨w0, hw0⟩ : ∃ w0, w0 = w.alloc (.cells #[.int .i64 0, .string ⟨#[]⟩, .int .i64 0] 137) := ⟨_, rfl⟩
  have t0 : Tch (fun _ => False) w w0 := by rw [hw0]; exact Tch.alloc _ _ _
  have h0 := RD.no h t0
  have HG : Hid (∀ W, Tch (fun i => i = b) w W → HE W) := fun W t => hg.tch t hgb
  have T0 : Tch (fun i => i = b) w w0 := t0.mono (fun _ _ h => h.elim)
  have HW0 : Hid (w0 = w.alloc (.cells #[.int .i64 0, .string ⟨#[]⟩, .int .i64 0] 137)) := hw0
  have z0 := T0.size
  obtain ⟨A1, hA1⟩ : ∃ A, A = numR 9 127 S (a, e).1 (a, e).2 := ⟨_, rfl⟩
  have HA1 : Hid (A1 = numR 9 127 S (a, e).1 (a, e).2) := hA1
  obtain ⟨A2, hA2⟩ : ∃ A, A = textR 16 S A1.2.1 A1.2.2 := ⟨_, rfl⟩
  have HA2 : Hid (A2 = textR 16 S A1.2.1 A1.2.2) := hA2
  obtain ⟨A3, hA3⟩ : ∃ A, A = numR 9 127 S A2.2.1 A2.2.2 := ⟨_, rfl⟩
  have HA3 : Hid (A3 = numR 9 127 S A2.2.1 A2.2.2) := hA3
  have HT : Hid (tkC S k 6 (a, e) = ({ rc0 k with x := A1.1, nm := A2.1, org := A3.1 }, A3.2)) := by
    show _ = _
    rw [hA3, hA2, hA1]
    rfl
  clear hA1 hA2 hA3 h hg t0 hw0
  go_enter Tryz.func218, Tryz.ntmps218
  have q1 := rvar_any b S (a, e).1 (a, e).2 w0 h0 hS
  rw [← HA1.out] at q1
  rw [HW0.out] at q1
  go_wp2_with fail
  refine q1.mono ?_
  rintro x w1 ⟨rfl, h1, t1⟩
  rw [← HW0.out] at t1
  have T1 := T0.trans' t1
  have z1 := T1.size
  clear q1
  have q2 := rtext_any b S A1.2.1 A1.2.2 16 w1 h1 hS
  rw [← HA2.out] at q2
  go_wp2_with fail
  refine q2.mono ?_
  rintro x w2 ⟨rfl, h2, t2⟩
  have T2 := T1.trans' t2
  have z2 := T2.size
  clear q2
  have q3 := rvar_any b S A2.2.1 A2.2.2 w2 h2 hS
  rw [← HA3.out] at q3
  go_wp2_with fail
  refine q3.mono ?_
  rintro x w3 ⟨rfl, h3, t3⟩
  have T3 := T2.trans' t3
  have z3 := T3.size
  clear q3
  go_wp2_with fail
  go_ret
  unfold TkOut
  rw [HT.out]
  refine ⟨⟨sk0, rfl, World.ownsRow_nil _ _ _ _, World.ownsRow_nil _ _ _ _, World.ownsRow_nil _ _ _ _, to_nil _ _, rfl, ?_⟩, h3, T3⟩
  exact fun g e1 e2 => by cases e1
theorem take_7 (b : Nat) (S : ByteArray) (k : Int) (a : Nat) (e : Int) (w : World) (h : RD w b S a e) (hg : HE w) (hgb : 1 ≠ b) (hS : S.size ≤ 281474976710656) :
    Calls Tryz.prog 223 #[.agg #[.int .i64 0, .string ⟨#[]⟩], .pointer (some ⟨b, 0, none⟩)] w fun x w' => TkOut S k 7 (a, e) b w x w' := by
  have hb := cell_lt h.st.c0
  obtain ⟨w0, hw0⟩ : ∃ w0, w0 = w.alloc (.cells #[.int .i64 0, .string ⟨#[]⟩] 139) := ⟨_, rfl⟩
  have t0 : Tch (fun _ => False) w w0 := by rw [hw0]; exact Tch.alloc _ _ _
  have h0 := RD.no h t0
  have HG : Hid (∀ W, Tch (fun i => i = b) w W → HE W) := fun W t => hg.tch t hgb
  have T0 : Tch (fun i => i = b) w w0 := t0.mono (fun _ _ h => h.elim)
  have HW0 : Hid (w0 = w.alloc (.cells #[.int .i64 0, .string ⟨#[]⟩] 139)) := hw0
  have z0 := T0.size
  obtain ⟨A1, hA1⟩ : ∃ A, A = numR 9 127 S (a, e).1 (a, e).2 := ⟨_, rfl⟩
  have HA1 : Hid (A1 = numR 9 127 S (a, e).1 (a, e).2) := hA1
  obtain ⟨A2, hA2⟩ : ∃ A, A = textR 16 S A1.2.1 A1.2.2 := ⟨_, rfl⟩
  have HA2 : Hid (A2 = textR 16 S A1.2.1 A1.2.2) := hA2
  have HT : Hid (tkC S k 7 (a, e) = ({ rc0 k with x := A1.1, nm := A2.1 }, A2.2)) := by
    show _ = _
    rw [hA2, hA1]
    rfl
  clear hA1 hA2 h hg t0 hw0
  go_enter Tryz.func223, Tryz.ntmps223
  have q1 := rvar_any b S (a, e).1 (a, e).2 w0 h0 hS
  rw [← HA1.out] at q1
  rw [HW0.out] at q1
  go_wp2_with fail
  refine q1.mono ?_
  rintro x w1 ⟨rfl, h1, t1⟩
  rw [← HW0.out] at t1
  have T1 := T0.trans' t1
  have z1 := T1.size
  clear q1
  have q2 := rtext_any b S A1.2.1 A1.2.2 16 w1 h1 hS
  rw [← HA2.out] at q2
  go_wp2_with fail
  refine q2.mono ?_
  rintro x w2 ⟨rfl, h2, t2⟩
  have T2 := T1.trans' t2
  have z2 := T2.size
  clear q2
  go_wp2_with fail
  go_ret
  unfold TkOut
  rw [HT.out]
  refine ⟨⟨sk0, rfl, World.ownsRow_nil _ _ _ _, World.ownsRow_nil _ _ _ _, World.ownsRow_nil _ _ _ _, to_nil _ _, rfl, ?_⟩, h2, T2⟩
  exact fun g e1 e2 => by cases e1
theorem take_8 (b : Nat) (S : ByteArray) (k : Int) (a : Nat) (e : Int) (w : World) (h : RD w b S a e) (hg : HE w) (hgb : 1 ≠ b) (hS : S.size ≤ 281474976710656) :
    Calls Tryz.prog 226 #[.agg #[.int .i64 0, .int .i64 0, .int .i64 0, .string ⟨#[]⟩, .slice none 0 0, .int .i64 0], .pointer (some ⟨b, 0, none⟩)] w fun x w' => TkOut S k 8 (a, e) b w x w' := by
  have hb := cell_lt h.st.c0
  obtain ⟨w0, hw0⟩ : ∃ w0, w0 = w.alloc (.cells #[.int .i64 0, .int .i64 0, .int .i64 0, .string ⟨#[]⟩, .slice none 0 0, .int .i64 0] 141) := ⟨_, rfl⟩
  have t0 : Tch (fun _ => False) w w0 := by rw [hw0]; exact Tch.alloc _ _ _
  have h0 := RD.no h t0
  have HG : Hid (∀ W, Tch (fun i => i = b) w W → HE W) := fun W t => hg.tch t hgb
  have T0 : Tch (fun i => i = b) w w0 := t0.mono (fun _ _ h => h.elim)
  have HW0 : Hid (w0 = w.alloc (.cells #[.int .i64 0, .int .i64 0, .int .i64 0, .string ⟨#[]⟩, .slice none 0 0, .int .i64 0] 141)) := hw0
  have z0 := T0.size
  obtain ⟨A1, hA1⟩ : ∃ A, A = numR 9 127 S (a, e).1 (a, e).2 := ⟨_, rfl⟩
  have HA1 : Hid (A1 = numR 9 127 S (a, e).1 (a, e).2) := hA1
  obtain ⟨A2, hA2⟩ : ∃ A, A = tkTab S A1.2 := ⟨_, rfl⟩
  have HA2 : Hid (A2 = tkTab S A1.2) := hA2
  have HT : Hid (tkC S k 8 (a, e) = ({ rc0 k with x := A1.1, tb := A2.1 }, A2.2)) := by
    show _ = _
    rw [hA2, hA1]
    rfl
  clear hA1 hA2 h hg t0 hw0
  go_enter Tryz.func226, Tryz.ntmps226
  have q1 := rvar_any b S (a, e).1 (a, e).2 w0 h0 hS
  rw [← HA1.out] at q1
  rw [HW0.out] at q1
  go_wp2_with fail
  refine q1.mono ?_
  rintro x w1 ⟨rfl, h1, t1⟩
  rw [← HW0.out] at t1
  have T1 := T0.trans' t1
  have z1 := T1.size
  clear q1
  have q2 := takeTable_any b S A1.2.1 A1.2.2 w1 h1 hS
  rw [show (A1.2.1, A1.2.2) = A1.2 from rfl, ← HA2.out] at q2
  go_wp2_with fail
  refine q2.mono ?_
  rintro x w2 ⟨⟨v2, rfl, hv2⟩, h2, t2⟩
  obtain ⟨vo2, vc2, e2⟩ := row_slice hv2
  subst e2
  have T2 := T1.trans' t2
  have z2 := T2.size
  clear q2
  have HV2 : Hid _ := hv2
  clear hv2
  go_wp2_with fail
  go_ret
  unfold TkOut
  rw [HT.out]
  refine ⟨⟨{ sk0 with co := vo2, cc := vc2 }, rfl, World.ownsRow_nil _ _ _ _, World.ownsRow_nil _ _ _ _, own_low HV2.out (by omega), to_nil _ _, rfl, ?_⟩, h2, T2⟩
  exact fun g e1 e2 => by cases e1
theorem take_9 (b : Nat) (S : ByteArray) (k : Int) (a : Nat) (e : Int) (w : World) (h : RD w b S a e) (hg : HE w) (hgb : 1 ≠ b) (hS : S.size ≤ 281474976710656) :
    Calls Tryz.prog 233 #[.agg #[.int .i64 0, .int .i64 0], .pointer (some ⟨b, 0, none⟩)] w fun x w' => TkOut S k 9 (a, e) b w x w' := by
  have hb := cell_lt h.st.c0
  obtain ⟨w0, hw0⟩ : ∃ w0, w0 = w.alloc (.cells #[.int .i64 0, .int .i64 0] 143) := ⟨_, rfl⟩
  have t0 : Tch (fun _ => False) w w0 := by rw [hw0]; exact Tch.alloc _ _ _
  have h0 := RD.no h t0
  have HG : Hid (∀ W, Tch (fun i => i = b) w W → HE W) := fun W t => hg.tch t hgb
  have T0 : Tch (fun i => i = b) w w0 := t0.mono (fun _ _ h => h.elim)
  have HW0 : Hid (w0 = w.alloc (.cells #[.int .i64 0, .int .i64 0] 143)) := hw0
  have z0 := T0.size
  obtain ⟨A1, hA1⟩ : ∃ A, A = numR 9 127 S (a, e).1 (a, e).2 := ⟨_, rfl⟩
  have HA1 : Hid (A1 = numR 9 127 S (a, e).1 (a, e).2) := hA1
  obtain ⟨A2, hA2⟩ : ∃ A, A = numR 9 127 S A1.2.1 A1.2.2 := ⟨_, rfl⟩
  have HA2 : Hid (A2 = numR 9 127 S A1.2.1 A1.2.2) := hA2
  have HT : Hid (tkC S k 9 (a, e) = ({ rc0 k with x := A1.1, t := A2.1 }, A2.2)) := by
    show _ = _
    rw [hA2, hA1]
    rfl
  clear hA1 hA2 h hg t0 hw0
  go_enter Tryz.func233, Tryz.ntmps233
  have q1 := rvar_any b S (a, e).1 (a, e).2 w0 h0 hS
  rw [← HA1.out] at q1
  rw [HW0.out] at q1
  go_wp2_with fail
  refine q1.mono ?_
  rintro x w1 ⟨rfl, h1, t1⟩
  rw [← HW0.out] at t1
  have T1 := T0.trans' t1
  have z1 := T1.size
  clear q1
  have q2 := rvar_any b S A1.2.1 A1.2.2 w1 h1 hS
  rw [← HA2.out] at q2
  go_wp2_with fail
  refine q2.mono ?_
  rintro x w2 ⟨rfl, h2, t2⟩
  have T2 := T1.trans' t2
  have z2 := T2.size
  clear q2
  go_wp2_with fail
  go_ret
  unfold TkOut
  rw [HT.out]
  refine ⟨⟨sk0, rfl, World.ownsRow_nil _ _ _ _, World.ownsRow_nil _ _ _ _, World.ownsRow_nil _ _ _ _, to_nil _ _, rfl, ?_⟩, h2, T2⟩
  exact fun g e1 e2 => by cases e1
theorem take_10 (b : Nat) (S : ByteArray) (k : Int) (a : Nat) (e : Int) (w : World) (h : RD w b S a e) (hg : HE w) (hgb : 1 ≠ b) (hS : S.size ≤ 281474976710656) :
    Calls Tryz.prog 236 #[.agg #[.int .i64 0, .int .i64 0, .slice none 0 0], .pointer (some ⟨b, 0, none⟩)] w fun x w' => TkOut S k 10 (a, e) b w x w' := by
  have hb := cell_lt h.st.c0
  obtain ⟨w0, hw0⟩ : ∃ w0, w0 = w.alloc (.cells #[.int .i64 0, .int .i64 0, .slice none 0 0] 145) := ⟨_, rfl⟩
  have t0 : Tch (fun _ => False) w w0 := by rw [hw0]; exact Tch.alloc _ _ _
  have h0 := RD.no h t0
  have HG : Hid (∀ W, Tch (fun i => i = b) w W → HE W) := fun W t => hg.tch t hgb
  have T0 : Tch (fun i => i = b) w w0 := t0.mono (fun _ _ h => h.elim)
  have HW0 : Hid (w0 = w.alloc (.cells #[.int .i64 0, .int .i64 0, .slice none 0 0] 145)) := hw0
  have z0 := T0.size
  obtain ⟨A1, hA1⟩ : ∃ A, A = numR 9 127 S (a, e).1 (a, e).2 := ⟨_, rfl⟩
  have HA1 : Hid (A1 = numR 9 127 S (a, e).1 (a, e).2) := hA1
  obtain ⟨A2, hA2⟩ : ∃ A, A = numR 9 127 S A1.2.1 A1.2.2 := ⟨_, rfl⟩
  have HA2 : Hid (A2 = numR 9 127 S A1.2.1 A1.2.2) := hA2
  obtain ⟨A3, hA3⟩ : ∃ A, A = tkTabs S (byteR S A2.2.1 A2.2.2).1 (byteR S A2.2.1 A2.2.2).2 [] := ⟨_, rfl⟩
  have HA3 : Hid (A3 = tkTabs S (byteR S A2.2.1 A2.2.2).1 (byteR S A2.2.1 A2.2.2).2 []) := hA3
  have HT : Hid (tkC S k 10 (a, e) = ({ rc0 k with x := A1.1, t := A2.1, tbs := A3.1 }, A3.2)) := by
    show _ = _
    rw [hA3, hA2, hA1]
    rfl
  clear hA1 hA2 hA3 h hg t0 hw0
  go_enter Tryz.func236, Tryz.ntmps236
  have q1 := rvar_any b S (a, e).1 (a, e).2 w0 h0 hS
  rw [← HA1.out] at q1
  rw [HW0.out] at q1
  go_wp2_with fail
  refine q1.mono ?_
  rintro x w1 ⟨rfl, h1, t1⟩
  rw [← HW0.out] at t1
  have T1 := T0.trans' t1
  have z1 := T1.size
  clear q1
  have q2 := rvar_any b S A1.2.1 A1.2.2 w1 h1 hS
  rw [← HA2.out] at q2
  go_wp2_with fail
  refine q2.mono ?_
  rintro x w2 ⟨rfl, h2, t2⟩
  have T2 := T1.trans' t2
  have z2 := T2.size
  clear q2
  have q3 := takeTables_any b S A2.2.1 A2.2.2 w2 h2 hS
  rw [← HA3.out] at q3
  go_wp2_with fail
  refine q3.mono ?_
  rintro x w3 ⟨⟨v3, P3, rfl, hm3, hv3⟩, h3, t3⟩
  obtain ⟨vo3, vc3, e3⟩ := row_slice hv3.own
  subst e3
  have T3 := T2.trans' t3
  have z3 := T3.size
  clear q3
  have HV3 : Hid _ := hv3
  clear hv3
  go_wp2_with fail
  go_ret
  unfold TkOut
  rw [HT.out]
  refine ⟨⟨{ sk0 with P := P3, to := vo3, tc := vc3 }, rfl, World.ownsRow_nil _ _ _ _, World.ownsRow_nil _ _ _ _, World.ownsRow_nil _ _ _ _, to_low HV3.out (by omega), hm3, ?_⟩, h3, T3⟩
  exact fun g e1 e2 => by cases e1
end Go.Proofs.YtmfbhhloabkecaaGreatDoor.C
