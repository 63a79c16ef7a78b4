import Derived.Test.YtmaekkhmiafnmaaGreatDoorEW5
import Derived.Test.YtmaekkhmiafnmaaGreatDoorEC4
set_option maxHeartbeats 4000000
set_option maxRecDepth 100000
namespace Go.Proofs.YtmaekkhmiafnmaaGreatDoor
open Go.RowKit Go Go.Lib
abbrev rowA (co vo : Option Addr) (nC cc nV vc : Nat) : Value := .agg #[.slice co nC cc, .slice vo nV vc]
def WP (w : World) (ao : Option Addr) (rs : List (Val × Int)) (A : Value) : Prop := ∀ (k : Nat) (hk : k < rs.length), ∃ g i, ao = some ⟨g, i, none⟩ ∧ ∀ W, Tch (fun i => w.heap.size ≤ i) w W → ∃ d, W.cell? ⟨g, i + k, none⟩ = some (ptV d) ∧
  Calls Tryz.prog 32 #[ptV d, A] W fun x w' => x = .returned (.tuple #[vV rs[k].1, .int .i64 rs[k].2]) ∧ Tch (fun _ => False) W w'
theorem WP.tch {w w1 : World} {ao : Option Addr} {rs : List (Val × Int)} {A : Value} (h : WP w ao rs A) (t : Tch (fun i => w.heap.size ≤ i) w w1) : WP w1 ao rs A := fun k hk => by
  obtain ⟨g, i, e, hh⟩ := h k hk
  exact ⟨g, i, e, fun W tW => hh W (t.trans' (tW.mono fun j hj h => by have := t.size; have h : w1.heap.size ≤ j := h; show w.heap.size ≤ j; omega))⟩
structure RB (N : Nat) (co vo : Option Addr) (nC cc nV vc : Nat) (W : World) : Prop where
  r0 : W.cell? ⟨N, 0, none⟩ = some (.slice co nC cc)
  r1 : W.cell? ⟨N, 1, none⟩ = some (.slice vo nV vc)
  z : OneB (N + 1) W
theorem OneB.no {N : Nat} {W W' : World} (h : OneB N W) (t : Tch (fun _ => False) W W') : OneB N W' := by
  obtain ⟨⟨x0, x1, x2⟩, f0, f1, f2⟩ := h
  have l : N < W.heap.size := cell_lt x0
  exact ⟨⟨(t.cell (p := ⟨N, 0, none⟩) l (fun h => h)).trans x0, (t.cell (p := ⟨N, 1, none⟩) l (fun h => h)).trans x1, (t.cell (p := ⟨N, 2, none⟩) l (fun h => h)).trans x2⟩, (t.frozen (p := ⟨N, 0, none⟩) l (fun h => h)).trans f0, (t.frozen (p := ⟨N, 1, none⟩) l (fun h => h)).trans f1, (t.frozen (p := ⟨N, 2, none⟩) l (fun h => h)).trans f2⟩
theorem RB.no {N : Nat} {co vo : Option Addr} {nC cc nV vc : Nat} {W W' : World} (h : RB N co vo nC cc nV vc W) (t : Tch (fun _ => False) W W') : RB N co vo nC cc nV vc W' :=
  have l : N < W.heap.size := cell_lt h.r0
  ⟨(t.cell (p := ⟨N, 0, none⟩) l (fun h => h)).trans h.r0, (t.cell (p := ⟨N, 1, none⟩) l (fun h => h)).trans h.r1, h.z.no t⟩
theorem rb_new (w : World) (co vo : Option Addr) (nC cc nV vc : Nat) : RB w.heap.size co vo nC cc nV vc ((w.alloc (.cells #[.slice co nC cc, .slice vo nV vc] 80)).alloc (.cells #[.int .i64 0, .int .i64 0, .string ⟨#[]⟩] 29)) := by
  refine ⟨by simp, by simp, ?_⟩
  have h := oneB (w := w.alloc (.cells #[.slice co nC cc, .slice vo nV vc] 80)) (Tch.refl (fun _ => False) _)
  simpa using h
theorem firstKnown_any (rs : List (Val × Int)) (ao co vo : Option Addr) (b c nC cc nV vc : Nat) (w : World) (h6 : w.cell? ⟨b, 6, none⟩ = some (.slice ao rs.length c)) (hp : WP w ao rs (rowA co vo nC cc nV vc)) (hl : rs.length ≤ 1000000) :
    Calls Tryz.prog 90 #[ptV b, rowA co vo nC cc nV vc] w fun x w' => x = .returned (.tuple #[vV (knwV rs).1, .int .i64 (knwV rs).2]) ∧ Tch (fun _ => False) w w' := by
  have hbl : b < w.heap.size := cell_lt h6
  obtain ⟨w0, hw0⟩ : ∃ w0, w0 = (w.alloc (.cells #[.slice co nC cc, .slice vo nV vc] 80)).alloc (.cells #[.int .i64 0, .int .i64 0, .string ⟨#[]⟩] 29) := ⟨_, rfl⟩
  have t0 : Tch (fun _ => False) w w0 := by rw [hw0]; exact (Tch.alloc _ _ _).allocR _
  have hB : RB w.heap.size co vo nC cc nV vc w0 := by rw [hw0]; exact rb_new ..
  have HC : Hid (∀ W, Tch (fun _ => False) w0 W → RB w.heap.size co vo nC cc nV vc W ∧ Tch (fun _ => False) w W) := fun W t => ⟨hB.no t, t0.trans' t⟩
  have HP : Hid (WP w ao rs (rowA co vo nC cc nV vc)) := hp
  have e6 : ∀ o1 o2, ((w.alloc o1).alloc o2).cell? ⟨b, 6, none⟩ = some (.slice ao rs.length c) := fun o1 o2 => ((((Tch.alloc (fun _ => False) w o1).allocR o2)).cell (p := ⟨b, 6, none⟩) hbl (fun h => h)).trans h6
  obtain ⟨n, hn⟩ : ∃ n, n = rs.length := ⟨_, rfl⟩
  have Hn : Hid _ := hn
  rw [← hn] at hl e6
  obtain ⟨R, hR⟩ : ∃ R, R = knwV rs := ⟨_, rfl⟩
  have HR : Hid _ := hR
  rw [← hR]
  have Hw0 : Hid _ := hw0
  clear hp h6 t0 hB hw0 hn hR
  go_enter Tryz.func90, Tryz.ntmps90
  go_wp2_with fail
  rw [← Hw0.out]
  clear e6
  go_loopw [15] (fun iv wr => ∃ k : Nat, iv = .int .i64 k ∧ k ≤ n ∧ Tch (fun _ => False) w0 wr ∧ Hid (R = knwV (rs.drop k))) (fun iv _ => n - (RowKit.intOf iv).toNat)
  case atStart => exact ⟨0, rfl, by omega, Tch.refl _ _, by rw [List.drop_zero]; exact HR.out⟩
  case round =>
    obtain ⟨k, rfl, hk, hT, HK⟩ := hrel
    by_cases hlt : k < n
    · have hltI : (k : Int) < (n : Int) := by omega
      have hkl : k < rs.length := by rw [← Hn.out]; exact hlt
      obtain ⟨⟨r0, r1, _⟩, hW⟩ := HC.out _ hT
      obtain ⟨g, i, rfl, hh⟩ := HP.out k hkl
      obtain ⟨d, cd, q⟩ := hh wr (hW.mono (fun _ _ h => h.elim))
      obtain ⟨p, hp⟩ : ∃ p, p = rs[k] := ⟨_, rfl⟩
      rw [← hp] at q
      have HK2 : Hid (R = knwV (p :: rs.drop (k + 1))) := (show _ = _ from by rw [HK.out, hp, ← List.drop_eq_getElem_cons])
      obtain ⟨v, e⟩ := p
      simp only at q
      clear hh hp
      obtain ⟨f, hf⟩ : ∃ f, f = !decide (v = zV) := ⟨_, rfl⟩
      have e1 : ∀ W, (binOp .neq 29 (vV v) (.agg #[.int .i64 0, .int .i64 0, .string ⟨#[]⟩])).run Tryz.prog W = .ok (.bool f) W := fun W => by rw [hf]; exact neq_dec v zV W
      have Hf : Hid _ := hf
      clear hf
      have HB : Hid (∀ W, Tch (fun _ => False) wr W → OneB (w.heap.size + 1) (W.alloc (.cells #[.int .i64 v.k, .int .i64 v.n, .string v.s] 29)) ∧ Tch (fun _ => False) w (W.alloc (.cells #[.int .i64 v.k, .int .i64 v.n, .string v.s] 29)) ∧ Tch (fun _ => False) w0 (W.alloc (.cells #[.int .i64 v.k, .int .i64 v.n, .string v.s] 29))) := fun W t => by
        have T := (hT.trans' t).allocR (.cells #[.int .i64 v.k, .int .i64 v.n, .string v.s] 29)
        have h := HC.out _ T
        exact ⟨h.1.z, h.2, T⟩
      by_cases he : e = 0
      · subst he
        cases f with
        | true =>
          have HE : Hid (R = (v, 0)) := (show _ = _ from by
            have h : v ≠ zV := of_decide_eq_false (by have := Hf.out; revert this; cases decide (v = zV) <;> simp)
            rw [HK2.out]; exact if_pos (Or.inr h))
          go_wp2_with (go_at_call 32; refine q.mono ?_; rintro y v1 ⟨rfl, t1⟩; obtain ⟨⟨⟨x0, x1, x2⟩, f0, f1, f2⟩, hw, _⟩ := HB.out _ t1)
          obtain ⟨k0, k1, k2⟩ := box_set _ (w.heap.size + 1) _ _ _ (.int .i64 v.k) (.int .i64 v.n) (.string v.s) x0 x1 x2
          refine bodyPost_ret (res_ve (j := 4) (m := 5) (by kernel_rfl) _ _ (w.heap.size + 1) v (.int .i64 0) ?_ ?_ k0 k1 k2) rfl ⟨by rw [HE.out], hw.trans (box_set_tch _ (w.heap.size + 1) _ _ _) (fun i hi h => by omega)⟩ <;> rfl
        | false =>
          have HE : Hid (R = knwV (rs.drop (k + 1))) := (show _ = _ from by
            have h : v = zV := of_decide_eq_true (by have := Hf.out; revert this; cases decide (v = zV) <;> simp)
            rw [HK2.out]; exact if_neg (by rintro (h1 | h1); exact h1 rfl; exact h1 h))
          go_wp2_with (go_at_call 32; refine q.mono ?_; rintro y v1 ⟨rfl, t1⟩; obtain ⟨⟨⟨x0, x1, x2⟩, f0, f1, f2⟩, hw, hw1⟩ := HB.out _ t1)
          go_roundw
          case rel => exact ⟨k + 1, by first | trivial | rfl, by omega, hw1, HE⟩
          case measure => simp [RowKit.intOf]; omega
      · have HE : Hid (R = (v, e)) := (show _ = _ from by rw [HK2.out]; exact if_pos (Or.inl he))
        have ee : (e == 0) = false := by simpa using he
        have ee2 : (e != 0) = true := by simpa using he
        go_wp2_with (go_at_call 32; refine q.mono ?_; rintro y v1 ⟨rfl, t1⟩; obtain ⟨⟨⟨x0, x1, x2⟩, f0, f1, f2⟩, hw, _⟩ := HB.out _ t1)
        obtain ⟨k0, k1, k2⟩ := box_set _ (w.heap.size + 1) _ _ _ (.int .i64 v.k) (.int .i64 v.n) (.string v.s) x0 x1 x2
        refine bodyPost_ret (res_ve (j := 4) (m := 5) (by kernel_rfl) _ _ (w.heap.size + 1) v (.int .i64 e) ?_ ?_ k0 k1 k2) rfl ⟨by rw [HE.out], hw.trans (box_set_tch _ (w.heap.size + 1) _ _ _) (fun i hi h => by omega)⟩ <;> rfl
    · have hltI : ¬ (k : Int) < (n : Int) := by omega
      obtain ⟨⟨_, _, ⟨x0, x1, x2⟩, f0, f1, f2⟩, hw⟩ := HC.out _ hT
      have HE : Hid (R = (zV, 0)) := (show _ = _ from by rw [HK.out, List.drop_of_length_le (by have := Hn.out; omega)]; rfl)
      obtain ⟨k0, k1, k2⟩ := box_set wr (w.heap.size + 1) _ _ _ (.int .i64 zV.k) (.int .i64 zV.n) (.string zV.s) x0 x1 x2
      have HK3 : Hid _ := (⟨k0, k1, k2⟩ : _ ∧ _ ∧ _)
      have HT : Hid _ := hw.trans (box_set_tch wr (w.heap.size + 1) (.int .i64 zV.k) (.int .i64 zV.n) (.string zV.s)) (fun i hi h => by omega)
      clear k0 k1 k2 hw
      go_wp2_with fail
      refine bodyPost_ret (res_ve (j := 4) (m := 5) (by kernel_rfl) _ _ (w.heap.size + 1) zV (.int .i64 0) ?_ ?_ HK3.out.1 HK3.out.2.1 HK3.out.2.2) rfl ⟨by rw [HE.out], HT.out⟩ <;> rfl
end Go.Proofs.YtmaekkhmiafnmaaGreatDoor
namespace Go.Proofs.YtmaekkhmiafnmaaGreatDoor
open Go.RowKit Go Go.Lib
structure VB (M : Nat) (v : Val) (W : World) : Prop where
  c : Bx M v W
  f : W.frozen? ⟨M, 0, none⟩ = false ∧ W.frozen? ⟨M, 1, none⟩ = false ∧ W.frozen? ⟨M, 2, none⟩ = false
theorem VB.no {M : Nat} {v : Val} {W W' : World} (h : VB M v W) (t : Tch (fun _ => False) W W') : VB M v W' :=
  have l : M < W.heap.size := cell_lt h.c.1
  ⟨h.c.no t, (t.frozen (p := ⟨M, 0, none⟩) l (fun h => h)).trans h.f.1, (t.frozen (p := ⟨M, 1, none⟩) l (fun h => h)).trans h.f.2.1, (t.frozen (p := ⟨M, 2, none⟩) l (fun h => h)).trans h.f.2.2⟩
theorem VB.set {M : Nat} {v : Val} {W : World} (h : VB M v W) (u : Val) : VB M u (((W.setCell ⟨M, 0, none⟩ (.int .i64 u.k)).setCell ⟨M, 1, none⟩ (.int .i64 u.n)).setCell ⟨M, 2, none⟩ (.string u.s)) := by
  obtain ⟨⟨x0, x1, x2⟩, g0, g1, g2⟩ := h
  refine ⟨box_set W M _ _ _ _ _ _ x0 x1 x2, ?_⟩
  simp [g0, g1, g2]
theorem vb_new (w : World) (v : Val) : VB w.heap.size v (w.alloc (.cells #[.int .i64 v.k, .int .i64 v.n, .string v.s] 29)) := by
  refine ⟨⟨?_, ?_, ?_⟩, ?_, ?_, ?_⟩ <;> simp
theorem OneB.off {S : Nat → Prop} {N : Nat} {W W' : World} (h : OneB N W) (t : Tch S W W') (hS : ¬ S N) : OneB N W' := by
  obtain ⟨⟨x0, x1, x2⟩, f0, f1, f2⟩ := h
  have l : N < W.heap.size := cell_lt x0
  exact ⟨⟨(t.cell (p := ⟨N, 0, none⟩) l hS).trans x0, (t.cell (p := ⟨N, 1, none⟩) l hS).trans x1, (t.cell (p := ⟨N, 2, none⟩) l hS).trans x2⟩, (t.frozen (p := ⟨N, 0, none⟩) l hS).trans f0, (t.frozen (p := ⟨N, 1, none⟩) l hS).trans f1, (t.frozen (p := ⟨N, 2, none⟩) l hS).trans f2⟩
theorem RB.off {S : Nat → Prop} {N : Nat} {co vo : Option Addr} {nC cc nV vc : Nat} {W W' : World} (h : RB N co vo nC cc nV vc W) (t : Tch S W W') (h0 : ¬ S N) (h1 : ¬ S (N + 1)) : RB N co vo nC cc nV vc W' :=
  have l : N < W.heap.size := cell_lt h.r0
  ⟨(t.cell (p := ⟨N, 0, none⟩) l h0).trans h.r0, (t.cell (p := ⟨N, 1, none⟩) l h0).trans h.r1, h.z.off t h1⟩
theorem settled_any (by1 : Bool) (rs : List (Val × Int)) (ao co vo : Option Addr) (b c nC cc nV vc : Nat) (w : World) (h6 : w.cell? ⟨b, 6, none⟩ = some (.slice ao rs.length c)) (hp : WP w ao rs (rowA co vo nC cc nV vc)) (hl : rs.length ≤ 1000000) :
    Calls Tryz.prog 87 #[ptV b, rowA co vo nC cc nV vc, .bool by1] w fun x w' => x = .returned (.tuple #[vV (stlV by1 (tr !by1) rs).1, .int .i64 (stlV by1 (tr !by1) rs).2]) ∧ Tch (fun _ => False) w w' := by
  have hbl : b < w.heap.size := cell_lt h6
  obtain ⟨w0, hw0⟩ : ∃ w0, w0 = (w.alloc (.cells #[.slice co nC cc, .slice vo nV vc] 80)).alloc (.cells #[.int .i64 0, .int .i64 0, .string ⟨#[]⟩] 29) := ⟨_, rfl⟩
  have t0 : Tch (fun _ => False) w w0 := by rw [hw0]; exact (Tch.alloc _ _ _).allocR _
  have hB : RB w.heap.size co vo nC cc nV vc w0 := by rw [hw0]; exact rb_new ..
  have hz0 : w0.heap.size = w.heap.size + 2 := by rw [hw0]; simp
  have H6 : Hid (w.cell? ⟨b, 6, none⟩ = some (.slice ao rs.length c)) := h6
  have HP : Hid (WP w ao rs (rowA co vo nC cc nV vc)) := hp
  obtain ⟨a0, ha0⟩ : ∃ a0, a0 = tr !by1 := ⟨_, rfl⟩
  have Htr : Hid (∀ W, Calls Tryz.prog 93 #[.bool (!by1)] W fun x w' => x = .returned (vV a0) ∧ Tch (fun _ => False) W w') := fun W => by rw [ha0]; exact truth_any _ W
  have Hby : Hid _ := fun W => truth_any by1 W
  obtain ⟨n, hn⟩ : ∃ n, n = rs.length := ⟨_, rfl⟩
  have Hn : Hid _ := hn
  rw [← hn] at hl
  obtain ⟨R, hR⟩ : ∃ R, R = stlV by1 (tr !by1) rs := ⟨_, rfl⟩
  have HR : Hid (R = stlV by1 a0 rs) := (show _ = _ from by rw [hR, ha0])
  rw [← hR]
  have Hw0 : Hid _ := hw0
  have HT0 : Hid (RB w.heap.size co vo nC cc nV vc w0 ∧ Tch (fun _ => False) w w0 ∧ w0.heap.size = w.heap.size + 2) := ⟨hB, t0, hz0⟩
  clear hp h6 t0 hB hw0 hn hR ha0 hz0
  go_enter Tryz.func87, Tryz.ntmps87
  go_wp2_with (go_at_call 93; refine (Htr.out _).mono ?_; rintro y v1 ⟨rfl, t1⟩; have c6 : ∀ o1, (v1.alloc o1).cell? ⟨b, 6, none⟩ = some (.slice ao n c) := (fun o1 => by
    rw [← Hw0.out] at t1
    rw [Hn.out]
    exact (((HT0.out.2.1.trans' t1).allocR o1).cell (p := ⟨b, 6, none⟩) hbl (fun h => h)).trans H6.out))
  rw [← Hw0.out] at t1
  obtain ⟨w1, hw1⟩ : ∃ w1, w1 = v1.alloc (.cells #[.int .i64 a0.k, .int .i64 a0.n, .string a0.s] 29) := ⟨_, rfl⟩
  obtain ⟨M, hM⟩ : ∃ M, M = v1.heap.size := ⟨_, rfl⟩
  have hA : VB M a0 w1 := by rw [hw1, hM]; exact vb_new v1 a0
  have t2 : Tch (fun _ => False) w0 w1 := by rw [hw1]; exact t1.allocR _
  have hMb : w.heap.size + 2 ≤ M := by
    have e1 := HT0.out.2.2
    have e2 := t1.size
    omega
  have HS1 : Hid (∀ W, Tch (fun i => i = M) w1 W → RB w.heap.size co vo nC cc nV vc W ∧ Tch (fun i => i = M) w W ∧ Tch (fun _ => False) w W) := fun W t => by
    have T : Tch (fun i => i = M) w W := ((HT0.out.2.1.trans' t2).mono (fun _ _ h => h.elim)).trans' t
    exact ⟨(HT0.out.1.no t2).off t (by omega) (by omega), T, T.mono (fun i hi h => by omega)⟩
  rw [← hw1, ← hM]
  have HA : Hid (VB M a0 w1) := hA
  have HMb : Hid _ := hMb
  clear hw1 hM hA t2 t1 c6 hMb
  go_loopw [21] (fun iv wr => ∃ (k : Nat) (an : Val), iv = .int .i64 k ∧ k ≤ n ∧ Tch (fun i => i = M) w1 wr ∧ Hid (VB M an wr ∧ R = stlV by1 an (rs.drop k))) (fun iv _ => n - (RowKit.intOf iv).toNat)
  case atStart => exact ⟨0, a0, rfl, by omega, Tch.refl _ _, HA.out, by rw [List.drop_zero]; exact HR.out⟩
  case round =>
    obtain ⟨k, an, rfl, hk, hT, HK⟩ := hrel
    by_cases hlt : k < n
    · have hltI : (k : Int) < (n : Int) := by omega
      have hkl : k < rs.length := by rw [← Hn.out]; exact hlt
      obtain ⟨⟨r0, r1, _⟩, hW, _⟩ := HS1.out _ hT
      obtain ⟨g, i, rfl, hh⟩ := HP.out k hkl
      obtain ⟨d, cd, q⟩ := hh wr (hW.mono (fun j hj h => by have := HMb.out; have h : j = M := h; show w.heap.size ≤ j; omega))
      obtain ⟨p, hp⟩ : ∃ p, p = rs[k] := ⟨_, rfl⟩
      rw [← hp] at q
      have HK2 : Hid (R = stlV by1 an (p :: rs.drop (k + 1))) := (show _ = _ from by rw [HK.out.2, hp, ← List.drop_eq_getElem_cons])
      obtain ⟨v, e⟩ := p
      simp only at q
      clear hh hp
      obtain ⟨f, hf⟩ : ∃ f, f = decide (v = tr by1) := ⟨_, rfl⟩
      have e1 : ∀ W, (binOp .eql 29 (vV v) (vV (tr by1))).run Tryz.prog W = .ok (.bool f) W := fun W => by rw [hf]; exact eql_dec v _ W
      obtain ⟨z, hz⟩ : ∃ z, z = decide (v = zV) := ⟨_, rfl⟩
      have e2 : ∀ W, (binOp .eql 29 (vV v) (.agg #[.int .i64 0, .int .i64 0, .string ⟨#[]⟩])).run Tryz.prog W = .ok (.bool z) W := fun W => by rw [hz]; exact eql_dec v zV W
      obtain ⟨tb, htb⟩ : ∃ tb, tb = tr by1 := ⟨_, rfl⟩
      have Hby1 : Hid (∀ W, Calls Tryz.prog 93 #[.bool by1] W fun x w' => x = .returned (vV tb) ∧ Tch (fun _ => False) W w') := fun W => by rw [htb]; exact Hby.out W
      rw [← htb] at e1 hf
      have Htb : Hid _ := htb
      have Hf : Hid _ := hf
      have Hz : Hid _ := hz
      clear hf hz htb
      have HS : Hid (∀ W, Tch (fun _ => False) wr W → OneB (w.heap.size + 1) W ∧ VB M an W ∧ Tch (fun _ => False) w W ∧ Tch (fun i => i = M) w1 W) := fun W t => by
        have T : Tch (fun i => i = M) w1 W := hT.trans' (t.mono (fun _ _ h => h.elim))
        obtain ⟨h1, _, h3⟩ := HS1.out _ T
        exact ⟨h1.z, HK.out.1.no t, h3, T⟩
      have HT' : Hid _ := hT
      clear hT hW
      by_cases he : e = 0
      · subst he
        cases f with
        | true =>
          have HE : Hid (R = (v, 0)) := (show _ = _ from by
            have h : v = tr by1 := by rw [← Htb.out]; exact of_decide_eq_true Hf.out.symm
            rw [HK2.out]; exact if_pos (Or.inr h))
          go_wp2_with (go_at_call 32; refine q.mono ?_; rintro y v1 ⟨rfl, t1⟩; have T1 := t1.allocR (.cells #[.int .i64 v.k, .int .i64 v.n, .string v.s] 29); have b1 := vb_new v1 v; obtain ⟨⟨y0, y1, y2⟩, g0, g1, g2⟩ := b1)
          obtain ⟨w2, hw2⟩ : ∃ w2, w2 = v1.alloc (.cells #[.int .i64 v.k, .int .i64 v.n, .string v.s] 29) := ⟨_, rfl⟩
          rw [← hw2] at T1 y0 y1 y2 g0 g1 g2 ⊢
          obtain ⟨M2, hM2⟩ : ∃ M2, M2 = v1.heap.size := ⟨_, rfl⟩
          rw [← hM2] at y0 y1 y2 g0 g1 g2 ⊢
          clear hw2 hM2 t1 g0 g1 g2
          have HY : Hid (∀ W, Tch (fun _ => False) w2 W → Tch (fun _ => False) w2 W ∧ W.cell? ⟨M2, 0, none⟩ = some (.int .i64 v.k) ∧ W.cell? ⟨M2, 1, none⟩ = some (.int .i64 v.n) ∧ W.cell? ⟨M2, 2, none⟩ = some (.string v.s)) := fun W t => by
            have l : M2 < w2.heap.size := cell_lt y0
            exact ⟨t, (t.cell (p := ⟨M2, 0, none⟩) l (fun h => h)).trans y0, (t.cell (p := ⟨M2, 1, none⟩) l (fun h => h)).trans y1, (t.cell (p := ⟨M2, 2, none⟩) l (fun h => h)).trans y2⟩
          have HT1 : Hid _ := T1
          clear T1 r0 r1 cd
          go_region_held3 (fun W => Tch (fun _ => False) w2 W ∧ W.cell? ⟨M2, 0, none⟩ = some (.int .i64 v.k) ∧ W.cell? ⟨M2, 1, none⟩ = some (.int .i64 v.n) ∧ W.cell? ⟨M2, 2, none⟩ = some (.string v.s))
            ((refine HY.out _ ?_; first | assumption | exact (Tch.refl _ _).drew))
            ((go_at_call 93; refine (Hby1.out _).mono ?_; rintro y v3 ⟨rfl, t3⟩; have V3 : Tch (fun _ => False) w2 v3 := Tch.trans' (show _ ∧ _ by assumption).1 t3))
          all_goals
            clear y0 y1 y2
            obtain ⟨_, y0, y1, y2⟩ := HY.out _ V3
            obtain ⟨⟨⟨x0, x1, x2⟩, f0, f1, f2⟩, ⟨⟨m0, m1, m2⟩, n0, n1, n2⟩, hw, hw1⟩ := HS.out _ (HT1.out.trans' V3)
            go_wp2_with fail
            obtain ⟨k0, k1, k2⟩ := box_set _ (w.heap.size + 1) _ _ _ (.int .i64 v.k) (.int .i64 v.n) (.string v.s) x0 x1 x2
            refine bodyPost_ret (res_ve (j := 6) (m := 7) (by kernel_rfl) _ _ (w.heap.size + 1) v (.int .i64 0) ?_ ?_ k0 k1 k2) rfl ⟨by rw [HE.out], hw.trans (box_set_tch _ (w.heap.size + 1) _ _ _) (fun i hi h => by omega)⟩ <;> rfl
        | false =>
          have h2 : ¬ ((0 : Int) ≠ 0 ∨ v = tr by1) := by
            rintro (h1 | h1)
            · exact h1 rfl
            · rw [← Htb.out] at h1
              exact of_decide_eq_false Hf.out.symm h1
          have HN : Hid (R = stlV by1 (if v = zV then v else an) (rs.drop (k + 1))) := (show _ = _ from by rw [HK2.out]; exact if_neg h2)
          clear h2
          cases z with
          | true =>
            have HE : Hid (R = stlV by1 v (rs.drop (k + 1))) := (show _ = _ from by rw [HN.out, if_pos (of_decide_eq_true Hz.out.symm)])
            go_wp2_with (go_at_call 32; refine q.mono ?_; rintro y v1 ⟨rfl, t1⟩; have T1 := t1.allocR (.cells #[.int .i64 v.k, .int .i64 v.n, .string v.s] 29); have b1 := vb_new v1 v; obtain ⟨⟨y0, y1, y2⟩, g0, g1, g2⟩ := b1)
            obtain ⟨w2, hw2⟩ : ∃ w2, w2 = v1.alloc (.cells #[.int .i64 v.k, .int .i64 v.n, .string v.s] 29) := ⟨_, rfl⟩
            rw [← hw2] at T1 y0 y1 y2 g0 g1 g2 ⊢
            obtain ⟨M2, hM2⟩ : ∃ M2, M2 = v1.heap.size := ⟨_, rfl⟩
            rw [← hM2] at y0 y1 y2 g0 g1 g2 ⊢
            clear hw2 hM2 t1 g0 g1 g2
            have HY : Hid (∀ W, Tch (fun _ => False) w2 W → Tch (fun _ => False) w2 W ∧ W.cell? ⟨M2, 0, none⟩ = some (.int .i64 v.k) ∧ W.cell? ⟨M2, 1, none⟩ = some (.int .i64 v.n) ∧ W.cell? ⟨M2, 2, none⟩ = some (.string v.s)) := fun W t => by
              have l : M2 < w2.heap.size := cell_lt y0
              exact ⟨t, (t.cell (p := ⟨M2, 0, none⟩) l (fun h => h)).trans y0, (t.cell (p := ⟨M2, 1, none⟩) l (fun h => h)).trans y1, (t.cell (p := ⟨M2, 2, none⟩) l (fun h => h)).trans y2⟩
            have HT1 : Hid _ := T1
            clear T1 r0 r1 cd
            go_region_held3 (fun W => Tch (fun _ => False) w2 W ∧ W.cell? ⟨M2, 0, none⟩ = some (.int .i64 v.k) ∧ W.cell? ⟨M2, 1, none⟩ = some (.int .i64 v.n) ∧ W.cell? ⟨M2, 2, none⟩ = some (.string v.s))
              ((refine HY.out _ ?_; first | assumption | exact (Tch.refl _ _).drew))
              ((go_at_call 93; refine (Hby1.out _).mono ?_; rintro y v3 ⟨rfl, t3⟩; have V3 : Tch (fun _ => False) w2 v3 := Tch.trans' (show _ ∧ _ by assumption).1 t3))
            all_goals
              clear y0 y1 y2
              obtain ⟨_, y0, y1, y2⟩ := HY.out _ V3
              obtain ⟨⟨⟨x0, x1, x2⟩, f0, f1, f2⟩, ⟨⟨m0, m1, m2⟩, n0, n1, n2⟩, hw, hw1⟩ := HS.out _ (HT1.out.trans' V3)
              go_wp2_with fail
              go_roundw
              case rel => exact ⟨k + 1, v, by first | trivial | rfl, by omega, hw1.trans' (box_set_tch v3 M _ _ _), VB.set ⟨⟨m0, m1, m2⟩, n0, n1, n2⟩ v, HE⟩
              case measure => simp [RowKit.intOf]; omega
          | false =>
            have HE : Hid (R = stlV by1 an (rs.drop (k + 1))) := (show _ = _ from by rw [HN.out, if_neg (of_decide_eq_false Hz.out.symm)])
            go_wp2_with (go_at_call 32; refine q.mono ?_; rintro y v1 ⟨rfl, t1⟩; have T1 := t1.allocR (.cells #[.int .i64 v.k, .int .i64 v.n, .string v.s] 29); have b1 := vb_new v1 v; obtain ⟨⟨y0, y1, y2⟩, g0, g1, g2⟩ := b1)
            obtain ⟨w2, hw2⟩ : ∃ w2, w2 = v1.alloc (.cells #[.int .i64 v.k, .int .i64 v.n, .string v.s] 29) := ⟨_, rfl⟩
            rw [← hw2] at T1 y0 y1 y2 g0 g1 g2 ⊢
            obtain ⟨M2, hM2⟩ : ∃ M2, M2 = v1.heap.size := ⟨_, rfl⟩
            rw [← hM2] at y0 y1 y2 g0 g1 g2 ⊢
            clear hw2 hM2 t1 g0 g1 g2
            have HY : Hid (∀ W, Tch (fun _ => False) w2 W → Tch (fun _ => False) w2 W ∧ W.cell? ⟨M2, 0, none⟩ = some (.int .i64 v.k) ∧ W.cell? ⟨M2, 1, none⟩ = some (.int .i64 v.n) ∧ W.cell? ⟨M2, 2, none⟩ = some (.string v.s)) := fun W t => by
              have l : M2 < w2.heap.size := cell_lt y0
              exact ⟨t, (t.cell (p := ⟨M2, 0, none⟩) l (fun h => h)).trans y0, (t.cell (p := ⟨M2, 1, none⟩) l (fun h => h)).trans y1, (t.cell (p := ⟨M2, 2, none⟩) l (fun h => h)).trans y2⟩
            have HT1 : Hid _ := T1
            clear T1 r0 r1 cd
            go_region_held3 (fun W => Tch (fun _ => False) w2 W ∧ W.cell? ⟨M2, 0, none⟩ = some (.int .i64 v.k) ∧ W.cell? ⟨M2, 1, none⟩ = some (.int .i64 v.n) ∧ W.cell? ⟨M2, 2, none⟩ = some (.string v.s))
              ((refine HY.out _ ?_; first | assumption | exact (Tch.refl _ _).drew))
              ((go_at_call 93; refine (Hby1.out _).mono ?_; rintro y v3 ⟨rfl, t3⟩; have V3 : Tch (fun _ => False) w2 v3 := Tch.trans' (show _ ∧ _ by assumption).1 t3))
            all_goals
              clear y0 y1 y2
              obtain ⟨_, y0, y1, y2⟩ := HY.out _ V3
              obtain ⟨⟨⟨x0, x1, x2⟩, f0, f1, f2⟩, ⟨⟨m0, m1, m2⟩, n0, n1, n2⟩, hw, hw1⟩ := HS.out _ (HT1.out.trans' V3)
              go_wp2_with fail
              go_roundw
              case rel => exact ⟨k + 1, an, by first | trivial | rfl, by omega, hw1, ⟨⟨m0, m1, m2⟩, n0, n1, n2⟩, HE⟩
              case measure => simp [RowKit.intOf]; omega
      · have HE : Hid (R = (v, e)) := (show _ = _ from by rw [HK2.out]; exact if_pos (Or.inl he))
        have ee : (e == 0) = false := by simpa using he
        have ee2 : (e != 0) = true := by simpa using he
        go_wp2_with (go_at_call 32; refine q.mono ?_; rintro y v1 ⟨rfl, t1⟩; have T1 := t1.allocR (.cells #[.int .i64 v.k, .int .i64 v.n, .string v.s] 29); have b1 := vb_new v1 v; obtain ⟨⟨y0, y1, y2⟩, g0, g1, g2⟩ := b1)
        go_quiet (fail)
        obtain ⟨⟨⟨x0, x1, x2⟩, f0, f1, f2⟩, _, hw, _⟩ := HS.out _ (T1.drewN nq)
        go_wp2_with fail
        obtain ⟨k0, k1, k2⟩ := box_set _ (w.heap.size + 1) _ _ _ (.int .i64 v.k) (.int .i64 v.n) (.string v.s) x0 x1 x2
        refine bodyPost_ret (res_ve (j := 6) (m := 7) (by kernel_rfl) _ _ (w.heap.size + 1) v (.int .i64 e) ?_ ?_ k0 k1 k2) rfl ⟨by rw [HE.out], hw.trans (box_set_tch _ (w.heap.size + 1) _ _ _) (fun i hi h => by omega)⟩ <;> rfl
    · have hltI : ¬ (k : Int) < (n : Int) := by omega
      obtain ⟨⟨_, _, ⟨x0, x1, x2⟩, f0, f1, f2⟩, _, hw⟩ := HS1.out _ hT
      obtain ⟨y0, y1, y2⟩ := HK.out.1.c
      have HE : Hid (R = (an, 0)) := (show _ = _ from by rw [HK.out.2, List.drop_of_length_le (by have := Hn.out; omega)]; rfl)
      obtain ⟨k0, k1, k2⟩ := box_set wr (w.heap.size + 1) _ _ _ (.int .i64 an.k) (.int .i64 an.n) (.string an.s) x0 x1 x2
      have HK3 : Hid _ := (⟨k0, k1, k2⟩ : _ ∧ _ ∧ _)
      have HT : Hid _ := hw.trans (box_set_tch wr (w.heap.size + 1) (.int .i64 an.k) (.int .i64 an.n) (.string an.s)) (fun i hi h => by omega)
      clear k0 k1 k2 hw
      go_wp2_with fail
      refine bodyPost_ret (res_ve (j := 6) (m := 7) (by kernel_rfl) _ _ (w.heap.size + 1) an (.int .i64 0) ?_ ?_ HK3.out.1 HK3.out.2.1 HK3.out.2.2) rfl ⟨by rw [HE.out], HT.out⟩ <;> rfl
end Go.Proofs.YtmaekkhmiafnmaaGreatDoor
namespace Go.Proofs.YtmaekkhmiafnmaaGreatDoor
open Go.RowKit Go Go.Lib
theorem found_any (v0 : Val) (e0 : Int) (rs : List (Val × Int)) (ao co vo : Option Addr) (b c nC cc nV vc : Nat) (w : World) (h6 : w.cell? ⟨b, 6, none⟩ = some (.slice ao (rs.length + 1) c)) (hp : WP w ao ((v0, e0) :: rs) (rowA co vo nC cc nV vc)) (hl : rs.length ≤ 1000000) (hc : rs.length + 1 ≤ c) (h1 : 1 ≤ rs.length) :
    Calls Tryz.prog 88 #[ptV b, rowA co vo nC cc nV vc] w fun x w' => x = .returned (.tuple #[vV (if e0 ≠ 0 ∨ v0 = zV then (v0, e0) else fndV v0 (tr false) rs).1, .int .i64 (if e0 ≠ 0 ∨ v0 = zV then (v0, e0) else fndV v0 (tr false) rs).2]) ∧ Tch (fun _ => False) w w' := by
  have hbl : b < w.heap.size := cell_lt h6
  obtain ⟨w0, hw0⟩ : ∃ w0, w0 = (w.alloc (.cells #[.slice co nC cc, .slice vo nV vc] 80)).alloc (.cells #[.int .i64 0, .int .i64 0, .string ⟨#[]⟩] 29) := ⟨_, rfl⟩
  have t0 : Tch (fun _ => False) w w0 := by rw [hw0]; exact (Tch.alloc _ _ _).allocR _
  have hB : RB w.heap.size co vo nC cc nV vc w0 := by rw [hw0]; exact rb_new ..
  have hz0 : w0.heap.size = w.heap.size + 2 := by rw [hw0]; simp
  obtain ⟨g, i, rfl, hh⟩ := hp 0 (by simp)
  simp only [Nat.add_zero, List.getElem_cons_zero] at hh
  obtain ⟨d, cd, q⟩ := hh w0 (t0.mono (fun _ _ h => h.elim))
  have hgl : g < w.heap.size := by
    obtain ⟨d2, cd2, _⟩ := hh w (Tch.refl _ _)
    exact cell_lt cd2
  have Hq : Hid (∀ W, Tch (fun i => w.heap.size + 2 ≤ i) w0 W → Calls Tryz.prog 32 #[ptV d, rowA co vo nC cc nV vc] W fun x w' => x = .returned (.tuple #[vV v0, .int .i64 e0]) ∧ Tch (fun _ => False) W w') := fun W t => by
    obtain ⟨d2, cd2, q2⟩ := hh W ((t0.mono (fun _ _ h => h.elim)).trans' (t.mono (fun j hj h => by have h : w.heap.size + 2 ≤ j := h; show w.heap.size ≤ j; omega)))
    have hg0 : g < w0.heap.size := by omega
    have e := (t.cell (p := ⟨g, i, none⟩) hg0 (by show ¬ w.heap.size + 2 ≤ g; omega)).trans cd
    rw [e] at cd2
    simp only [Option.some.injEq, Value.pointer.injEq, Addr.mk.injEq, and_true] at cd2
    obtain rfl := cd2
    exact q2
  obtain ⟨n, hn⟩ : ∃ n, n = rs.length := ⟨_, rfl⟩
  have Hn : Hid _ := hn
  rw [← hn] at hl h6 hc h1
  have HC : Hid (∀ W, Tch (fun i => w.heap.size + 2 ≤ i) w0 W → Tch (fun i => w.heap.size + 2 ≤ i) w0 W ∧ W.cell? ⟨b, 6, none⟩ = some (.slice (some ⟨g, i, none⟩) (n + 1) c) ∧ W.cell? ⟨g, i, none⟩ = some (ptV d) ∧ W.cell? ⟨w.heap.size, 0, none⟩ = some (.slice co nC cc) ∧ W.cell? ⟨w.heap.size, 1, none⟩ = some (.slice vo nV vc)) := fun W t => by
    have T : Tch (fun i => w.heap.size + 2 ≤ i) w W := (t0.mono (fun _ _ h => h.elim)).trans' t
    have B := hB.off t (by omega) (by omega)
    exact ⟨t, (T.cell (p := ⟨b, 6, none⟩) hbl (by show ¬ w.heap.size + 2 ≤ b; omega)).trans h6, (t.cell (p := ⟨g, i, none⟩) (by show g < _; omega) (by show ¬ w.heap.size + 2 ≤ g; omega)).trans cd, B.r0, B.r1⟩
  obtain ⟨R, hR⟩ : ∃ R, R = if e0 ≠ 0 ∨ v0 = zV then (v0, e0) else fndV v0 (tr false) rs := ⟨_, rfl⟩
  have HR : Hid _ := hR
  rw [← hR]
  have HP : Hid (WP w (some ⟨g, i, none⟩) ((v0, e0) :: rs) (rowA co vo nC cc nV vc)) := hp
  have Hw0 : Hid _ := hw0
  have HT0 : Hid (RB w.heap.size co vo nC cc nV vc w0 ∧ Tch (fun _ => False) w w0 ∧ w0.heap.size = w.heap.size + 2) := ⟨hB, t0, hz0⟩
  clear hp h6 t0 hB hw0 hn hR hz0 hh q cd
  go_enter Tryz.func88, Tryz.ntmps88
  go_wp2_with fail
  rw [← Hw0.out]
  obtain ⟨_, q0, q1, q2, q3⟩ := HC.out w0 (Tch.refl _ _)
  go_region_held3 (fun W => Tch (fun i => w.heap.size + 2 ≤ i) w0 W ∧ W.cell? ⟨b, 6, none⟩ = some (.slice (some ⟨g, i, none⟩) (n + 1) c) ∧ W.cell? ⟨g, i, none⟩ = some (ptV d) ∧ W.cell? ⟨w.heap.size, 0, none⟩ = some (.slice co nC cc) ∧ W.cell? ⟨w.heap.size, 1, none⟩ = some (.slice vo nV vc))
    ((refine HC.out _ ?_; first | assumption | with_reducible exact (Tch.refl _ _).drew | with_reducible exact Tch.allocR V1 _ | with_reducible exact ((Tch.refl _ _).allocR _).drew | with_reducible exact (Tch.refl _ _).allocR _ | ((with_reducible refine Tch.trans' V1 (Tch.mono (box_set_tch _ _ _ _ _) ?_)); intro j _ h; have h0 := HT0.out.2.2; show w.heap.size + 2 ≤ j; omega)))
    ((go_at_call 32; refine (Hq.out _ (by first | exact (show _ ∧ _ by assumption).1 | exact (Tch.refl _ _).drew)).mono ?_; rintro y v1 ⟨rfl, t1⟩; have V1 := Tch.trans' (show _ ∧ _ by assumption).1 (no_mono t1); try (have bb := oneB (w := w0) (W := v1) (Tch.trans' (Tch.refl _ _).drew t1); obtain ⟨⟨x0, x1, x2⟩, f0, f1, f2⟩ := bb)))
  · have T2 : Tch (fun _ => False) w0 (v1.alloc (.cells #[.int .i64 v0.k, .int .i64 v0.n, .string v0.s] 29)) := (Tch.trans' (Tch.refl _ _).drew t1).allocR _
    have hV := vb_new v1 v0
    obtain ⟨w2, hw2⟩ : ∃ w2, w2 = v1.alloc (.cells #[.int .i64 v0.k, .int .i64 v0.n, .string v0.s] 29) := ⟨_, rfl⟩
    obtain ⟨M1, hM1⟩ : ∃ M1, M1 = v1.heap.size := ⟨_, rfl⟩
    have hM2 : w0.heap.size ≤ M1 := by rw [hM1]; exact t1.size
    rw [← hw2] at hV T2 ⊢
    rw [← hM1] at hV ⊢
    clear hw2 hM1 t1 V1
    have hMM : w.heap.size + 2 ≤ M1 := by have := HT0.out.2.2; omega
    have HB2 : Hid (∀ W, Tch (fun _ => False) w2 W → RB w.heap.size co vo nC cc nV vc W ∧ Bx M1 v0 W ∧ Tch (fun _ => False) w W ∧ W.cell? ⟨b, 6, none⟩ = some (.slice (some ⟨g, i, none⟩) (n + 1) c)) := fun W t => by
      have T := T2.trans' t
      exact ⟨HT0.out.1.no T, hV.c.no t, HT0.out.2.1.trans' T, (HC.out W (no_mono T)).2.1⟩
    clear q0 q1 q2 q3
    obtain ⟨⟨r0, r1, ⟨x0, x1, x2⟩, f0, f1, f2⟩, ⟨b0, b1, b2⟩, hw, c6⟩ := HB2.out w2 (Tch.refl _ _)
    obtain ⟨z0, hz0⟩ : ∃ z, z = decide (v0 = zV) := ⟨_, rfl⟩
    have ez : ∀ W, (binOp .eql 29 (vV v0) (.agg #[.int .i64 0, .int .i64 0, .string ⟨#[]⟩])).run Tryz.prog W = .ok (.bool z0) W := fun W => by rw [hz0]; exact eql_dec v0 zV W
    have Hz0 : Hid _ := hz0
    clear hz0
    by_cases he0 : e0 = 0
    · cases z0 with
      | true =>
        have HE : Hid (R = (v0, e0)) := (show _ = _ from by rw [HR.out]; exact if_pos (Or.inr (of_decide_eq_true Hz0.out.symm)))
        have He0 : Hid _ := he0
        subst he0
        go_wp2_with fail
        obtain ⟨k0, k1, k2⟩ := box_set _ (w.heap.size + 1) _ _ _ (.int .i64 (v0).k) (.int .i64 (v0).n) (.string (v0).s) x0 x1 x2
        refine bodyPost_ret (res_ve (j := 4) (m := 5) (by kernel_rfl) _ _ (w.heap.size + 1) (v0) (.int .i64 0) ?_ ?_ k0 k1 k2) rfl ⟨by rw [HE.out], hw.trans (box_set_tch _ (w.heap.size + 1) _ _ _) (fun i hi h => by omega)⟩ <;> rfl
      | false =>
        have HN : Hid (R = fndV v0 (tr false) rs) := (show _ = _ from by rw [HR.out]; exact if_neg (by rintro (h | h); exact h he0; exact of_decide_eq_false Hz0.out.symm h))
        subst he0
        clear x0 x1 x2 f0 f1 f2 hw
        obtain ⟨a0, ha0⟩ : ∃ a0, a0 = tr false := ⟨_, rfl⟩
        have Htf : Hid (∀ W, Calls Tryz.prog 93 #[.bool false] W fun x w' => x = .returned (vV a0) ∧ Tch (fun _ => False) W w') := fun W => by rw [ha0]; exact truth_any _ W
        have Htt : Hid (∀ W, Calls Tryz.prog 93 #[.bool true] W fun x w' => x = .returned (vV (tr true)) ∧ Tch (fun _ => False) W w') := fun W => truth_any _ W
        have HN2 : Hid (R = fndV v0 a0 rs) := (show _ = _ from by rw [HN.out, ha0])
        clear ha0 HN
        have nc : ¬ c = 1 := by omega
        have i1 : (1 : Int) ≤ ((n + 1 : Nat) : Int) := by omega
        have i2 : ((n + 1 : Nat) : Int) ≤ (c : Int) := by omega
        have i3 : ((n + 1 : Nat) : Int) - 1 = (n : Int) := by omega
        go_wp2_with (go_at_call 93; refine (Htf.out _).mono ?_; rintro y v3 ⟨rfl, t3⟩; have c6 : ∀ o1, (v3.alloc o1).cell? ⟨b, 6, none⟩ = some (.slice (some ⟨g, i, none⟩) (n + 1) c) := (fun o1 => (HB2.out _ (t3.allocR o1)).2.2.2))
        obtain ⟨w3, hw3⟩ : ∃ w3, w3 = v3.alloc (.cells #[.int .i64 a0.k, .int .i64 a0.n, .string a0.s] 29) := ⟨_, rfl⟩
        obtain ⟨M, hM⟩ : ∃ M, M = v3.heap.size := ⟨_, rfl⟩
        have hA : VB M a0 w3 := by rw [hw3, hM]; exact vb_new v3 a0
        have T3 : Tch (fun _ => False) w2 w3 := by rw [hw3]; exact t3.allocR _
        have hl1 : M1 < w2.heap.size := cell_lt hV.c.1
        have hM1M : M1 < M := by have := t3.size; omega
        have HS1 : Hid (∀ W, Tch (fun i => i = M) w3 W → RB w.heap.size co vo nC cc nV vc W ∧ Bx M1 v0 W ∧ Tch (fun i => i = M) w W ∧ Tch (fun _ => False) w W) := fun W t => by
          obtain ⟨h1, h2, h3, _⟩ := HB2.out w3 T3
          have T : Tch (fun i => i = M) w W := (h3.mono (fun _ _ h => h.elim)).trans' t
          have l : M1 < w3.heap.size := cell_lt h2.1
          have nm : ¬ M1 = M := by omega
          exact ⟨h1.off t (by omega) (by omega), ⟨(t.cell (p := ⟨M1, 0, none⟩) l nm).trans h2.1, (t.cell (p := ⟨M1, 1, none⟩) l nm).trans h2.2.1, (t.cell (p := ⟨M1, 2, none⟩) l nm).trans h2.2.2⟩, T, T.mono (fun i hi h => by omega)⟩
        rw [← hw3, ← hM]
        have HA : Hid (VB M a0 w3) := hA
        have HMb : Hid (w.heap.size + 2 ≤ M) := (show _ ≤ _ from by omega)
        clear hw3 hM hA T3 t3 c6 hM1M hl1 hMM r0 r1 b0 b1 b2 T2 hV hM2 i1 i2 i3
        go_loopw [40] (fun iv wr => ∃ (k : Nat) (an : Val), iv = .int .i64 k ∧ k ≤ n ∧ Tch (fun i => i = M) w3 wr ∧ Hid (VB M an wr ∧ R = fndV v0 an (rs.drop k))) (fun iv _ => n - (RowKit.intOf iv).toNat)
        case atStart => exact ⟨0, a0, rfl, by omega, Tch.refl _ _, HA.out, by rw [List.drop_zero]; exact HN2.out⟩
        case round =>
          obtain ⟨k, an, rfl, hk, hT, HK⟩ := hrel
          by_cases hlt : k < n
          · have hltI : (k : Int) < (n : Int) := by omega
            have hkl : k < rs.length := by rw [← Hn.out]; exact hlt
            obtain ⟨⟨r0, r1, _⟩, _, hW, _⟩ := HS1.out _ hT
            obtain ⟨g', i', e', hh⟩ := HP.out (k + 1) (by simp; omega)
            simp only [Option.some.injEq, Addr.mk.injEq, and_true] at e'
            obtain ⟨rfl, rfl⟩ := e'
            simp only [List.getElem_cons_succ] at hh
            obtain ⟨d', cd, q⟩ := hh wr (hW.mono (fun j hj h => by have := HMb.out; have h : j = M := h; show w.heap.size ≤ j; omega))
            rw [show i + (k + 1) = i + 1 + k by omega] at cd
            obtain ⟨p, hp⟩ : ∃ p, p = rs[k] := ⟨_, rfl⟩
            rw [← hp] at q
            have HK2 : Hid (R = fndV v0 an (p :: rs.drop (k + 1))) := (show _ = _ from by rw [HK.out.2, hp, ← List.drop_eq_getElem_cons])
            obtain ⟨v, e⟩ := p
            simp only at q
            clear hh hp
            obtain ⟨f, hf⟩ : ∃ f, f = decide (v = v0) := ⟨_, rfl⟩
            have e1 : ∀ W, (binOp .eql 29 (vV v) (vV v0)).run Tryz.prog W = .ok (.bool f) W := fun W => by rw [hf]; exact eql_dec v v0 W
            obtain ⟨z, hz⟩ : ∃ z, z = decide (v = zV) := ⟨_, rfl⟩
            have e2 : ∀ W, (binOp .eql 29 (vV v) (.agg #[.int .i64 0, .int .i64 0, .string ⟨#[]⟩])).run Tryz.prog W = .ok (.bool z) W := fun W => by rw [hz]; exact eql_dec v zV W
            have Hf : Hid _ := hf
            have Hz : Hid _ := hz
            clear hf hz
            have HS : Hid (∀ W, Tch (fun _ => False) wr W → OneB (w.heap.size + 1) W ∧ VB M an W ∧ Bx M1 v0 W ∧ Tch (fun _ => False) w W ∧ Tch (fun i => i = M) w3 W) := fun W t => by
              have T : Tch (fun i => i = M) w3 W := hT.trans' (t.mono (fun _ _ h => h.elim))
              obtain ⟨h1, h2, _, h3⟩ := HS1.out _ T
              exact ⟨h1.z, HK.out.1.no t, h2, h3, T⟩
            clear hT hW ez
            by_cases he : e = 0
            · subst he
              cases f with
              | true =>
                have HE : Hid (R = (tr true, 0)) := (show _ = _ from by
                  rw [HK2.out]
                  show (if (0 : Int) ≠ 0 then (v, (0 : Int)) else if v = v0 then (tr true, 0) else _) = _
                  rw [if_neg (by simp), if_pos (of_decide_eq_true Hf.out.symm)])
                go_wp2_with (first | (go_at_call 32; refine q.mono ?_; rintro y v5 ⟨rfl, t5⟩; have T5 := t5.allocR (.cells #[.int .i64 v.k, .int .i64 v.n, .string v.s] 29); obtain ⟨⟨y0, y1, y2⟩, g0, g1, g2⟩ := vb_new v5 v; obtain ⟨⟨⟨x0, x1, x2⟩, f0, f1, f2⟩, ⟨⟨m0, m1, m2⟩, n0, n1, n2⟩, ⟨u0, u1, u2⟩, hw, hw1⟩ := HS.out _ T5) | (go_at_call 93; refine (Htt.out _).mono ?_; rintro y v6 ⟨rfl, t6⟩; obtain ⟨⟨⟨x0, x1, x2⟩, f0, f1, f2⟩, _, _, hw, _⟩ := HS.out _ (T5.trans' t6)))
                obtain ⟨k0, k1, k2⟩ := box_set _ (w.heap.size + 1) _ _ _ (.int .i64 (tr true).k) (.int .i64 (tr true).n) (.string (tr true).s) x0 x1 x2
                refine bodyPost_ret (res_ve (j := 4) (m := 5) (by kernel_rfl) _ _ (w.heap.size + 1) (tr true) (.int .i64 0) ?_ ?_ k0 k1 k2) rfl ⟨by rw [HE.out], hw.trans (box_set_tch _ (w.heap.size + 1) _ _ _) (fun i hi h => by omega)⟩ <;> rfl
              | false =>
                have HN3 : Hid (R = fndV v0 (if v = zV then v else an) (rs.drop (k + 1))) := (show _ = _ from by
                  rw [HK2.out]
                  show (if (0 : Int) ≠ 0 then (v, (0 : Int)) else if v = v0 then (tr true, 0) else _) = _
                  rw [if_neg (by simp), if_neg (of_decide_eq_false Hf.out.symm)])
                cases z with
                | true =>
                  have HE : Hid (R = fndV v0 v (rs.drop (k + 1))) := (show _ = _ from by rw [HN3.out, if_pos (of_decide_eq_true Hz.out.symm)])
                  go_wp2_with (go_at_call 32; refine q.mono ?_; rintro y v5 ⟨rfl, t5⟩; have T5 := t5.allocR (.cells #[.int .i64 v.k, .int .i64 v.n, .string v.s] 29); obtain ⟨⟨y0, y1, y2⟩, g0, g1, g2⟩ := vb_new v5 v; obtain ⟨⟨⟨x0, x1, x2⟩, f0, f1, f2⟩, ⟨⟨m0, m1, m2⟩, n0, n1, n2⟩, ⟨u0, u1, u2⟩, hw, hw1⟩ := HS.out _ T5)
                  go_roundw
                  case rel => exact ⟨k + 1, v, by first | trivial | rfl, by omega, hw1.trans' (box_set_tch _ M _ _ _), VB.set ⟨⟨m0, m1, m2⟩, n0, n1, n2⟩ v, HE⟩
                  case measure => simp [RowKit.intOf]; omega
                | false =>
                  have HE : Hid (R = fndV v0 an (rs.drop (k + 1))) := (show _ = _ from by rw [HN3.out, if_neg (of_decide_eq_false Hz.out.symm)])
                  go_wp2_with (go_at_call 32; refine q.mono ?_; rintro y v5 ⟨rfl, t5⟩; have T5 := t5.allocR (.cells #[.int .i64 v.k, .int .i64 v.n, .string v.s] 29); obtain ⟨⟨y0, y1, y2⟩, g0, g1, g2⟩ := vb_new v5 v; obtain ⟨⟨⟨x0, x1, x2⟩, f0, f1, f2⟩, ⟨⟨m0, m1, m2⟩, n0, n1, n2⟩, ⟨u0, u1, u2⟩, hw, hw1⟩ := HS.out _ T5)
                  go_roundw
                  case rel => exact ⟨k + 1, an, by first | trivial | rfl, by omega, hw1, ⟨⟨m0, m1, m2⟩, n0, n1, n2⟩, HE⟩
                  case measure => simp [RowKit.intOf]; omega
            · have HE : Hid (R = (v, e)) := (show _ = _ from by rw [HK2.out]; exact if_pos he)
              have ee : (e == 0) = false := by simpa using he
              have ee2 : (e != 0) = true := by simpa using he
              go_wp2_with (go_at_call 32; refine q.mono ?_; rintro y v5 ⟨rfl, t5⟩; have T5 := t5.allocR (.cells #[.int .i64 v.k, .int .i64 v.n, .string v.s] 29); obtain ⟨⟨y0, y1, y2⟩, g0, g1, g2⟩ := vb_new v5 v; obtain ⟨⟨⟨x0, x1, x2⟩, f0, f1, f2⟩, ⟨⟨m0, m1, m2⟩, n0, n1, n2⟩, ⟨u0, u1, u2⟩, hw, hw1⟩ := HS.out _ T5)
              obtain ⟨k0, k1, k2⟩ := box_set _ (w.heap.size + 1) _ _ _ (.int .i64 (v).k) (.int .i64 (v).n) (.string (v).s) x0 x1 x2
              refine bodyPost_ret (res_ve (j := 4) (m := 5) (by kernel_rfl) _ _ (w.heap.size + 1) (v) (.int .i64 e) ?_ ?_ k0 k1 k2) rfl ⟨by rw [HE.out], hw.trans (box_set_tch _ (w.heap.size + 1) _ _ _) (fun i hi h => by omega)⟩ <;> rfl
          · have hltI : ¬ (k : Int) < (n : Int) := by omega
            obtain ⟨⟨_, _, ⟨x0, x1, x2⟩, f0, f1, f2⟩, _, _, hw⟩ := HS1.out _ hT
            obtain ⟨y0, y1, y2⟩ := HK.out.1.c
            have HE : Hid (R = (an, 0)) := (show _ = _ from by rw [HK.out.2, List.drop_of_length_le (by have := Hn.out; omega)]; rfl)
            go_wp2_with fail
            obtain ⟨k0, k1, k2⟩ := box_set _ (w.heap.size + 1) _ _ _ (.int .i64 (an).k) (.int .i64 (an).n) (.string (an).s) x0 x1 x2
            refine bodyPost_ret (res_ve (j := 4) (m := 5) (by kernel_rfl) _ _ (w.heap.size + 1) (an) (.int .i64 0) ?_ ?_ k0 k1 k2) rfl ⟨by rw [HE.out], hw.trans (box_set_tch _ (w.heap.size + 1) _ _ _) (fun i hi h => by omega)⟩ <;> rfl
    · have HE : Hid (R = (v0, e0)) := (show _ = _ from by rw [HR.out]; exact if_pos (Or.inl he0))
      have ee : (e0 == 0) = false := by simpa using he0
      have ee2 : (e0 != 0) = true := by simpa using he0
      go_wp2_with fail
      obtain ⟨k0, k1, k2⟩ := box_set _ (w.heap.size + 1) _ _ _ (.int .i64 (v0).k) (.int .i64 (v0).n) (.string (v0).s) x0 x1 x2
      refine bodyPost_ret (res_ve (j := 4) (m := 5) (by kernel_rfl) _ _ (w.heap.size + 1) (v0) (.int .i64 e0) ?_ ?_ k0 k1 k2) rfl ⟨by rw [HE.out], hw.trans (box_set_tch _ (w.heap.size + 1) _ _ _) (fun i hi h => by omega)⟩ <;> rfl
  · have T1 : Tch (fun _ => False) w0 v1 := Tch.trans' ((Tch.refl _ _).allocR _).drew t1
    have hV := VB.set (show VB w0.heap.size zV v1 from ⟨⟨x0, x1, x2⟩, f0, f1, f2⟩) v0
    have T2 := T1.trans (box_set_tch v1 w0.heap.size (.int .i64 v0.k) (.int .i64 v0.n) (.string v0.s)) (fun i hi h => by omega)
    obtain ⟨w2, hw2⟩ : ∃ w2, w2 = ((v1.setCell ⟨w0.heap.size, 0, none⟩ (.int .i64 v0.k)).setCell ⟨w0.heap.size, 1, none⟩ (.int .i64 v0.n)).setCell ⟨w0.heap.size, 2, none⟩ (.string v0.s) := ⟨_, rfl⟩
    rw [← hw2] at hV T2 ⊢
    clear x0 x1 x2 f0 f1 f2
    obtain ⟨M1, hM1⟩ : ∃ M1, M1 = w0.heap.size := ⟨_, rfl⟩
    have hM2 : w0.heap.size ≤ M1 := by rw [hM1]; exact Nat.le_refl _
    rw [← hM1] at hV ⊢
    clear hw2 hM1 t1 V1 T1
    have hMM : w.heap.size + 2 ≤ M1 := by have := HT0.out.2.2; omega
    have HB2 : Hid (∀ W, Tch (fun _ => False) w2 W → RB w.heap.size co vo nC cc nV vc W ∧ Bx M1 v0 W ∧ Tch (fun _ => False) w W ∧ W.cell? ⟨b, 6, none⟩ = some (.slice (some ⟨g, i, none⟩) (n + 1) c)) := fun W t => by
      have T := T2.trans' t
      exact ⟨HT0.out.1.no T, hV.c.no t, HT0.out.2.1.trans' T, (HC.out W (no_mono T)).2.1⟩
    clear q0 q1 q2 q3
    obtain ⟨⟨r0, r1, ⟨x0, x1, x2⟩, f0, f1, f2⟩, ⟨b0, b1, b2⟩, hw, c6⟩ := HB2.out w2 (Tch.refl _ _)
    obtain ⟨z0, hz0⟩ : ∃ z, z = decide (v0 = zV) := ⟨_, rfl⟩
    have ez : ∀ W, (binOp .eql 29 (vV v0) (.agg #[.int .i64 0, .int .i64 0, .string ⟨#[]⟩])).run Tryz.prog W = .ok (.bool z0) W := fun W => by rw [hz0]; exact eql_dec v0 zV W
    have Hz0 : Hid _ := hz0
    clear hz0
    by_cases he0 : e0 = 0
    · cases z0 with
      | true =>
        have HE : Hid (R = (v0, e0)) := (show _ = _ from by rw [HR.out]; exact if_pos (Or.inr (of_decide_eq_true Hz0.out.symm)))
        have He0 : Hid _ := he0
        subst he0
        go_wp2_with fail
        obtain ⟨k0, k1, k2⟩ := box_set _ (w.heap.size + 1) _ _ _ (.int .i64 (v0).k) (.int .i64 (v0).n) (.string (v0).s) x0 x1 x2
        refine bodyPost_ret (res_ve (j := 4) (m := 5) (by kernel_rfl) _ _ (w.heap.size + 1) (v0) (.int .i64 0) ?_ ?_ k0 k1 k2) rfl ⟨by rw [HE.out], hw.trans (box_set_tch _ (w.heap.size + 1) _ _ _) (fun i hi h => by omega)⟩ <;> rfl
      | false =>
        have HN : Hid (R = fndV v0 (tr false) rs) := (show _ = _ from by rw [HR.out]; exact if_neg (by rintro (h | h); exact h he0; exact of_decide_eq_false Hz0.out.symm h))
        subst he0
        clear x0 x1 x2 f0 f1 f2 hw
        obtain ⟨a0, ha0⟩ : ∃ a0, a0 = tr false := ⟨_, rfl⟩
        have Htf : Hid (∀ W, Calls Tryz.prog 93 #[.bool false] W fun x w' => x = .returned (vV a0) ∧ Tch (fun _ => False) W w') := fun W => by rw [ha0]; exact truth_any _ W
        have Htt : Hid (∀ W, Calls Tryz.prog 93 #[.bool true] W fun x w' => x = .returned (vV (tr true)) ∧ Tch (fun _ => False) W w') := fun W => truth_any _ W
        have HN2 : Hid (R = fndV v0 a0 rs) := (show _ = _ from by rw [HN.out, ha0])
        clear ha0 HN
        have nc : ¬ c = 1 := by omega
        have i1 : (1 : Int) ≤ ((n + 1 : Nat) : Int) := by omega
        have i2 : ((n + 1 : Nat) : Int) ≤ (c : Int) := by omega
        have i3 : ((n + 1 : Nat) : Int) - 1 = (n : Int) := by omega
        go_wp2_with (go_at_call 93; refine (Htf.out _).mono ?_; rintro y v3 ⟨rfl, t3⟩; have c6 : ∀ o1, (v3.alloc o1).cell? ⟨b, 6, none⟩ = some (.slice (some ⟨g, i, none⟩) (n + 1) c) := (fun o1 => (HB2.out _ (t3.allocR o1)).2.2.2))
        obtain ⟨w3, hw3⟩ : ∃ w3, w3 = v3.alloc (.cells #[.int .i64 a0.k, .int .i64 a0.n, .string a0.s] 29) := ⟨_, rfl⟩
        obtain ⟨M, hM⟩ : ∃ M, M = v3.heap.size := ⟨_, rfl⟩
        have hA : VB M a0 w3 := by rw [hw3, hM]; exact vb_new v3 a0
        have T3 : Tch (fun _ => False) w2 w3 := by rw [hw3]; exact t3.allocR _
        have hl1 : M1 < w2.heap.size := cell_lt hV.c.1
        have hM1M : M1 < M := by have := t3.size; omega
        have HS1 : Hid (∀ W, Tch (fun i => i = M) w3 W → RB w.heap.size co vo nC cc nV vc W ∧ Bx M1 v0 W ∧ Tch (fun i => i = M) w W ∧ Tch (fun _ => False) w W) := fun W t => by
          obtain ⟨h1, h2, h3, _⟩ := HB2.out w3 T3
          have T : Tch (fun i => i = M) w W := (h3.mono (fun _ _ h => h.elim)).trans' t
          have l : M1 < w3.heap.size := cell_lt h2.1
          have nm : ¬ M1 = M := by omega
          exact ⟨h1.off t (by omega) (by omega), ⟨(t.cell (p := ⟨M1, 0, none⟩) l nm).trans h2.1, (t.cell (p := ⟨M1, 1, none⟩) l nm).trans h2.2.1, (t.cell (p := ⟨M1, 2, none⟩) l nm).trans h2.2.2⟩, T, T.mono (fun i hi h => by omega)⟩
        rw [← hw3, ← hM]
        have HA : Hid (VB M a0 w3) := hA
        have HMb : Hid (w.heap.size + 2 ≤ M) := (show _ ≤ _ from by omega)
        clear hw3 hM hA T3 t3 c6 hM1M hl1 hMM r0 r1 b0 b1 b2 T2 hV hM2 i1 i2 i3
        go_loopw [40] (fun iv wr => ∃ (k : Nat) (an : Val), iv = .int .i64 k ∧ k ≤ n ∧ Tch (fun i => i = M) w3 wr ∧ Hid (VB M an wr ∧ R = fndV v0 an (rs.drop k))) (fun iv _ => n - (RowKit.intOf iv).toNat)
        case atStart => exact ⟨0, a0, rfl, by omega, Tch.refl _ _, HA.out, by rw [List.drop_zero]; exact HN2.out⟩
        case round =>
          obtain ⟨k, an, rfl, hk, hT, HK⟩ := hrel
          by_cases hlt : k < n
          · have hltI : (k : Int) < (n : Int) := by omega
            have hkl : k < rs.length := by rw [← Hn.out]; exact hlt
            obtain ⟨⟨r0, r1, _⟩, _, hW, _⟩ := HS1.out _ hT
            obtain ⟨g', i', e', hh⟩ := HP.out (k + 1) (by simp; omega)
            simp only [Option.some.injEq, Addr.mk.injEq, and_true] at e'
            obtain ⟨rfl, rfl⟩ := e'
            simp only [List.getElem_cons_succ] at hh
            obtain ⟨d', cd, q⟩ := hh wr (hW.mono (fun j hj h => by have := HMb.out; have h : j = M := h; show w.heap.size ≤ j; omega))
            rw [show i + (k + 1) = i + 1 + k by omega] at cd
            obtain ⟨p, hp⟩ : ∃ p, p = rs[k] := ⟨_, rfl⟩
            rw [← hp] at q
            have HK2 : Hid (R = fndV v0 an (p :: rs.drop (k + 1))) := (show _ = _ from by rw [HK.out.2, hp, ← List.drop_eq_getElem_cons])
            obtain ⟨v, e⟩ := p
            simp only at q
            clear hh hp
            obtain ⟨f, hf⟩ : ∃ f, f = decide (v = v0) := ⟨_, rfl⟩
            have e1 : ∀ W, (binOp .eql 29 (vV v) (vV v0)).run Tryz.prog W = .ok (.bool f) W := fun W => by rw [hf]; exact eql_dec v v0 W
            obtain ⟨z, hz⟩ : ∃ z, z = decide (v = zV) := ⟨_, rfl⟩
            have e2 : ∀ W, (binOp .eql 29 (vV v) (.agg #[.int .i64 0, .int .i64 0, .string ⟨#[]⟩])).run Tryz.prog W = .ok (.bool z) W := fun W => by rw [hz]; exact eql_dec v zV W
            have Hf : Hid _ := hf
            have Hz : Hid _ := hz
            clear hf hz
            have HS : Hid (∀ W, Tch (fun _ => False) wr W → OneB (w.heap.size + 1) W ∧ VB M an W ∧ Bx M1 v0 W ∧ Tch (fun _ => False) w W ∧ Tch (fun i => i = M) w3 W) := fun W t => by
              have T : Tch (fun i => i = M) w3 W := hT.trans' (t.mono (fun _ _ h => h.elim))
              obtain ⟨h1, h2, _, h3⟩ := HS1.out _ T
              exact ⟨h1.z, HK.out.1.no t, h2, h3, T⟩
            clear hT hW ez
            by_cases he : e = 0
            · subst he
              cases f with
              | true =>
                have HE : Hid (R = (tr true, 0)) := (show _ = _ from by
                  rw [HK2.out]
                  show (if (0 : Int) ≠ 0 then (v, (0 : Int)) else if v = v0 then (tr true, 0) else _) = _
                  rw [if_neg (by simp), if_pos (of_decide_eq_true Hf.out.symm)])
                go_wp2_with (first | (go_at_call 32; refine q.mono ?_; rintro y v5 ⟨rfl, t5⟩; have T5 := t5.allocR (.cells #[.int .i64 v.k, .int .i64 v.n, .string v.s] 29); obtain ⟨⟨y0, y1, y2⟩, g0, g1, g2⟩ := vb_new v5 v; obtain ⟨⟨⟨x0, x1, x2⟩, f0, f1, f2⟩, ⟨⟨m0, m1, m2⟩, n0, n1, n2⟩, ⟨u0, u1, u2⟩, hw, hw1⟩ := HS.out _ T5) | (go_at_call 93; refine (Htt.out _).mono ?_; rintro y v6 ⟨rfl, t6⟩; obtain ⟨⟨⟨x0, x1, x2⟩, f0, f1, f2⟩, _, _, hw, _⟩ := HS.out _ (T5.trans' t6)))
                obtain ⟨k0, k1, k2⟩ := box_set _ (w.heap.size + 1) _ _ _ (.int .i64 (tr true).k) (.int .i64 (tr true).n) (.string (tr true).s) x0 x1 x2
                refine bodyPost_ret (res_ve (j := 4) (m := 5) (by kernel_rfl) _ _ (w.heap.size + 1) (tr true) (.int .i64 0) ?_ ?_ k0 k1 k2) rfl ⟨by rw [HE.out], hw.trans (box_set_tch _ (w.heap.size + 1) _ _ _) (fun i hi h => by omega)⟩ <;> rfl
              | false =>
                have HN3 : Hid (R = fndV v0 (if v = zV then v else an) (rs.drop (k + 1))) := (show _ = _ from by
                  rw [HK2.out]
                  show (if (0 : Int) ≠ 0 then (v, (0 : Int)) else if v = v0 then (tr true, 0) else _) = _
                  rw [if_neg (by simp), if_neg (of_decide_eq_false Hf.out.symm)])
                cases z with
                | true =>
                  have HE : Hid (R = fndV v0 v (rs.drop (k + 1))) := (show _ = _ from by rw [HN3.out, if_pos (of_decide_eq_true Hz.out.symm)])
                  go_wp2_with (go_at_call 32; refine q.mono ?_; rintro y v5 ⟨rfl, t5⟩; have T5 := t5.allocR (.cells #[.int .i64 v.k, .int .i64 v.n, .string v.s] 29); obtain ⟨⟨y0, y1, y2⟩, g0, g1, g2⟩ := vb_new v5 v; obtain ⟨⟨⟨x0, x1, x2⟩, f0, f1, f2⟩, ⟨⟨m0, m1, m2⟩, n0, n1, n2⟩, ⟨u0, u1, u2⟩, hw, hw1⟩ := HS.out _ T5)
                  go_roundw
                  case rel => exact ⟨k + 1, v, by first | trivial | rfl, by omega, hw1.trans' (box_set_tch _ M _ _ _), VB.set ⟨⟨m0, m1, m2⟩, n0, n1, n2⟩ v, HE⟩
                  case measure => simp [RowKit.intOf]; omega
                | false =>
                  have HE : Hid (R = fndV v0 an (rs.drop (k + 1))) := (show _ = _ from by rw [HN3.out, if_neg (of_decide_eq_false Hz.out.symm)])
                  go_wp2_with (go_at_call 32; refine q.mono ?_; rintro y v5 ⟨rfl, t5⟩; have T5 := t5.allocR (.cells #[.int .i64 v.k, .int .i64 v.n, .string v.s] 29); obtain ⟨⟨y0, y1, y2⟩, g0, g1, g2⟩ := vb_new v5 v; obtain ⟨⟨⟨x0, x1, x2⟩, f0, f1, f2⟩, ⟨⟨m0, m1, m2⟩, n0, n1, n2⟩, ⟨u0, u1, u2⟩, hw, hw1⟩ := HS.out _ T5)
                  go_roundw
                  case rel => exact ⟨k + 1, an, by first | trivial | rfl, by omega, hw1, ⟨⟨m0, m1, m2⟩, n0, n1, n2⟩, HE⟩
                  case measure => simp [RowKit.intOf]; omega
            · have HE : Hid (R = (v, e)) := (show _ = _ from by rw [HK2.out]; exact if_pos he)
              have ee : (e == 0) = false := by simpa using he
              have ee2 : (e != 0) = true := by simpa using he
              go_wp2_with (go_at_call 32; refine q.mono ?_; rintro y v5 ⟨rfl, t5⟩; have T5 := t5.allocR (.cells #[.int .i64 v.k, .int .i64 v.n, .string v.s] 29); obtain ⟨⟨y0, y1, y2⟩, g0, g1, g2⟩ := vb_new v5 v; obtain ⟨⟨⟨x0, x1, x2⟩, f0, f1, f2⟩, ⟨⟨m0, m1, m2⟩, n0, n1, n2⟩, ⟨u0, u1, u2⟩, hw, hw1⟩ := HS.out _ T5)
              obtain ⟨k0, k1, k2⟩ := box_set _ (w.heap.size + 1) _ _ _ (.int .i64 (v).k) (.int .i64 (v).n) (.string (v).s) x0 x1 x2
              refine bodyPost_ret (res_ve (j := 4) (m := 5) (by kernel_rfl) _ _ (w.heap.size + 1) (v) (.int .i64 e) ?_ ?_ k0 k1 k2) rfl ⟨by rw [HE.out], hw.trans (box_set_tch _ (w.heap.size + 1) _ _ _) (fun i hi h => by omega)⟩ <;> rfl
          · have hltI : ¬ (k : Int) < (n : Int) := by omega
            obtain ⟨⟨_, _, ⟨x0, x1, x2⟩, f0, f1, f2⟩, _, _, hw⟩ := HS1.out _ hT
            obtain ⟨y0, y1, y2⟩ := HK.out.1.c
            have HE : Hid (R = (an, 0)) := (show _ = _ from by rw [HK.out.2, List.drop_of_length_le (by have := Hn.out; omega)]; rfl)
            go_wp2_with fail
            obtain ⟨k0, k1, k2⟩ := box_set _ (w.heap.size + 1) _ _ _ (.int .i64 (an).k) (.int .i64 (an).n) (.string (an).s) x0 x1 x2
            refine bodyPost_ret (res_ve (j := 4) (m := 5) (by kernel_rfl) _ _ (w.heap.size + 1) (an) (.int .i64 0) ?_ ?_ k0 k1 k2) rfl ⟨by rw [HE.out], hw.trans (box_set_tch _ (w.heap.size + 1) _ _ _) (fun i hi h => by omega)⟩ <;> rfl
    · have HE : Hid (R = (v0, e0)) := (show _ = _ from by rw [HR.out]; exact if_pos (Or.inl he0))
      have ee : (e0 == 0) = false := by simpa using he0
      have ee2 : (e0 != 0) = true := by simpa using he0
      go_wp2_with fail
      obtain ⟨k0, k1, k2⟩ := box_set _ (w.heap.size + 1) _ _ _ (.int .i64 (v0).k) (.int .i64 (v0).n) (.string (v0).s) x0 x1 x2
      refine bodyPost_ret (res_ve (j := 4) (m := 5) (by kernel_rfl) _ _ (w.heap.size + 1) (v0) (.int .i64 e0) ?_ ?_ k0 k1 k2) rfl ⟨by rw [HE.out], hw.trans (box_set_tch _ (w.heap.size + 1) _ _ _) (fun i hi h => by omega)⟩ <;> rfl
end Go.Proofs.YtmaekkhmiafnmaaGreatDoor
