import Derived.Test.YtmnhkgibplnnnaaGRise
/- sink. -/
namespace Go.Proofs.Ytmnhkgibplnnnaa
open Go.RowKit Go

set_option maxHeartbeats 4000000 in
set_option maxRecDepth 1000000 in
theorem sink_any (l : List It) (g cap : Nat) (w : World) (h : HR w g cap l) (hs : l.length ≤ 1000000000000) (hr : Sn l 0) :
    Calls Try.prog 31 #[hV g cap l] w fun e w' => e = .returned (.tuple #[]) ∧ ∃ l', l'.Perm l ∧ Heap l' ∧ HR w' g cap l' ∧ Tch (fun i => i = g) w w' := by
  obtain ⟨n, hn⟩ : ∃ n, n = l.length := ⟨_, rfl⟩
  have hcap : n ≤ cap := by rw [hn]; exact h.len
  have hcm : cap ≤ 9223372036854775807 := by have := h.cap; unfold maxLen at this; omega
  have hs' : n ≤ 1000000000000 := by omega
  have H0 : Hid (l.length = n ∧ Sn l 0 ∧ l.Perm l ∧ HR w g cap l ∧ Tch (fun i => i = g) w w) := ⟨hn.symm, hr, List.Perm.refl _, h, Tch.refl _ _⟩
  unfold hV
  rw [← hn]
  clear h hr hs hn
  go_enter Try.func31, Try.ntmps31
  go_wp2_with fail
  go_loopg [2] n (fun kx s2 wr => ∃ (a : Nat) (m : List It), s2 = .int .i64 a ∧ n - a ≤ kx ∧ (a < n ∨ a = 0) ∧ Hid (m.length = n ∧ Sn m a ∧ m.Perm l ∧ HR wr g cap m ∧ Tch (fun i => i = g) w wr))
  case atStart => exact ⟨0, l, rfl, by omega, by omega, H0⟩
  case round =>
    obtain ⟨a, m, rfl, ha, han, I⟩ := hrel
    have ha2 : a ≤ 1000000000000 := by omega
    rename World => w1
    go_wp2_with fail
    go_loopg [3, 4] 3 (fun kx s3 s4 wr => ∃ (f k : Nat), s3 = .int .i64 f ∧ s4 = .int .i64 k ∧ 2 * a + 3 - k ≤ kx ∧ 2 * a + 1 ≤ k ∧ k ≤ 2 * a + 3 ∧ Hid (Fst m a k f ∧ HR wr g cap m ∧ Tch (fun _ => False) w1 wr))
    case atStart => exact ⟨a, 2 * a + 1, rfl, by rw [show 2 * (a : Int) + 1 = ((2 * a + 1 : Nat) : Int) by omega], by omega, by omega, by omega, (⟨Fst.begin m a, I.out.2.2.2.1, Tch.refl _ _⟩ : Fst m a (2 * a + 1) a ∧ HR w1 g cap m ∧ Tch (fun _ => False) w1 w1)⟩
    case round =>
      obtain ⟨f, k, rfl, rfl, hk1, h1, h2, J⟩ := hrel
      by_cases hA : k ≤ 2 * a + 2
      · have hA' : (k : Int) ≤ 2 * (a : Int) + 2 := by omega
        by_cases hB : k < n
        · have hB' : (k : Int) < (n : Int) := by omega
          have hf : f < n := by
            have := I.out.1
            rcases J.out.1.1 with h | h <;> omega
          have hf' : (f : Int) < (n : Int) := by omega
          obtain ⟨x, hx⟩ : ∃ x, x = hat m k := ⟨_, rfl⟩
          obtain ⟨y, hy⟩ : ∃ y, y = hat m f := ⟨_, rfl⟩
          obtain ⟨c0, c1, c2⟩ := J.out.2.1.cells (k := k) (by have := I.out.1; omega)
          obtain ⟨d0, d1, d2⟩ := J.out.2.1.cells (k := f) (by have := I.out.1; omega)
          rw [← hx] at c0 c1 c2
          rw [← hy] at d0 d1 d2
          have X : Hid (x = _) := hx
          have Y : Hid (y = _) := hy
          clear hx hy
          by_cases hlt : x.lt y
          · go_wp2_with fail
            refine wp_region_drew_tail 8 (by kernel_rfl) (by kernel_rfl) ?_
            repeat (quiet_step (fail))
            refine wpQuiet_nil ?_
            rintro w7 ⟨q, rfl⟩
            have q1 := ahead_any x y (wr.drewN q)
            rw [decide_eq_true hlt] at q1
            clear c0 c1 c2 d0 d1 d2
            go_wp2_with fail
            refine q1.mono ?_
            rintro e w8 ⟨rfl, t8⟩
            have T8 : Hid (Tch (fun _ => False) wr w8) := ((Tch.refl _ wr).drewN q).trans' t8
            clear t8 q1
            go_wp2
            go_roundg (2 * a + 2 - k)
            case measure => omega
            case rel =>
              have J2 : Hid (Fst m a (k + 1) k ∧ HR w8 g cap m ∧ Tch (fun _ => False) w1 w8) := ⟨J.out.1.yes h1 (by have := I.out.1; omega) (by rw [← X.out, ← Y.out]; exact hlt), J.out.2.1.no T8.out, J.out.2.2.trans' T8.out⟩
              exact ⟨k, k + 1, rfl, rfl, by omega, by omega, by omega, J2⟩
          · go_wp2_with fail
            refine wp_region_drew_tail 8 (by kernel_rfl) (by kernel_rfl) ?_
            repeat (quiet_step (fail))
            refine wpQuiet_nil ?_
            rintro w7 ⟨q, rfl⟩
            have q1 := ahead_any x y (wr.drewN q)
            rw [decide_eq_false hlt] at q1
            clear c0 c1 c2 d0 d1 d2
            go_wp2_with fail
            refine q1.mono ?_
            rintro e w8 ⟨rfl, t8⟩
            have T8 : Hid (Tch (fun _ => False) wr w8) := ((Tch.refl _ wr).drewN q).trans' t8
            clear t8 q1
            go_wp2
            go_roundg (2 * a + 2 - k)
            case measure => omega
            case rel =>
              have J2 : Hid (Fst m a (k + 1) f ∧ HR w8 g cap m ∧ Tch (fun _ => False) w1 w8) := ⟨J.out.1.no (by rw [← X.out, ← Y.out]; exact hlt), J.out.2.1.no T8.out, J.out.2.2.trans' T8.out⟩
              exact ⟨f, k + 1, rfl, rfl, by omega, by omega, by omega, J2⟩
        · have hB' : ¬ (k : Int) < (n : Int) := by omega
          by_cases hfa : f = a
          · subst hfa
            go_wp2
            refine bodyPost_ret (results_none rfl _ _ _) rfl ?_
            exact ⟨rfl, m, I.out.2.2.1, I.out.2.1.done J.out.1 (by have := I.out.1; omega), J.out.2.1, I.out.2.2.2.2.trans J.out.2.2 (fun _ _ h => h.elim)⟩
          · have hfi : ¬ (f : Int) = (a : Int) := by omega
            have hb : f < n ∧ a < n ∧ a < f := by
              have := I.out.1
              rcases J.out.1.1 with h | h
              · exact absurd h hfa
              · omega
            obtain ⟨hf1, hf2, hf3⟩ := hb
            obtain ⟨x, hx⟩ : ∃ x, x = hat m f := ⟨_, rfl⟩
            obtain ⟨y, hy⟩ : ∃ y, y = hat m a := ⟨_, rfl⟩
            obtain ⟨c0, c1, c2⟩ := J.out.2.1.cells (k := f) (by have := I.out.1; omega)
            obtain ⟨d0, d1, d2⟩ := J.out.2.1.cells (k := a) (by have := I.out.1; omega)
            rw [← hx] at c0 c1 c2
            rw [← hy] at d0 d1 d2
            have X : Hid (x = _) := hx
            have Y : Hid (y = _) := hy
            have f0 := J.out.2.1.frozen
            have i1 : (f : Int) < (n : Int) := by omega
            have i2 : (a : Int) < (n : Int) := by omega
            clear hx hy
            go_wp2_with fail
            go_big_region
            clear c0 c1 c2 d0 d1 d2 f0
            obtain ⟨W9, hW9⟩ : ∃ W9, W9 = (((((((wr.setCell ⟨g, a * 3, none⟩ (.int .i64 x.r)).setCell ⟨g, a * 3 + 1, none⟩ (.int .i64 x.t)).setCell ⟨g, a * 3 + 2, none⟩ (.pointer (some ⟨x.p, 0, none⟩))).setCell ⟨g, f * 3, none⟩ (.int .i64 y.r)).setCell ⟨g, f * 3 + 1, none⟩ (.int .i64 y.t)).setCell ⟨g, f * 3 + 2, none⟩ (.pointer (some ⟨y.p, 0, none⟩))).drew) := ⟨_, rfl⟩
            have HW9 : Hid (W9 = ((wr.setCells g (a * 3) (ic x)).setCells g (f * 3) (ic y)).drew) := hW9
            rw [← hW9]
            clear hW9
            go_wp2
            go_roundg (n - f)
            case measure => omega
            case rel =>
              have hm := I.out.1
              have hsw := I.out.2.1.down (by omega) J.out.1 (by omega) (by omega) hfa
              have hR := J.out.2.1.swap (i := a) (j := f) (by omega) (by omega)
              rw [← X.out, ← Y.out] at hR
              have tS : Tch (fun i => i = g) wr W9 := by
                rw [HW9.out]; exact ((tch_cells g _ _ _).trans' (tch_cells g _ _ _)).drew
              have I2 : Hid ((swp m a f).length = n ∧ Sn (swp m a f) f ∧ (swp m a f).Perm l ∧ HR W9 g cap (swp m a f) ∧ Tch (fun i => i = g) w W9) :=
                ⟨by rw [swp_len]; exact hm, hsw, (swp_perm (by omega) (by omega)).trans I.out.2.2.1, by rw [HW9.out]; exact hR, (I.out.2.2.2.2.trans J.out.2.2 (fun _ _ h => h.elim)).trans' tS⟩
              exact ⟨f, _, rfl, by omega, by omega, I2⟩
      · have hA' : ¬ (k : Int) ≤ 2 * (a : Int) + 2 := by omega
        by_cases hfa : f = a
        · subst hfa
          go_wp2
          refine bodyPost_ret (results_none rfl _ _ _) rfl ?_
          exact ⟨rfl, m, I.out.2.2.1, I.out.2.1.done J.out.1 (by have := I.out.1; omega), J.out.2.1, I.out.2.2.2.2.trans J.out.2.2 (fun _ _ h => h.elim)⟩
        · have hfi : ¬ (f : Int) = (a : Int) := by omega
          have hb : f < n ∧ a < n ∧ a < f := by
            have := I.out.1
            rcases J.out.1.1 with h | h
            · exact absurd h hfa
            · omega
          obtain ⟨hf1, hf2, hf3⟩ := hb
          obtain ⟨x, hx⟩ : ∃ x, x = hat m f := ⟨_, rfl⟩
          obtain ⟨y, hy⟩ : ∃ y, y = hat m a := ⟨_, rfl⟩
          obtain ⟨c0, c1, c2⟩ := J.out.2.1.cells (k := f) (by have := I.out.1; omega)
          obtain ⟨d0, d1, d2⟩ := J.out.2.1.cells (k := a) (by have := I.out.1; omega)
          rw [← hx] at c0 c1 c2
          rw [← hy] at d0 d1 d2
          have X : Hid (x = _) := hx
          have Y : Hid (y = _) := hy
          have f0 := J.out.2.1.frozen
          have i1 : (f : Int) < (n : Int) := by omega
          have i2 : (a : Int) < (n : Int) := by omega
          clear hx hy
          go_wp2_with fail
          go_big_region
          clear c0 c1 c2 d0 d1 d2 f0
          obtain ⟨W9, hW9⟩ : ∃ W9, W9 = (((((((wr.setCell ⟨g, a * 3, none⟩ (.int .i64 x.r)).setCell ⟨g, a * 3 + 1, none⟩ (.int .i64 x.t)).setCell ⟨g, a * 3 + 2, none⟩ (.pointer (some ⟨x.p, 0, none⟩))).setCell ⟨g, f * 3, none⟩ (.int .i64 y.r)).setCell ⟨g, f * 3 + 1, none⟩ (.int .i64 y.t)).setCell ⟨g, f * 3 + 2, none⟩ (.pointer (some ⟨y.p, 0, none⟩))).drew) := ⟨_, rfl⟩
          have HW9 : Hid (W9 = ((wr.setCells g (a * 3) (ic x)).setCells g (f * 3) (ic y)).drew) := hW9
          rw [← hW9]
          clear hW9
          go_wp2
          go_roundg (n - f)
          case measure => omega
          case rel =>
            have hm := I.out.1
            have hsw := I.out.2.1.down (by omega) J.out.1 (by omega) (by omega) hfa
            have hR := J.out.2.1.swap (i := a) (j := f) (by omega) (by omega)
            rw [← X.out, ← Y.out] at hR
            have tS : Tch (fun i => i = g) wr W9 := by
              rw [HW9.out]; exact ((tch_cells g _ _ _).trans' (tch_cells g _ _ _)).drew
            have I2 : Hid ((swp m a f).length = n ∧ Sn (swp m a f) f ∧ (swp m a f).Perm l ∧ HR W9 g cap (swp m a f) ∧ Tch (fun i => i = g) w W9) :=
              ⟨by rw [swp_len]; exact hm, hsw, (swp_perm (by omega) (by omega)).trans I.out.2.2.1, by rw [HW9.out]; exact hR, (I.out.2.2.2.2.trans J.out.2.2 (fun _ _ h => h.elim)).trans' tS⟩
            exact ⟨f, _, rfl, by omega, by omega, I2⟩
end Go.Proofs.Ytmnhkgibplnnnaa
