import Derived.Test.YtmnhkgibplnnnaaGIt
import Derived.BigRegion
/- rise. -/
namespace Go.Proofs.Ytmnhkgibplnnnaa
open Go.RowKit Go

/-- Two items change places. -/
theorem HR.swap {w : World} {g cap : Nat} {l : List It} (h : HR w g cap l) {i j : Nat} (hi : i < l.length) (hj : j < l.length) : HR ((w.setCells g (i * 3) (ic (hat l j))).setCells g (j * 3) (ic (hat l i))).drew g cap (swp l i j) := by
  have h2 := (h.set hi (hat l j)).set (k := j) (by simpa using hj) (hat l i)
  exact h2.no ((Tch.refl (fun _ => False) _).drew)
set_option maxHeartbeats 4000000 in
set_option maxRecDepth 1000000 in
theorem rise_any (l : List It) (g cap : Nat) (w : World) (h : HR w g cap l) (hs : l.length ≤ 1000000000000) (hr : Rs l (l.length - 1)) :
    Calls Try.prog 33 #[hV g cap l] w fun e w' => e = .returned (.tuple #[]) ∧ ∃ l', l'.Perm l ∧ Heap l' ∧ HR w' g cap l' ∧ Tch (fun i => i = g) w w' := by
  obtain ⟨n, hn⟩ : ∃ n, n + 1 = l.length := ⟨l.length - 1, by have := hr.1; omega⟩
  have hcap : n + 1 ≤ cap := by rw [hn]; exact h.len
  have hcm : cap ≤ 9223372036854775807 := by have := h.cap; unfold maxLen at this; omega
  have hs' : n + 1 ≤ 1000000000000 := by omega
  have H0 : Hid (l.length = n + 1 ∧ Rs l n ∧ l.Perm l ∧ HR w g cap l ∧ Tch (fun i => i = g) w w) := ⟨hn.symm, by rw [← hn] at hr; exact hr, List.Perm.refl _, h, Tch.refl _ _⟩
  unfold hV
  rw [← hn]
  clear h hr hs hn
  go_enter Try.func33, Try.ntmps33
  go_wp2_with fail
  go_loopg [2] n (fun kx s2 wr => ∃ (a : Nat) (m : List It), s2 = .int .i64 a ∧ a ≤ kx ∧ a ≤ n ∧ Hid (m.length = n + 1 ∧ Rs m a ∧ m.Perm l ∧ HR wr g cap m ∧ Tch (fun i => i = g) w wr))
  case atStart => exact ⟨n, l, rfl, Nat.le_refl _, Nat.le_refl _, H0⟩
  case round =>
    obtain ⟨a, m, rfl, ha, han, I⟩ := hrel
    cases a with
    | zero =>
      go_wp2
      go_end0
      exact ⟨rfl, m, I.out.2.2.1, I.out.2.1.done0, I.out.2.2.2.1, I.out.2.2.2.2⟩
    | succ b =>
      have hm := I.out.1
      obtain ⟨x, hx⟩ : ∃ x, x = hat m (b / 2) := ⟨_, rfl⟩
      obtain ⟨y, hy⟩ : ∃ y, y = hat m (b + 1) := ⟨_, rfl⟩
      obtain ⟨c0, c1, c2⟩ := I.out.2.2.2.1.cells (k := b / 2) (by omega)
      obtain ⟨d0, d1, d2⟩ := I.out.2.2.2.1.cells (k := b + 1) (by omega)
      rw [← hx] at c0 c1 c2
      rw [← hy] at d0 d1 d2
      have X : Hid (x = _) := hx
      have Y : Hid (y = _) := hy
      have HF : Hid (∀ j, wr.frozen? ⟨g, j, none⟩ = false) := I.out.2.2.2.1.frozen
      clear hm hx hy
      have i1 : (0 : Int) ≤ (b : Int) / 2 := by omega
      have i2 : (b : Int) / 2 < (n : Int) + 1 := by omega
      have i3 : ((b : Int) / 2).toNat = b / 2 := by omega
      have i4 : (b : Int) + 1 < (n : Int) + 1 := by omega
      have i5 : ((b : Int) + 1).toNat = b + 1 := by omega
      have i6 : (0 : Int) ≤ (b : Int) + 1 := by omega
      by_cases hlt : x.lt y
      · go_wp2_with fail
        refine wp_region_drew_tail 8 (by kernel_rfl) (by kernel_rfl) ?_
        repeat (quiet_step (fail))
        refine wpQuiet_nil ?_
        rintro w7 ⟨q, rfl⟩
        clear c0 c1 c2 d0 d1 d2
        go_wp2_with fail
        have q1 := ahead_any x y (wr.drewN q)
        rw [decide_eq_true hlt] at q1
        refine q1.mono ?_
        rintro e w8 ⟨rfl, t8⟩
        have T8 : Hid _ := t8
        clear t8 q1
        go_wp2
        refine bodyPost_ret (results_none rfl _ _ _) rfl ?_
        refine ⟨rfl, m, I.out.2.2.1, I.out.2.1.done (by rw [Nat.add_sub_cancel, ← X.out, ← Y.out]; exact hlt), ?_, ?_⟩
        · exact I.out.2.2.2.1.no (((Tch.refl _ wr).drewN q).trans' T8.out)
        · exact I.out.2.2.2.2.trans (((Tch.refl _ wr).drewN q).trans' T8.out) (fun _ _ h => h.elim)
      · go_wp2_with fail
        refine wp_region_drew_tail 8 (by kernel_rfl) (by kernel_rfl) ?_
        repeat (quiet_step (fail))
        refine wpQuiet_nil ?_
        rintro w7 ⟨q, rfl⟩
        have q1 := ahead_any x y (wr.drewN q)
        rw [decide_eq_false hlt] at q1
        go_wp2_with fail
        refine q1.mono ?_
        rintro e w8 ⟨rfl, t8⟩
        have T8 : Hid (Tch (fun _ => False) wr w8) := ((Tch.refl _ wr).drewN q).trans' t8
        clear t8 q1
        have K8 : Hid (HR w8 g cap m) := I.out.2.2.2.1.no T8.out
        obtain ⟨c0, c1, c2⟩ := K8.out.cells (k := b / 2) (by have := I.out.1; omega)
        obtain ⟨d0, d1, d2⟩ := K8.out.cells (k := b + 1) (by have := I.out.1; omega)
        rw [← X.out] at c0 c1 c2
        rw [← Y.out] at d0 d1 d2
        have f0 := K8.out.frozen
        go_wp2_with fail
        go_big_region
        clear c0 c1 c2 d0 d1 d2 f0
        obtain ⟨W9, hW9⟩ : ∃ W9, W9 = (((((((w8.setCell ⟨g, (b + 1) * 3, none⟩ (.int .i64 x.r)).setCell ⟨g, (b + 1) * 3 + 1, none⟩ (.int .i64 x.t)).setCell ⟨g, (b + 1) * 3 + 2, none⟩ (.pointer (some ⟨x.p, 0, none⟩))).setCell ⟨g, b / 2 * 3, none⟩ (.int .i64 y.r)).setCell ⟨g, b / 2 * 3 + 1, none⟩ (.int .i64 y.t)).setCell ⟨g, b / 2 * 3 + 2, none⟩ (.pointer (some ⟨y.p, 0, none⟩))).drew) := ⟨_, rfl⟩
        have HW9 : Hid (W9 = ((w8.setCells g ((b + 1) * 3) (ic x)).setCells g (b / 2 * 3) (ic y)).drew) := hW9
        rw [← hW9]
        clear hW9
        go_wp2
        go_roundg (b / 2)
        case measure => omega
        case rel =>
          have hm := I.out.1
          have hsw := I.out.2.1.up (Nat.succ_pos b) (by rw [Nat.add_sub_cancel, ← X.out, ← Y.out]; exact hlt)
          rw [Nat.add_sub_cancel] at hsw
          have hR := K8.out.swap (i := b + 1) (j := b / 2) (by omega) (by omega)
          rw [← X.out, ← Y.out] at hR
          have tS : Tch (fun i => i = g) w8 W9 := by
            rw [HW9.out]; exact ((tch_cells g _ _ _).trans' (tch_cells g _ _ _)).drew
          have I2 : Hid ((swp m (b + 1) (b / 2)).length = n + 1 ∧ Rs (swp m (b + 1) (b / 2)) (b / 2) ∧ (swp m (b + 1) (b / 2)).Perm l ∧ HR W9 g cap (swp m (b + 1) (b / 2)) ∧ Tch (fun i => i = g) w W9) :=
            ⟨by rw [swp_len]; exact hm, hsw, (swp_perm (by omega) (by omega)).trans I.out.2.2.1, by rw [HW9.out]; exact hR, (I.out.2.2.2.2.trans T8.out (fun _ _ h => h.elim)).trans' tS⟩
          exact ⟨b / 2, _, rfl, by omega, by omega, I2⟩
end Go.Proofs.Ytmnhkgibplnnnaa
