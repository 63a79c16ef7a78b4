/- Remove, Truncate. -/
import Derived.Test.YtngdgglgmmlmkaaMeth2
namespace Go.Proofs.Ytngdgglgmmlmkaa
open Go.RowKit Go.ChangeMaps

theorem remove1_any (b : Nat) (d : Dsk) (σ : Nat → Option Nat) (s : ByteArray) (p q : Nat) (w : World) (h : DK w b d σ) (hs : s.size ≤ maxLen)
    (hp : w.cell? ⟨p, 0, none⟩ = some (.pointer (some ⟨b, 0, none⟩))) (hq : w.cell? ⟨q, 0, none⟩ = some (.string s)) :
    Calls Try.prog 48 #[.pointer (some ⟨p, 0, none⟩), .pointer (some ⟨q, 0, none⟩)] w fun x w' => x = .returned (.tuple #[]) ∧
      ∃ σ', DK w' b { d with m := delL s.data.toList d.m } σ' ∧ Stp w σ w' σ' := by
  obtain ⟨mb, gm, h⟩ := h
  have he := drop_any b d σ mb gm s w h hs
  go_enter Try.func48, Try.ntmps48
  go_wp2_with (go_at_call 45; refine he.mono ?_; rintro x w1 ⟨rfl, h1, t1⟩)
  go_end0
  exact ⟨rfl, σ, ⟨_, _, h1⟩, t1⟩

theorem ask_size {d : Dsk} {s : ByteArray} (ha : d.ask s.data.toList = 0) : s.size ≤ maxLen := by
  unfold Dsk.ask at ha
  split at ha
  · rename_i h1; exact absurd ha h1
  · rename_i h1
    simp only [ne_eq, Decidable.not_not] at h1
    have := okN_size (refuse_zero h1).1
    unfold maxLen; omega

set_option maxHeartbeats 1000000 in
set_option maxRecDepth 100000 in
theorem remove_any (b : Nat) (d : Dsk) (σ : Nat → Option Nat) (s : ByteArray) (w : World) (h : DK w b d σ) :
    Calls Try.prog 19 #[.pointer (some ⟨b, 0, none⟩), .string s] w fun x w' => x = .returned (.int .i64 (d.remove s.data.toList).1) ∧ ∃ σ', DK w' b (d.remove s.data.toList).2 σ' ∧ Stp w σ w' σ' := by
  have t1 := box2_no w (.cells #[.pointer (some ⟨b, 0, none⟩)] 23) (.cells #[.string s] 9)
  obtain ⟨w1, hw1⟩ : ∃ w1, w1 = (w.alloc (.cells #[.pointer (some ⟨b, 0, none⟩)] 23)).alloc (.cells #[.string s] 9) := ⟨_, rfl⟩
  rw [← hw1] at t1
  have p1 : w1.cell? ⟨w.heap.size, 0, none⟩ = some (.pointer (some ⟨b, 0, none⟩)) := by
    rw [hw1, World.cell?_alloc_past _ _ _ (by simp)]
    rw [blk_cell (box_one w _)]; rfl
  have q1 : w1.cell? ⟨w.heap.size + 1, 0, none⟩ = some (.string s) := by
    rw [hw1]
    have := box_one (w.alloc (.cells #[.pointer (some ⟨b, 0, none⟩)] 23)) (.cells #[.string s] 9)
    simp only [World.size_alloc] at this
    rw [blk_cell this]; rfl
  obtain ⟨mb, gm, hW⟩ := h
  have hW1 := hW.no t1
  have hf := find_any b d σ mb gm s w1 hW1
  go_enter Try.func19, Try.ntmps19
  go_wp2_with fail
  rw [← hw1]
  refine hf.mono ?_
  rintro x w2 ⟨hx, hw2⟩
  subst hw2
  clear hw1 hf
  rcases hx with ⟨ha, rfl⟩ | ⟨ha, rfl⟩
  · have HR : Hid (d.remove s.data.toList = (d.ask s.data.toList, d)) := by show _ = _; simp [Dsk.remove, ha]
    have hab : (d.ask s.data.toList != 0) = true := by simpa using ha
    go_wp2
    go_ret
    rw [HR.out]
    exact ⟨rfl, σ, ⟨mb, gm, hW1⟩, Stp.of_no t1⟩
  · have hsz := ask_size ha
    by_cases hd : d.die = 1
    · have HR : Hid (d.remove s.data.toList = (2, { d with dead := true, die := 0 })) := by show _ = _; simp [Dsk.remove, ha, Dsk.act, hd]
      clear ha
      go_wp2_with fail
      refine (act_dies b d σ _ _ ⟨mb, gm, hW1⟩ hd).mono ?_
      rintro x w4 ⟨rfl, h4, t4⟩
      go_wp2
      go_ret
      rw [HR.out]
      exact ⟨rfl, σ, h4, mono_did hW.lb hW.bl (Stp.of_no t1) t4⟩
    · have HR : Hid (d.remove s.data.toList = (0, { d with m := delL s.data.toList d.m, die := d.die - 1 })) := by show _ = _; simp [Dsk.remove, ha, Dsk.act, hd]
      clear ha
      go_wp2_with fail
      refine (act_does b d σ 48 _ _ (fun w' d' σ' => d' = { d with m := delL s.data.toList d.m } ∧ Stp w2 σ w' σ') ⟨mb, gm, hW1⟩ hd (enters _ _ _ Try.func48 (by kernel_rfl) rfl _ _)
        ((remove1_any b d σ s w.heap.size (w.heap.size + 1) _ ⟨mb, gm, hW1⟩ hsz p1 q1).mono fun x w' ⟨hx, σ', k1, k2⟩ => ⟨hx, _, σ', k1, rfl, k2⟩)).mono ?_
      rintro x w4 ⟨rfl, w5, d5, σ5, ⟨rfl, h5⟩, h4, t4⟩
      go_wp2
      go_ret
      rw [HR.out]
      exact ⟨rfl, σ5, h4, mono_did hW.lb hW.bl ((Stp.of_no t1).trans h5) t4⟩

theorem trunc1_any (b : Nat) (d : Dsk) (σ : Nat → Option Nat) (n : Nm) (fb : Nat) (f : Fl) (mb : Nat) (gm : List (Nm × (Nat × Fl))) (k : Nat) (p r q : Nat) (w : World) (h : DW w b d σ mb gm) (hg : getL n gm = some (fb, f)) (hk : k ≤ f.bs.length)
    (hp : w.cell? ⟨p, 0, none⟩ = some (.pointer (some ⟨b, 0, none⟩))) (hr : w.cell? ⟨r, 0, none⟩ = some (.pointer (some ⟨fb, 0, none⟩))) (hq : w.cell? ⟨q, 0, none⟩ = some (.int .i64 k)) :
    Calls Try.prog 41 #[.pointer (some ⟨p, 0, none⟩), .pointer (some ⟨r, 0, none⟩), .pointer (some ⟨q, 0, none⟩)] w fun x w' => x = .returned (.tuple #[]) ∧
      ∃ σ', DK w' b (d.set n ⟨f.bs.take k, min f.la k⟩) σ' ∧ Stp w σ w' σ' := by
  have he := cut_any b d σ mb gm n fb f k w h hg hk
  go_enter Try.func41, Try.ntmps41
  go_wp2_with (go_at_call 42; refine he.mono ?_; rintro x w1 ⟨rfl, h1, t1⟩)
  go_end0
  exact ⟨rfl, σ, ⟨_, _, h1⟩, near_stp h t1⟩

set_option maxHeartbeats 1000000 in
set_option maxRecDepth 100000 in
theorem trunc_any (b : Nat) (d : Dsk) (σ : Nat → Option Nat) (nm : ByteArray) (k : Int) (w : World) (h : DK w b d σ) :
    Calls Try.prog 13 #[.pointer (some ⟨b, 0, none⟩), .string nm, .int .i64 k] w fun x w' => x = .returned (.int .i64 (d.trunc nm.data.toList k).1) ∧ ∃ σ', DK w' b (d.trunc nm.data.toList k).2 σ' ∧ Stp w σ w' σ' := by
  have t1 := box2_no w (.cells #[.pointer (some ⟨b, 0, none⟩)] 23) (.cells #[.int .i64 k] 3)
  obtain ⟨w1, hw1⟩ : ∃ w1, w1 = (w.alloc (.cells #[.pointer (some ⟨b, 0, none⟩)] 23)).alloc (.cells #[.int .i64 k] 3) := ⟨_, rfl⟩
  have z1 : w1.heap.size = w.heap.size + 2 := by rw [hw1]; simp
  rw [← hw1] at t1
  have p1 : w1.cell? ⟨w.heap.size, 0, none⟩ = some (.pointer (some ⟨b, 0, none⟩)) := by
    rw [hw1, World.cell?_alloc_past _ _ _ (by simp)]
    rw [blk_cell (box_one w _)]; rfl
  have q1 : w1.cell? ⟨w.heap.size + 1, 0, none⟩ = some (.int .i64 k) := by
    rw [hw1]
    have := box_one (w.alloc (.cells #[.pointer (some ⟨b, 0, none⟩)] 23)) (.cells #[.int .i64 k] 3)
    simp only [World.size_alloc] at this
    rw [blk_cell this]; rfl
  obtain ⟨mb, gm, hW⟩ := h
  have hW1 := hW.no t1
  have hf := find_any b d σ mb gm nm w1 hW1
  go_enter Try.func13, Try.ntmps13
  go_wp2_with fail
  rw [← hw1]
  refine hf.mono ?_
  rintro x w2 ⟨hx, hw2⟩
  subst hw2
  clear hw1 hf
  rcases hx with ⟨ha, rfl⟩ | ⟨ha, rfl⟩
  · have HR : Hid (d.trunc nm.data.toList k = (d.ask nm.data.toList, d)) := by show _ = _; simp [Dsk.trunc, ha]
    have hab : (d.ask nm.data.toList != 0) = true := by simpa using ha
    go_wp2
    go_ret
    rw [HR.out]
    have t3 := t1.allocR (.cells #[.pointer none] 75)
    exact ⟨rfl, σ, ⟨mb, gm, hW.no t3⟩, Stp.of_no t3⟩
  · obtain ⟨f, hg, hfd, _, _⟩ := file_of hW ha
    have t3 := t1.allocR (.cells #[.pointer (some ⟨fbOf gm nm.data.toList, 0, none⟩)] 75)
    obtain ⟨w3, hw3⟩ : ∃ w3, w3 = w2.alloc (.cells #[.pointer (some ⟨fbOf gm nm.data.toList, 0, none⟩)] 75) := ⟨_, rfl⟩
    rw [← hw3] at t3
    have tn : Tch (fun _ => False) w2 w3 := by rw [hw3]; exact Tch.alloc _ _ _
    have p3 := (tn.cell (p := ⟨w.heap.size, 0, none⟩) (by simp only; omega) (fun h => h)).trans p1
    have q3 := (tn.cell (p := ⟨w.heap.size + 1, 0, none⟩) (by simp only; omega) (fun h => h)).trans q1
    have r3 : w3.cell? ⟨w.heap.size + 2, 0, none⟩ = some (.pointer (some ⟨fbOf gm nm.data.toList, 0, none⟩)) := by
      have := box_one w2 (.cells #[.pointer (some ⟨fbOf gm nm.data.toList, 0, none⟩)] 75)
      rw [z1] at this
      rw [hw3, blk_cell this]; rfl
    have HP : Hid (∀ n, DW (w3.drewN n) b d σ mb gm) := fun n => hW.no (t3.drewN n)
    obtain ⟨v, hbk, hown, _⟩ := ((HP.out 0).fs _ (getL_mem hg)).blk
    simp only at hbk hown
    obtain ⟨ao, cp, hv⟩ := slice_of hown
    subst hv
    have c3 : w3.cell? ⟨fbOf gm nm.data.toList, 0, none⟩ = some (.slice ao f.bs.length cp) := by
      have := blk_cell hbk 0
      exact this.trans rfl
    have HN : Hid (Tch (fun _ => False) w w3) := t3
    have HB : Hid (DW w b d σ mb gm) := hW
    have HG : Hid (getL nm.data.toList gm = some (fbOf gm nm.data.toList, f) ∧ d.file nm.data.toList = f) := ⟨hg, hfd⟩
    by_cases hk0 : k < 0
    · have HR : Hid (d.trunc nm.data.toList k = (24, d)) := by show _ = _; simp [Dsk.trunc, ha, hk0]
      clear t1 hW1 hW hg hfd t3 tn p1 q1 ha hbk hown
      go_wp2_with fail
      rw [← hw3]
      clear hw3 z1
      go_quiet (fail)
      go_wp2
      go_ret
      rw [HR.out]
      exact ⟨rfl, σ, ⟨mb, gm, HP.out _⟩, Stp.of_no (HN.out.drewN _)⟩
    · have hk0' : decide (k < 0) = false := by simpa using hk0
      by_cases hkl : (f.bs.length : Int) < k
      · have HR : Hid (d.trunc nm.data.toList k = (24, d)) := by show _ = _; simp [Dsk.trunc, ha, hfd, hkl]
        clear t1 hW1 hW hg hfd t3 tn p1 q1 ha hbk hown
        go_wp2_with fail
        rw [← hw3]
        clear hw3 z1
        go_quiet (fail)
        go_wp2
        go_ret
        rw [HR.out]
        exact ⟨rfl, σ, ⟨mb, gm, HP.out _⟩, Stp.of_no (HN.out.drewN _)⟩
      · obtain ⟨j, rfl⟩ : ∃ j : Nat, k = j := ⟨k.toNat, by omega⟩
        have hjl : j ≤ f.bs.length := by omega
        by_cases hd : d.die = 1
        · have HR : Hid (d.trunc nm.data.toList j = (2, { d with dead := true, die := 0 })) := by show _ = _; simp [Dsk.trunc, ha, hfd, Dsk.act, hd]; omega
          clear t1 hW1 hW hg hfd t3 tn p1 q1 ha hbk hown
          go_wp2_with fail
          rw [← hw3]
          clear hw3 z1
          go_quiet (fail)
          go_wp2_with fail
          refine (act_dies b d σ _ _ ⟨mb, gm, HP.out _⟩ hd).mono ?_
          rintro x w4 ⟨rfl, h4, t4⟩
          go_wp2
          go_ret
          rw [HR.out]
          exact ⟨rfl, σ, h4, mono_did HB.out.lb HB.out.bl (Stp.of_no (HN.out.drewN _)) t4⟩
        · have HR : Hid (d.trunc nm.data.toList j = (0, { d.set nm.data.toList ⟨f.bs.take j, min f.la j⟩ with die := d.die - 1 })) := by show _ = _; simp [Dsk.trunc, ha, hfd, Dsk.act, hd]; omega
          clear t1 hW1 hW hg hfd t3 tn p1 q1 ha hbk hown
          go_wp2_with fail
          rw [← hw3]
          clear hw3 z1
          go_quiet (fail)
          go_wp2_with fail
          refine (act_does b d σ 41 _ _ (fun w' d' σ' => d' = d.set nm.data.toList ⟨f.bs.take j, min f.la j⟩ ∧ Stp (w3.drewN _) σ w' σ') ⟨mb, gm, HP.out _⟩ hd (enters _ _ _ Try.func41 (by kernel_rfl) rfl _ _)
            ((trunc1_any b d σ nm.data.toList _ f mb gm j w.heap.size (w.heap.size + 2) (w.heap.size + 1) _ (HP.out _) HG.out.1 hjl p3 r3 q3).mono fun x w' ⟨hx, σ', k1, k2⟩ => ⟨hx, _, σ', k1, rfl, k2⟩)).mono ?_
          rintro x w4 ⟨rfl, w5, d5, σ5, ⟨rfl, h5⟩, h4, t4⟩
          go_wp2
          go_ret
          rw [HR.out]
          exact ⟨rfl, σ5, h4, mono_did HB.out.lb HB.out.bl ((Stp.of_no (HN.out.drewN _)).trans h5) t4⟩
end Go.Proofs.Ytngdgglgmmlmkaa
