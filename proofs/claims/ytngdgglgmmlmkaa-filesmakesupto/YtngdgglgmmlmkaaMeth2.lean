/- Append. -/
import Derived.Test.YtngdgglgmmlmkaaMeth
namespace Go.Proofs.Ytngdgglgmmlmkaa
open Go.RowKit Go.ChangeMaps

theorem Tch.setNew {S : Nat → Prop} {a b : World} (h : Tch S a b) (p : Addr) (v : Value) (hp : a.heap.size ≤ p.block) : Tch S a (b.setCell p v) :=
  ⟨h.os, h.tape, h.output, by rw [World.size_setCell]; exact h.size, fun k hk hn => (Below.heap_setCell _ _ _ _ (by omega)).trans (h.block k hk hn)⟩
theorem free_q (b : Nat) (d : Dsk) (σ : Nat → Option Nat) (w : World) (h : DK w b d σ) :
    Calls Try.prog 24 #[.pointer (some ⟨b, 0, none⟩)] w fun x w' => x = .returned (.int .i64 ((d.cap : Int) - d.used)) ∧ ∃ n, w' = w.drewN n :=
  (free_any b d σ w h).mono fun _ _ ⟨h1, h2⟩ => ⟨h1, 1, h2⟩

theorem append1_any (b : Nat) (d : Dsk) (σ : Nat → Option Nat) (n : Nm) (fb : Nat) (f : Fl) (mb : Nat) (gm : List (Nm × (Nat × Fl))) (s : ByteArray) (p r q : Nat) (w : World) (h : DW w b d σ mb gm) (hg : getL n gm = some (fb, f)) (hroom : d.used + s.size ≤ d.cap)
    (hp : w.cell? ⟨p, 0, none⟩ = some (.pointer (some ⟨b, 0, none⟩))) (hr : w.cell? ⟨r, 0, none⟩ = some (.pointer (some ⟨fb, 0, none⟩))) (hq : w.cell? ⟨q, 0, none⟩ = some (.string s)) :
    Calls Try.prog 37 #[.pointer (some ⟨p, 0, none⟩), .pointer (some ⟨r, 0, none⟩), .pointer (some ⟨q, 0, none⟩)] w fun x w' => x = .returned (.tuple #[]) ∧
      ∃ σ', DK w' b (d.set n ⟨f.bs ++ s.data.toList, f.la⟩) σ' ∧ Stp w σ w' σ' := by
  have he := extend_any b d σ mb gm n fb f s w h hg hroom
  go_enter Try.func37, Try.ntmps37
  go_wp2_with (go_at_call 38; refine he.mono ?_; rintro x w1 ⟨rfl, σ', h1, t1⟩)
  go_end0
  exact ⟨rfl, σ', ⟨_, _, h1⟩, t1⟩

theorem file_of {w : World} {b : Nat} {d : Dsk} {σ : Nat → Option Nat} {mb : Nat} {gm : List (Nm × (Nat × Fl))} (h : DW w b d σ mb gm) {n : Nm} (ha : d.ask n = 0) : ∃ f, getL n gm = some (fbOf gm n, f) ∧ d.file n = f ∧ okN n = true ∧ d.dead = false := by
  unfold Dsk.ask at ha
  split at ha
  · rename_i h1; exact absurd ha h1
  · rename_i h1
    simp only [ne_eq, Decidable.not_not] at h1
    split at ha
    · cases ha
    · rename_i h2
      rw [h.get] at h2
      cases hg : getL n gm with
      | none => rw [hg] at h2; simp at h2
      | some a =>
        refine ⟨a.2, ?_, ?_, (refuse_zero h1).1, (refuse_zero h1).2⟩
        · simp [fbOf, hg]
        · simp [Dsk.file, h.get, hg]

set_option maxHeartbeats 1000000 in
set_option maxRecDepth 100000 in
theorem append_any (b : Nat) (d : Dsk) (σ : Nat → Option Nat) (nm s : ByteArray) (w : World) (h : DK w b d σ) :
    Calls Try.prog 11 #[.pointer (some ⟨b, 0, none⟩), .string nm, .string s] w fun x w' => x = .returned (.int .i64 (d.append nm.data.toList s.data.toList).1) ∧ ∃ σ', DK w' b (d.append nm.data.toList s.data.toList).2 σ' ∧ Stp w σ w' σ' := by
  have t1 := box2_no w (.cells #[.pointer (some ⟨b, 0, none⟩)] 23) (.cells #[.string s] 9)
  obtain ⟨w1, hw1⟩ : ∃ w1, w1 = (w.alloc (.cells #[.pointer (some ⟨b, 0, none⟩)] 23)).alloc (.cells #[.string s] 9) := ⟨_, rfl⟩
  have z1 : w1.heap.size = w.heap.size + 2 := by rw [hw1]; simp
  rw [← hw1] at t1
  have p1 : w1.cell? ⟨w.heap.size, 0, none⟩ = some (.pointer (some ⟨b, 0, none⟩)) := by
    rw [hw1, World.cell?_alloc_past _ _ _ (by simp)]
    rw [blk_cell (box_one w _)]; rfl
  have q1 : w1.cell? ⟨w.heap.size + 1, 0, none⟩ = some (.string s) := by
    rw [hw1]
    have := box_one (w.alloc (.cells #[.pointer (some ⟨b, 0, none⟩)] 23)) (.cells #[.string s] 9)
    simp only [World.size_alloc] at this
    rw [blk_cell this]; rfl
  obtain ⟨mb, gm, hW⟩ := h
  have hW1 := hW.no t1
  have hf := find_any b d σ mb gm nm w1 hW1
  go_enter Try.func11, Try.ntmps11
  go_wp2_with fail
  rw [← hw1]
  refine hf.mono ?_
  rintro x w2 ⟨hx, hw2⟩
  subst hw2
  clear hw1 hf
  rcases hx with ⟨ha, rfl⟩ | ⟨ha, rfl⟩
  · have HR : Hid (d.append nm.data.toList s.data.toList = (d.ask nm.data.toList, d)) := by show _ = _; simp [Dsk.append, ha]
    have hab : (d.ask nm.data.toList != 0) = true := by simpa using ha
    go_wp2
    go_ret
    rw [HR.out]
    have t3 := t1.allocR (.cells #[.pointer none] 75)
    exact ⟨rfl, σ, ⟨mb, gm, hW.no t3⟩, Stp.of_no t3⟩
  · obtain ⟨f, hg, hfd, _, _⟩ := file_of hW ha
    have t3 := t1.allocR (.cells #[.pointer (some ⟨fbOf gm nm.data.toList, 0, none⟩)] 75)
    obtain ⟨w3, hw3⟩ : ∃ w3, w3 = w2.alloc (.cells #[.pointer (some ⟨fbOf gm nm.data.toList, 0, none⟩)] 75) := ⟨_, rfl⟩
    rw [← hw3] at t3
    have tn : Tch (fun _ => False) w2 w3 := by rw [hw3]; exact Tch.alloc _ _ _
    have p3 := (tn.cell (p := ⟨w.heap.size, 0, none⟩) (by simp only; omega) (fun h => h)).trans p1
    have q3 := (tn.cell (p := ⟨w.heap.size + 1, 0, none⟩) (by simp only; omega) (fun h => h)).trans q1
    have r3 : w3.cell? ⟨w.heap.size + 2, 0, none⟩ = some (.pointer (some ⟨fbOf gm nm.data.toList, 0, none⟩)) := by
      have := box_one w2 (.cells #[.pointer (some ⟨fbOf gm nm.data.toList, 0, none⟩)] 75)
      rw [z1] at this
      rw [hw3, blk_cell this]; rfl
    have HP : Hid (∀ n, DW (w3.drewN n) b d σ mb gm) := fun n => hW.no (t3.drewN n)
    have hcp := hW.cap
    have hus := hW.room
    have HN : Hid (Tch (fun _ => False) w w3) := t3
    have HB : Hid (DW w b d σ mb gm) := hW
    have HG : Hid (getL nm.data.toList gm = some (fbOf gm nm.data.toList, f) ∧ d.file nm.data.toList = f) := ⟨hg, hfd⟩
    by_cases hro : (d.cap : Int) - d.used < s.size
    · have HR : Hid (d.append nm.data.toList s.data.toList = (23, d)) := by
        have : d.cap < d.used + s.data.toList.length := by simp; omega
        show _ = _
        simp only [Dsk.append, ha, ne_eq, not_true_eq_false, if_false, if_pos this]
      clear t1 hW1 hW hg hfd t3 tn p1 q1 ha
      go_wp2_with fail
      rw [← hw3]
      clear hw3 z1
      go_quiet ((go_at_call 24; exact Calls.quiet_of (free_q b d σ _ ⟨mb, gm, HP.out _⟩)))
      go_wp2
      go_ret
      rw [HR.out]
      exact ⟨rfl, σ, ⟨mb, gm, HP.out _⟩, Stp.of_no (HN.out.drewN _)⟩
    · have hroom : d.used + s.size ≤ d.cap := by omega
      have hro2 : ¬ d.cap < d.used + s.data.toList.length := by simp; omega
      by_cases hd : d.die = 1
      · have HR : Hid (d.append nm.data.toList s.data.toList = (2, { d with dead := true, die := 0 })) := by
          show _ = _
          simp only [Dsk.append, ha, ne_eq, not_true_eq_false, if_false, if_neg hro2, Dsk.act, hd, if_true]
        clear t1 hW1 hW hg hfd t3 tn p1 q1 ha hro2
        go_wp2_with fail
        rw [← hw3]
        clear hw3 z1
        go_quiet ((go_at_call 24; exact Calls.quiet_of (free_q b d σ _ ⟨mb, gm, HP.out _⟩)))
        go_wp2_with fail
        refine (act_dies b d σ _ _ ⟨mb, gm, HP.out _⟩ hd).mono ?_
        rintro x w4 ⟨rfl, h4, t4⟩
        go_wp2
        go_ret
        rw [HR.out]
        exact ⟨rfl, σ, h4, mono_did HB.out.lb HB.out.bl (Stp.of_no (HN.out.drewN _)) t4⟩
      · have HR : Hid (d.append nm.data.toList s.data.toList = (0, { d.set nm.data.toList ⟨f.bs ++ s.data.toList, f.la⟩ with die := d.die - 1 })) := by
          show _ = _
          simp only [Dsk.append, ha, ne_eq, not_true_eq_false, if_false, if_neg hro2, Dsk.act, hd, hfd]
        clear t1 hW1 hW hg hfd t3 tn p1 q1 ha hro2
        go_wp2_with fail
        rw [← hw3]
        clear hw3 z1
        go_quiet ((go_at_call 24; exact Calls.quiet_of (free_q b d σ _ ⟨mb, gm, HP.out _⟩)))
        go_wp2_with fail
        refine (act_does b d σ 37 _ _ (fun w' d' σ' => d' = d.set nm.data.toList ⟨f.bs ++ s.data.toList, f.la⟩ ∧ Stp (w3.drewN _) σ w' σ') ⟨mb, gm, HP.out _⟩ hd (enters _ _ _ Try.func37 (by kernel_rfl) rfl _ _)
          ((append1_any b d σ nm.data.toList _ f mb gm s w.heap.size (w.heap.size + 2) (w.heap.size + 1) _ (HP.out _) HG.out.1 hroom p3 r3 q3).mono fun x w' ⟨hx, σ', k1, k2⟩ => ⟨hx, _, σ', k1, rfl, k2⟩)).mono ?_
        rintro x w4 ⟨rfl, w5, d5, σ5, ⟨rfl, h5⟩, h4, t4⟩
        go_wp2
        go_ret
        rw [HR.out]
        exact ⟨rfl, σ5, h4, mono_did HB.out.lb HB.out.bl ((Stp.of_no (HN.out.drewN _)).trans h5) t4⟩
end Go.Proofs.Ytngdgglgmmlmkaa
