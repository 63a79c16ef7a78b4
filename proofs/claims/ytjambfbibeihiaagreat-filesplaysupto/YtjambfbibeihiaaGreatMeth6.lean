import Derived.Test.YtjambfbibeihiaaGreatWrite2
/- Create, Append, Remove. -/
namespace Go.Proofs.YtjambfbibeihiaaGreat
set_option maxRecDepth 100000
open Go.RowKit Go.ChangeMaps

theorem enters (f : FuncId) (fn : Func) (c : Code) (hf : Tryz.prog.funcs[f]? = some fn) (hname : (fn.name == "runtime.NumGoroutine") = false) (hb : fn.body = some c) (args : Array Value) (w : World) : (callFunc f args).run Tryz.prog w = .ok (.enter f args) w := by
  have h1 : fn.name ≠ "runtime.NumGoroutine" := by simpa using hname
  simp [callFunc, hf, h1, hb, mark]

theorem box2_no (w : World) (o o' : Obj) : Tch (fun _ => False) w ((w.alloc o).alloc o') := (Tch.alloc _ w o).allocR o'
theorem box3_no (w : World) (o o' o'' : Obj) : Tch (fun _ => False) w (((w.alloc o).alloc o').alloc o'') := ((Tch.alloc _ w o).allocR o').allocR o''
theorem box_one (w : World) (o : Obj) : (w.alloc o).heap[w.heap.size]? = some o := heap_alloc_new w o

theorem mono_did {w w1 w2 : World} {b : Nat} {σ σ1 : Nat → Option Nat} (hb : σ b = some b) (hl : b < w.heap.size) (h : Stp w σ w1 σ1) (t : Tch (fun i => i = b) w1 w2) : Stp w σ w2 σ1 :=
  h.trans ⟨t.mono (fun i _ hi => by rw [hi, h.ext b hl, hb]; exact fun h => by cases h), fun _ _ => rfl⟩

set_option maxHeartbeats 1000000 in
set_option maxRecDepth 100000 in
theorem create_any (b : Nat) (d : Dsk) (σ : Nat → Option Nat) (s : ByteArray) (w : World) (h : DK w b d σ) (hn : d.m.length < maxLen) :
    Calls Tryz.prog 12 #[.pointer (some ⟨b, 0, none⟩), .string s] w fun x w' => x = .returned (.int .i64 (d.create s.data.toList).1) ∧ ∃ σ', DK w' b (d.create s.data.toList).2 σ' ∧ Stp w σ w' σ' := by
  have t1 := box2_no w (.cells #[.pointer (some ⟨b, 0, none⟩)] 23) (.cells #[.string s] 9)
  obtain ⟨w1, hw1⟩ : ∃ w1, w1 = (w.alloc (.cells #[.pointer (some ⟨b, 0, none⟩)] 23)).alloc (.cells #[.string s] 9) := ⟨_, rfl⟩
  rw [← hw1] at t1
  have h1 := h.no t1
  have hf := refuse_any b d σ s w1 h1
  have p1 : w1.cell? ⟨w.heap.size, 0, none⟩ = some (.pointer (some ⟨b, 0, none⟩)) := by
    rw [hw1, World.cell?_alloc_past _ _ _ (by simp)]
    rw [blk_cell (box_one w _)]; rfl
  have q1 : w1.cell? ⟨w.heap.size + 1, 0, none⟩ = some (.string s) := by
    rw [hw1]
    have := box_one (w.alloc (.cells #[.pointer (some ⟨b, 0, none⟩)] 23)) (.cells #[.string s] 9)
    simp only [World.size_alloc] at this
    rw [blk_cell this]; rfl
  by_cases hr : d.refuse s.data.toList = 0
  · rw [hr] at hf
    obtain ⟨ho, _⟩ := refuse_zero hr
    have hsz : s.size ≤ maxLen := by have := okN_size ho; unfold maxLen; omega
    have t2 : Tch (fun _ => False) w w1.drew := t1.drew
    have h2 := h.no t2
    have p2 : w1.drew.cell? ⟨w.heap.size, 0, none⟩ = some (.pointer (some ⟨b, 0, none⟩)) := p1
    have q2 : w1.drew.cell? ⟨w.heap.size + 1, 0, none⟩ = some (.string s) := q1
    obtain ⟨mb, gm, hW⟩ := h2
    have hl := hW.look hsz
    have c2 : w1.cell? ⟨b, 2, none⟩ = some (.map (some mb)) := hW.c2
    have hgd := hW.get s.data.toList
    cases hg : getL s.data.toList gm with
    | some a =>
      rw [hg] at hl hgd
      simp only [] at hl
      have HR : Hid (d.create s.data.toList = (22, d)) := by show _ = _; simp [Dsk.create, hr, hgd]
      clear hgd
      go_enter Tryz.func12, Tryz.ntmps12
      go_wp2_with fail
      rw [← hw1]
      refine hf.mono ?_
      rintro x w2 ⟨rfl, hw2⟩
      subst hw2
      clear hw1
      go_wp2
      go_region
      go_wp2
      go_ret
      rw [HR.out]
      exact ⟨rfl, σ, ⟨mb, gm, hW⟩, Stp.of_no t2⟩
    | none =>
      rw [hg] at hl hgd
      simp only [] at hl
      have hgd' : getL s.data.toList d.m = none := hgd
      by_cases hd : d.die = 1
      · have HR : Hid (d.create s.data.toList = (2, { d with dead := true, die := 0 })) := by show _ = _; simp [Dsk.create, hr, hgd', Dsk.act, hd]
        have ha := act_dies b d σ (.func (.func 49) #[] #[.pointer (some ⟨w.heap.size, 0, none⟩), .pointer (some ⟨w.heap.size + 1, 0, none⟩)]) w1.drew ⟨mb, gm, hW⟩ hd
        clear hgd hgd'
        go_enter Tryz.func12, Tryz.ntmps12
        go_wp2_with fail
        rw [← hw1]
        refine hf.mono ?_
        rintro x w2 ⟨rfl, hw2⟩
        subst hw2
        clear hw1
        go_wp2
        go_region
        go_wp2_with fail
        refine ha.mono ?_
        rintro x w3 ⟨rfl, h3, t3⟩
        go_wp2
        go_ret
        rw [HR.out]
        exact ⟨rfl, σ, h3, mono_did h.b h.bl (Stp.of_no t2) t3⟩
      · have HR : Hid (d.create s.data.toList = (0, { d with m := putL s.data.toList ⟨[], 0⟩ d.m, die := d.die - 1 })) := by show _ = _; simp [Dsk.create, hr, hgd', Dsk.act, hd]
        have hd1 := create1_any b d σ s w.heap.size (w.heap.size + 1) w1.drew ⟨mb, gm, hW⟩ hsz hn hgd' p2 q2
        have ha := act_does b d σ 49 #[.pointer (some ⟨w.heap.size, 0, none⟩), .pointer (some ⟨w.heap.size + 1, 0, none⟩)] w1.drew (fun w' d' σ' => d' = { d with m := putL s.data.toList ⟨[], 0⟩ d.m } ∧ Stp w1.drew σ w' σ') ⟨mb, gm, hW⟩ hd
          (enters _ _ _ Tryz.func49 (by kernel_rfl) rfl _ _) (hd1.mono fun x w' ⟨hx, σ', k1, k2⟩ => ⟨hx, _, σ', k1, rfl, k2⟩)
        clear hgd hgd' hd1
        go_enter Tryz.func12, Tryz.ntmps12
        go_wp2_with fail
        rw [← hw1]
        refine hf.mono ?_
        rintro x w2 ⟨rfl, hw2⟩
        subst hw2
        clear hw1
        go_wp2
        go_region
        go_wp2_with fail
        refine ha.mono ?_
        rintro x w3 ⟨rfl, w4, d4, σ4, ⟨rfl, h4⟩, h3, t3⟩
        go_wp2
        go_ret
        rw [HR.out]
        exact ⟨rfl, σ4, h3, mono_did h.b h.bl ((Stp.of_no t2).trans h4) t3⟩
  · have HR : Hid (d.create s.data.toList = (d.refuse s.data.toList, d)) := by show _ = _; simp [Dsk.create, hr]
    have hrb : (d.refuse s.data.toList != 0) = true := by simpa using hr
    go_enter Tryz.func12, Tryz.ntmps12
    go_wp2_with fail
    rw [← hw1]
    refine hf.mono ?_
    rintro x w2 ⟨rfl, hw2⟩
    subst hw2
    clear hw1
    go_wp2
    go_ret
    rw [HR.out]
    exact ⟨rfl, σ, h1, Stp.of_no t1⟩
end Go.Proofs.YtjambfbibeihiaaGreat
/- Append. -/
namespace Go.Proofs.YtjambfbibeihiaaGreat
set_option maxRecDepth 100000
open Go.RowKit Go.ChangeMaps

theorem Tch.setNew {S : Nat → Prop} {a b : World} (h : Tch S a b) (p : Addr) (v : Value) (hp : a.heap.size ≤ p.block) : Tch S a (b.setCell p v) :=
  ⟨h.os, h.tape, h.output, by rw [World.size_setCell]; exact h.size, fun k hk hn => (Below.heap_setCell _ _ _ _ (by omega)).trans (h.block k hk hn)⟩
theorem free_q (b : Nat) (d : Dsk) (σ : Nat → Option Nat) (w : World) (h : DK w b d σ) :
    Calls Tryz.prog 40 #[.pointer (some ⟨b, 0, none⟩)] w fun x w' => x = .returned (.int .i64 ((d.cap : Int) - d.used)) ∧ ∃ n, w' = w.drewN n :=
  (free_any b d σ w h).mono fun _ _ ⟨h1, h2⟩ => ⟨h1, 1, h2⟩

theorem append1_any (b : Nat) (d : Dsk) (σ : Nat → Option Nat) (n : Nm) (fb : Nat) (f : Fl) (mb : Nat) (gm : List (Nm × (Nat × Fl))) (s : ByteArray) (p r q : Nat) (w : World) (h : DW w b d σ mb gm) (hg : getL n gm = some (fb, f)) (hroom : d.used + s.size ≤ d.cap)
    (hp : w.cell? ⟨p, 0, none⟩ = some (.pointer (some ⟨b, 0, none⟩))) (hr : w.cell? ⟨r, 0, none⟩ = some (.pointer (some ⟨fb, 0, none⟩))) (hq : w.cell? ⟨q, 0, none⟩ = some (.string s)) :
    Calls Tryz.prog 53 #[.pointer (some ⟨p, 0, none⟩), .pointer (some ⟨r, 0, none⟩), .pointer (some ⟨q, 0, none⟩)] w fun x w' => x = .returned (.tuple #[]) ∧
      ∃ σ', DK w' b (d.set n ⟨f.bs ++ s.data.toList, f.la⟩) σ' ∧ Stp w σ w' σ' := by
  have he := extend_any b d σ mb gm n fb f s w h hg hroom
  go_enter Tryz.func53, Tryz.ntmps53
  go_wp2_with (go_at_call 41; refine he.mono ?_; rintro x w1 ⟨rfl, σ', h1, t1⟩)
  go_end0
  exact ⟨rfl, σ', ⟨_, _, h1⟩, t1⟩

theorem file_of {w : World} {b : Nat} {d : Dsk} {σ : Nat → Option Nat} {mb : Nat} {gm : List (Nm × (Nat × Fl))} (h : DW w b d σ mb gm) {n : Nm} (ha : d.ask n = 0) : ∃ f, getL n gm = some (fbOf gm n, f) ∧ d.file n = f ∧ okN n = true ∧ d.dead = false := by
  unfold Dsk.ask at ha
  split at ha
  · rename_i h1; exact absurd ha h1
  · rename_i h1
    simp only [ne_eq, Decidable.not_not] at h1
    split at ha
    · cases ha
    · rename_i h2
      rw [h.get] at h2
      cases hg : getL n gm with
      | none => rw [hg] at h2; simp at h2
      | some a =>
        refine ⟨a.2, ?_, ?_, (refuse_zero h1).1, (refuse_zero h1).2⟩
        · simp [fbOf, hg]
        · simp [Dsk.file, h.get, hg]

set_option maxHeartbeats 1000000 in
set_option maxRecDepth 100000 in
theorem append_any (b : Nat) (d : Dsk) (σ : Nat → Option Nat) (nm s : ByteArray) (w : World) (h : DK w b d σ) :
    Calls Tryz.prog 14 #[.pointer (some ⟨b, 0, none⟩), .string nm, .string s] w fun x w' => x = .returned (.int .i64 (d.append nm.data.toList s.data.toList).1) ∧ ∃ σ', DK w' b (d.append nm.data.toList s.data.toList).2 σ' ∧ Stp w σ w' σ' := by
  have t1 := box2_no w (.cells #[.pointer (some ⟨b, 0, none⟩)] 23) (.cells #[.string s] 9)
  obtain ⟨w1, hw1⟩ : ∃ w1, w1 = (w.alloc (.cells #[.pointer (some ⟨b, 0, none⟩)] 23)).alloc (.cells #[.string s] 9) := ⟨_, rfl⟩
  have z1 : w1.heap.size = w.heap.size + 2 := by rw [hw1]; simp
  rw [← hw1] at t1
  have p1 : w1.cell? ⟨w.heap.size, 0, none⟩ = some (.pointer (some ⟨b, 0, none⟩)) := by
    rw [hw1, World.cell?_alloc_past _ _ _ (by simp)]
    rw [blk_cell (box_one w _)]; rfl
  have q1 : w1.cell? ⟨w.heap.size + 1, 0, none⟩ = some (.string s) := by
    rw [hw1]
    have := box_one (w.alloc (.cells #[.pointer (some ⟨b, 0, none⟩)] 23)) (.cells #[.string s] 9)
    simp only [World.size_alloc] at this
    rw [blk_cell this]; rfl
  obtain ⟨mb, gm, hW⟩ := h
  have hW1 := hW.no t1
  have hf := find_any b d σ mb gm nm w1 hW1
  go_enter Tryz.func14, Tryz.ntmps14
  go_wp2_with fail
  rw [← hw1]
  refine hf.mono ?_
  rintro x w2 ⟨hx, hw2⟩
  subst hw2
  clear hw1 hf
  rcases hx with ⟨ha, rfl⟩ | ⟨ha, rfl⟩
  · have HR : Hid (d.append nm.data.toList s.data.toList = (d.ask nm.data.toList, d)) := by show _ = _; simp [Dsk.append, ha]
    have hab : (d.ask nm.data.toList != 0) = true := by simpa using ha
    go_wp2
    go_ret
    rw [HR.out]
    have t3 := t1.allocR (.cells #[.pointer none] 73)
    exact ⟨rfl, σ, ⟨mb, gm, hW.no t3⟩, Stp.of_no t3⟩
  · obtain ⟨f, hg, hfd, _, _⟩ := file_of hW ha
    have t3 := t1.allocR (.cells #[.pointer (some ⟨fbOf gm nm.data.toList, 0, none⟩)] 73)
    obtain ⟨w3, hw3⟩ : ∃ w3, w3 = w2.alloc (.cells #[.pointer (some ⟨fbOf gm nm.data.toList, 0, none⟩)] 73) := ⟨_, rfl⟩
    rw [← hw3] at t3
    have tn : Tch (fun _ => False) w2 w3 := by rw [hw3]; exact Tch.alloc _ _ _
    have p3 := (tn.cell (p := ⟨w.heap.size, 0, none⟩) (by simp only; omega) (fun h => h)).trans p1
    have q3 := (tn.cell (p := ⟨w.heap.size + 1, 0, none⟩) (by simp only; omega) (fun h => h)).trans q1
    have r3 : w3.cell? ⟨w.heap.size + 2, 0, none⟩ = some (.pointer (some ⟨fbOf gm nm.data.toList, 0, none⟩)) := by
      have := box_one w2 (.cells #[.pointer (some ⟨fbOf gm nm.data.toList, 0, none⟩)] 73)
      rw [z1] at this
      rw [hw3, blk_cell this]; rfl
    have HP : Hid (∀ n, DW (w3.drewN n) b d σ mb gm) := fun n => hW.no (t3.drewN n)
    have hcp := hW.cap
    have hus := hW.room
    have HN : Hid (Tch (fun _ => False) w w3) := t3
    have HB : Hid (DW w b d σ mb gm) := hW
    have HG : Hid (getL nm.data.toList gm = some (fbOf gm nm.data.toList, f) ∧ d.file nm.data.toList = f) := ⟨hg, hfd⟩
    by_cases hro : (d.cap : Int) - d.used < s.size
    · have HR : Hid (d.append nm.data.toList s.data.toList = (23, d)) := by
        have : d.cap < d.used + s.data.toList.length := by simp; omega
        show _ = _
        simp only [Dsk.append, ha, ne_eq, not_true_eq_false, if_false, if_pos this]
      clear t1 hW1 hW hg hfd t3 tn p1 q1 ha
      go_wp2_with fail
      rw [← hw3]
      clear hw3 z1
      go_quiet ((go_at_call 40; exact Calls.quiet_of (free_q b d σ _ ⟨mb, gm, HP.out _⟩)))
      go_wp2
      go_ret
      rw [HR.out]
      exact ⟨rfl, σ, ⟨mb, gm, HP.out _⟩, Stp.of_no (HN.out.drewN _)⟩
    · have hroom : d.used + s.size ≤ d.cap := by omega
      have hro2 : ¬ d.cap < d.used + s.data.toList.length := by simp; omega
      by_cases hd : d.die = 1
      · have HR : Hid (d.append nm.data.toList s.data.toList = (2, { d with dead := true, die := 0 })) := by
          show _ = _
          simp only [Dsk.append, ha, ne_eq, not_true_eq_false, if_false, if_neg hro2, Dsk.act, hd, if_true]
        clear t1 hW1 hW hg hfd t3 tn p1 q1 ha hro2
        go_wp2_with fail
        rw [← hw3]
        clear hw3 z1
        go_quiet ((go_at_call 40; exact Calls.quiet_of (free_q b d σ _ ⟨mb, gm, HP.out _⟩)))
        go_wp2_with fail
        refine (act_dies b d σ _ _ ⟨mb, gm, HP.out _⟩ hd).mono ?_
        rintro x w4 ⟨rfl, h4, t4⟩
        go_wp2
        go_ret
        rw [HR.out]
        exact ⟨rfl, σ, h4, mono_did HB.out.lb HB.out.bl (Stp.of_no (HN.out.drewN _)) t4⟩
      · have HR : Hid (d.append nm.data.toList s.data.toList = (0, { d.set nm.data.toList ⟨f.bs ++ s.data.toList, f.la⟩ with die := d.die - 1 })) := by
          show _ = _
          simp only [Dsk.append, ha, ne_eq, not_true_eq_false, if_false, if_neg hro2, Dsk.act, hd, hfd]
        clear t1 hW1 hW hg hfd t3 tn p1 q1 ha hro2
        go_wp2_with fail
        rw [← hw3]
        clear hw3 z1
        go_quiet ((go_at_call 40; exact Calls.quiet_of (free_q b d σ _ ⟨mb, gm, HP.out _⟩)))
        go_wp2_with fail
        refine (act_does b d σ 53 _ _ (fun w' d' σ' => d' = d.set nm.data.toList ⟨f.bs ++ s.data.toList, f.la⟩ ∧ Stp (w3.drewN _) σ w' σ') ⟨mb, gm, HP.out _⟩ hd (enters _ _ _ Tryz.func53 (by kernel_rfl) rfl _ _)
          ((append1_any b d σ nm.data.toList _ f mb gm s w.heap.size (w.heap.size + 2) (w.heap.size + 1) _ (HP.out _) HG.out.1 hroom p3 r3 q3).mono fun x w' ⟨hx, σ', k1, k2⟩ => ⟨hx, _, σ', k1, rfl, k2⟩)).mono ?_
        rintro x w4 ⟨rfl, w5, d5, σ5, ⟨rfl, h5⟩, h4, t4⟩
        go_wp2
        go_ret
        rw [HR.out]
        exact ⟨rfl, σ5, h4, mono_did HB.out.lb HB.out.bl ((Stp.of_no (HN.out.drewN _)).trans h5) t4⟩
end Go.Proofs.YtjambfbibeihiaaGreat
/- Remove, Truncate. -/
namespace Go.Proofs.YtjambfbibeihiaaGreat
set_option maxRecDepth 100000
open Go.RowKit Go.ChangeMaps

theorem remove1_any (b : Nat) (d : Dsk) (σ : Nat → Option Nat) (s : ByteArray) (p q : Nat) (w : World) (h : DK w b d σ) (hs : s.size ≤ maxLen)
    (hp : w.cell? ⟨p, 0, none⟩ = some (.pointer (some ⟨b, 0, none⟩))) (hq : w.cell? ⟨q, 0, none⟩ = some (.string s)) :
    Calls Tryz.prog 58 #[.pointer (some ⟨p, 0, none⟩), .pointer (some ⟨q, 0, none⟩)] w fun x w' => x = .returned (.tuple #[]) ∧
      ∃ σ', DK w' b { d with m := delL s.data.toList d.m } σ' ∧ Stp w σ w' σ' := by
  obtain ⟨mb, gm, h⟩ := h
  have he := drop_any b d σ mb gm s w h hs
  go_enter Tryz.func58, Tryz.ntmps58
  go_wp2_with (go_at_call 59; refine he.mono ?_; rintro x w1 ⟨rfl, h1, t1⟩)
  go_end0
  exact ⟨rfl, σ, ⟨_, _, h1⟩, t1⟩

theorem ask_size {d : Dsk} {s : ByteArray} (ha : d.ask s.data.toList = 0) : s.size ≤ maxLen := by
  unfold Dsk.ask at ha
  split at ha
  · rename_i h1; exact absurd ha h1
  · rename_i h1
    simp only [ne_eq, Decidable.not_not] at h1
    have := okN_size (refuse_zero h1).1
    unfold maxLen; omega

set_option maxHeartbeats 1000000 in
set_option maxRecDepth 100000 in
theorem remove_any (b : Nat) (d : Dsk) (σ : Nat → Option Nat) (s : ByteArray) (w : World) (h : DK w b d σ) :
    Calls Tryz.prog 20 #[.pointer (some ⟨b, 0, none⟩), .string s] w fun x w' => x = .returned (.int .i64 (d.remove s.data.toList).1) ∧ ∃ σ', DK w' b (d.remove s.data.toList).2 σ' ∧ Stp w σ w' σ' := by
  have t1 := box2_no w (.cells #[.pointer (some ⟨b, 0, none⟩)] 23) (.cells #[.string s] 9)
  obtain ⟨w1, hw1⟩ : ∃ w1, w1 = (w.alloc (.cells #[.pointer (some ⟨b, 0, none⟩)] 23)).alloc (.cells #[.string s] 9) := ⟨_, rfl⟩
  rw [← hw1] at t1
  have p1 : w1.cell? ⟨w.heap.size, 0, none⟩ = some (.pointer (some ⟨b, 0, none⟩)) := by
    rw [hw1, World.cell?_alloc_past _ _ _ (by simp)]
    rw [blk_cell (box_one w _)]; rfl
  have q1 : w1.cell? ⟨w.heap.size + 1, 0, none⟩ = some (.string s) := by
    rw [hw1]
    have := box_one (w.alloc (.cells #[.pointer (some ⟨b, 0, none⟩)] 23)) (.cells #[.string s] 9)
    simp only [World.size_alloc] at this
    rw [blk_cell this]; rfl
  obtain ⟨mb, gm, hW⟩ := h
  have hW1 := hW.no t1
  have hf := find_any b d σ mb gm s w1 hW1
  go_enter Tryz.func20, Tryz.ntmps20
  go_wp2_with fail
  rw [← hw1]
  refine hf.mono ?_
  rintro x w2 ⟨hx, hw2⟩
  subst hw2
  clear hw1 hf
  rcases hx with ⟨ha, rfl⟩ | ⟨ha, rfl⟩
  · have HR : Hid (d.remove s.data.toList = (d.ask s.data.toList, d)) := by show _ = _; simp [Dsk.remove, ha]
    have hab : (d.ask s.data.toList != 0) = true := by simpa using ha
    go_wp2
    go_ret
    rw [HR.out]
    exact ⟨rfl, σ, ⟨mb, gm, hW1⟩, Stp.of_no t1⟩
  · have hsz := ask_size ha
    by_cases hd : d.die = 1
    · have HR : Hid (d.remove s.data.toList = (2, { d with dead := true, die := 0 })) := by show _ = _; simp [Dsk.remove, ha, Dsk.act, hd]
      clear ha
      go_wp2_with fail
      refine (act_dies b d σ _ _ ⟨mb, gm, hW1⟩ hd).mono ?_
      rintro x w4 ⟨rfl, h4, t4⟩
      go_wp2
      go_ret
      rw [HR.out]
      exact ⟨rfl, σ, h4, mono_did hW.lb hW.bl (Stp.of_no t1) t4⟩
    · have HR : Hid (d.remove s.data.toList = (0, { d with m := delL s.data.toList d.m, die := d.die - 1 })) := by show _ = _; simp [Dsk.remove, ha, Dsk.act, hd]
      clear ha
      go_wp2_with fail
      refine (act_does b d σ 58 _ _ (fun w' d' σ' => d' = { d with m := delL s.data.toList d.m } ∧ Stp w2 σ w' σ') ⟨mb, gm, hW1⟩ hd (enters _ _ _ Tryz.func58 (by kernel_rfl) rfl _ _)
        ((remove1_any b d σ s w.heap.size (w.heap.size + 1) _ ⟨mb, gm, hW1⟩ hsz p1 q1).mono fun x w' ⟨hx, σ', k1, k2⟩ => ⟨hx, _, σ', k1, rfl, k2⟩)).mono ?_
      rintro x w4 ⟨rfl, w5, d5, σ5, ⟨rfl, h5⟩, h4, t4⟩
      go_wp2
      go_ret
      rw [HR.out]
      exact ⟨rfl, σ5, h4, mono_did hW.lb hW.bl ((Stp.of_no t1).trans h5) t4⟩

theorem trunc1_any (b : Nat) (d : Dsk) (σ : Nat → Option Nat) (n : Nm) (fb : Nat) (f : Fl) (mb : Nat) (gm : List (Nm × (Nat × Fl))) (k : Nat) (p r q : Nat) (w : World) (h : DW w b d σ mb gm) (hg : getL n gm = some (fb, f)) (hk : k ≤ f.bs.length)
    (hp : w.cell? ⟨p, 0, none⟩ = some (.pointer (some ⟨b, 0, none⟩))) (hr : w.cell? ⟨r, 0, none⟩ = some (.pointer (some ⟨fb, 0, none⟩))) (hq : w.cell? ⟨q, 0, none⟩ = some (.int .i64 k)) :
    Calls Tryz.prog 56 #[.pointer (some ⟨p, 0, none⟩), .pointer (some ⟨r, 0, none⟩), .pointer (some ⟨q, 0, none⟩)] w fun x w' => x = .returned (.tuple #[]) ∧
      ∃ σ', DK w' b (d.set n ⟨f.bs.take k, min f.la k⟩) σ' ∧ Stp w σ w' σ' := by
  have he := cut_any b d σ mb gm n fb f k w h hg hk
  go_enter Tryz.func56, Tryz.ntmps56
  go_wp2_with (go_at_call 57; refine he.mono ?_; rintro x w1 ⟨rfl, h1, t1⟩)
  go_end0
  exact ⟨rfl, σ, ⟨_, _, h1⟩, near_stp h t1⟩

set_option maxHeartbeats 1000000 in
set_option maxRecDepth 100000 in
theorem trunc_any (b : Nat) (d : Dsk) (σ : Nat → Option Nat) (nm : ByteArray) (k : Int) (w : World) (h : DK w b d σ) :
    Calls Tryz.prog 18 #[.pointer (some ⟨b, 0, none⟩), .string nm, .int .i64 k] w fun x w' => x = .returned (.int .i64 (d.trunc nm.data.toList k).1) ∧ ∃ σ', DK w' b (d.trunc nm.data.toList k).2 σ' ∧ Stp w σ w' σ' := by
  have t1 := box2_no w (.cells #[.pointer (some ⟨b, 0, none⟩)] 23) (.cells #[.int .i64 k] 3)
  obtain ⟨w1, hw1⟩ : ∃ w1, w1 = (w.alloc (.cells #[.pointer (some ⟨b, 0, none⟩)] 23)).alloc (.cells #[.int .i64 k] 3) := ⟨_, rfl⟩
  have z1 : w1.heap.size = w.heap.size + 2 := by rw [hw1]; simp
  rw [← hw1] at t1
  have p1 : w1.cell? ⟨w.heap.size, 0, none⟩ = some (.pointer (some ⟨b, 0, none⟩)) := by
    rw [hw1, World.cell?_alloc_past _ _ _ (by simp)]
    rw [blk_cell (box_one w _)]; rfl
  have q1 : w1.cell? ⟨w.heap.size + 1, 0, none⟩ = some (.int .i64 k) := by
    rw [hw1]
    have := box_one (w.alloc (.cells #[.pointer (some ⟨b, 0, none⟩)] 23)) (.cells #[.int .i64 k] 3)
    simp only [World.size_alloc] at this
    rw [blk_cell this]; rfl
  obtain ⟨mb, gm, hW⟩ := h
  have hW1 := hW.no t1
  have hf := find_any b d σ mb gm nm w1 hW1
  go_enter Tryz.func18, Tryz.ntmps18
  go_wp2_with fail
  rw [← hw1]
  refine hf.mono ?_
  rintro x w2 ⟨hx, hw2⟩
  subst hw2
  clear hw1 hf
  rcases hx with ⟨ha, rfl⟩ | ⟨ha, rfl⟩
  · have HR : Hid (d.trunc nm.data.toList k = (d.ask nm.data.toList, d)) := by show _ = _; simp [Dsk.trunc, ha]
    have hab : (d.ask nm.data.toList != 0) = true := by simpa using ha
    go_wp2
    go_ret
    rw [HR.out]
    have t3 := t1.allocR (.cells #[.pointer none] 73)
    exact ⟨rfl, σ, ⟨mb, gm, hW.no t3⟩, Stp.of_no t3⟩
  · obtain ⟨f, hg, hfd, _, _⟩ := file_of hW ha
    have t3 := t1.allocR (.cells #[.pointer (some ⟨fbOf gm nm.data.toList, 0, none⟩)] 73)
    obtain ⟨w3, hw3⟩ : ∃ w3, w3 = w2.alloc (.cells #[.pointer (some ⟨fbOf gm nm.data.toList, 0, none⟩)] 73) := ⟨_, rfl⟩
    rw [← hw3] at t3
    have tn : Tch (fun _ => False) w2 w3 := by rw [hw3]; exact Tch.alloc _ _ _
    have p3 := (tn.cell (p := ⟨w.heap.size, 0, none⟩) (by simp only; omega) (fun h => h)).trans p1
    have q3 := (tn.cell (p := ⟨w.heap.size + 1, 0, none⟩) (by simp only; omega) (fun h => h)).trans q1
    have r3 : w3.cell? ⟨w.heap.size + 2, 0, none⟩ = some (.pointer (some ⟨fbOf gm nm.data.toList, 0, none⟩)) := by
      have := box_one w2 (.cells #[.pointer (some ⟨fbOf gm nm.data.toList, 0, none⟩)] 73)
      rw [z1] at this
      rw [hw3, blk_cell this]; rfl
    have HP : Hid (∀ n, DW (w3.drewN n) b d σ mb gm) := fun n => hW.no (t3.drewN n)
    obtain ⟨v, hbk, hown, _⟩ := ((HP.out 0).fs _ (getL_mem hg)).blk
    simp only at hbk hown
    obtain ⟨ao, cp, hv⟩ := slice_of hown
    subst hv
    have c3 : w3.cell? ⟨fbOf gm nm.data.toList, 0, none⟩ = some (.slice ao f.bs.length cp) := by
      have := blk_cell hbk 0
      exact this.trans rfl
    have HN : Hid (Tch (fun _ => False) w w3) := t3
    have HB : Hid (DW w b d σ mb gm) := hW
    have HG : Hid (getL nm.data.toList gm = some (fbOf gm nm.data.toList, f) ∧ d.file nm.data.toList = f) := ⟨hg, hfd⟩
    by_cases hk0 : k < 0
    · have HR : Hid (d.trunc nm.data.toList k = (24, d)) := by show _ = _; simp [Dsk.trunc, ha, hk0]
      clear t1 hW1 hW hg hfd t3 tn p1 q1 ha hbk hown
      go_wp2_with fail
      rw [← hw3]
      clear hw3 z1
      go_quiet (fail)
      go_wp2
      go_ret
      rw [HR.out]
      exact ⟨rfl, σ, ⟨mb, gm, HP.out _⟩, Stp.of_no (HN.out.drewN _)⟩
    · have hk0' : decide (k < 0) = false := by simpa using hk0
      by_cases hkl : (f.bs.length : Int) < k
      · have HR : Hid (d.trunc nm.data.toList k = (24, d)) := by show _ = _; simp [Dsk.trunc, ha, hfd, hkl]
        clear t1 hW1 hW hg hfd t3 tn p1 q1 ha hbk hown
        go_wp2_with fail
        rw [← hw3]
        clear hw3 z1
        go_quiet (fail)
        go_wp2
        go_ret
        rw [HR.out]
        exact ⟨rfl, σ, ⟨mb, gm, HP.out _⟩, Stp.of_no (HN.out.drewN _)⟩
      · obtain ⟨j, rfl⟩ : ∃ j : Nat, k = j := ⟨k.toNat, by omega⟩
        have hjl : j ≤ f.bs.length := by omega
        by_cases hd : d.die = 1
        · have HR : Hid (d.trunc nm.data.toList j = (2, { d with dead := true, die := 0 })) := by show _ = _; simp [Dsk.trunc, ha, hfd, Dsk.act, hd]; omega
          clear t1 hW1 hW hg hfd t3 tn p1 q1 ha hbk hown
          go_wp2_with fail
          rw [← hw3]
          clear hw3 z1
          go_quiet (fail)
          go_wp2_with fail
          refine (act_dies b d σ _ _ ⟨mb, gm, HP.out _⟩ hd).mono ?_
          rintro x w4 ⟨rfl, h4, t4⟩
          go_wp2
          go_ret
          rw [HR.out]
          exact ⟨rfl, σ, h4, mono_did HB.out.lb HB.out.bl (Stp.of_no (HN.out.drewN _)) t4⟩
        · have HR : Hid (d.trunc nm.data.toList j = (0, { d.set nm.data.toList ⟨f.bs.take j, min f.la j⟩ with die := d.die - 1 })) := by show _ = _; simp [Dsk.trunc, ha, hfd, Dsk.act, hd]; omega
          clear t1 hW1 hW hg hfd t3 tn p1 q1 ha hbk hown
          go_wp2_with fail
          rw [← hw3]
          clear hw3 z1
          go_quiet (fail)
          go_wp2_with fail
          refine (act_does b d σ 56 _ _ (fun w' d' σ' => d' = d.set nm.data.toList ⟨f.bs.take j, min f.la j⟩ ∧ Stp (w3.drewN _) σ w' σ') ⟨mb, gm, HP.out _⟩ hd (enters _ _ _ Tryz.func56 (by kernel_rfl) rfl _ _)
            ((trunc1_any b d σ nm.data.toList _ f mb gm j w.heap.size (w.heap.size + 2) (w.heap.size + 1) _ (HP.out _) HG.out.1 hjl p3 r3 q3).mono fun x w' ⟨hx, σ', k1, k2⟩ => ⟨hx, _, σ', k1, rfl, k2⟩)).mono ?_
          rintro x w4 ⟨rfl, w5, d5, σ5, ⟨rfl, h5⟩, h4, t4⟩
          go_wp2
          go_ret
          rw [HR.out]
          exact ⟨rfl, σ5, h4, mono_did HB.out.lb HB.out.bl ((Stp.of_no (HN.out.drewN _)).trans h5) t4⟩
end Go.Proofs.YtjambfbibeihiaaGreat
/- Sync. -/
namespace Go.Proofs.YtjambfbibeihiaaGreat
set_option maxRecDepth 100000
open Go.RowKit Go.ChangeMaps

set_option maxHeartbeats 1000000 in
set_option maxRecDepth 100000 in
theorem sync1_any (b : Nat) (d : Dsk) (σ : Nat → Option Nat) (n : Nm) (fb : Nat) (f : Fl) (mb : Nat) (gm : List (Nm × (Nat × Fl))) (p r q : Nat) (w : World) (h : DW w b d σ mb gm) (hg : getL n gm = some (fb, f))
    (hp : w.cell? ⟨p, 0, none⟩ = some (.pointer (some ⟨b, 0, none⟩))) (hr : w.cell? ⟨r, 0, none⟩ = some (.pointer (some ⟨fb, 0, none⟩))) (hq : w.heap[q]? = some (.cells #[.bool false] 4 (0, 0)))
    (nr : σ r = none) (nq : σ q = none) (hrq : r ≠ q) :
    Calls Tryz.prog 54 #[.pointer (some ⟨p, 0, none⟩), .pointer (some ⟨q, 0, none⟩), .pointer (some ⟨r, 0, none⟩)] w fun x w' => x = .returned (.tuple #[]) ∧
      (d.fail = 1 ∧ DK w' b { d with fail := 0 } σ ∧ w'.cell? ⟨q, 0, none⟩ = some (.bool true) ∨ d.fail ≠ 1 ∧ DK w' b { d.set n ⟨f.bs, f.bs.length⟩ with fail := d.fail - 1 } σ ∧ w'.cell? ⟨q, 0, none⟩ = some (.bool false)) ∧ Tch (fun i => σ i ≠ none ∨ i = q) w w' := by
  have hrb : r ≠ b := by rintro rfl; rw [h.lb] at nr; cases nr
  have hqb : q ≠ b := by rintro rfl; rw [h.lb] at nq; cases nq
  have hff := (h.fs _ (getL_mem hg)).lab
  simp only at hff
  have hqf : q ≠ fb := by rintro rfl; rw [hff] at nq; cases nq
  have hrf : r ≠ fb := by rintro rfl; rw [hff] at nr; cases nr
  have hn := failsNow_any b d σ mb gm w h
  have HB : Hid (∀ w', Tch (fun i => i = b) w w' → w'.cell? ⟨r, 0, none⟩ = some (.pointer (some ⟨fb, 0, none⟩)) ∧ w'.heap[q]? = some (.cells #[.bool false] 4 (0, 0)) ∧ Tch (fun i => σ i ≠ none ∨ i = q) w w') := fun w' t =>
    ⟨(t.cell (p := ⟨r, 0, none⟩) (cell_lt hr) hrb).trans hr, (t.block q (blk_lt hq) hqb).trans hq, t.mono (fun i _ hi => Or.inl (by rw [hi, h.lb]; exact fun h => by cases h))⟩
  by_cases hf1 : d.fail = 1
  · have HE : Hid (d.fail = 1) := hf1
    rw [show decide (d.fail = 1) = true by simpa using hf1] at hn
    clear hf1 hq hr
    go_enter Tryz.func54, Tryz.ntmps54
    go_wp2_with fail
    refine hn.mono ?_
    rintro x w1 ⟨rfl, h1, t1⟩
    obtain ⟨r1, q1, T1⟩ := HB.out w1 t1
    have q0 : w1.cell? ⟨q, 0, none⟩ = some (.bool false) := by rw [blk_cell q1]; rfl
    have qf := blk_frozen q1 0
    clear hp
    go_wp2
    go_end0
    have tq : Tch (fun i => i = q) w1 (w1.setCell ⟨q, 0, none⟩ (.bool true)) := Tch.setCell _ _ _ _ rfl
    refine ⟨rfl, Or.inl ⟨HE.out, ⟨mb, gm, ?_⟩, World.cell?_setCell_same _ _ _ q0⟩, T1.setCellR _ _ (Or.inr rfl)⟩
    have := h1.tch tq (fun i _ hi => by rw [hi]; exact nq)
    rw [HE.out] at this
    exact this
  · have HE : Hid (d.fail ≠ 1) := hf1
    rw [show decide (d.fail = 1) = false by simpa using hf1] at hn
    have HF : Hid (∀ w1, Tch (fun i => i = b) w w1 → DW w1 b { d with fail := d.fail - 1 } σ mb gm → ∃ ao cp, (w1.setCell ⟨q, 0, none⟩ (.bool false)).cell? ⟨fb, 0, none⟩ = some (.slice ao f.bs.length cp) ∧
        (w1.setCell ⟨q, 0, none⟩ (.bool false)).cell? ⟨fb, 1, none⟩ = some (.int .i64 f.la) ∧ (w1.setCell ⟨q, 0, none⟩ (.bool false)).frozen? ⟨fb, 1, none⟩ = false ∧ (w1.setCell ⟨q, 0, none⟩ (.bool false)).cell? ⟨r, 0, none⟩ = some (.pointer (some ⟨fb, 0, none⟩)) ∧
        ∀ w', w' = ((w1.setCell ⟨q, 0, none⟩ (.bool false)).setCell ⟨fb, 1, none⟩ (.int .i64 f.bs.length)).drew → DK w' b { d.set n ⟨f.bs, f.bs.length⟩ with fail := d.fail - 1 } σ ∧ w'.cell? ⟨q, 0, none⟩ = some (.bool false) ∧ Tch (fun i => σ i ≠ none ∨ i = q) w w') := by
      intro w1 t1 h1
      obtain ⟨r1, q1, T1⟩ := HB.out w1 t1
      have q0 : w1.cell? ⟨q, 0, none⟩ = some (.bool false) := by rw [blk_cell q1]; rfl
      have tq : Tch (fun i => i = q) w1 (w1.setCell ⟨q, 0, none⟩ (.bool false)) := Tch.setCell _ _ _ _ rfl
      have h2 := h1.tch tq (fun i _ hi => by rw [hi]; exact nq)
      have hfb := h2.fs _ (getL_mem hg)
      obtain ⟨v, hbk, hown, hlab⟩ := hfb.blk
      simp only at hbk hown hlab
      obtain ⟨ao, cp, hv⟩ := slice_of hown
      subst hv
      refine ⟨ao, cp, by rw [blk_cell hbk]; rfl, by rw [blk_cell hbk]; rfl, blk_frozen hbk 1, (tq.cell (p := ⟨r, 0, none⟩) (cell_lt r1) hrq).trans r1, ?_⟩
      rintro w' rfl
      obtain ⟨w2, hw2⟩ : ∃ w2, w2 = w1.setCell ⟨q, 0, none⟩ (.bool false) := ⟨_, rfl⟩
      rw [← hw2] at h2 hbk hown hfb tq ⊢
      have hbf : b ≠ fb := ne_of_ty h2.blk hbk (by decide)
      have tA : Tch (fun i => i = b ∨ σ i = some fb) w2 (w2.setCell ⟨fb, 1, none⟩ (.int .i64 f.bs.length)).drew := (Tch.setCell (fun i => i = b ∨ σ i = some fb) w2 ⟨fb, 1, none⟩ (.int .i64 f.bs.length) (Or.inr hff)).drew
      have tB : Tch (fun i => i = fb) w2 (w2.setCell ⟨fb, 1, none⟩ (.int .i64 f.bs.length)).drew := (Tch.setCell (fun i => i = fb) w2 ⟨fb, 1, none⟩ (.int .i64 f.bs.length) rfl).drew
      refine ⟨⟨mb, _, h2.setf (d' := { d.set n ⟨f.bs, f.bs.length⟩ with fail := d.fail - 1 }) (f' := ⟨f.bs, f.bs.length⟩) hg tA (fun _ _ => rfl) (fun i hi => Nat.lt_of_lt_of_le (h2.lt i hi) tA.size) ?_ ⟨hff, ⟨.slice ao f.bs.length cp, ?_, ?_, hlab⟩, Nat.le_refl _⟩ rfl rfl ?_ h2.die h2.fail⟩, ?_, ?_⟩
      · show (w2.setCell _ _).heap[b]? = _
        rw [Below.heap_setCell _ _ _ _ hbf, h2.blk]
        have e : (Dsk.used { d.set n ⟨f.bs, f.bs.length⟩ with fail := d.fail - 1 } : Nat) = Dsk.used { d with fail := d.fail - 1 } := by
          have := h2.setu hg ⟨f.bs, f.bs.length⟩
          simp only [Dsk.used] at this
          show sumL lenF (setL n _ d.m) = sumL lenF d.m
          omega
        unfold dcells
        rw [e]
        rfl
      · show (w2.setCell _ _).heap[fb]? = _
        rw [blk_set hbk]
        simp
      · refine ownsRow_tch' hown tB (fun g hgo hs => ?_)
        obtain ⟨cur, hh⟩ := row_blk hown hgo
        exact ne_of_ty hh hbk (by decide) hs
      · have := h2.setu hg ⟨f.bs, f.bs.length⟩
        simp only [Dsk.used] at this
        have h3 := h2.room
        simp only [Dsk.used] at h3
        show sumL lenF (setL n _ d.m) ≤ d.cap
        omega
      · have e1 : w2.cell? ⟨q, 0, none⟩ = some (.bool false) := by rw [hw2]; exact World.cell?_setCell_same _ _ _ q0
        exact (tB.cell (p := ⟨q, 0, none⟩) (cell_lt e1) hqf).trans e1
      · refine ((T1.trans tq (fun i _ hi => Or.inr hi)).trans tB (fun i _ hi => Or.inl ?_))
        rw [hi, hff]; exact fun h => by cases h
    clear hf1 hq hr
    go_enter Tryz.func54, Tryz.ntmps54
    go_wp2_with fail
    refine hn.mono ?_
    rintro x w1 ⟨rfl, h1, t1⟩
    obtain ⟨r1, q1, T1⟩ := HB.out w1 t1
    have q0 : w1.cell? ⟨q, 0, none⟩ = some (.bool false) := by rw [blk_cell q1]; rfl
    have qf := blk_frozen q1 0
    obtain ⟨ao, cp, e0, e1, e2, e3, e4⟩ := HF.out w1 t1 h1
    have E4 : Hid _ := e4
    clear hp e4 r1
    go_wp2
    go_region
    go_end0
    exact ⟨rfl, Or.inr ⟨HE.out, (E4.out _ rfl).1, (E4.out _ rfl).2.1⟩, (E4.out _ rfl).2.2⟩
end Go.Proofs.YtjambfbibeihiaaGreat
/- Sync, Rename. -/
namespace Go.Proofs.YtjambfbibeihiaaGreat
set_option maxRecDepth 100000
open Go.RowKit Go.ChangeMaps

set_option maxHeartbeats 1000000 in
set_option maxRecDepth 100000 in
theorem sync_any (b : Nat) (d : Dsk) (σ : Nat → Option Nat) (nm : ByteArray) (w : World) (h : DK w b d σ) :
    Calls Tryz.prog 16 #[.pointer (some ⟨b, 0, none⟩), .string nm] w fun x w' => x = .returned (.int .i64 (d.sync nm.data.toList).1) ∧ ∃ σ', DK w' b (d.sync nm.data.toList).2 σ' ∧ Stp w σ w' σ' := by
  have t1 : Tch (fun _ => False) w (w.alloc (.cells #[.pointer (some ⟨b, 0, none⟩)] 23)) := Tch.alloc _ _ _
  obtain ⟨w1, hw1⟩ : ∃ w1, w1 = w.alloc (.cells #[.pointer (some ⟨b, 0, none⟩)] 23) := ⟨_, rfl⟩
  have z1 : w1.heap.size = w.heap.size + 1 := by rw [hw1]; simp
  rw [← hw1] at t1
  have p1 : w1.cell? ⟨w.heap.size, 0, none⟩ = some (.pointer (some ⟨b, 0, none⟩)) := by
    rw [hw1, blk_cell (box_one w _)]; rfl
  obtain ⟨mb, gm, hW⟩ := h
  have hW1 := hW.no t1
  have hf := find_any b d σ mb gm nm w1 hW1
  go_enter Tryz.func16, Tryz.ntmps16
  go_wp2_with fail
  rw [← hw1]
  refine hf.mono ?_
  rintro x w2 ⟨hx, hw2⟩
  subst hw2
  clear hw1 hf
  rcases hx with ⟨ha, rfl⟩ | ⟨ha, rfl⟩
  · have HR : Hid (d.sync nm.data.toList = (d.ask nm.data.toList, d)) := by show _ = _; simp [Dsk.sync, ha]
    have hab : (d.ask nm.data.toList != 0) = true := by simpa using ha
    go_wp2
    go_ret
    rw [HR.out]
    have t3 := t1.allocR (.cells #[.pointer none] 73)
    exact ⟨rfl, σ, ⟨mb, gm, hW.no t3⟩, Stp.of_no t3⟩
  · obtain ⟨f, hg, hfd, _, _⟩ := file_of hW ha
    have t3 := (t1.allocR (.cells #[.pointer (some ⟨fbOf gm nm.data.toList, 0, none⟩)] 73)).allocR (.cells #[.bool false] 4)
    obtain ⟨w3, hw3⟩ : ∃ w3, w3 = (w2.alloc (.cells #[.pointer (some ⟨fbOf gm nm.data.toList, 0, none⟩)] 73)).alloc (.cells #[.bool false] 4) := ⟨_, rfl⟩
    rw [← hw3] at t3
    have tn : Tch (fun _ => False) w2 w3 := by rw [hw3]; exact box2_no _ _ _
    have p3 := (tn.cell (p := ⟨w.heap.size, 0, none⟩) (by simp only; omega) (fun h => h)).trans p1
    have r3 : w3.cell? ⟨w.heap.size + 1, 0, none⟩ = some (.pointer (some ⟨fbOf gm nm.data.toList, 0, none⟩)) := by
      have := box_one w2 (.cells #[.pointer (some ⟨fbOf gm nm.data.toList, 0, none⟩)] 73)
      rw [z1] at this
      rw [hw3, World.cell?_alloc_past _ _ _ (by simp; omega), blk_cell this]; rfl
    have q3 : w3.heap[w.heap.size + 1 + 1]? = some (.cells #[.bool false] 4 (0, 0)) := by
      have := box_one (w2.alloc (.cells #[.pointer (some ⟨fbOf gm nm.data.toList, 0, none⟩)] 73)) (.cells #[.bool false] 4)
      simp only [World.size_alloc] at this
      rw [z1] at this
      rw [hw3]; exact this
    have h3 := hW.no t3
    have p4 : ((w2.alloc (.cells #[.pointer (some ⟨fbOf gm nm.data.toList, 0, none⟩)] 73)).alloc (.cells #[.bool false] 4)).cell? ⟨w.heap.size, 0, none⟩ = some (.pointer (some ⟨b, 0, none⟩)) := by rw [← hw3]; exact p3
    have nn : ∀ i, w.heap.size ≤ i → σ i = none := fun i hi => by
      cases hs : σ i with
      | none => rfl
      | some a => have := hW.lt i (by rw [hs]; exact fun h => by cases h); omega
    have hl := hW.bl
    by_cases hd : d.die = 1
    · have HR : Hid (d.sync nm.data.toList = (2, { d with dead := true, die := 0 })) := by show _ = _; simp [Dsk.sync, ha, hd]
      have q0 : w3.cell? ⟨w.heap.size + 1 + 1, 0, none⟩ = some (.bool false) := by rw [blk_cell q3]; rfl
      have HQ : Hid (∀ w4, Tch (fun i => i = b) w3 w4 → w4.cell? ⟨w.heap.size + 1 + 1, 0, none⟩ = some (.bool false)) := fun w4 t => (t.cell (p := ⟨w.heap.size + 1 + 1, 0, none⟩) (blk_lt q3) (by simp only; omega)).trans q0
      clear ha t1 tn p1 hfd p3 r3
      go_wp2_with fail
      rw [← hw3]
      refine (act_dies b d σ _ _ ⟨mb, gm, h3⟩ hd).mono ?_
      rintro x w4 ⟨rfl, h4, t4⟩
      have q4 := HQ.out w4 t4
      clear hw3 z1 q0 q3 p4
      go_wp2
      go_ret
      rw [HR.out]
      exact ⟨rfl, σ, h4, mono_did hW.lb hW.bl (Stp.of_no t3) t4⟩
    · have hs1 := sync1_any b d σ nm.data.toList _ f mb gm w.heap.size (w.heap.size + 1) (w.heap.size + 1 + 1) w3 h3 hg p3 r3 q3 (nn _ (by omega)) (nn _ (by omega)) (by omega)
      by_cases hf1 : d.fail = 1
      · have HR : Hid (d.sync nm.data.toList = (25, { d with fail := 0, die := d.die - 1 })) := by show _ = _; simp [Dsk.sync, ha, hd, hf1]
        have HQ : Hid (∀ w4 w5, w5.cell? ⟨w.heap.size + 1 + 1, 0, none⟩ = some (.bool true) → Tch (fun i => i = b) w5 w4 → w4.cell? ⟨w.heap.size + 1 + 1, 0, none⟩ = some (.bool true)) := fun w4 w5 h t => (t.cell (p := ⟨w.heap.size + 1 + 1, 0, none⟩) (cell_lt h) (by simp only; omega)).trans h
        have ha2 := act_does b d σ 54 #[.pointer (some ⟨w.heap.size, 0, none⟩), .pointer (some ⟨w.heap.size + 1 + 1, 0, none⟩), .pointer (some ⟨w.heap.size + 1, 0, none⟩)] w3
          (fun w' d' σ' => d' = { d with fail := 0 } ∧ w'.cell? ⟨w.heap.size + 1 + 1, 0, none⟩ = some (.bool true) ∧ σ' = σ ∧ Tch (fun i => σ i ≠ none ∨ i = w.heap.size + 1 + 1) w3 w') ⟨mb, gm, h3⟩ hd (enters _ _ _ Tryz.func54 (by kernel_rfl) rfl _ _)
          (hs1.mono fun x w' ⟨hx, hc, ht⟩ => by
            rcases hc with ⟨_, k1, k2⟩ | ⟨k0, _⟩
            · exact ⟨hx, _, σ, k1, rfl, k2, rfl, ht⟩
            · exact absurd hf1 k0)
        clear ha t1 tn p1 hfd hs1 hf1 p3 r3
        go_wp2_with fail
        rw [← hw3]
        refine ha2.mono ?_
        rintro x w4 ⟨rfl, w5, d5, σ5, ⟨rfl, q5, rfl, t5⟩, h4, t4⟩
        have q4 := HQ.out w4 w5 q5 t4
        clear hw3 z1 q3 q5 p4
        go_wp2
        go_ret
        rw [HR.out]
        refine ⟨rfl, σ5, h4, ⟨(t3.mono (fun _ _ h => h.elim)).trans (t5.trans t4 (fun i _ hi => Or.inl ?_)) (fun i hi hs => ?_), fun _ _ => rfl⟩⟩
        · rw [hi, hW.lb]; exact fun h => by cases h
        · rcases hs with hs | hs
          · exact hs
          · omega
      · have HR : Hid (d.sync nm.data.toList = (0, { d.set nm.data.toList ⟨f.bs, f.bs.length⟩ with fail := d.fail - 1, die := d.die - 1 })) := by show _ = _; simp [Dsk.sync, ha, hd, hf1, hfd]
        have HQ : Hid (∀ w4 w5, w5.cell? ⟨w.heap.size + 1 + 1, 0, none⟩ = some (.bool false) → Tch (fun i => i = b) w5 w4 → w4.cell? ⟨w.heap.size + 1 + 1, 0, none⟩ = some (.bool false)) := fun w4 w5 h t => (t.cell (p := ⟨w.heap.size + 1 + 1, 0, none⟩) (cell_lt h) (by simp only; omega)).trans h
        have ha2 := act_does b d σ 54 #[.pointer (some ⟨w.heap.size, 0, none⟩), .pointer (some ⟨w.heap.size + 1 + 1, 0, none⟩), .pointer (some ⟨w.heap.size + 1, 0, none⟩)] w3
          (fun w' d' σ' => d' = { d.set nm.data.toList ⟨f.bs, f.bs.length⟩ with fail := d.fail - 1 } ∧ w'.cell? ⟨w.heap.size + 1 + 1, 0, none⟩ = some (.bool false) ∧ σ' = σ ∧ Tch (fun i => σ i ≠ none ∨ i = w.heap.size + 1 + 1) w3 w') ⟨mb, gm, h3⟩ hd (enters _ _ _ Tryz.func54 (by kernel_rfl) rfl _ _)
          (hs1.mono fun x w' ⟨hx, hc, ht⟩ => by
            rcases hc with ⟨k0, _⟩ | ⟨_, k1, k2⟩
            · exact absurd k0 hf1
            · exact ⟨hx, _, σ, k1, rfl, k2, rfl, ht⟩)
        clear ha t1 tn p1 hfd hs1 hf1 p3 r3
        go_wp2_with fail
        rw [← hw3]
        refine ha2.mono ?_
        rintro x w4 ⟨rfl, w5, d5, σ5, ⟨rfl, q5, rfl, t5⟩, h4, t4⟩
        have q4 := HQ.out w4 w5 q5 t4
        clear hw3 z1 q3 q5 p4
        go_wp2
        go_ret
        rw [HR.out]
        refine ⟨rfl, σ5, h4, ⟨(t3.mono (fun _ _ h => h.elim)).trans (t5.trans t4 (fun i _ hi => Or.inl ?_)) (fun i hi hs => ?_), fun _ _ => rfl⟩⟩
        · rw [hi, hW.lb]; exact fun h => by cases h
        · rcases hs with hs | hs
          · exact hs
          · omega
end Go.Proofs.YtjambfbibeihiaaGreat
/- Rename. -/
namespace Go.Proofs.YtjambfbibeihiaaGreat
set_option maxRecDepth 100000
open Go.RowKit Go.ChangeMaps

theorem owns_max {H : Type} {P : Program} {k : TypeId} {R : Value → Option (DataW H × List MemPlace)} {w : World} {b n : Nat} {D : DataW H} (h : w.ownsMap P k R b n D) : Maps.size D ≤ maxLen := by
  obtain ⟨es, clock, hb, F, _, rfl⟩ := h
  have := F.size
  simpa [Maps.size, length_sorted] using this
theorem length_delL_lt {α : Type} {n : Nm} {a : α} : ∀ {m : List (Nm × α)}, getL n m = some a → (delL n m).length < m.length
  | [], h => by cases h
  | z :: r, h => by
    simp only [getL, List.find?_cons] at h
    by_cases hz : z.1 = n
    · have h1 : delL n (z :: r) = delL n r := by simp [delL, notL, hz]
      rw [h1]
      have := length_delL_le n r
      simp; omega
    · have hb : (z.1 == n) = false := by simpa using hz
      rw [hb] at h
      have ih := length_delL_lt (m := r) h
      have h1 : delL n (z :: r) = z :: delL n r := by
        have : notL n z = true := by simp [notL, hz]
        simp [delL, this]
      rw [h1]; simp; omega
theorem delL_none {α : Type} {n : Nm} {m : List (Nm × α)} (h : getL n m = none) : delL n m = m :=
  List.filter_eq_self.2 (fun p hp => by have := getL_none h p hp; simp [notL, this])

/-- Delete and put: what Rename does behind drop. -/
theorem moved {b : Nat} {d : Dsk} {σ : Nat → Option Nat} {mb : Nat} {gm : List (Nm × (Nat × Fl))} {w : World} (h : DW w b d σ mb gm) {s t : ByteArray} (hs : s.size ≤ maxLen) (ht : t.size ≤ maxLen) {fb : Nat} {f : Fl}
    (hg : getL s.data.toList gm = some (fb, f)) (hn : getL t.data.toList gm = none) :
    ∃ w2, (Builtin.delete_ #[70, 9] 0 #[.map (some mb), .string s]).run Tryz.prog w.drew = .ok (.tuple #[]) w2 ∧ Tch (fun i => i = mb) w w2 ∧
      ∃ w3, (Instr.mapUpdate 70 (.map (some mb)) (.string t) (.pointer (some ⟨fb, 0, none⟩))).run Tryz.prog w2.drew = .ok () w3 ∧
        DK w3 b { d with m := putL t.data.toList f (delL s.data.toList d.m) } σ ∧ Stp w σ w3 σ := by
  have t0 : Tch (fun _ => False) w w.drew := (Tch.refl _ w).drew
  have o0 := ownsMap_tch h.own t0 (fun h => h)
  have hmem := getL_mem hg
  obtain ⟨w2, hrun, o2, hturn⟩ := o0.drop law_str Tryz.underlying70 (WideMaps.keyOf_string_mk Tryz.underlying9 hs) 0
  rw [encD_del] at o2
  have t2 : Tch (fun i => i = mb) w w2 := (t0.mono (fun _ _ h => h.elim)).trans (Tch.of_grown (S := fun i => i = mb) hturn.grown (fun g e => by cases e; rfl)) (fun _ _ h => h)
  refine ⟨w2, hrun, t2, ?_⟩
  have o2' := owns_tight o2
  rw [encD_size] at o2'
  have hlt : (delL s.data.toList gm).length < maxLen := by
    have h1 := length_delL_lt hg
    have h2 := owns_max h.own
    rw [encD_size] at h2
    omega
  have t2d : Tch (fun _ => False) w2 w2.drew := (Tch.refl _ w2).drew
  obtain ⟨w3, hrun3, o3, hturn3⟩ := (ownsMap_tch o2' t2d (fun h => h)).store law_str Tryz.underlying70 hlt (WideMaps.keyOf_string_mk Tryz.underlying9 ht) (ptrElem_some fb)
  rw [show (DataW.lit (.int .i64 (fb : Int)) : DataW Unit) = .lit (.int .i64 ((fb, f).1 : Nat)) from rfl, encD_put] at o3
  have t3 : Tch (fun i => i = mb) w w3 := t2.trans' (((t2d.mono (fun _ _ h => h.elim)).trans (Tch.of_grown (S := fun i => i = mb) hturn3.grown (fun g e => by cases e; rfl)) (fun _ _ h => h)))
  refine ⟨w3, hrun3, ⟨mb, putL t.data.toList (fb, f) (delL s.data.toList gm), ?_⟩, ⟨t3.mono (fun i _ hi => by rw [hi, h.lm]; exact fun h => by cases h), fun _ _ => rfl⟩⟩
  have hA : Apart d.m := by rw [h.m]; exact apart_mapL _ h.apart
  have hu : sumL lenF (putL t.data.toList f (delL s.data.toList d.m)) = d.used := by
    have e1 : getL t.data.toList (delL s.data.toList d.m) = none := by
      by_cases e : t.data.toList = s.data.toList
      · rw [e]; exact getL_delL_same _ _
      · rw [getL_delL_other e, h.get, hn]; rfl
    rw [putL, sumL_insL, sumL_delL_none _ _ e1]
    exact (sumL_delL_some lenF s.data.toList hA (by rw [h.get, hg]; rfl)).symm
  refine ⟨?_, h.lb, h.lm, ?_, ?_, ?_, ?_, ?_, h.cap, h.die, h.fail, fun i hi => Nat.lt_of_lt_of_le (h.lt i hi) t3.size⟩
  · rw [t3.block b h.bl (Ne.symm h.ne), h.blk]
    unfold dcells
    rw [show Dsk.used { d with m := putL t.data.toList f (delL s.data.toList d.m) } = d.used from hu]
  · show putL _ _ (delL _ d.m) = _
    rw [h.m, delL_mapL]; exact putL_mapL (·.2) _ (fb, f) _
  · have := owns_tight o3
    rwa [encD_size] at this
  · have hfs : ∀ p ∈ gm, FB w3 σ p.2.1 p.2.2 := fun p hp => (h.fs p hp).tch t3 (fun i _ hi e => by
      rw [hi, h.lm] at e
      cases e
      obtain ⟨v, hv, _⟩ := (h.fs p hp).blk
      exact ne_of_ty h.blk hv (by decide) rfl) (fun _ _ => rfl)
    intro p hp
    rcases mem_putL.1 hp with rfl | ⟨hp, _⟩
    · exact hfs (s.data.toList, fb, f) hmem
    · exact hfs p (mem_delL.1 hp).1
  · intro p hp q hq e
    rcases mem_putL.1 hp with rfl | ⟨hp, _⟩
    · rcases mem_putL.1 hq with rfl | ⟨hq, _⟩
      · rfl
      · have := h.inj _ (mem_delL.1 hq).1 _ hmem e.symm
        exact absurd this (mem_delL.1 hq).2
    · rcases mem_putL.1 hq with rfl | ⟨hq, _⟩
      · have := h.inj _ (mem_delL.1 hp).1 _ hmem e
        exact absurd this (mem_delL.1 hp).2
      · exact h.inj p (mem_delL.1 hp).1 q (mem_delL.1 hq).1 e
  · show sumL lenF _ ≤ _
    rw [hu]; exact h.room

set_option maxHeartbeats 1000000 in
set_option maxRecDepth 100000 in
theorem rename1_any (b : Nat) (d : Dsk) (σ : Nat → Option Nat) (mb : Nat) (gm : List (Nm × (Nat × Fl))) (s t : ByteArray) (fb : Nat) (f : Fl) (pf pt pd pr : Nat) (w : World) (h : DW w b d σ mb gm) (hs : s.size ≤ maxLen) (ht : t.size ≤ maxLen) (hg : getL s.data.toList gm = some (fb, f))
    (hf : w.cell? ⟨pf, 0, none⟩ = some (.string s)) (hto : w.cell? ⟨pt, 0, none⟩ = some (.string t)) (hd : w.cell? ⟨pd, 0, none⟩ = some (.pointer (some ⟨b, 0, none⟩))) (hr : w.cell? ⟨pr, 0, none⟩ = some (.pointer (some ⟨fb, 0, none⟩)))
    (nf : σ pf = none) (nt : σ pt = none) (nd : σ pd = none) (nr : σ pr = none) :
    Calls Tryz.prog 61 #[.pointer (some ⟨pf, 0, none⟩), .pointer (some ⟨pt, 0, none⟩), .pointer (some ⟨pd, 0, none⟩), .pointer (some ⟨pr, 0, none⟩)] w fun x w' => x = .returned (.tuple #[]) ∧
      ∃ σ', DK w' b (if s.data.toList = t.data.toList then d else { d with m := putL t.data.toList f (delL s.data.toList (delL t.data.toList d.m)) }) σ' ∧ Stp w σ w' σ' := by
  by_cases hst : s = t
  · subst hst
    have HR : Hid (DK w b (if s.data.toList = s.data.toList then d else { d with m := putL s.data.toList f (delL s.data.toList (delL s.data.toList d.m)) }) σ) := by
      show DK _ _ _ _
      rw [if_pos rfl]; exact ⟨mb, gm, h⟩
    go_enter Tryz.func61, Tryz.ntmps61
    go_wp2
    first | go_end0 | refine bodyPost_ret (results_none rfl _ _ _) rfl ?_
    exact ⟨rfl, σ, HR.out, Stp.refl _ _⟩
  · have hne : ¬ s.data.toList = t.data.toList := fun e => hst (ByteArray.ext (Array.toList_inj.1 e))
    rw [if_neg hne]
    have hdr := drop_any b d σ mb gm t w h ht
    have HK : Hid (∀ w1, DW w1 b { d with m := delL t.data.toList d.m } σ mb (delL t.data.toList gm) → Stp w σ w1 σ → w1.cell? ⟨b, 2, none⟩ = some (.map (some mb)) ∧ w1.cell? ⟨pf, 0, none⟩ = some (.string s) ∧ w1.cell? ⟨pt, 0, none⟩ = some (.string t) ∧ w1.cell? ⟨pd, 0, none⟩ = some (.pointer (some ⟨b, 0, none⟩)) ∧ w1.cell? ⟨pr, 0, none⟩ = some (.pointer (some ⟨fb, 0, none⟩)) ∧
        ∃ w2, (Builtin.delete_ #[70, 9] 0 #[.map (some mb), .string s]).run Tryz.prog w1.drew = .ok (.tuple #[]) w2 ∧
          (w2.cell? ⟨b, 2, none⟩ = some (.map (some mb)) ∧ w2.cell? ⟨pt, 0, none⟩ = some (.string t) ∧ w2.cell? ⟨pd, 0, none⟩ = some (.pointer (some ⟨b, 0, none⟩)) ∧ w2.cell? ⟨pr, 0, none⟩ = some (.pointer (some ⟨fb, 0, none⟩))) ∧
          ∃ w3, (Instr.mapUpdate 70 (.map (some mb)) (.string t) (.pointer (some ⟨fb, 0, none⟩))).run Tryz.prog w2.drew = .ok () w3 ∧
            DK w3 b { d with m := putL t.data.toList f (delL s.data.toList (delL t.data.toList d.m)) } σ ∧ Stp w σ w3 σ) := by
      intro w1 h1 s1
      have keep : ∀ i v, σ i = none → w.cell? ⟨i, 0, none⟩ = some v → w1.cell? ⟨i, 0, none⟩ = some v := fun i v hi hv => (s1.tch.cell (p := ⟨i, 0, none⟩) (cell_lt hv) (fun hh => hh hi)).trans hv
      obtain ⟨w2, r2, t2, w3, r3, h3, s3⟩ := moved h1 hs ht (fb := fb) (f := f) (by rw [getL_delL_other hne]; exact hg) (getL_delL_same _ _)
      have keep2 : ∀ i v, σ i = none → w1.cell? ⟨i, 0, none⟩ = some v → w2.cell? ⟨i, 0, none⟩ = some v := fun i v hi hv => (t2.cell (p := ⟨i, 0, none⟩) (cell_lt hv) (fun hh => by simp only at hh; rw [hh, h1.lm] at hi; cases hi)).trans hv
      refine ⟨h1.c2, keep _ _ nf hf, keep _ _ nt hto, keep _ _ nd hd, keep _ _ nr hr, w2, r2, ⟨?_, keep2 _ _ nt (keep _ _ nt hto), keep2 _ _ nd (keep _ _ nd hd), keep2 _ _ nr (keep _ _ nr hr)⟩, w3, r3, h3, s1.trans s3⟩
      exact (t2.cell (p := ⟨b, 2, none⟩) h1.bl (Ne.symm h1.ne)).trans h1.c2
    have hsb : (s.toList == t.toList) = false := by rw [Lib.toList_data, Lib.toList_data]; simpa using hne
    go_enter Tryz.func61, Tryz.ntmps61
    go_wp2_with fail
    refine hdr.mono ?_
    rintro x w1 ⟨rfl, h1, s1⟩
    obtain ⟨a1, a2, a3, a4, a5, w2, r2, ⟨b1, b2, b3, b4⟩, w3, r3, h3, s3⟩ := HK.out w1 h1 s1
    clear hf hto hd hr
    go_wp2
    go_region
    go_wp2
    go_region
    go_end0
    exact ⟨rfl, σ, h3, s3⟩

set_option maxHeartbeats 1000000 in
set_option maxRecDepth 100000 in
theorem rename_any (b : Nat) (d : Dsk) (σ : Nat → Option Nat) (s t : ByteArray) (w : World) (h : DK w b d σ) :
    Calls Tryz.prog 22 #[.pointer (some ⟨b, 0, none⟩), .string s, .string t] w fun x w' => x = .returned (.int .i64 (d.rename s.data.toList t.data.toList).1) ∧ ∃ σ', DK w' b (d.rename s.data.toList t.data.toList).2 σ' ∧ Stp w σ w' σ' := by
  have t1 := box3_no w (.cells #[.pointer (some ⟨b, 0, none⟩)] 23) (.cells #[.string s] 9) (.cells #[.string t] 9)
  obtain ⟨w1, hw1⟩ : ∃ w1, w1 = ((w.alloc (.cells #[.pointer (some ⟨b, 0, none⟩)] 23)).alloc (.cells #[.string s] 9)).alloc (.cells #[.string t] 9) := ⟨_, rfl⟩
  have z1 : w1.heap.size = w.heap.size + 3 := by rw [hw1]; simp
  rw [← hw1] at t1
  have p1 : w1.cell? ⟨w.heap.size, 0, none⟩ = some (.pointer (some ⟨b, 0, none⟩)) := by
    rw [hw1, World.cell?_alloc_past _ _ _ (by simp; omega), World.cell?_alloc_past _ _ _ (by simp)]
    rw [blk_cell (box_one w _)]; rfl
  have f1 : w1.cell? ⟨w.heap.size + 1, 0, none⟩ = some (.string s) := by
    rw [hw1, World.cell?_alloc_past _ _ _ (by simp)]
    have := box_one (w.alloc (.cells #[.pointer (some ⟨b, 0, none⟩)] 23)) (.cells #[.string s] 9)
    simp only [World.size_alloc] at this
    rw [blk_cell this]; rfl
  have g1 : w1.cell? ⟨w.heap.size + 1 + 1, 0, none⟩ = some (.string t) := by
    rw [hw1]
    have := box_one ((w.alloc (.cells #[.pointer (some ⟨b, 0, none⟩)] 23)).alloc (.cells #[.string s] 9)) (.cells #[.string t] 9)
    simp only [World.size_alloc] at this
    rw [blk_cell this]; rfl
  have g2 : w1.cell? ⟨w.heap.size + 2, 0, none⟩ = some (.string t) := g1
  obtain ⟨mb, gm, hW⟩ := h
  have hW1 := hW.no t1
  have hi := isName_any t w1
  have hf := find_any b d σ mb gm s w1 hW1
  cases ho : okN t.data.toList
  · rw [ho] at hi
    have HR : Hid (d.rename s.data.toList t.data.toList = (20, d)) := by show _ = _; simp [Dsk.rename, ho]
    go_enter Tryz.func22, Tryz.ntmps22
    go_wp2_with fail
    rw [← hw1]
    refine hi.mono ?_
    rintro x w2 ⟨rfl, hw2⟩
    subst hw2
    clear hw1
    go_wp2
    go_ret
    rw [HR.out]
    exact ⟨rfl, σ, ⟨mb, gm, hW1⟩, Stp.of_no t1⟩
  · rw [ho] at hi
    have htz : t.size ≤ maxLen := by have := okN_size ho; unfold maxLen; omega
    go_enter Tryz.func22, Tryz.ntmps22
    go_wp2_with fail
    rw [← hw1]
    refine hi.mono ?_
    rintro x w2 ⟨rfl, hw2⟩
    subst hw2
    clear hw1
    go_wp2_with fail
    refine hf.mono ?_
    rintro x w2 ⟨hx, hw2⟩
    subst hw2
    clear hf
    rcases hx with ⟨ha, rfl⟩ | ⟨ha, rfl⟩
    · have HR : Hid (d.rename s.data.toList t.data.toList = (d.ask s.data.toList, d)) := by show _ = _; simp [Dsk.rename, ho, ha]
      have hab : (d.ask s.data.toList != 0) = true := by simpa using ha
      go_wp2
      go_ret
      rw [HR.out]
      have t3 := t1.allocR (.cells #[.pointer none] 73)
      exact ⟨rfl, σ, ⟨mb, gm, hW.no t3⟩, Stp.of_no t3⟩
    · obtain ⟨f, hg, hfd, _, _⟩ := file_of hW ha
      have hsz := ask_size ha
      have t3 := t1.allocR (.cells #[.pointer (some ⟨fbOf gm s.data.toList, 0, none⟩)] 73)
      obtain ⟨w3, hw3⟩ : ∃ w3, w3 = w2.alloc (.cells #[.pointer (some ⟨fbOf gm s.data.toList, 0, none⟩)] 73) := ⟨_, rfl⟩
      rw [← hw3] at t3
      have tn : Tch (fun _ => False) w2 w3 := by rw [hw3]; exact Tch.alloc _ _ _
      have p3 := (tn.cell (p := ⟨w.heap.size, 0, none⟩) (by simp only; omega) (fun h => h)).trans p1
      have f3 := (tn.cell (p := ⟨w.heap.size + 1, 0, none⟩) (by simp only; omega) (fun h => h)).trans f1
      have g3 := (tn.cell (p := ⟨w.heap.size + 2, 0, none⟩) (by simp only; omega) (fun h => h)).trans g2
      have r3 : w3.cell? ⟨w.heap.size + 3, 0, none⟩ = some (.pointer (some ⟨fbOf gm s.data.toList, 0, none⟩)) := by
        have := box_one w2 (.cells #[.pointer (some ⟨fbOf gm s.data.toList, 0, none⟩)] 73)
        rw [z1] at this
        rw [hw3, blk_cell this]; rfl
      have h3 := hW.no t3
      have p4 : (w2.alloc (.cells #[.pointer (some ⟨fbOf gm s.data.toList, 0, none⟩)] 73)).cell? ⟨w.heap.size, 0, none⟩ = some (.pointer (some ⟨b, 0, none⟩)) := by rw [← hw3]; exact p3
      have nn : ∀ i, w.heap.size ≤ i → σ i = none := fun i hi => by
        cases hs : σ i with
        | none => rfl
        | some a => have := hW.lt i (by rw [hs]; exact fun h => by cases h); omega
      by_cases hd : d.die = 1
      · have HR : Hid (d.rename s.data.toList t.data.toList = (2, { d with dead := true, die := 0 })) := by show _ = _; simp [Dsk.rename, ho, ha, Dsk.act, hd]
        clear ha t1 tn p1 hfd f1 g1 g2
        go_wp2_with fail
        rw [← hw3]
        refine (act_dies b d σ _ _ ⟨mb, gm, h3⟩ hd).mono ?_
        rintro x w4 ⟨rfl, h4, t4⟩
        go_wp2
        go_ret
        rw [HR.out]
        exact ⟨rfl, σ, h4, mono_did hW.lb hW.bl (Stp.of_no t3) t4⟩
      · have hr1 := rename1_any b d σ mb gm s t (fbOf gm s.data.toList) f (w.heap.size + 1) (w.heap.size + 2) w.heap.size (w.heap.size + 3) w3 h3 hsz htz hg f3 g3 p3 r3 (nn _ (by omega)) (nn _ (by omega)) (nn _ (by omega)) (nn _ (by omega))
        obtain ⟨d1, hd1⟩ : ∃ d1, d1 = if s.data.toList = t.data.toList then d else { d with m := putL t.data.toList f (delL s.data.toList (delL t.data.toList d.m)) } := ⟨_, rfl⟩
        have HR : Hid (d.rename s.data.toList t.data.toList = (0, { d1 with die := d1.die - 1 })) := by
          show _ = _
          simp only [Dsk.rename, ho, ha, Dsk.act, hd, hfd, hd1]
          by_cases e : s.data.toList = t.data.toList
          · simp [e]
          · simp [e]
        rw [← hd1] at hr1
        have ha2 := act_does b d σ 61 #[.pointer (some ⟨w.heap.size + 1, 0, none⟩), .pointer (some ⟨w.heap.size + 2, 0, none⟩), .pointer (some ⟨w.heap.size, 0, none⟩), .pointer (some ⟨w.heap.size + 3, 0, none⟩)] w3
          (fun w' d' σ' => d' = d1 ∧ Stp w3 σ w' σ') ⟨mb, gm, h3⟩ hd (enters _ _ _ Tryz.func61 (by kernel_rfl) rfl _ _)
          (hr1.mono fun x w' ⟨hx, σ', k1, k2⟩ => ⟨hx, _, σ', k1, rfl, k2⟩)
        clear ha t1 tn p1 hfd f1 g1 g2 hr1 hd1
        go_wp2_with fail
        rw [← hw3]
        refine ha2.mono ?_
        rintro x w4 ⟨rfl, w5, d5, σ5, ⟨rfl, h5⟩, h4, t4⟩
        go_wp2
        go_ret
        rw [HR.out]
        exact ⟨rfl, σ5, h4, mono_did hW.lb hW.bl ((Stp.of_no t3).trans h5) t4⟩
end Go.Proofs.YtjambfbibeihiaaGreat
