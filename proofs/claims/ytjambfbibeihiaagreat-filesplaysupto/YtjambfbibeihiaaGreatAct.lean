import Derived.Test.YtjambfbibeihiaaGreatFind
/- The act; what counts it; Arm and FailSync. -/
namespace Go.Proofs.YtjambfbibeihiaaGreat
set_option maxRecDepth 100000
open Go.RowKit Go.ChangeMaps

/-- The disk's own cells are turned, its files are not. -/
theorem DW.own1 {w w' : World} {b : Nat} {d d' : Dsk} {σ : Nat → Option Nat} {mb : Nat} {gm : List (Nm × (Nat × Fl))} (h : DW w b d σ mb gm) (t : Tch (fun i => i = b) w w')
    (hb : w'.heap[b]? = some (.cells (dcells d' mb) 72 (0, 0))) (hm : d'.m = d.m) (hc : d'.cap = d.cap) (h1 : d'.die ≤ 9223372036854775807) (h2 : d'.fail ≤ 9223372036854775807) : DW w' b d' σ mb gm := by
  have hu : d'.used = d.used := by unfold Dsk.used; rw [hm]
  refine ⟨hb, h.lb, h.lm, hm.trans h.m, ownsMap_tch h.own t h.ne, fun p hp => ?_, h.inj, by rw [hu, hc]; exact h.room, by rw [hc]; exact h.cap, h1, h2, fun i hi => Nat.lt_of_lt_of_le (h.lt i hi) t.size⟩
  refine (h.fs p hp).tch t (fun i _ hi => ?_) (fun _ _ => rfl)
  subst hi
  rw [h.lb]
  intro e
  obtain ⟨v, hv, _⟩ := (h.fs p hp).blk
  cases e
  rw [h.blk] at hv
  simp only [Option.some.injEq, Obj.cells.injEq] at hv
  exact absurd hv.2.1 (by decide)
theorem one_stp {w w' : World} {b : Nat} {d : Dsk} {σ : Nat → Option Nat} {mb : Nat} {gm : List (Nm × (Nat × Fl))} (h : DW w b d σ mb gm) (t : Tch (fun i => i = b) w w') : Stp w σ w' σ :=
  ⟨t.mono (fun i _ hi => by rw [hi, h.lb]; exact fun h => by cases h), fun _ _ => rfl⟩
theorem DK.b {w : World} {b : Nat} {d : Dsk} {σ : Nat → Option Nat} (h : DK w b d σ) : σ b = some b := by obtain ⟨_, _, h⟩ := h; exact h.lb
theorem DK.bl {w : World} {b : Nat} {d : Dsk} {σ : Nat → Option Nat} (h : DK w b d σ) : b < w.heap.size := by obtain ⟨_, _, h⟩ := h; exact h.bl
theorem DK.lt {w : World} {b : Nat} {d : Dsk} {σ : Nat → Option Nat} (h : DK w b d σ) : ∀ i, σ i ≠ none → i < w.heap.size := by obtain ⟨_, _, h⟩ := h; exact h.lt

theorem count_any (b : Nat) (d : Dsk) (σ : Nat → Option Nat) (u : FrameMode) (w : World) (h : DK w b d σ) :
    CallsD Tryz.prog 74 #[.pointer (some ⟨b, 0, none⟩)] u w fun e u' w' => u' = u ∧ (e = .returned (.tuple #[]) ∧ DK w' b { d with die := d.die - 1 } σ ∧ Tch (fun i => i = b) w w') := by
  obtain ⟨mb, gm, h⟩ := h
  have c4 := h.c4
  have f4 := h.fz 4
  have hb1 := h.die
  by_cases hd : (0 : Int) < d.die
  · have HR : Hid (∀ w', w' = w.setCell ⟨b, 4, none⟩ (.int .i64 ((d.die : Int) - 1)) → DK w' b { d with die := d.die - 1 } σ ∧ Tch (fun i => i = b) w w') := by
      rintro w' rfl
      have t := Tch.setCell (fun i => i = b) w ⟨b, 4, none⟩ (.int .i64 ((d.die : Int) - 1)) rfl
      refine ⟨⟨mb, gm, h.own1 t ?_ rfl rfl (by simp; omega) h.fail⟩, t⟩
      rw [blk_set h.blk]
      have e : ((d.die - 1 : Nat) : Int) = (d.die : Int) - 1 := by omega
      simp [dcells, e, Dsk.used]
    go_enter_d Tryz.func74, Tryz.ntmps74
    go_wp2
    go_end0
    exact ⟨rfl, HR.out _ rfl⟩
  · have e : d.die = 0 := by omega
    have HR : Hid (∀ k, k = 0 → DK w b { d with die := k } σ) := by
      rintro k rfl
      refine ⟨mb, gm, ?_⟩
      have hh := h
      obtain ⟨cap, m, dead, die, fail⟩ := d
      simp only at e
      subst e
      exact hh
    go_enter_d Tryz.func74, Tryz.ntmps74
    go_wp2
    go_end0
    exact ⟨rfl, HR.out _ (by omega), Tch.refl _ _⟩

/-- The act in which the disk dies. -/
theorem act_dies (b : Nat) (d : Dsk) (σ : Nat → Option Nat) (v : Value) (w : World) (h : DK w b d σ) (hd : d.die = 1) :
    Calls Tryz.prog 48 #[.pointer (some ⟨b, 0, none⟩), v] w fun x w' => x = .returned (.int .i64 2) ∧ DK w' b { d with dead := true, die := 0 } σ ∧ Tch (fun i => i = b) w w' := by
  obtain ⟨mb, gm, h⟩ := h
  have c4 := h.c4
  have c3 := h.c3
  have f3 := h.fz 3
  rw [hd] at c4
  have hc4 : w.cell? ⟨b, 4, none⟩ = some (.int .i64 1) := c4
  have HR : Hid (∀ w', w' = w.setCell ⟨b, 3, none⟩ (.bool true) → DK w' b { d with dead := true } σ ∧ Tch (fun i => i = b) w w') := by
    rintro w' rfl
    have t := Tch.setCell (fun i => i = b) w ⟨b, 3, none⟩ (.bool true) rfl
    refine ⟨⟨mb, gm, h.own1 t ?_ rfl rfl h.die h.fail⟩, t⟩
    rw [blk_set h.blk]
    simp [dcells, Dsk.used]
  clear c4
  go_enter_defers Tryz.func48, Tryz.ntmps48
  go_wp2
  obtain ⟨h1, t1⟩ := HR.out _ rfl
  refine leaves_cons (f := 74) (args := #[.pointer (some ⟨b, 0, none⟩)]) (by simp) (by simp [go_sem]) ?_
  refine (count_any b _ σ .returning _ h1).mono ?_
  rintro e u' w'' ⟨rfl, rfl, h2, t2⟩
  refine ⟨_, results_tmp rfl _ _ _, rfl, ?_, t1.trans' t2⟩
  simpa [hd] using h2

/-- The act, of whatever is done in it. -/
theorem act_does (b : Nat) (d : Dsk) (σ : Nat → Option Nat) (fn : Nat) (caps : Array Value) (w : World) (R : World → Dsk → (Nat → Option Nat) → Prop) (h : DK w b d σ) (hd : d.die ≠ 1) (hfn : (callFunc fn caps).run Tryz.prog w = .ok (.enter fn caps) w)
    (hdo : Calls Tryz.prog fn caps w fun x w1 => x = .returned (.tuple #[]) ∧ ∃ d1 σ1, DK w1 b d1 σ1 ∧ R w1 d1 σ1) :
    Calls Tryz.prog 48 #[.pointer (some ⟨b, 0, none⟩), .func (.func fn) #[] caps] w fun x w' => x = .returned (.int .i64 0) ∧ ∃ w1 d1 σ1, R w1 d1 σ1 ∧ DK w' b { d1 with die := d1.die - 1 } σ1 ∧ Tch (fun i => i = b) w1 w' := by
  obtain ⟨mb, gm, h⟩ := h
  have c4 := h.c4
  have hd' : ¬ (d.die : Int) = 1 := by omega
  go_enter_defers Tryz.func48, Tryz.ntmps48
  go_wp2_with fail
  refine hdo.mono ?_
  rintro x w1 ⟨rfl, d1, σ1, h1, r1⟩
  go_wp2
  refine leaves_cons (f := 74) (args := #[.pointer (some ⟨b, 0, none⟩)]) (by simp) (by simp [go_sem]) ?_
  refine (count_any b _ σ1 .returning _ h1).mono ?_
  rintro e u' w'' ⟨rfl, rfl, h2, t2⟩
  exact ⟨_, results_tmp rfl _ _ _, rfl, w1, d1, σ1, r1, h2, t2⟩

theorem schedule_dies (b : Nat) (d : Dsk) (σ : Nat → Option Nat) (k : Int) (w : World) (h : DK w b d σ) (hk : k ≤ 9223372036854775807) :
    Calls Tryz.prog 24 #[.pointer (some ⟨b, 0, none⟩), .int .i64 k] w fun x w' => x = .returned (.int .i64 (d.arm k).1) ∧ DK w' b (d.arm k).2 σ ∧ Tch (fun i => i = b) w w' := by
  obtain ⟨mb, gm, h⟩ := h
  have c3 := h.c3
  have c4 := h.c4
  have f4 := h.fz 4
  by_cases h0 : k < 0
  · have HR : Hid (d.arm k = (1, d)) := by show _ = _; simp [Dsk.arm, h0]
    go_enter Tryz.func24, Tryz.ntmps24
    go_wp2
    go_ret
    rw [HR.out]
    exact ⟨rfl, ⟨mb, gm, h⟩, Tch.refl _ _⟩
  · cases hd : d.dead
    · rw [hd] at c3
      have HR : Hid (d.arm k = (0, { d with die := k.toNat })) := by show _ = _; simp [Dsk.arm, h0, hd]
      have HS : Hid (∀ w', w' = w.setCell ⟨b, 4, none⟩ (.int .i64 k) → DK w' b { d with die := k.toNat } σ ∧ Tch (fun i => i = b) w w') := by
        rintro w' rfl
        have t := Tch.setCell (fun i => i = b) w ⟨b, 4, none⟩ (.int .i64 k) rfl
        refine ⟨⟨mb, gm, h.own1 t ?_ rfl rfl (by simp; omega) h.fail⟩, t⟩
        rw [blk_set h.blk]
        have e : ((k.toNat : Nat) : Int) = k := by omega
        simp [dcells, e, Dsk.used]
      go_enter Tryz.func24, Tryz.ntmps24
      go_wp2
      go_ret
      rw [HR.out]
      exact ⟨rfl, HS.out _ rfl⟩
    · rw [hd] at c3
      have HR : Hid (d.arm k = (2, d)) := by show _ = _; simp [Dsk.arm, h0, hd]
      go_enter Tryz.func24, Tryz.ntmps24
      go_wp2
      go_ret
      rw [HR.out]
      exact ⟨rfl, ⟨mb, gm, h⟩, Tch.refl _ _⟩

theorem schedule_fails (b : Nat) (d : Dsk) (σ : Nat → Option Nat) (k : Int) (w : World) (h : DK w b d σ) (hk : k ≤ 9223372036854775807) :
    Calls Tryz.prog 26 #[.pointer (some ⟨b, 0, none⟩), .int .i64 k] w fun x w' => x = .returned (.int .i64 (d.failSync k).1) ∧ DK w' b (d.failSync k).2 σ ∧ Tch (fun i => i = b) w w' := by
  obtain ⟨mb, gm, h⟩ := h
  have c3 := h.c3
  have c5 := h.c5
  have f5 := h.fz 5
  by_cases h0 : k < 0
  · have HR : Hid (d.failSync k = (1, d)) := by show _ = _; simp [Dsk.failSync, h0]
    go_enter Tryz.func26, Tryz.ntmps26
    go_wp2
    go_ret
    rw [HR.out]
    exact ⟨rfl, ⟨mb, gm, h⟩, Tch.refl _ _⟩
  · cases hd : d.dead
    · rw [hd] at c3
      have HR : Hid (d.failSync k = (0, { d with fail := k.toNat })) := by show _ = _; simp [Dsk.failSync, h0, hd]
      have HS : Hid (∀ w', w' = w.setCell ⟨b, 5, none⟩ (.int .i64 k) → DK w' b { d with fail := k.toNat } σ ∧ Tch (fun i => i = b) w w') := by
        rintro w' rfl
        have t := Tch.setCell (fun i => i = b) w ⟨b, 5, none⟩ (.int .i64 k) rfl
        refine ⟨⟨mb, gm, h.own1 t ?_ rfl rfl h.die (by simp; omega)⟩, t⟩
        rw [blk_set h.blk]
        have e : ((k.toNat : Nat) : Int) = k := by omega
        simp [dcells, e, Dsk.used]
      go_enter Tryz.func26, Tryz.ntmps26
      go_wp2
      go_ret
      rw [HR.out]
      exact ⟨rfl, HS.out _ rfl⟩
    · rw [hd] at c3
      have HR : Hid (d.failSync k = (2, d)) := by show _ = _; simp [Dsk.failSync, h0, hd]
      go_enter Tryz.func26, Tryz.ntmps26
      go_wp2
      go_ret
      rw [HR.out]
      exact ⟨rfl, ⟨mb, gm, h⟩, Tch.refl _ _⟩
end Go.Proofs.YtjambfbibeihiaaGreat
