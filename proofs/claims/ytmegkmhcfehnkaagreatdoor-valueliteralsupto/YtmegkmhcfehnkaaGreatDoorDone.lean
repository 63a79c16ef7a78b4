import Derived.Test.YtmegkmhcfehnkaaGreatDoorBase
/- codeOf. -/
namespace Go.Proofs.YtmegkmhcfehnkaaGreatDoor
open Go.RowKit

theorem codeOf_nil (w : World) :
    Calls Tryz.prog 40 #[.nilIface] w fun e w' => e = .returned (.int .i64 0) ∧ Below w.heap.size w w' := by
  go_enter Tryz.func40, Tryz.ntmps40
  go_wp2_with (go_at_call 53; refine (as_nil _ _).mono ?_; rintro e w' ⟨rfl, rfl⟩)
  go_ret
  exact ⟨rfl, (Below.refl _ _).alloc (Nat.le_refl _) _⟩

set_option maxHeartbeats 1000000 in
theorem codeOf_hit (c : Int) (w : World) (hg : HE w) :
    Calls Tryz.prog 40 #[.iface 80 (.agg #[.int .i64 c])] w fun e w' => e = .returned (.int .i64 c) ∧ Below w.heap.size w w' := by
  have hg1 : ∀ o, (w.alloc o).cell? ⟨1, 0, none⟩ = some (.iface 122 (.agg #[.pointer (some ⟨8, 61, none⟩)])) := by
    intro o
    rw [World.cell?_alloc_lt _ _ ⟨1, 0, none⟩ (cell_lt hg)]; exact hg
  go_enter Tryz.func40, Tryz.ntmps40
  go_wp2_with (go_at_call 53; refine (as_hit c 0 _ _ (hg1 _) (by simp) (by simp)).mono ?_; rintro e w' ⟨rfl, rfl⟩)
  go_ret
  exact ⟨rfl, (((((Below.refl _ _).alloc (Nat.le_refl _) _).alloc (by simp) _).alloc (by simp; omega) _).alloc (by simp; omega) _).alloc (by simp; omega) _⟩

theorem codeOf_any (c : Int) (w : World) (hg : HE w) :
    Calls Tryz.prog 40 #[errV c] w fun e w' => e = .returned (.int .i64 c) ∧ Below w.heap.size w w' := by
  by_cases h : c = 0
  · subst h; exact codeOf_nil w
  · rw [errV_ne h]; exact codeOf_hit c w hg

/-- A Reader at block b: what is left, how many were taken, what was wrong. -/
structure RS (w : World) (b : Nat) (r : ByteArray) (k : Int) (e : Int) : Prop where
  c0 : w.cell? ⟨b, 0, none⟩ = some (.string r)
  c1 : w.cell? ⟨b, 1, none⟩ = some (.int .i64 k)
  c2 : w.cell? ⟨b, 2, none⟩ = some (errV e)
  f0 : w.frozen? ⟨b, 0, none⟩ = false
  f1 : w.frozen? ⟨b, 1, none⟩ = false
  f2 : w.frozen? ⟨b, 2, none⟩ = false
theorem RS.tch {S : Nat → Prop} {w w' : World} {b : Nat} {r : ByteArray} {k e : Int} (h : RS w b r k e) (t : Tch S w w') (hb : ¬ S b) : RS w' b r k e := by
  have hl : b < w.heap.size := cell_lt h.c0
  exact ⟨(t.cell (p := ⟨b, 0, none⟩) hl hb).trans h.c0, (t.cell (p := ⟨b, 1, none⟩) hl hb).trans h.c1, (t.cell (p := ⟨b, 2, none⟩) hl hb).trans h.c2,
    (t.frozen (p := ⟨b, 0, none⟩) hl hb).trans h.f0, (t.frozen (p := ⟨b, 1, none⟩) hl hb).trans h.f1, (t.frozen (p := ⟨b, 2, none⟩) hl hb).trans h.f2⟩

theorem RS.set2 {w : World} {b : Nat} {r : ByteArray} {k c : Int} (h : RS w b r k 0) (hc : c ≠ 0) : RS (w.setCell ⟨b, 2, none⟩ (.iface 80 (.agg #[.int .i64 c]))) b r k c := by
  refine ⟨?_, ?_, ?_, by simpa using h.f0, by simpa using h.f1, by simpa using h.f2⟩
  · rw [World.cell?_setCell_other (h := by simp)]; exact h.c0
  · rw [World.cell?_setCell_other (h := by simp)]; exact h.c1
  · rw [World.cell?_setCell_same (h := h.c2), errV_ne hc]
theorem RS.set01 {w : World} {b : Nat} {r : ByteArray} {k e : Int} (h : RS w b r k e) (r' : ByteArray) (k' : Int) : RS ((w.setCell ⟨b, 0, none⟩ (.string r')).setCell ⟨b, 1, none⟩ (.int .i64 k')) b r' k' e := by
  refine ⟨?_, ?_, ?_, by simpa using h.f0, by simpa using h.f1, by simpa using h.f2⟩
  · rw [World.cell?_setCell_other (h := by simp), World.cell?_setCell_same (h := h.c0)]
  · have h1 : (w.setCell ⟨b, 0, none⟩ (.string r')).cell? ⟨b, 1, none⟩ = some (.int .i64 k) := by
      rw [World.cell?_setCell_other (h := by simp)]; exact h.c1
    rw [World.cell?_setCell_same (h := h1)]
  · rw [World.cell?_setCell_other (h := by simp), World.cell?_setCell_other (h := by simp)]; exact h.c2

theorem rfail_any (b : Nat) (r : ByteArray) (k c : Int) (w : World) (h : RS w b r k 0) (hc : c ≠ 0) :
    Calls Tryz.prog 41 #[.pointer (some ⟨b, 0, none⟩), .int .i64 c] w fun x w' => x = .returned (.tuple #[]) ∧ RS w' b r k c ∧ Tch (fun i => i = b) w w' := by
  have c2 := h.c2; have f2 := h.f2; rw [errV_zero] at c2
  go_enter Tryz.func41, Tryz.ntmps41
  go_wp2
  go_end0
  exact ⟨rfl, h.set2 hc, Tch.setCell _ _ _ _ rfl⟩

theorem skip_any (b : Nat) (r : ByteArray) (k n : Nat) (e : Int) (w : World) (h : RS w b r k e) (hn : n ≤ r.size) (hk : k + n ≤ 9223372036854775807) :
    Calls Tryz.prog 42 #[.pointer (some ⟨b, 0, none⟩), .int .i64 n] w fun x w' => x = .returned (.tuple #[]) ∧ RS w' b (r.extract n r.size) ((k + n : Nat) : Int) e ∧ Tch (fun i => i = b) w w' := by
  have c0 := h.c0; have c1 := h.c1; have f0 := h.f0; have f1 := h.f1
  go_enter Tryz.func42, Tryz.ntmps42
  go_wp2
  go_end0
  exact ⟨rfl, h.set01 _ _, Tch.trans' (Tch.setCell _ w ⟨b, 0, none⟩ _ rfl) (Tch.setCell _ _ ⟨b, 1, none⟩ _ rfl)⟩

theorem rdone_wrong (b : Nat) (r : ByteArray) (k e : Int) (w : World) (h : RS w b r k e) (hg : HE w) (he : e ≠ 0) :
    Calls Tryz.prog 27 #[.pointer (some ⟨b, 0, none⟩)] w fun x w' => x = .returned (.tuple #[.int .i64 e, .int .i64 k]) ∧ Tch (fun _ => False) w w' := by
  have c0 := h.c0; have c1 := h.c1; have c2 := h.c2
  have hl : b < w.heap.size := cell_lt h.c0
  have hn : (e != 0) = true := by simpa using he
  go_enter Tryz.func27, Tryz.ntmps27
  go_wp2_with (go_at_call 40; go_must (refine (codeOf_any e _ hg).mono ?_); rintro x w1 ⟨rfl, hb⟩; have d1 := (hb.cell (p := ⟨b, 1, none⟩) hl).trans c1; clear c0 c1 c2)
  go_quiet (fail)
  go_wp2
  go_ret2
  exact ⟨rfl, (Tch.of_below hb (Nat.le_refl _)).drewN _⟩
theorem rdone_more (b : Nat) (r : ByteArray) (k : Int) (w : World) (h : RS w b r k 0) (hg : HE w) (hr : 0 < r.size) :
    Calls Tryz.prog 27 #[.pointer (some ⟨b, 0, none⟩)] w fun x w' => x = .returned (.tuple #[.int .i64 13, .int .i64 k]) ∧ Tch (fun _ => False) w w' := by
  have c0 := h.c0; have c1 := h.c1; have c2 := h.c2
  have hl : b < w.heap.size := cell_lt h.c0
  have hne := nonempty_of_size hr
  go_enter Tryz.func27, Tryz.ntmps27
  go_wp2_with (go_at_call 40; go_must (refine (codeOf_any 0 _ hg).mono ?_); rintro x w1 ⟨rfl, hb⟩; have d1 := (hb.cell (p := ⟨b, 1, none⟩) hl).trans c1; have d0 := (hb.cell (p := ⟨b, 0, none⟩) hl).trans c0; clear c0 c1 c2)
  go_quiet (fail)
  go_wp2
  go_ret2
  exact ⟨rfl, (Tch.of_below hb (Nat.le_refl _)).drewN _⟩
theorem rdone_ok (b : Nat) (r : ByteArray) (k : Int) (w : World) (h : RS w b r k 0) (hg : HE w) (hr : r.size = 0) :
    Calls Tryz.prog 27 #[.pointer (some ⟨b, 0, none⟩)] w fun x w' => x = .returned (.tuple #[.int .i64 0, .int .i64 k]) ∧ Tch (fun _ => False) w w' := by
  have c0 := h.c0; have c1 := h.c1; have c2 := h.c2
  have hl : b < w.heap.size := cell_lt h.c0
  have he := empty_of_size hr
  go_enter Tryz.func27, Tryz.ntmps27
  go_wp2_with (go_at_call 40; go_must (refine (codeOf_any 0 _ hg).mono ?_); rintro x w1 ⟨rfl, hb⟩; have d1 := (hb.cell (p := ⟨b, 1, none⟩) hl).trans c1; have d0 := (hb.cell (p := ⟨b, 0, none⟩) hl).trans c0; clear c0 c1 c2)
  go_quiet (fail)
  go_wp2
  go_ret2
  exact ⟨rfl, (Tch.of_below hb (Nat.le_refl _)).drewN _⟩

/-- What Done of a Reader tells. -/
def doneE (e : Int) (left : Nat) : Int := if e = 0 then (if left = 0 then 0 else 13) else e
theorem rdone_any (b : Nat) (r : ByteArray) (k e : Int) (w : World) (h : RS w b r k e) (hg : HE w) :
    Calls Tryz.prog 27 #[.pointer (some ⟨b, 0, none⟩)] w fun x w' => x = .returned (.tuple #[.int .i64 (doneE e r.size), .int .i64 k]) ∧ Tch (fun _ => False) w w' := by
  by_cases he : e = 0
  · subst he
    by_cases hr : r.size = 0
    · have := rdone_ok b r k w h hg hr
      simpa [doneE, hr] using this
    · have := rdone_more b r k w h hg (by omega)
      simpa [doneE, hr] using this
  · have := rdone_wrong b r k e w h hg he
    simpa [doneE, he] using this
end Go.Proofs.YtmegkmhcfehnkaaGreatDoor
