import Derived.Test.YtjambfbibeihiaaGreatAsk
/- A disk's calls that only read: refuse, find, Free, Dead, Pending, Size. -/
namespace Go.Proofs.YtjambfbibeihiaaGreat
set_option maxRecDepth 100000
open Go.RowKit Go.ChangeMaps

section
variable {w : World} {b : Nat} {d : Dsk} {σ : Nat → Option Nat} {mb : Nat} {gm : List (Nm × (Nat × Fl))}
theorem DW.c0 (h : DW w b d σ mb gm) : w.cell? ⟨b, 0, none⟩ = some (.int .i64 d.cap) := by rw [blk_cell h.blk]; rfl
theorem DW.c1 (h : DW w b d σ mb gm) : w.cell? ⟨b, 1, none⟩ = some (.int .i64 d.used) := by rw [blk_cell h.blk]; rfl
theorem DW.c2 (h : DW w b d σ mb gm) : w.cell? ⟨b, 2, none⟩ = some (.map (some mb)) := by rw [blk_cell h.blk]; rfl
theorem DW.c3 (h : DW w b d σ mb gm) : w.cell? ⟨b, 3, none⟩ = some (.bool d.dead) := by rw [blk_cell h.blk]; rfl
theorem DW.c4 (h : DW w b d σ mb gm) : w.cell? ⟨b, 4, none⟩ = some (.int .i64 d.die) := by rw [blk_cell h.blk]; rfl
theorem DW.c5 (h : DW w b d σ mb gm) : w.cell? ⟨b, 5, none⟩ = some (.int .i64 d.fail) := by rw [blk_cell h.blk]; rfl
theorem DW.fz (h : DW w b d σ mb gm) (i : Nat) : w.frozen? ⟨b, i, none⟩ = false := blk_frozen h.blk i
end

theorem free_any (b : Nat) (d : Dsk) (σ : Nat → Option Nat) (w : World) (h : DK w b d σ) :
    Calls Tryz.prog 40 #[.pointer (some ⟨b, 0, none⟩)] w fun x w' => x = .returned (.int .i64 ((d.cap : Int) - d.used)) ∧ w' = w.drew := by
  obtain ⟨mb, gm, h⟩ := h
  have c0 := h.c0; have c1 := h.c1
  have hr := h.room; have hc := h.cap
  go_enter Tryz.func40, Tryz.ntmps40
  go_wp2
  go_region
  go_wp2
  go_ret
  exact ⟨rfl, rfl⟩

theorem dead_any (b : Nat) (d : Dsk) (σ : Nat → Option Nat) (w : World) (h : DK w b d σ) :
    Calls Tryz.prog 68 #[.pointer (some ⟨b, 0, none⟩)] w fun x w' => x = .returned (.bool d.dead) ∧ w' = w := by
  obtain ⟨mb, gm, h⟩ := h
  have c3 := h.c3
  go_enter Tryz.func68, Tryz.ntmps68
  go_wp2
  go_ret
  exact ⟨rfl, rfl⟩

theorem refuse_any (b : Nat) (d : Dsk) (σ : Nat → Option Nat) (s : ByteArray) (w : World) (h : DK w b d σ) :
    Calls Tryz.prog 47 #[.pointer (some ⟨b, 0, none⟩), .string s] w fun x w' => x = .returned (.int .i64 (d.refuse s.data.toList)) ∧ w' = w := by
  obtain ⟨mb, gm, h⟩ := h
  have c3 := h.c3
  have hn := isName_any s w
  cases ho : okN s.data.toList
  · rw [ho] at hn
    have HR : Hid (d.refuse s.data.toList = 20) := by show _ = _; simp [Dsk.refuse, ho]
    go_enter Tryz.func47, Tryz.ntmps47
    go_wp2_with (go_at_call 39; refine hn.mono ?_; rintro e w1 ⟨rfl, hw1⟩; subst hw1)
    go_ret
    exact ⟨by rw [HR.out]; rfl, rfl⟩
  · rw [ho] at hn
    cases hd : d.dead
    · rw [hd] at c3
      have HR : Hid (d.refuse s.data.toList = 0) := by show _ = _; simp [Dsk.refuse, ho, hd]
      go_enter Tryz.func47, Tryz.ntmps47
      go_wp2_with (go_at_call 39; refine hn.mono ?_; rintro e w1 ⟨rfl, hw1⟩; subst hw1)
      go_ret
      exact ⟨by rw [HR.out]; rfl, rfl⟩
    · rw [hd] at c3
      have HR : Hid (d.refuse s.data.toList = 2) := by show _ = _; simp [Dsk.refuse, ho, hd]
      go_enter Tryz.func47, Tryz.ntmps47
      go_wp2_with (go_at_call 39; refine hn.mono ?_; rintro e w1 ⟨rfl, hw1⟩; subst hw1)
      go_ret
      exact ⟨by rw [HR.out]; rfl, rfl⟩

theorem okN_size {s : ByteArray} (h : okN s.data.toList = true) : s.size ≤ 40 := ((okN_iff s).1 h).1.2
theorem refuse_zero {d : Dsk} {n : Nm} (h : d.refuse n = 0) : okN n = true ∧ d.dead = false := by
  unfold Dsk.refuse at h
  split at h
  · cases h
  · rename_i h1
    split at h
    · cases h
    · rename_i h2
      exact ⟨by simpa using h1, by simpa using h2⟩

/-- The block of a name's file. -/
def fbOf (gm : List (Nm × (Nat × Fl))) (n : Nm) : Nat := ((getL n gm).map (·.1)).getD 0

theorem find_any (b : Nat) (d : Dsk) (σ : Nat → Option Nat) (mb : Nat) (gm : List (Nm × (Nat × Fl))) (s : ByteArray) (w : World) (h : DW w b d σ mb gm) :
    Calls Tryz.prog 52 #[.pointer (some ⟨b, 0, none⟩), .string s] w fun x w' =>
      (d.ask s.data.toList ≠ 0 ∧ x = .returned (.tuple #[.pointer none, .int .i64 (d.ask s.data.toList)]) ∨ d.ask s.data.toList = 0 ∧ x = .returned (.tuple #[.pointer (some ⟨fbOf gm s.data.toList, 0, none⟩), .int .i64 0])) ∧ w' = w := by
  have c2 := h.c2
  have hf := refuse_any b d σ s w ⟨mb, gm, h⟩
  by_cases hr : d.refuse s.data.toList = 0
  · rw [hr] at hf
    obtain ⟨ho, _⟩ := refuse_zero hr
    have hl := h.look (s := s) (by have := okN_size ho; unfold maxLen; omega)
    cases hg : getL s.data.toList gm with
    | none =>
      rw [hg] at hl
      have HR : Hid (d.ask s.data.toList = 21) := by show _ = _; simp [Dsk.ask, hr, h.get, hg]
      simp only [] at hl
      go_enter Tryz.func52, Tryz.ntmps52
      go_wp2_with (go_at_call 47; refine hf.mono ?_; rintro e w1 ⟨rfl, hw1⟩; subst hw1)
      go_ret2
      rw [HR.out]
      exact ⟨Or.inl ⟨by decide, rfl⟩, rfl⟩
    | some a =>
      rw [hg] at hl
      have HR : Hid (d.ask s.data.toList = 0 ∧ fbOf gm s.data.toList = a.1) := by refine ⟨?_, ?_⟩ <;> simp [Dsk.ask, hr, h.get, hg, fbOf]
      simp only [] at hl
      go_enter Tryz.func52, Tryz.ntmps52
      go_wp2_with (go_at_call 47; refine hf.mono ?_; rintro e w1 ⟨rfl, hw1⟩; subst hw1)
      go_ret2
      rw [HR.out.1, HR.out.2]
      exact ⟨Or.inr ⟨rfl, rfl⟩, rfl⟩
  · have HR : Hid (d.ask s.data.toList = d.refuse s.data.toList) := by show _ = _; simp [Dsk.ask, hr]
    rcases hv : d.refuse s.data.toList with r
    rw [hv] at hf hr
    have hrb : (d.refuse s.data.toList != 0) = true := by rw [hv]; simpa using hr
    rw [hv] at hrb
    go_enter Tryz.func52, Tryz.ntmps52
    go_wp2_with (go_at_call 47; refine hf.mono ?_; rintro e w1 ⟨rfl, hw1⟩; subst hw1)
    go_ret2
    rw [HR.out, hv]
    exact ⟨Or.inl ⟨hr, rfl⟩, rfl⟩
end Go.Proofs.YtjambfbibeihiaaGreat
