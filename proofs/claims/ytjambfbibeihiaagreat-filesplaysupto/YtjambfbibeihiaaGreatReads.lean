import Derived.Test.YtjambfbibeihiaaGreatMeth6
import Derived.Laws.IdiomStrings
/- Size, Pending, Read. -/
namespace Go.Proofs.YtjambfbibeihiaaGreat
set_option maxRecDepth 100000
open Go.RowKit Go.ChangeMaps

def Dsk.size (d : Dsk) (n : Nm) : Int × Int := if d.ask n ≠ 0 then (0, d.ask n) else ((d.file n).bs.length, 0)
def Dsk.read (d : Dsk) (n : Nm) (a k : Int) : Nm × Int :=
  if d.ask n ≠ 0 then ([], d.ask n) else if a < 0 ∨ k < 0 ∨ ((d.file n).bs.length : Int) < a ∨ ((d.file n).bs.length : Int) - a < k then ([], 24) else (((d.file n).bs.drop a.toNat).take k.toNat, 0)

theorem DW.fcell {w : World} {b : Nat} {d : Dsk} {σ : Nat → Option Nat} {mb : Nat} {gm : List (Nm × (Nat × Fl))} (h : DW w b d σ mb gm) {n : Nm} {fb : Nat} {f : Fl} (hg : getL n gm = some (fb, f)) :
    ∃ ao cp, w.cell? ⟨fb, 0, none⟩ = some (.slice ao f.bs.length cp) ∧ w.cell? ⟨fb, 1, none⟩ = some (.int .i64 f.la) ∧ w.ownsRow 0 5 1 (.slice ao f.bs.length cp) f.bs.length (Lib.byteCells f.bs) := by
  obtain ⟨v, hbk, hown, _⟩ := (h.fs _ (getL_mem hg)).blk
  simp only at hbk hown
  obtain ⟨ao, cp, hv⟩ := slice_of hown
  subst hv
  exact ⟨ao, cp, by rw [blk_cell hbk]; rfl, by rw [blk_cell hbk]; rfl, hown⟩
theorem DW.flen {w : World} {b : Nat} {d : Dsk} {σ : Nat → Option Nat} {mb : Nat} {gm : List (Nm × (Nat × Fl))} (h : DW w b d σ mb gm) {n : Nm} {fb : Nat} {f : Fl} (hg : getL n gm = some (fb, f)) : f.bs.length ≤ 1000000000 ∧ f.la ≤ f.bs.length := by
  have h1 := h.usedle hg
  have h2 := h.room
  have h3 := h.cap
  exact ⟨by omega, (h.fs _ (getL_mem hg)).le⟩

theorem size_any (b : Nat) (d : Dsk) (σ : Nat → Option Nat) (nm : ByteArray) (w : World) (h : DK w b d σ) :
    Calls Tryz.prog 65 #[.pointer (some ⟨b, 0, none⟩), .string nm] w fun x w' => x = .returned (.tuple #[.int .i64 (d.size nm.data.toList).1, .int .i64 (d.size nm.data.toList).2]) ∧ w' = w := by
  obtain ⟨mb, gm, hW⟩ := h
  have hf := find_any b d σ mb gm nm w hW
  go_enter Tryz.func65, Tryz.ntmps65
  go_wp2_with fail
  refine hf.mono ?_
  rintro x w2 ⟨hx, hw2⟩
  subst hw2
  clear hf
  rcases hx with ⟨ha, rfl⟩ | ⟨ha, rfl⟩
  · have HR : Hid (d.size nm.data.toList = (0, d.ask nm.data.toList)) := by show _ = _; simp [Dsk.size, ha]
    have hab : (d.ask nm.data.toList != 0) = true := by simpa using ha
    go_wp2
    go_ret2
    rw [HR.out]
    exact ⟨rfl, rfl⟩
  · obtain ⟨f, hg, hfd, _, _⟩ := file_of hW ha
    obtain ⟨ao, cp, c0, _, _⟩ := hW.fcell hg
    have HR : Hid (d.size nm.data.toList = ((f.bs.length : Int), 0)) := by show _ = _; simp [Dsk.size, ha, hfd]
    clear ha hfd
    go_wp2
    go_ret2
    rw [HR.out]
    exact ⟨rfl, rfl⟩

theorem pending0_any (fb : Nat) (la n : Nat) (ao : Option Addr) (cp : Nat) (w : World) (c0 : w.cell? ⟨fb, 0, none⟩ = some (.slice ao n cp)) (c1 : w.cell? ⟨fb, 1, none⟩ = some (.int .i64 la)) (hn : n ≤ 1000000000) (hl : la ≤ n) :
    Calls Tryz.prog 72 #[.pointer (some ⟨fb, 0, none⟩)] w fun x w' => x = .returned (.int .i64 ((n : Int) - la)) ∧ ∃ k, w' = w.drewN k := by
  go_enter Tryz.func72, Tryz.ntmps72
  go_wp2
  go_quiet (fail)
  go_wp2
  go_ret
  exact ⟨rfl, _, rfl⟩

theorem pending_any (b : Nat) (d : Dsk) (σ : Nat → Option Nat) (nm : ByteArray) (w : World) (h : DK w b d σ) (hs : nm.size ≤ maxLen) :
    Calls Tryz.prog 35 #[.pointer (some ⟨b, 0, none⟩), .string nm] w fun x w' => x = .returned (.int .i64 (d.pending nm.data.toList)) ∧ ∃ k, w' = w.drewN k := by
  obtain ⟨mb, gm, hW⟩ := h
  have hl := hW.look hs
  have c2 := hW.c2
  cases hg : getL nm.data.toList gm with
  | none =>
    rw [hg] at hl
    simp only [] at hl
    have HR : Hid (d.pending nm.data.toList = 0) := by show _ = _; simp [Dsk.pending, Dsk.file, hW.get, hg]
    go_enter Tryz.func35, Tryz.ntmps35
    go_wp2
    go_ret
    rw [HR.out]
    exact ⟨rfl, 0, rfl⟩
  | some a =>
    obtain ⟨fb, f⟩ := a
    rw [hg] at hl
    simp only [] at hl
    obtain ⟨ao, cp, e0, e1, _⟩ := hW.fcell hg
    obtain ⟨l1, l2⟩ := hW.flen hg
    have HR : Hid ((f.bs.length : Int) - f.la = (d.pending nm.data.toList : Nat)) := by
      show _ = _
      have : d.file nm.data.toList = f := by simp [Dsk.file, hW.get, hg]
      unfold Dsk.pending
      rw [this]; omega
    have hp := pending0_any fb f.la f.bs.length ao cp w e0 e1 l1 l2
    go_enter Tryz.func35, Tryz.ntmps35
    go_wp2_with (go_at_call 72; refine hp.mono ?_; rintro x w1 ⟨rfl, k, rfl⟩)
    go_ret
    exact ⟨ret_int HR.out, k, rfl⟩

/-- What is read of a row, from a place on. -/
theorem conv_sub {w : World} {ao : Option Addr} {cp : Nat} {bs : List UInt8} (h : w.ownsRow 0 5 1 (.slice ao bs.length cp) bs.length (Lib.byteCells bs)) {a k : Nat} (hk : a + k ≤ bs.length) :
    (convert 74 9 (.slice (if cp = a then ao else ao.map (fun x => x.add a)) k (cp - a))).run Tryz.prog w = .ok (.string ⟨((bs.drop a).take k).toArray⟩) w := by
  rcases h.2 with ⟨h1, h2⟩ | ⟨g, cap, cur, h1, _, hh, hc, _, _, hx⟩
  · simp only [Value.slice.injEq] at h1
    obtain ⟨rfl, _, rfl⟩ := h1
    have ha : a = 0 := by omega
    have hk0 : k = 0 := by omega
    subst ha hk0
    simp only [if_true, List.take_zero]
    exact Lib.run_convert_nil_bytes w 74 9 5 0 Tryz.underlying74 Tryz.underlying5 Tryz.underlying9
  · cases h1
    have hb := Lib.bytes_of_row hh (by simpa using hx)
    by_cases e : cp = a
    · rw [if_pos e]
      have hk0 : k = 0 := by omega
      subst hk0
      have := run_convert_bytes_back (P := Tryz.prog) w 74 9 5 ⟨g, 0, none⟩ (cp - a) [] Tryz.underlying74 Tryz.underlying5 Tryz.underlying9 (fun j hj => by simp at hj)
      simpa using this
    · rw [if_neg e]
      have hl : ((bs.drop a).take k).length = k := by simp; omega
      have := run_convert_bytes_back (P := Tryz.prog) w 74 9 5 ⟨g, a, none⟩ (cp - a) ((bs.drop a).take k) Tryz.underlying74 Tryz.underlying5 Tryz.underlying9 (fun j hj => by
        have h3 := hb (a + j) (by rw [hl] at hj; omega)
        simp only [Addr.add_lit, Nat.zero_add] at h3 ⊢
        rw [List.getElem_take, List.getElem_drop]
        exact h3)
      rw [hl] at this
      simp only [Option.map_some, Addr.add_lit, Nat.zero_add]
      exact this

set_option maxHeartbeats 1000000 in
set_option maxRecDepth 100000 in
theorem read_any (b : Nat) (d : Dsk) (σ : Nat → Option Nat) (nm : ByteArray) (a k : Int) (w : World) (h : DK w b d σ) (hk : k ≤ 9223372036854775807) :
    Calls Tryz.prog 37 #[.pointer (some ⟨b, 0, none⟩), .string nm, .int .i64 a, .int .i64 k] w fun x w' => x = .returned (.tuple #[.string ⟨(d.read nm.data.toList a k).1.toArray⟩, .int .i64 (d.read nm.data.toList a k).2]) ∧ w' = w := by
  obtain ⟨mb, gm, hW⟩ := h
  have hf := find_any b d σ mb gm nm w hW
  go_enter Tryz.func37, Tryz.ntmps37
  go_wp2_with fail
  refine hf.mono ?_
  rintro x w2 ⟨hx, hw2⟩
  subst hw2
  clear hf
  rcases hx with ⟨ha, rfl⟩ | ⟨ha, rfl⟩
  · have HR : Hid (d.read nm.data.toList a k = ([], d.ask nm.data.toList)) := by show _ = _; simp [Dsk.read, ha]
    have hab : (d.ask nm.data.toList != 0) = true := by simpa using ha
    go_wp2
    go_ret2
    rw [HR.out]
    exact ⟨rfl, rfl⟩
  · obtain ⟨f, hg, hfd, _, _⟩ := file_of hW ha
    obtain ⟨ao, cp, c0, _, hown⟩ := hW.fcell hg
    obtain ⟨l1, l2⟩ := hW.flen hg
    by_cases hbad : a < 0 ∨ k < 0 ∨ (f.bs.length : Int) < a ∨ (f.bs.length : Int) - a < k
    · have HR : Hid (d.read nm.data.toList a k = ([], 24)) := by
        show _ = _
        unfold Dsk.read
        rw [if_neg (by simp [ha]), hfd, if_pos hbad]
      clear ha hfd
      by_cases h1 : a < 0
      · go_wp2
        go_ret2
        rw [HR.out]
        exact ⟨rfl, rfl⟩
      · by_cases h2 : k < 0
        · go_wp2
          go_ret2
          rw [HR.out]
          exact ⟨rfl, rfl⟩
        · by_cases h3 : (f.bs.length : Int) < a
          · go_wp2
            go_ret2
            rw [HR.out]
            exact ⟨rfl, rfl⟩
          · have h4 : (f.bs.length : Int) - a < k := by omega
            clear hbad
            go_wp2
            go_ret2
            rw [HR.out]
            exact ⟨rfl, rfl⟩
    · obtain ⟨a', rfl⟩ : ∃ a' : Nat, a = a' := ⟨a.toNat, by omega⟩
      obtain ⟨k', rfl⟩ : ∃ k' : Nat, k = k' := ⟨k.toNat, by omega⟩
      have HR : Hid (d.read nm.data.toList a' k' = ((f.bs.drop a').take k', 0)) := by
        show _ = _
        unfold Dsk.read
        rw [if_neg (by simp [ha]), hfd, if_neg hbad]
        simp
      have hcv := conv_sub hown (a := a') (k := k') (by omega)
      have hcp := row_cap hown
      have h3 : ¬ (f.bs.length : Int) < a' := by omega
      have h4 : ¬ (f.bs.length : Int) - a' < k' := by omega
      have h5 : a' + k' ≤ cp := by omega
      have h6 : a' ≤ a' + k' := by omega
      clear ha hfd hbad
      go_wp2
      all_goals go_ret2
      all_goals rw [HR.out]
      all_goals exact ⟨rfl, rfl⟩
end Go.Proofs.YtjambfbibeihiaaGreat
