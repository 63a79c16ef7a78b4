/- Sync, Rename. -/
import Derived.Test.YtngdgglgmmlmkaaMeth4
namespace Go.Proofs.Ytngdgglgmmlmkaa
open Go.RowKit Go.ChangeMaps

set_option maxHeartbeats 1000000 in
set_option maxRecDepth 100000 in
theorem sync_any (b : Nat) (d : Dsk) (σ : Nat → Option Nat) (nm : ByteArray) (w : World) (h : DK w b d σ) :
    Calls Try.prog 12 #[.pointer (some ⟨b, 0, none⟩), .string nm] w fun x w' => x = .returned (.int .i64 (d.sync nm.data.toList).1) ∧ ∃ σ', DK w' b (d.sync nm.data.toList).2 σ' ∧ Stp w σ w' σ' := by
  have t1 : Tch (fun _ => False) w (w.alloc (.cells #[.pointer (some ⟨b, 0, none⟩)] 23)) := Tch.alloc _ _ _
  obtain ⟨w1, hw1⟩ : ∃ w1, w1 = w.alloc (.cells #[.pointer (some ⟨b, 0, none⟩)] 23) := ⟨_, rfl⟩
  have z1 : w1.heap.size = w.heap.size + 1 := by rw [hw1]; simp
  rw [← hw1] at t1
  have p1 : w1.cell? ⟨w.heap.size, 0, none⟩ = some (.pointer (some ⟨b, 0, none⟩)) := by
    rw [hw1, blk_cell (box_one w _)]; rfl
  obtain ⟨mb, gm, hW⟩ := h
  have hW1 := hW.no t1
  have hf := find_any b d σ mb gm nm w1 hW1
  go_enter Try.func12, Try.ntmps12
  go_wp2_with fail
  rw [← hw1]
  refine hf.mono ?_
  rintro x w2 ⟨hx, hw2⟩
  subst hw2
  clear hw1 hf
  rcases hx with ⟨ha, rfl⟩ | ⟨ha, rfl⟩
  · have HR : Hid (d.sync nm.data.toList = (d.ask nm.data.toList, d)) := by show _ = _; simp [Dsk.sync, ha]
    have hab : (d.ask nm.data.toList != 0) = true := by simpa using ha
    go_wp2
    go_ret
    rw [HR.out]
    have t3 := t1.allocR (.cells #[.pointer none] 75)
    exact ⟨rfl, σ, ⟨mb, gm, hW.no t3⟩, Stp.of_no t3⟩
  · obtain ⟨f, hg, hfd, _, _⟩ := file_of hW ha
    have t3 := (t1.allocR (.cells #[.pointer (some ⟨fbOf gm nm.data.toList, 0, none⟩)] 75)).allocR (.cells #[.bool false] 4)
    obtain ⟨w3, hw3⟩ : ∃ w3, w3 = (w2.alloc (.cells #[.pointer (some ⟨fbOf gm nm.data.toList, 0, none⟩)] 75)).alloc (.cells #[.bool false] 4) := ⟨_, rfl⟩
    rw [← hw3] at t3
    have tn : Tch (fun _ => False) w2 w3 := by rw [hw3]; exact box2_no _ _ _
    have p3 := (tn.cell (p := ⟨w.heap.size, 0, none⟩) (by simp only; omega) (fun h => h)).trans p1
    have r3 : w3.cell? ⟨w.heap.size + 1, 0, none⟩ = some (.pointer (some ⟨fbOf gm nm.data.toList, 0, none⟩)) := by
      have := box_one w2 (.cells #[.pointer (some ⟨fbOf gm nm.data.toList, 0, none⟩)] 75)
      rw [z1] at this
      rw [hw3, World.cell?_alloc_past _ _ _ (by simp; omega), blk_cell this]; rfl
    have q3 : w3.heap[w.heap.size + 1 + 1]? = some (.cells #[.bool false] 4 (0, 0)) := by
      have := box_one (w2.alloc (.cells #[.pointer (some ⟨fbOf gm nm.data.toList, 0, none⟩)] 75)) (.cells #[.bool false] 4)
      simp only [World.size_alloc] at this
      rw [z1] at this
      rw [hw3]; exact this
    have h3 := hW.no t3
    have p4 : ((w2.alloc (.cells #[.pointer (some ⟨fbOf gm nm.data.toList, 0, none⟩)] 75)).alloc (.cells #[.bool false] 4)).cell? ⟨w.heap.size, 0, none⟩ = some (.pointer (some ⟨b, 0, none⟩)) := by rw [← hw3]; exact p3
    have nn : ∀ i, w.heap.size ≤ i → σ i = none := fun i hi => by
      cases hs : σ i with
      | none => rfl
      | some a => have := hW.lt i (by rw [hs]; exact fun h => by cases h); omega
    have hl := hW.bl
    by_cases hd : d.die = 1
    · have HR : Hid (d.sync nm.data.toList = (2, { d with dead := true, die := 0 })) := by show _ = _; simp [Dsk.sync, ha, hd]
      have q0 : w3.cell? ⟨w.heap.size + 1 + 1, 0, none⟩ = some (.bool false) := by rw [blk_cell q3]; rfl
      have HQ : Hid (∀ w4, Tch (fun i => i = b) w3 w4 → w4.cell? ⟨w.heap.size + 1 + 1, 0, none⟩ = some (.bool false)) := fun w4 t => (t.cell (p := ⟨w.heap.size + 1 + 1, 0, none⟩) (blk_lt q3) (by simp only; omega)).trans q0
      clear ha t1 tn p1 hfd p3 r3
      go_wp2_with fail
      rw [← hw3]
      refine (act_dies b d σ _ _ ⟨mb, gm, h3⟩ hd).mono ?_
      rintro x w4 ⟨rfl, h4, t4⟩
      have q4 := HQ.out w4 t4
      clear hw3 z1 q0 q3 p4
      go_wp2
      go_ret
      rw [HR.out]
      exact ⟨rfl, σ, h4, mono_did hW.lb hW.bl (Stp.of_no t3) t4⟩
    · have hs1 := sync1_any b d σ nm.data.toList _ f mb gm w.heap.size (w.heap.size + 1) (w.heap.size + 1 + 1) w3 h3 hg p3 r3 q3 (nn _ (by omega)) (nn _ (by omega)) (by omega)
      by_cases hf1 : d.fail = 1
      · have HR : Hid (d.sync nm.data.toList = (25, { d with fail := 0, die := d.die - 1 })) := by show _ = _; simp [Dsk.sync, ha, hd, hf1]
        have HQ : Hid (∀ w4 w5, w5.cell? ⟨w.heap.size + 1 + 1, 0, none⟩ = some (.bool true) → Tch (fun i => i = b) w5 w4 → w4.cell? ⟨w.heap.size + 1 + 1, 0, none⟩ = some (.bool true)) := fun w4 w5 h t => (t.cell (p := ⟨w.heap.size + 1 + 1, 0, none⟩) (cell_lt h) (by simp only; omega)).trans h
        have ha2 := act_does b d σ 39 #[.pointer (some ⟨w.heap.size, 0, none⟩), .pointer (some ⟨w.heap.size + 1 + 1, 0, none⟩), .pointer (some ⟨w.heap.size + 1, 0, none⟩)] w3
          (fun w' d' σ' => d' = { d with fail := 0 } ∧ w'.cell? ⟨w.heap.size + 1 + 1, 0, none⟩ = some (.bool true) ∧ σ' = σ ∧ Tch (fun i => σ i ≠ none ∨ i = w.heap.size + 1 + 1) w3 w') ⟨mb, gm, h3⟩ hd (enters _ _ _ Try.func39 (by kernel_rfl) rfl _ _)
          (hs1.mono fun x w' ⟨hx, hc, ht⟩ => by
            rcases hc with ⟨_, k1, k2⟩ | ⟨k0, _⟩
            · exact ⟨hx, _, σ, k1, rfl, k2, rfl, ht⟩
            · exact absurd hf1 k0)
        clear ha t1 tn p1 hfd hs1 hf1 p3 r3
        go_wp2_with fail
        rw [← hw3]
        refine ha2.mono ?_
        rintro x w4 ⟨rfl, w5, d5, σ5, ⟨rfl, q5, rfl, t5⟩, h4, t4⟩
        have q4 := HQ.out w4 w5 q5 t4
        clear hw3 z1 q3 q5 p4
        go_wp2
        go_ret
        rw [HR.out]
        refine ⟨rfl, σ5, h4, ⟨(t3.mono (fun _ _ h => h.elim)).trans (t5.trans t4 (fun i _ hi => Or.inl ?_)) (fun i hi hs => ?_), fun _ _ => rfl⟩⟩
        · rw [hi, hW.lb]; exact fun h => by cases h
        · rcases hs with hs | hs
          · exact hs
          · omega
      · have HR : Hid (d.sync nm.data.toList = (0, { d.set nm.data.toList ⟨f.bs, f.bs.length⟩ with fail := d.fail - 1, die := d.die - 1 })) := by show _ = _; simp [Dsk.sync, ha, hd, hf1, hfd]
        have HQ : Hid (∀ w4 w5, w5.cell? ⟨w.heap.size + 1 + 1, 0, none⟩ = some (.bool false) → Tch (fun i => i = b) w5 w4 → w4.cell? ⟨w.heap.size + 1 + 1, 0, none⟩ = some (.bool false)) := fun w4 w5 h t => (t.cell (p := ⟨w.heap.size + 1 + 1, 0, none⟩) (cell_lt h) (by simp only; omega)).trans h
        have ha2 := act_does b d σ 39 #[.pointer (some ⟨w.heap.size, 0, none⟩), .pointer (some ⟨w.heap.size + 1 + 1, 0, none⟩), .pointer (some ⟨w.heap.size + 1, 0, none⟩)] w3
          (fun w' d' σ' => d' = { d.set nm.data.toList ⟨f.bs, f.bs.length⟩ with fail := d.fail - 1 } ∧ w'.cell? ⟨w.heap.size + 1 + 1, 0, none⟩ = some (.bool false) ∧ σ' = σ ∧ Tch (fun i => σ i ≠ none ∨ i = w.heap.size + 1 + 1) w3 w') ⟨mb, gm, h3⟩ hd (enters _ _ _ Try.func39 (by kernel_rfl) rfl _ _)
          (hs1.mono fun x w' ⟨hx, hc, ht⟩ => by
            rcases hc with ⟨k0, _⟩ | ⟨_, k1, k2⟩
            · exact absurd k0 hf1
            · exact ⟨hx, _, σ, k1, rfl, k2, rfl, ht⟩)
        clear ha t1 tn p1 hfd hs1 hf1 p3 r3
        go_wp2_with fail
        rw [← hw3]
        refine ha2.mono ?_
        rintro x w4 ⟨rfl, w5, d5, σ5, ⟨rfl, q5, rfl, t5⟩, h4, t4⟩
        have q4 := HQ.out w4 w5 q5 t4
        clear hw3 z1 q3 q5 p4
        go_wp2
        go_ret
        rw [HR.out]
        refine ⟨rfl, σ5, h4, ⟨(t3.mono (fun _ _ h => h.elim)).trans (t5.trans t4 (fun i _ hi => Or.inl ?_)) (fun i hi hs => ?_), fun _ _ => rfl⟩⟩
        · rw [hi, hW.lb]; exact fun h => by cases h
        · rcases hs with hs | hs
          · exact hs
          · omega
end Go.Proofs.Ytngdgglgmmlmkaa
