/- Sync. -/
import Derived.Test.YtngdgglgmmlmkaaMeth3
namespace Go.Proofs.Ytngdgglgmmlmkaa
open Go.RowKit Go.ChangeMaps

set_option maxHeartbeats 1000000 in
set_option maxRecDepth 100000 in
theorem sync1_any (b : Nat) (d : Dsk) (σ : Nat → Option Nat) (n : Nm) (fb : Nat) (f : Fl) (mb : Nat) (gm : List (Nm × (Nat × Fl))) (p r q : Nat) (w : World) (h : DW w b d σ mb gm) (hg : getL n gm = some (fb, f))
    (hp : w.cell? ⟨p, 0, none⟩ = some (.pointer (some ⟨b, 0, none⟩))) (hr : w.cell? ⟨r, 0, none⟩ = some (.pointer (some ⟨fb, 0, none⟩))) (hq : w.heap[q]? = some (.cells #[.bool false] 4 (0, 0)))
    (nr : σ r = none) (nq : σ q = none) (hrq : r ≠ q) :
    Calls Try.prog 39 #[.pointer (some ⟨p, 0, none⟩), .pointer (some ⟨q, 0, none⟩), .pointer (some ⟨r, 0, none⟩)] w fun x w' => x = .returned (.tuple #[]) ∧
      (d.fail = 1 ∧ DK w' b { d with fail := 0 } σ ∧ w'.cell? ⟨q, 0, none⟩ = some (.bool true) ∨ d.fail ≠ 1 ∧ DK w' b { d.set n ⟨f.bs, f.bs.length⟩ with fail := d.fail - 1 } σ ∧ w'.cell? ⟨q, 0, none⟩ = some (.bool false)) ∧ Tch (fun i => σ i ≠ none ∨ i = q) w w' := by
  have hrb : r ≠ b := by rintro rfl; rw [h.lb] at nr; cases nr
  have hqb : q ≠ b := by rintro rfl; rw [h.lb] at nq; cases nq
  have hff := (h.fs _ (getL_mem hg)).lab
  simp only at hff
  have hqf : q ≠ fb := by rintro rfl; rw [hff] at nq; cases nq
  have hrf : r ≠ fb := by rintro rfl; rw [hff] at nr; cases nr
  have hn := failsNow_any b d σ mb gm w h
  have HB : Hid (∀ w', Tch (fun i => i = b) w w' → w'.cell? ⟨r, 0, none⟩ = some (.pointer (some ⟨fb, 0, none⟩)) ∧ w'.heap[q]? = some (.cells #[.bool false] 4 (0, 0)) ∧ Tch (fun i => σ i ≠ none ∨ i = q) w w') := fun w' t =>
    ⟨(t.cell (p := ⟨r, 0, none⟩) (cell_lt hr) hrb).trans hr, (t.block q (blk_lt hq) hqb).trans hq, t.mono (fun i _ hi => Or.inl (by rw [hi, h.lb]; exact fun h => by cases h))⟩
  by_cases hf1 : d.fail = 1
  · have HE : Hid (d.fail = 1) := hf1
    rw [show decide (d.fail = 1) = true by simpa using hf1] at hn
    clear hf1 hq hr
    go_enter Try.func39, Try.ntmps39
    go_wp2_with fail
    refine hn.mono ?_
    rintro x w1 ⟨rfl, h1, t1⟩
    obtain ⟨r1, q1, T1⟩ := HB.out w1 t1
    have q0 : w1.cell? ⟨q, 0, none⟩ = some (.bool false) := by rw [blk_cell q1]; rfl
    have qf := blk_frozen q1 0
    clear hp
    go_wp2
    go_end0
    have tq : Tch (fun i => i = q) w1 (w1.setCell ⟨q, 0, none⟩ (.bool true)) := Tch.setCell _ _ _ _ rfl
    refine ⟨rfl, Or.inl ⟨HE.out, ⟨mb, gm, ?_⟩, World.cell?_setCell_same _ _ _ q0⟩, T1.setCellR _ _ (Or.inr rfl)⟩
    have := h1.tch tq (fun i _ hi => by rw [hi]; exact nq)
    rw [HE.out] at this
    exact this
  · have HE : Hid (d.fail ≠ 1) := hf1
    rw [show decide (d.fail = 1) = false by simpa using hf1] at hn
    have HF : Hid (∀ w1, Tch (fun i => i = b) w w1 → DW w1 b { d with fail := d.fail - 1 } σ mb gm → ∃ ao cp, (w1.setCell ⟨q, 0, none⟩ (.bool false)).cell? ⟨fb, 0, none⟩ = some (.slice ao f.bs.length cp) ∧
        (w1.setCell ⟨q, 0, none⟩ (.bool false)).cell? ⟨fb, 1, none⟩ = some (.int .i64 f.la) ∧ (w1.setCell ⟨q, 0, none⟩ (.bool false)).frozen? ⟨fb, 1, none⟩ = false ∧ (w1.setCell ⟨q, 0, none⟩ (.bool false)).cell? ⟨r, 0, none⟩ = some (.pointer (some ⟨fb, 0, none⟩)) ∧
        ∀ w', w' = ((w1.setCell ⟨q, 0, none⟩ (.bool false)).setCell ⟨fb, 1, none⟩ (.int .i64 f.bs.length)).drew → DK w' b { d.set n ⟨f.bs, f.bs.length⟩ with fail := d.fail - 1 } σ ∧ w'.cell? ⟨q, 0, none⟩ = some (.bool false) ∧ Tch (fun i => σ i ≠ none ∨ i = q) w w') := by
      intro w1 t1 h1
      obtain ⟨r1, q1, T1⟩ := HB.out w1 t1
      have q0 : w1.cell? ⟨q, 0, none⟩ = some (.bool false) := by rw [blk_cell q1]; rfl
      have tq : Tch (fun i => i = q) w1 (w1.setCell ⟨q, 0, none⟩ (.bool false)) := Tch.setCell _ _ _ _ rfl
      have h2 := h1.tch tq (fun i _ hi => by rw [hi]; exact nq)
      have hfb := h2.fs _ (getL_mem hg)
      obtain ⟨v, hbk, hown, hlab⟩ := hfb.blk
      simp only at hbk hown hlab
      obtain ⟨ao, cp, hv⟩ := slice_of hown
      subst hv
      refine ⟨ao, cp, by rw [blk_cell hbk]; rfl, by rw [blk_cell hbk]; rfl, blk_frozen hbk 1, (tq.cell (p := ⟨r, 0, none⟩) (cell_lt r1) hrq).trans r1, ?_⟩
      rintro w' rfl
      obtain ⟨w2, hw2⟩ : ∃ w2, w2 = w1.setCell ⟨q, 0, none⟩ (.bool false) := ⟨_, rfl⟩
      rw [← hw2] at h2 hbk hown hfb tq ⊢
      have hbf : b ≠ fb := ne_of_ty h2.blk hbk (by decide)
      have tA : Tch (fun i => i = b ∨ σ i = some fb) w2 (w2.setCell ⟨fb, 1, none⟩ (.int .i64 f.bs.length)).drew := (Tch.setCell (fun i => i = b ∨ σ i = some fb) w2 ⟨fb, 1, none⟩ (.int .i64 f.bs.length) (Or.inr hff)).drew
      have tB : Tch (fun i => i = fb) w2 (w2.setCell ⟨fb, 1, none⟩ (.int .i64 f.bs.length)).drew := (Tch.setCell (fun i => i = fb) w2 ⟨fb, 1, none⟩ (.int .i64 f.bs.length) rfl).drew
      refine ⟨⟨mb, _, h2.setf (d' := { d.set n ⟨f.bs, f.bs.length⟩ with fail := d.fail - 1 }) (f' := ⟨f.bs, f.bs.length⟩) hg tA (fun _ _ => rfl) (fun i hi => Nat.lt_of_lt_of_le (h2.lt i hi) tA.size) ?_ ⟨hff, ⟨.slice ao f.bs.length cp, ?_, ?_, hlab⟩, Nat.le_refl _⟩ rfl rfl ?_ h2.die h2.fail⟩, ?_, ?_⟩
      · show (w2.setCell _ _).heap[b]? = _
        rw [Below.heap_setCell _ _ _ _ hbf, h2.blk]
        have e : (Dsk.used { d.set n ⟨f.bs, f.bs.length⟩ with fail := d.fail - 1 } : Nat) = Dsk.used { d with fail := d.fail - 1 } := by
          have := h2.setu hg ⟨f.bs, f.bs.length⟩
          simp only [Dsk.used] at this
          show sumL lenF (setL n _ d.m) = sumL lenF d.m
          omega
        unfold dcells
        rw [e]
        rfl
      · show (w2.setCell _ _).heap[fb]? = _
        rw [blk_set hbk]
        simp
      · refine ownsRow_tch' hown tB (fun g hgo hs => ?_)
        obtain ⟨cur, hh⟩ := row_blk hown hgo
        exact ne_of_ty hh hbk (by decide) hs
      · have := h2.setu hg ⟨f.bs, f.bs.length⟩
        simp only [Dsk.used] at this
        have h3 := h2.room
        simp only [Dsk.used] at h3
        show sumL lenF (setL n _ d.m) ≤ d.cap
        omega
      · have e1 : w2.cell? ⟨q, 0, none⟩ = some (.bool false) := by rw [hw2]; exact World.cell?_setCell_same _ _ _ q0
        exact (tB.cell (p := ⟨q, 0, none⟩) (cell_lt e1) hqf).trans e1
      · refine ((T1.trans tq (fun i _ hi => Or.inr hi)).trans tB (fun i _ hi => Or.inl ?_))
        rw [hi, hff]; exact fun h => by cases h
    clear hf1 hq hr
    go_enter Try.func39, Try.ntmps39
    go_wp2_with fail
    refine hn.mono ?_
    rintro x w1 ⟨rfl, h1, t1⟩
    obtain ⟨r1, q1, T1⟩ := HB.out w1 t1
    have q0 : w1.cell? ⟨q, 0, none⟩ = some (.bool false) := by rw [blk_cell q1]; rfl
    have qf := blk_frozen q1 0
    obtain ⟨ao, cp, e0, e1, e2, e3, e4⟩ := HF.out w1 t1 h1
    have E4 : Hid _ := e4
    clear hp e4 r1
    go_wp2
    go_region
    go_end0
    exact ⟨rfl, Or.inr ⟨HE.out, (E4.out _ rfl).1, (E4.out _ rfl).2.1⟩, (E4.out _ rfl).2.2⟩
end Go.Proofs.Ytngdgglgmmlmkaa
