import Derived.Test.YtjambfbibeihiaaGreatCr2
/- A step: the worlds on the way. -/
namespace Go.Proofs.YtjambfbibeihiaaGreat
set_option maxRecDepth 100000
open Go.RowKit Go.ChangeMaps Go.Sort

/-- Blocks that are nobody's stay as they were, and nobody's. -/
def K0 (w : World) (ω : Nat → Nat) (W : World) (ω' : Nat → Nat) : Prop := ∀ i, i < w.heap.size → ω i = 0 → W.heap[i]? = w.heap[i]? ∧ ω' i = 0
theorem K0.start {w W : World} {ω : Nat → Nat} (t : Tch (fun _ => False) w W) : K0 w ω W (ext ω w.heap.size 0) := fun i hi h0 => ⟨t.block i hi (fun h => h), by rw [ext_lt hi]; exact h0⟩
theorem K0.ev {K : Nat → Prop} {w W W' : World} {ω ω' ω'' : Nat → Nat} (h : K0 w ω W ω') (e : Ev K W ω' W' ω'') (hz : ¬ K 0) (hsz : w.heap.size ≤ W.heap.size) : K0 w ω W' ω'' := fun i hi h0 => by
  obtain ⟨h1, h2⟩ := h i hi h0
  refine ⟨(e.tch.block i (by omega) (by rw [h2]; exact hz)).trans h1, ?_⟩
  rcases e.old i (by omega) with e1 | e1
  · rw [e1]; exact h2
  · exact absurd (h2 ▸ e1.1) hz
theorem K0.zero {S : Nat → Prop} {w W W' : World} {ω ω' : Nat → Nat} (h : K0 w ω W ω') (t : Tch S W W') (hS : ∀ i, S i → w.heap.size ≤ i) (hsz : w.heap.size ≤ W.heap.size) : K0 w ω W' (ext ω' W.heap.size 0) := fun i hi h0 => by
  obtain ⟨h1, h2⟩ := h i hi h0
  exact ⟨(t.block i (by omega) (fun hs => by have := hS i hs; omega)).trans h1, by rw [ext_lt (by omega)]; exact h2⟩
theorem K0.same {w W W' : World} {ω ω' ω'' : Nat → Nat} (h : K0 w ω W ω') (t : Tch (fun _ => False) W W') (hold : ∀ i, i < W.heap.size → ω'' i = ω' i) (hsz : w.heap.size ≤ W.heap.size) : K0 w ω W' ω'' := fun i hi h0 => by
  obtain ⟨h1, h2⟩ := h i hi h0
  exact ⟨(t.block i (by omega) (fun h => h)).trans h1, by rw [hold i (by omega)]; exact h2⟩
theorem K0.trans {w W W' : World} {ω ω' ω'' : Nat → Nat} (h : K0 w ω W ω') (k : K0 W ω' W' ω'') (hsz : w.heap.size ≤ W.heap.size) : K0 w ω W' ω'' := fun i hi h0 => by
  obtain ⟨h1, h2⟩ := h i hi h0
  obtain ⟨h3, h4⟩ := k i (by omega) h2
  exact ⟨h3.trans h1, h4⟩
abbrev KS (k : Nat) : Nat → Prop := fun i => i = 0 ∨ i = k ∨ i = k + 1 ∨ 5 ≤ i
/-- The world in a step: the program's disk is dA, the document's dR; the boxes of the pair, of the step and of the answer. -/
structure CW (w : World) (ω : Nat → Nat) (bb T k db rb : Nat) (pc oc : Array Value) (hN wN hF wF : Value) (dA dR : Dsk) (W : World) (ω' : Nat → Nat) : Prop where
  ev : Ev (KS k) w ω W ω'
  df : DF W db dA (oth ω' k W)
  rf : RF W rb dR (oth ω' (k + 1) W)
  bo : BO W ω' bb T hN wN hF wF
  cl : ω' w.heap.size = 0 ∧ ω' (w.heap.size + 1) = 0 ∧ ω' (w.heap.size + 2) = 0
  b0 : W.heap[w.heap.size]? = some (.cells pc 26 (0, 0))
  b1 : W.heap[w.heap.size + 1]? = some (.cells oc 41 (0, 0))
  b2 : ∃ rc, W.heap[w.heap.size + 2]? = some (.cells rc 26 (0, 0)) ∧ rc.size = 3
  k0 : K0 w ω W ω'
section
variable {w : World} {ω : Nat → Nat} {bb T k db rb : Nat} {pc oc : Array Value} {hN wN hF wF : Value} {dA dR : Dsk} {W : World} {ω' : Nat → Nat}
theorem CW.start {d : Dsk} (hp : PR w ω k db rb d) (hb : BO w ω bb T hN wN hF wF) (hk : 1 ≤ k ∧ k ≤ 3) : CW w ω bb T k db rb pc oc hN wN hF wF d d (((w.alloc (.cells pc 26)).alloc (.cells oc 41)).alloc (.cells #[.pointer none, .pointer none, .int .i64 0] 26)) (ext ω w.heap.size 0) := by
  have t := box3_no w (.cells pc 26) (.cells oc 41) (.cells #[.pointer none, .pointer none, .int .i64 0] 26)
  have e : Ev (fun i => i = 0) w ω _ (ext ω w.heap.size 0) := Ev.ofNo 0 rfl t
  refine ⟨e.mono (fun i h => Or.inl h), hp.df.ev e (by omega), hp.rf.ev e (by omega), hb.ev e (fun i h1 _ h => by omega), ⟨ext_ge (Nat.le_refl _), ext_ge (by omega), ext_ge (by omega)⟩, ?_, ?_, ⟨#[.pointer none, .pointer none, .int .i64 0], ?_, rfl⟩, K0.start t⟩
  · exact (heap_alloc_old _ _ (by simp; omega)).trans ((heap_alloc_old _ _ (by simp)).trans (box_one w _))
  · refine (heap_alloc_old _ _ (by simp)).trans ?_
    have := box_one (w.alloc (.cells pc 26)) (.cells oc 41)
    simpa using this
  · have := box_one ((w.alloc (.cells pc 26)).alloc (.cells oc 41)) (.cells #[.pointer none, .pointer none, .int .i64 0] 26)
    simpa using this
/-- What turns only others' blocks. -/
theorem CW.rest {K : Nat → Prop} {W' : World} {ω'' : Nat → Nat} (h : CW w ω bb T k db rb pc oc hN wN hF wF dA dR W ω') (e : Ev K W ω' W' ω'') (h0 : ¬ K 0) : (ω'' w.heap.size = 0 ∧ ω'' (w.heap.size + 1) = 0 ∧ ω'' (w.heap.size + 2) = 0) ∧ W'.heap[w.heap.size]? = some (.cells pc 26 (0, 0)) ∧ W'.heap[w.heap.size + 1]? = some (.cells oc 41 (0, 0)) ∧ ∃ rc, W'.heap[w.heap.size + 2]? = some (.cells rc 26 (0, 0)) ∧ rc.size = 3 := by
  obtain ⟨c0, c1, c2⟩ := h.cl
  obtain ⟨rc, hr, hz⟩ := h.b2
  have key : ∀ i, i < W.heap.size → ω' i = 0 → ω'' i = 0 ∧ ¬ K (ω' i) := fun i hi e0 => ⟨(e.old i hi).elim (fun e1 => e1.trans e0) (fun e1 => absurd (e0 ▸ e1.1) h0), by rw [e0]; exact h0⟩
  have k0 := key _ (blk_lt h.b0) c0
  have k1 := key _ (blk_lt h.b1) c1
  have k2 := key _ (blk_lt hr) c2
  exact ⟨⟨k0.1, k1.1, k2.1⟩, (e.tch.block _ (blk_lt h.b0) k0.2).trans h.b0, (e.tch.block _ (blk_lt h.b1) k1.2).trans h.b1, rc, (e.tch.block _ (blk_lt hr) k2.2).trans hr, hz⟩
theorem CW.actA {W' : World} {dA' : Dsk} (h : CW w ω bb T k db rb pc oc hN wN hF wF dA dR W ω') (hk : 1 ≤ k ∧ k ≤ 3) (hd : DF W' db dA' (oth ω' k W)) (t : Kept (oth ω' k W) W W') : CW w ω bb T k db rb pc oc hN wN hF wF dA' dR W' (ext ω' W.heap.size k) := by
  obtain ⟨h1, e⟩ := hd.did t
  obtain ⟨r1, r2, r3, r4⟩ := h.rest e (by omega)
  exact ⟨h.ev.trans (e.mono (fun i h => Or.inr (Or.inl h))), h1, h.rf.ev e (by omega), h.bo.ev e (fun i h1 _ h => by omega), r1, r2, r3, r4, h.k0.ev e (by omega) h.ev.tch.size⟩
theorem CW.actR {W' : World} {dR' : Dsk} (h : CW w ω bb T k db rb pc oc hN wN hF wF dA dR W ω') (hk : 1 ≤ k ∧ k ≤ 3) (hd : RF W' rb dR' (oth ω' (k + 1) W)) (t : Kept (oth ω' (k + 1) W) W W') : CW w ω bb T k db rb pc oc hN wN hF wF dA dR' W' (ext ω' W.heap.size (k + 1)) := by
  obtain ⟨h1, e⟩ := hd.did t
  obtain ⟨r1, r2, r3, r4⟩ := h.rest e (by omega)
  exact ⟨h.ev.trans (e.mono (fun i h => Or.inr (Or.inr (Or.inl h)))), h.df.ev e (by omega), h1, h.bo.ev e (fun i h1 _ h => by omega), r1, r2, r3, r4, h.k0.ev e (by omega) h.ev.tch.size⟩
/-- Blocks that are nobody's are turned, but none of the two boxes. -/
theorem CW.zero {W' : World} (h : CW w ω bb T k db rb pc oc hN wN hF wF dA dR W ω') (hk : 1 ≤ k ∧ k ≤ 3) (S : Nat → Prop) (t : Tch S W W') (hS : ∀ i, i < W.heap.size → S i → ω' i = 0 ∧ i ≠ w.heap.size ∧ i ≠ w.heap.size + 1) (hr : ∃ rc, W'.heap[w.heap.size + 2]? = some (.cells rc 26 (0, 0)) ∧ rc.size = 3) (hS2 : ∀ i, S i → w.heap.size ≤ i) : CW w ω bb T k db rb pc oc hN wN hF wF dA dR W' (ext ω' W.heap.size 0) := by
  have e : Ev (fun i => i = 0) W ω' W' (ext ω' W.heap.size 0) := Ev.ofTch 0 rfl (t.mono (fun i hi h => (hS i hi h).1))
  obtain ⟨c0, c1, c2⟩ := h.cl
  obtain ⟨_, hr0, _⟩ := h.b2
  exact ⟨h.ev.trans (e.mono (fun i h => Or.inl h)), h.df.ev e (by omega), h.rf.ev e (by omega), h.bo.ev e (fun i h1 _ h => by omega), ⟨by rw [ext_lt (blk_lt h.b0)]; exact c0, by rw [ext_lt (blk_lt h.b1)]; exact c1, by rw [ext_lt (blk_lt hr0)]; exact c2⟩, (t.block _ (blk_lt h.b0) (fun hs => (hS _ (blk_lt h.b0) hs).2.1 rfl)).trans h.b0, (t.block _ (blk_lt h.b1) (fun hs => (hS _ (blk_lt h.b1) hs).2.2 rfl)).trans h.b1, hr, h.k0.zero t hS2 h.ev.tch.size⟩
theorem CW.drewN (h : CW w ω bb T k db rb pc oc hN wN hF wF dA dR W ω') (n : Nat) : CW w ω bb T k db rb pc oc hN wN hF wF dA dR (W.drewN n) ω' := by
  have e : Ev (fun _ => False) W ω' (W.drewN n) ω' := (Ev.refl _ W ω').drewN n
  obtain ⟨r1, r2, r3, r4⟩ := h.rest e (fun h => h)
  exact ⟨h.ev.drewN n, h.df.ev e (fun h => h), h.rf.ev e (fun h => h), h.bo.ev e (fun _ _ _ h => h), r1, r2, r3, r4, h.k0.ev e (fun h => h) h.ev.tch.size⟩
/-- The answer's box is stored. -/
theorem CW.put (h : CW w ω bb T k db rb pc oc hN wN hF wF dA dR W ω') (hk : 1 ≤ k ∧ k ≤ 3) (a b c : Value) : CW w ω bb T k db rb pc oc hN wN hF wF dA dR (((W.setCell ⟨w.heap.size + 2, 0, none⟩ a).setCell ⟨w.heap.size + 2, 1, none⟩ b).setCell ⟨w.heap.size + 2, 2, none⟩ c) (ext ω' W.heap.size 0) ∧ (((W.setCell ⟨w.heap.size + 2, 0, none⟩ a).setCell ⟨w.heap.size + 2, 1, none⟩ b).setCell ⟨w.heap.size + 2, 2, none⟩ c).heap[w.heap.size + 2]? = some (.cells #[a, b, c] 26 (0, 0)) := by
  obtain ⟨rc, hr, hz⟩ := h.b2
  have hb := blk_set (blk_set (blk_set hr (i := 0) a) (i := 1) b) (i := 2) c
  have hrc : ((rc.setIfInBounds 0 a).setIfInBounds 1 b).setIfInBounds 2 c = #[a, b, c] := by
    apply Array.ext
    · simp [hz]
    · intro i h1 h2
      have h3 : i < 3 := by simpa using h2
      rcases (show i = 0 ∨ i = 1 ∨ i = 2 by omega) with rfl | rfl | rfl <;> simp [hz]
  rw [hrc] at hb
  refine ⟨h.zero hk (fun i => i = w.heap.size + 2) (((Tch.setCell (fun i => i = w.heap.size + 2) W ⟨w.heap.size + 2, 0, none⟩ a rfl).setCellR ⟨w.heap.size + 2, 1, none⟩ b rfl).setCellR ⟨w.heap.size + 2, 2, none⟩ c rfl) (fun i _ e => by subst e; exact ⟨h.cl.2.2, by omega, by omega⟩) ⟨_, hb, rfl⟩ (fun i e => by omega), hb⟩
end

/-- What a step leaves. -/
def Stepped (w : World) (ω : Nat → Nat) (bb T k : Nat) (d : Dsk) (w' : World) (db rb : Nat) : Prop := ∃ ω' hN wN hF wF d', BO w' ω' bb (T + 1) hN wN hF wF ∧ PR w' ω' k db rb d' ∧ (d'.m.length ≤ d.m.length + 1 ∧ (Nok d → Nok d')) ∧ Ev (KS k) w ω w' ω' ∧ K0 w ω w' ω'
theorem CW.stepped {w : World} {ω : Nat → Nat} {bb T k db rb : Nat} {pc oc : Array Value} {hN wN hF wF : Value} {d d' : Dsk} {W : World} {ω' : Nat → Nat} (h : CW w ω bb T k db rb pc oc hN wN hF wF d' d' W ω') (hl : d'.m.length ≤ d.m.length + 1 ∧ (Nok d → Nok d')) : Stepped w ω bb T k d W db rb := ⟨ω', hN, wN, hF, wF, d', h.bo.up, ⟨h.df, h.rf⟩, hl, h.ev, h.k0⟩

theorem len_act (d : Dsk) (g : Dsk → Dsk) (n : Nat) (h : (g d).m.length ≤ n) (h' : d.m.length ≤ n) : (d.act g).2.m.length ≤ n := by unfold Dsk.act; split <;> assumption
theorem len_create (d : Dsk) (n : Nm) : (d.create n).2.m.length ≤ d.m.length + 1 := by
  unfold Dsk.create
  split
  · exact Nat.le_succ _
  · split
    · exact Nat.le_succ _
    · exact len_act d _ _ (length_putL_le _ _ _) (Nat.le_succ _)
theorem len_append (d : Dsk) (n s : Nm) : (d.append n s).2.m.length ≤ d.m.length + 1 := by
  unfold Dsk.append
  split
  · exact Nat.le_succ _
  · split
    · exact Nat.le_succ _
    · exact len_act d _ _ (by show (setL _ _ d.m).length ≤ _; rw [length_setL]; omega) (Nat.le_succ _)
theorem len_sync (d : Dsk) (n : Nm) : (d.sync n).2.m.length ≤ d.m.length + 1 := by
  unfold Dsk.sync
  split
  · exact Nat.le_succ _
  · split
    · exact Nat.le_succ _
    · split
      · exact Nat.le_succ _
      · show (setL _ _ d.m).length ≤ _
        rw [length_setL]; omega
theorem len_trunc (d : Dsk) (n : Nm) (k : Int) : (d.trunc n k).2.m.length ≤ d.m.length + 1 := by
  unfold Dsk.trunc
  split
  · exact Nat.le_succ _
  · split
    · exact Nat.le_succ _
    · exact len_act d _ _ (by show (setL _ _ d.m).length ≤ _; rw [length_setL]; omega) (Nat.le_succ _)
theorem len_remove (d : Dsk) (n : Nm) : (d.remove n).2.m.length ≤ d.m.length + 1 := by
  unfold Dsk.remove
  split
  · exact Nat.le_succ _
  · exact len_act d _ _ (by have := length_delL_le n d.m; show (delL n d.m).length ≤ _; omega) (Nat.le_succ _)
theorem len_rename (d : Dsk) (n n' : Nm) : (d.rename n n').2.m.length ≤ d.m.length + 1 := by
  unfold Dsk.rename
  split
  · exact Nat.le_succ _
  · split
    · exact Nat.le_succ _
    · refine len_act d _ _ ?_ (Nat.le_succ _)
      split
      · omega
      · have h1 := length_putL_le n' (d.file n) (delL n (delL n' d.m))
        have h2 := length_delL_le n (delL n' d.m)
        have h3 := length_delL_le n' d.m
        show (putL n' (d.file n) (delL n (delL n' d.m))).length ≤ _
        omega
theorem len_arm (d : Dsk) (k : Int) : (d.arm k).2.m.length ≤ d.m.length + 1 := by
  unfold Dsk.arm
  split
  · exact Nat.le_succ _
  · split <;> exact Nat.le_succ _
theorem len_failSync (d : Dsk) (k : Int) : (d.failSync k).2.m.length ≤ d.m.length + 1 := by
  unfold Dsk.failSync
  split
  · exact Nat.le_succ _
  · split <;> exact Nat.le_succ _
end Go.Proofs.YtjambfbibeihiaaGreat
