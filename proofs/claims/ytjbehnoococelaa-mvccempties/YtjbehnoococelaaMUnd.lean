import Derived.Test.YtjbehnoococelaaMTid
/- undo. -/
namespace Go.Proofs.Ytjbehnoococelaa
open Go.RowKit Go Go.Sort Go.Maps

/-- clear and the store of what was: the chain as it was. -/
theorem HW.undo {w : World} {hb mb tb : Nat} {T : List (Int × Nat)} {E : List En} {C : Nat → Ch} {σ : Nat → Option Nat} {q : Nat} (h : HW w hb mb tb T E C σ q) {k : Int} {S : ByteArray} {cb : Nat} {wo : Option Addr} {wc : Nat} {zs : List VV} {bc bw bh bt bk : Nat} (u : UB w σ hb k S cb wo wc zs bc bw bh bt bk)
    (me : (⟨k, S.data.toList, cb⟩ : En) ∈ E) {co : Option Addr} {cc : Nat} {z : VV} (hC : C cb = (co, cc, zs ++ [z])) :
    ∃ g W', co = some ⟨g, 0, none⟩ ∧ zs.length + 1 ≤ cc ∧ cc ≤ maxLen ∧ (∀ ty c, (Builtin.clear_ #[82] ty #[.slice (some ⟨g, zs.length * 3, none⟩) 1 c]).run Try.prog w = .ok (.tuple #[]) W') ∧ Tch (fun i => σ i = some (2 * cb + 1)) w W' ∧ UB W' σ hb k S cb wo wc zs bc bw bh bt bk ∧ W'.heap[cb]? = some (.cells #[.slice co (zs.length + 1) cc] 82 (0, 0)) ∧
      HW (W'.setCell ⟨cb, 0, none⟩ (.slice wo zs.length wc)) hb mb tb T E (upB C cb (wo, wc, zs)) σ q ∧ Tch (fun i => σ i = some (2 * cb + 1)) w (W'.setCell ⟨cb, 0, none⟩ (.slice wo zs.length wc)) := by
  obtain ⟨hcb, hlq⟩ := h.chs _ me
  simp only [hC] at hcb hlq
  have hlen : (zs ++ [z]).length = zs.length + 1 := by simp
  have hblk := hcb.blk
  rw [hlen] at hblk
  rcases hcb.row.2 with ⟨e, h0⟩ | ⟨g, cap, cur, hv, _, hg, hnc, hcm, hcs, htake⟩
  · simp at h0
  injection hv with e1 e2 e3
  subst e1 e3
  rw [hlen] at hnc htake
  have hgl : σ g = some (2 * cb + 1) := hcb.rl g rfl
  obtain ⟨W', r0, tC, zz, hzz, hgC⟩ := clear_ver hg (show zs.length * 3 + 3 ≤ cur.size by rw [hcs]; omega)
  have tC' : Tch (fun i => σ i = some (2 * cb + 1)) w W' := tC.mono (fun i _ e => by rw [e]; exact hgl)
  have hgcb : g ≠ cb := row_ne hcb.row hcb.blk (by decide) (by rfl)
  have hcbC : W'.heap[cb]? = some (.cells #[.slice (some ⟨g, 0, none⟩) (zs.length + 1) cc] 82 (0, 0)) := by rw [tC.block cb (blk_lt hblk) (fun e => hgcb e.symm)]; exact hblk
  have hodd : ∀ g, g < w.heap.size → σ g = some (2 * cb + 1) → ∀ j, σ g ≠ some (2 * j) := fun g _ h j e => by rw [h] at e; injection e with e; omega
  have bx : ∀ b o, w.heap[b]? = some o → σ b = none → W'.heap[b]? = some o := fun b o h0 h1 => by rw [tC'.block b (blk_lt h0) (fun e => by rw [h1] at e; cases e)]; exact h0
  have hrow : W'.ownsRow 0 84 3 (.slice wo zs.length wc) zs.length (vrl zs) := by
    refine ⟨u.row.1, ?_⟩
    rcases u.row.2 with e | ⟨g2, cap2, cur2, hv2, b2, hg2, hn2, hm2, hs2, ht2⟩
    · exact .inl e
    · by_cases e : g2 = g
      · subst e
        rw [hg] at hg2
        cases hg2
        refine .inr ⟨g2, cap2, _, hv2, b2, hgC, hn2, hm2, ?_, ?_⟩
        · have : cur.toList.length = cap2 * 3 := by rw [Array.length_toList]; exact hs2
          simp only [List.size_toArray, List.length_append, List.length_take, List.length_drop, hzz, this]
          have := hcs
          rw [hs2] at this
          omega
        · have : cur.toList.length = cap2 * 3 := by rw [Array.length_toList]; exact hs2
          simp only [List.append_assoc]
          rw [List.take_append_of_le_length (by rw [List.length_take]; omega), List.take_take, Nat.min_self]
          exact ht2
      · exact .inr ⟨g2, cap2, cur2, hv2, b2, by rw [tC.block g2 (blk_lt hg2) e]; exact hg2, hn2, hm2, hs2, ht2⟩
  have tS : Tch (fun i => i = cb) W' (W'.setCell ⟨cb, 0, none⟩ (.slice wo zs.length wc)) := Tch.setCell (fun i => i = cb) W' ⟨cb, 0, none⟩ _ rfl
  have t7 : Tch (fun i => σ i = some (2 * cb + 1)) w (W'.setCell ⟨cb, 0, none⟩ (.slice wo zs.length wc)) := tC'.trans tS (fun i _ e => by rw [e]; exact hcb.lab)
  have hCB : CB (W'.setCell ⟨cb, 0, none⟩ (.slice wo zs.length wc)) σ cb wo wc zs := ⟨hcb.lab, by rw [blk_set hcbC]; rfl, own_tch hrow tS (fun g' hg' e => row_ne hrow hcbC (by decide) hg' e), u.rl, fun z' hz' => (u.ok z' hz').tch t7 hodd (fun _ _ _ => rfl)⟩
  refine ⟨g, W', rfl, hnc, hcm, r0, tC', ⟨bx _ _ u.fc u.lc, bx _ _ u.fw u.lw, bx _ _ u.fh u.lh, bx _ _ u.ft u.lt, bx _ _ u.fk u.lk, hrow, u.rl, fun z' hz' => (u.ok z' hz').tch tC' hodd (fun _ _ _ => rfl), u.lc, u.lw, u.lh, u.lt, u.lk⟩, hcbC, ?_, t7⟩
  · exact h.setC t7 (h.ene me) (fun p hp e => (h.lne hp).2.2 _ me e) (fun _ _ => rfl) (fun i hi => Nat.lt_of_lt_of_le (h.dom i hi) t7.size) (Nat.le_refl _) (by rw [hlen] at hlq; omega) hCB
set_option maxHeartbeats 4000000 in
set_option maxRecDepth 100000 in
theorem undo_any (w : World) (hb mb tb : Nat) (T : List (Int × Nat)) (E : List En) (C : Nat → Ch) (σ : Nat → Option Nat) (q : Nat) (h : HW w hb mb tb T E C σ q) (k : Int) (h1 : -9223372036854775808 ≤ k) (h2 : k ≤ 9223372036854775807) (S : ByteArray) (hS : S.size ≤ maxLen) (cb : Nat) (wo : Option Addr) (wc : Nat) (zs : List VV) (bc bw bh bt bk : Nat) (u : UB w σ hb k S cb wo wc zs bc bw bh bt bk)
    (me : (⟨k, S.data.toList, cb⟩ : En) ∈ E) (co : Option Addr) (cc : Nat) (z : VV) (hC : C cb = (co, cc, zs ++ [z])) (hq : q ≤ 2000) :
    Calls Try.prog 57 #[.pointer (some ⟨bc, 0, none⟩), .pointer (some ⟨bw, 0, none⟩), .pointer (some ⟨bh, 0, none⟩), .pointer (some ⟨bt, 0, none⟩), .pointer (some ⟨bk, 0, none⟩)] w fun x w' => x = .returned (.tuple #[]) ∧ (∃ T', HW w' hb mb tb T' (tidE E k S.data.toList zs) (upB C cb (wo, wc, zs)) σ q) ∧ Tch (fun i => σ i ≠ none) w w' := by
  obtain ⟨hcb, hlq⟩ := h.chs _ me
  simp only [hC] at hcb hlq
  have hlen : (zs ++ [z]).length = zs.length + 1 := by simp
  have hblk := hcb.blk
  rw [hlen] at hblk hlq
  obtain ⟨g, W9, rfl, hnc0, hcm0, hr9⟩ := h.undo u me hC
  clear hr9
  obtain ⟨ln, hln⟩ : ∃ ln, ln = zs.length := ⟨_, rfl⟩
  have d0 := cell_regrown (show w.cell? ⟨bc, 0, none⟩ = some (.pointer (some ⟨cb, 0, none⟩)) by rw [blk_cell u.fc]; rfl)
  have d1 := cell_regrown (show w.cell? ⟨bw, 0, none⟩ = some (.slice wo ln wc) by rw [blk_cell u.fw, hln]; rfl)
  have d2 := cell_regrown (show w.cell? ⟨cb, 0, none⟩ = some (.slice (some ⟨g, 0, none⟩) (ln + 1) cc) by rw [blk_cell hblk, hln]; rfl)
  have hln1 : ln + 1 ≤ cc := by omega
  have hcc : cc ≤ 9223372036854775807 := by unfold maxLen at hcm0; omega
  have HU : Hid (∀ V, Tch (fun _ => False) w V → ∃ W', (∀ ty c, (Builtin.clear_ #[82] ty #[.slice (some ⟨g, ln * 3, none⟩) 1 c]).run Try.prog V = .ok (.tuple #[]) W') ∧ UB W' σ hb k S cb wo wc zs bc bw bh bt bk ∧ W'.heap[cb]? = some (.cells #[.slice (some ⟨g, 0, none⟩) (ln + 1) cc] 82 (0, 0)) ∧ HW (W'.setCell ⟨cb, 0, none⟩ (.slice wo ln wc)) hb mb tb T E (upB C cb (wo, wc, zs)) σ q ∧ Tch (fun i => σ i ≠ none) w (W'.setCell ⟨cb, 0, none⟩ (.slice wo ln wc))) := fun V t => by
    obtain ⟨g', W', e, _, _, r, _, u', hb', hw', t7⟩ := (h.no t).undo (u.no t) me hC
    cases e
    rw [← hln] at r hb' hw' t7
    exact ⟨W', r, u', hb', hw', (t.mono (fun _ _ h => h.elim)).trans t7 (fun i _ e => by rw [e]; exact fun h => by cases h)⟩
  have HL : Hid (ln = zs.length) := hln
  have HA : Hid _ := And.intro h1 (And.intro h2 (And.intro hS me))
  have hlb : σ cb = some (2 * cb + 1) := hcb.lab
  have Hlab : Hid (σ bh = none ∧ σ bt = none ∧ σ bk = none ∧ σ cb ≠ none) := ⟨u.lh, u.lt, u.lk, by rw [hlb]; exact fun h => by cases h⟩
  have Hq : Hid _ := hq
  clear h hcb hlq hblk hnc0 hcm0 hC u hln h1 h2 hS me hlb hq
  have hi1 : (ln : Int) ≤ (ln : Int) + 1 := by omega
  go_enter Try.func57, Try.ntmps57
  go_wp2_with fail
  refine wp_region_below_tail 6 (by kernel_rfl) (by kernel_rfl) ?_
  simp only [List.take_succ_cons, List.take_zero, List.drop_succ_cons, List.drop_zero]
  repeat (go_big_quiet_step (fail))
  refine wpQuiet_nil ?_
  rintro V ⟨pp, hV⟩
  have tV : Tch (fun _ => False) w V := by rw [hV]; exact tch_regrown w pp
  clear hV d0 d1 d2
  obtain ⟨W', hcl, u', hb', hw', t7⟩ := HU.out V tV
  obtain ⟨h1, h2, hS, me⟩ := HA.out
  obtain ⟨l1, l2, l3, l4⟩ := Hlab.out
  have k0 : W'.cell? ⟨bc, 0, none⟩ = some (.pointer (some ⟨cb, 0, none⟩)) := by rw [blk_cell u'.fc]; rfl
  have k1 : W'.cell? ⟨bw, 0, none⟩ = some (.slice wo ln wc) := by rw [blk_cell u'.fw, HL.out]; rfl
  have k2 : W'.cell? ⟨cb, 0, none⟩ = some (.slice (some ⟨g, 0, none⟩) (ln + 1) cc) := by rw [blk_cell hb']; rfl
  have k3 := blk_frozen hb' 0
  obtain ⟨W7, hW7⟩ : ∃ W7, W7 = W'.setCell ⟨cb, 0, none⟩ (.slice wo ln wc) := ⟨_, rfl⟩
  have tS : Tch (fun i => i = cb) W' W7 := by rw [hW7]; exact Tch.setCell (fun i => i = cb) W' ⟨cb, 0, none⟩ _ rfl
  have m0 : W7.cell? ⟨bh, 0, none⟩ = some (.pointer (some ⟨hb, 0, none⟩)) := by rw [tS.cell (p := ⟨bh, 0, none⟩) (blk_lt u'.fh) (fun e => l4 (by rw [← e]; exact l1)), blk_cell u'.fh]; rfl
  have m1 : W7.cell? ⟨bt, 0, none⟩ = some (.int .i64 k) := by rw [tS.cell (p := ⟨bt, 0, none⟩) (blk_lt u'.ft) (fun e => l4 (by rw [← e]; exact l2)), blk_cell u'.ft]; rfl
  have m2 : W7.cell? ⟨bk, 0, none⟩ = some (.string S) := by rw [tS.cell (p := ⟨bk, 0, none⟩) (blk_lt u'.fk) (fun e => l4 (by rw [← e]; exact l3)), blk_cell u'.fk]; rfl
  rw [← hW7] at hw' t7
  have qT := tidy_any W7 hb mb tb T E _ σ q hw' k h1 h2 S hS cb me wo wc zs (upB_same _ _ _)
  have T7 : Hid (Tch (fun i => σ i ≠ none) w (W'.setCell ⟨cb, 0, none⟩ (.slice wo ln wc))) := by
    have := t7
    rw [hW7] at this
    exact this
  clear HU hb' hw' t7 tV u' l1 l2 l3 l4 h1 h2 me hS tS
  rw [hW7] at m0 m1 m2 qT
  clear hW7
  go_wp2_with fail
  refine qT.mono ?_
  rintro x w9 ⟨rfl, h9, t9⟩
  have H9 : Hid _ := h9
  have T9 : Hid _ := T7.out.trans' t9
  clear h9 t9 qT
  go_wp2
  go_end0
  exact ⟨rfl, H9.out, T9.out⟩
end Go.Proofs.Ytjbehnoococelaa
