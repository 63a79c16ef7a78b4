import Derived.Test.YtjambfbibeihiaaGreatStF
/- A step: a torn list. -/
namespace Go.Proofs.YtjambfbibeihiaaGreat
set_option maxRecDepth 100000
open Go.RowKit Go.ChangeMaps Go.Sort

/-- The first j numbers turned. -/
def mixK (d : Dsk) (nm : Nat → ByteArray) (by' : Nat → Int) (j i : Nat) : Int := if i < j then pk (by' i) ((d.pending (nm i).data.toList : Int) + 1) else by' i
theorem kcl_congr {nm : Nat → ByteArray} {by1 by2 : Nat → Int} : ∀ {n : Nat}, (∀ i, i < n → by1 i = by2 i) → kcl nm by1 n = kcl nm by2 n
  | 0, _ => rfl
  | n + 1, h => by rw [kcl, kcl, kcl_congr (fun i hi => h i (by omega)), h n (by omega)]
theorem kcl_set (nm : Nat → ByteArray) (by' : Nat → Int) (x : Int) (j : Nat) : ∀ n, j < n → (kcl nm by' n).set (j * 2 + 1) (.int .i64 x) = kcl nm (fun i => if i = j then x else by' i) n
  | 0, h => by omega
  | n + 1, h => by
    have hl := kcl_len nm by' n
    rw [kcl, kcl]
    rcases Nat.lt_or_ge j n with h1 | h1
    · rw [List.set_append_left _ _ (by omega), kcl_set nm by' x j n h1]
      simp only [show ¬ n = j by omega, if_false]
    · obtain rfl : j = n := by omega
      rw [List.set_append_right _ _ (by omega), hl, show j * 2 + 1 - j * 2 = 1 by omega]
      rw [kcl_congr (by1 := fun i => if i = j then x else by' i) (by2 := by') (fun i hi => if_neg (by omega))]
      simp
theorem mixK_succ (d : Dsk) (nm : Nat → ByteArray) (by' : Nat → Int) (j n : Nat) (h : j < n) : (kcl nm (mixK d nm by' j) n).set (j * 2 + 1) (.int .i64 (pk (by' j) ((d.pending (nm j).data.toList : Int) + 1))) = kcl nm (mixK d nm by' (j + 1)) n := by
  rw [kcl_set _ _ _ _ _ h]
  refine kcl_congr (fun i _ => ?_)
  unfold mixK
  by_cases e : i = j
  · subst e; rw [if_pos rfl, if_pos (by omega)]
  · rw [if_neg e]
    by_cases h2 : i < j
    · rw [if_pos h2, if_pos (by omega)]
    · rw [if_neg h2, if_neg (by omega)]
theorem pending_le {d : Dsk} (hB : Bd d) (n : Nm) : (d.pending n : Int) ≤ 1000000000 := by
  unfold Dsk.pending
  cases h : getL n d.m with
  | none => simp [Dsk.file, h]
  | some f =>
    rw [file_some h]
    have h1 := mem_used h
    have h2 := hB.room
    have h3 := hB.cap
    omega
theorem kls_row {w : World} {base : Nat} {ao : Option Addr} {n cp : Nat} {nm : Nat → ByteArray} {by' : Nat → Int} (h : w.ownsRow base 58 2 (.slice ao n cp) n (kcl nm by' n)) (hr : ∀ i, i < n → -9223372036854775808 ≤ by' i ∧ by' i ≤ 9223372036854775807) : KLs w ao n nm by' := fun i hi => by
  obtain ⟨g, cp', e1, _, hlt⟩ := h.form (by omega)
  simp only [Value.slice.injEq, true_and] at e1
  obtain ⟨rfl, _⟩ := e1
  obtain ⟨e1, e2⟩ := kcl_get nm by' n i hi
  have h1 := h.cells (g := g) rfl _ _ e1
  have h2 := h.cells (g := g) rfl _ _ e2
  refine ⟨g, 0, rfl, ⟨?_, ?_⟩, hr i hi⟩
  · simpa [Addr.add_lit] using h1
  · simpa [Addr.add_lit] using h2

section
variable (bb T k db rb : Nat) (d : Dsk) (c N M : Int) (tw : Bool) (nm S : ByteArray) (lo : Option Addr) (ln lc : Nat) (nmL : Nat → ByteArray) (byL : Nat → Int) (hN wN hF wF : Value) (ω : Nat → Nat) (w : World)

set_option maxHeartbeats 4000000 in
theorem step_16 (hb : BO w ω bb T hN wN hF wF) (hp : PR w ω k db rb d) (hk : 1 ≤ k ∧ k ≤ 3) (hl : (d.m.length + 1) * 40 ≤ 140737488355328) (hL : KLs w lo ln nmL byL) (hnil : lo = none → ln = 0 ∧ lc = 0) (hn : (ln + 2) * 40 ≤ 140737488355328) :
    Calls Tryz.prog 6 #[pairV db rb c, .pointer (some ⟨bb, 0, none⟩), opV 16 N M tw nm S lo ln lc] w fun x w' => x = .returned (.tuple #[pairV db rb c, .bool true]) ∧ Stepped w ω bb T k d w' db rb := by
  have hBd := Bd.of hp.df hl
  obtain ⟨w0, hw0⟩ : ∃ w0, w0 = ((w.alloc (.cells (pairC db rb c) 26)).alloc (.cells (opC 16 N M tw nm S lo ln lc) 41)).alloc (.cells #[.pointer none, .pointer none, .int .i64 0] 26) := ⟨_, rfl⟩
  have h0 := CW.start (pc := pairC db rb c) (oc := opC 16 N M tw nm S lo ln lc) hp hb hk
  rw [← hw0] at h0
  have t0 : Tch (fun _ => False) w w0 := by rw [hw0]; exact box3_no _ _ _ _
  have hz0' : w.heap.size + 2 < w0.heap.size := by obtain ⟨_, hr, _⟩ := h0.b2; exact blk_lt hr
  obtain ⟨i0, hi0, hz0, hz1, hz2⟩ := info_parts info_keep
  have HBy : Hid (∀ i, i < ln → -9223372036854775808 ≤ byL i ∧ byL i ≤ 9223372036854775807) := fun i hi => by obtain ⟨_, _, _, _, h⟩ := hL i hi; exact h
  have HREST : Hid (∀ W l1 lc1, W.ownsRow w0.heap.size 58 2 (.slice l1 ln lc1) ln (kcl nmL (mixK d nmL byL 0) ln) → Tch (fun _ => False) w0 W → ∃ ω', CW w ω bb T k db rb (pairC db rb c) (opC 16 N M tw nm S lo ln lc) hN wN hF wF d d W ω' ∧ ∀ g, (Value.slice l1 ln lc1).ownBlock = some g → ω' g = 0) := fun W l1 lc1 ho t => by
    obtain ⟨rc, hr, hz⟩ := h0.b2
    refine ⟨_, h0.zero hk (fun _ => False) t (fun _ _ h => h.elim) ⟨rc, (t.block _ (blk_lt hr) (fun h => h)).trans hr, hz⟩ (fun _ h => h.elim), fun g hg => ext_ge (ho.lt g hg).1⟩
  have hk0 : kcl nmL byL ln = kcl nmL (mixK d nmL byL 0) ln := kcl_congr (fun i _ => by unfold mixK; rw [if_neg (by omega)])
  have hLc := hL.no t0
  clear hb hp h0
  cases lo with
  | none =>
    obtain ⟨rfl, rfl⟩ := hnil rfl
    clear hLc hL hnil t0 hk0 HBy
    have hown1 : w0.ownsRow w0.heap.size 58 2 (.slice none 0 0) 0 (kcl nmL (mixK d nmL byL 0) 0) := World.ownsRow_nil _ _ _ _
    have t1 : Tch (fun _ => False) w0 w0 := Tch.refl _ _
    go_enter Tryz.func6, Tryz.ntmps6
    go_wp2_with (first
      | (at_builtin; rw [← hw0]; refine wpList_append_own_none rfl (.const (.slice none 0 0)) (.tmp 157) 39 rfl w0.heap.size 58 i0 2 Tryz.underlying39 hi0 (.slice none 0 0) 0 [] rfl (World.ownsRow_nil _ _ _ _) rfl ?_)
      | fail)
    obtain ⟨ω1, hCW1, hcl1⟩ := HREST.out w0 none 0 hown1 t1
    have HI : Hid (_ ∧ _ ∧ _) := And.intro hown1 (And.intro hCW1 hcl1)
    clear HREST hown1 hCW1 hcl1 t1
    go_wp2_with fail
    go_loopw [10] (fun i wr => ∃ j : Nat, i = .int .i64 j ∧ j ≤ 0 ∧ wr.ownsRow w0.heap.size 58 2 (.slice none 0 0) 0 (kcl nmL (mixK d nmL byL j) 0) ∧ ∃ ω', CW w ω bb T k db rb (pairC db rb c) (opC 16 N M tw nm S none 0 0) hN wN hF wF d d wr ω' ∧ ∀ g, (Value.slice none 0 0).ownBlock = some g → ω' g = 0) (fun i _ => 0 - (intOf i).toNat)
    case atStart => rw [← hw0]; exact ⟨0, rfl, by omega, HI.out.1, ω1, HI.out.2.1, HI.out.2.2⟩
    case round =>
      obtain ⟨j, rfl, hj, hown, ω2, hCW, hcl⟩ := hrel
      by_cases hlt : (j : Int) < 0
      · exfalso; omega
      · obtain rfl : j = 0 := by omega
        have hKL := kls_row hown (fun i hi => by
          unfold mixK
          rw [if_pos hi]
          have h1 := pending_le hBd (nmL i).data.toList
          have h2 := pk_rng (byL i) ((d.pending (nmL i).data.toList : Int) + 1) (by omega)
          omega)
        have hcr := crashes_any k db rb d c none 0 0 nmL (mixK d nmL byL 0) ω2 wr ⟨hCW.df, hCW.rf⟩ hk hl hKL (fun a h1 e => by
          obtain ⟨g, cp', e1, _, hgl⟩ := hown.form h1
          simp only [Value.slice.injEq, true_and] at e1
          obtain ⟨e4, _⟩ := e1
          rw [e4] at e
          cases e
          exact ⟨hgl, hcl g (by rw [e4]; rfl)⟩) (fun _ => ⟨rfl, rfl⟩) hn
        obtain ⟨⟨q0, q1, q2⟩, -, -⟩ := hCW.cells
        have HC2 : Hid _ := hCW
        clear hown hCW hcl hKL HI
        go_wp2_with fail
        refine hcr.mono ?_
        rintro x w5 ⟨rfl, ω5, d5, hp5, ⟨hl5, hn5, -⟩, E5⟩
        have h5 := HC2.out.crashed hk hp5 E5
        obtain ⟨⟨q0, q1, q2⟩, ⟨⟨y0, g0⟩, ⟨y1, g1⟩, ⟨y2, g2⟩⟩, gf⟩ := h5.cells
        have gf0 := gf 0
        have gf1 := gf 1
        have gf2 := gf 2
        have HP : Hid _ := h5.put hk (.pointer (some ⟨db, 0, none⟩)) (.pointer (some ⟨rb, 0, none⟩)) (.int .i64 c)
        clear hcr HC2 h5 gf hp5 E5
        go_wp2
        refine bodyPost_ret (res_step HP.out.2 true _ rfl rfl) rfl ?_
        exact ⟨rfl, HP.out.1.stepped ⟨by omega, hn5⟩⟩
  | some a =>
    have hcs := kls_cells hLc
    have hl2 := kcl_len nmL byL ln
    have hon := kcl_one nmL byL ln
    clear hLc hL hnil t0
    go_enter Tryz.func6, Tryz.ntmps6
    go_wp2_with (first
      | (at_builtin; rw [← hw0]; refine wpList_append_own _ rfl (.const (.slice none 0 0)) (.tmp 157) 39 rfl w0.heap.size 58 i0 (.agg #[.string ⟨#[]⟩, .int .i64 0]) 2 24 Tryz.underlying39 hi0 hz0 hz1 hz2 rfl (by decide) (.slice none 0 0) 0 [] rfl (World.ownsRow_nil _ _ _ _) a ln lc (kcl nmL byL ln) rfl hl2 hcs hon (by unfold maxLen; omega) (by omega) (Nat.le_refl _) ?_; intro v1 w1 hown1 hgrow1 _
         have t1 : Tch (fun _ => False) w0 w1 := Tch.of_grown hgrow1 (fun g e => by cases e)
         simp only [Nat.zero_add, List.nil_append] at hown1
         obtain ⟨l1, lc1, hv1⟩ := rowN_of hown1
         subst hv1
         rw [hk0] at hown1
         clear hgrow1 hcs)
      | fail)
    obtain ⟨ω1, hCW1, hcl1⟩ := HREST.out w1 l1 lc1 hown1 t1
    have HI : Hid (_ ∧ _ ∧ _) := And.intro hown1 (And.intro hCW1 hcl1)
    clear HREST hown1 hCW1 hcl1 t1
    go_wp2_with fail
    go_loopw [10] (fun i wr => ∃ j : Nat, i = .int .i64 j ∧ j ≤ ln ∧ wr.ownsRow w0.heap.size 58 2 (.slice l1 ln lc1) ln (kcl nmL (mixK d nmL byL j) ln) ∧ ∃ ω', CW w ω bb T k db rb (pairC db rb c) (opC 16 N M tw nm S (some a) ln lc) hN wN hF wF d d wr ω' ∧ ∀ g, (Value.slice l1 ln lc1).ownBlock = some g → ω' g = 0) (fun i _ => ln - (intOf i).toNat)
    case atStart => exact ⟨0, rfl, by omega, HI.out.1, ω1, HI.out.2.1, HI.out.2.2⟩
    case round =>
      obtain ⟨j, rfl, hj, hown, ω2, hCW, hcl⟩ := hrel
      by_cases hlt : (j : Int) < ln
      · obtain ⟨g, cp', e1, hg0, hgl⟩ := hown.form (by omega)
        simp only [Value.slice.injEq, true_and] at e1
        obtain ⟨rfl, -⟩ := e1
        obtain ⟨e2, e3⟩ := kcl_get nmL (mixK d nmL byL j) ln j (by omega)
        have r0 := (hown.cellAt (j * 2) (by omega)).trans e2
        have r1 := (hown.cellAt (j * 2 + 1) (by omega)).trans e3
        rw [show mixK d nmL byL j j = byL j by unfold mixK; rw [if_neg (by omega)]] at r1
        have r1f := hown.frozenAt (j * 2 + 1)
        obtain ⟨⟨q0, q1, q2⟩, -, -⟩ := hCW.cells
        have hpl := pending_le hBd (nmL j).data.toList
        have hp0 : (0 : Int) ≤ (d.pending (nmL j).data.toList : Int) := by omega
        have hby := HBy.out j (by omega)
        have HPn : Hid (∀ q, _) := fun q => rpending_f rb d _ (wr.drewN q) (nmL j) ((hCW.drewN q).rf) hBd
        have HPk : Hid (∀ q, _) := fun q => pick_any (byL j) ((d.pending (nmL j).data.toList : Int) + 1) (wr.drewN q) hby.1 hby.2 (by omega) (by omega)
        have hst : ∀ q, ((wr.drewN q).setCell ⟨g, j * 2 + 1, none⟩ (.int .i64 (pk (byL j) ((d.pending (nmL j).data.toList : Int) + 1)))).ownsRow w0.heap.size 58 2 (.slice (some ⟨g, 0, none⟩) ln lc1) ln (kcl nmL (mixK d nmL byL (j + 1)) ln) := fun q => by
          have h := ((rowN_tch hown ((Tch.refl (fun _ => False) wr).drewN q) (fun _ _ h => h)).stored (j * 2 + 1) (.int .i64 (pk (byL j) ((d.pending (nmL j).data.toList : Int) + 1)))).1
          rw [mixK_succ d nmL byL j ln (by omega)] at h
          exact h
        have hg2 : ω2 g = 0 := hcl g rfl
        have HNX : Hid (∀ q, ((wr.drewN q).setCell ⟨g, j * 2 + 1, none⟩ (.int .i64 (pk (byL j) ((d.pending (nmL j).data.toList : Int) + 1)))).ownsRow w0.heap.size 58 2 (.slice (some ⟨g, 0, none⟩) ln lc1) ln (kcl nmL (mixK d nmL byL (j + 1)) ln) ∧ ∃ ω', CW w ω bb T k db rb (pairC db rb c) (opC 16 N M tw nm S (some a) ln lc) hN wN hF wF d d ((wr.drewN q).setCell ⟨g, j * 2 + 1, none⟩ (.int .i64 (pk (byL j) ((d.pending (nmL j).data.toList : Int) + 1)))) ω' ∧ ∀ g', (Value.slice (some ⟨g, 0, none⟩) ln lc1).ownBlock = some g' → ω' g' = 0) := fun q => by
          have h6 := hCW.drewN q
          obtain ⟨rc, hr, hz⟩ := h6.b2
          have t6 := Tch.setCell (fun i => i = g) (wr.drewN q) ⟨g, j * 2 + 1, none⟩ (.int .i64 (pk (byL j) ((d.pending (nmL j).data.toList : Int) + 1))) rfl
          refine ⟨hst q, _, h6.zero hk (fun i => i = g) t6 (fun i _ e => by subst e; exact ⟨hg2, by omega, by omega⟩) ⟨rc, (t6.block _ (blk_lt hr) (by show ¬ w.heap.size + 2 = g; omega)).trans hr, hz⟩ (fun i e => by omega), fun g' hg' => ?_⟩
          have e5 : g = g' := by simpa [Value.ownBlock] using hg'
          subst e5
          rw [ext_lt (by exact hgl)]; exact hg2
        generalize pk (byL j) ((d.pending (nmL j).data.toList : Int) + 1) = X at *
        generalize (d.pending (nmL j).data.toList : Int) = P at *
        have hwr1 : IntKind.i64.wrap (P + 1) = P + 1 := wrap_of (by omega) (by omega)
        have hwr2 : wrap64 (P + 1) = P + 1 := by unfold wrap64; omega
        clear hown hCW hcl hst e2 e3 HI
        go_wp2_with fail
        refine wp_region_drew_tail 19 (by kernel_rfl) (by kernel_rfl) ?_
        simp only [List.take_succ_cons, List.take_zero, List.drop_succ_cons, List.drop_zero]
        iterate 14 (quiet_step (fail))
        quiet_step ((go_at_call 29; exact Calls.quiet_of (HPn.out _)))
        quiet_step (fail)
        quiet_step ((go_at_call 5; exact Calls.quiet_of_same (HPk.out _)))
        iterate 2 (quiet_step (fail))
        refine wpQuiet_nil ?_
        rintro w3 ⟨m3, rfl⟩
        go_wp2
        go_roundw
        case rel => exact ⟨j + 1, by go_num, by omega, (HNX.out m3).1, (HNX.out m3).2⟩
        case measure => simp [intOf]; omega
      · obtain rfl : ln = j := by omega
        have hKL := kls_row hown (fun i hi => by
          unfold mixK
          rw [if_pos hi]
          have h1 := pending_le hBd (nmL i).data.toList
          have h2 := pk_rng (byL i) ((d.pending (nmL i).data.toList : Int) + 1) (by omega)
          omega)
        have hcr := crashes_any k db rb d c l1 ln lc1 nmL (mixK d nmL byL ln) ω2 wr ⟨hCW.df, hCW.rf⟩ hk hl hKL (fun a h1 e => by
          obtain ⟨g, cp', e1, _, hgl⟩ := hown.form h1
          simp only [Value.slice.injEq, true_and] at e1
          obtain ⟨e4, _⟩ := e1
          rw [e4] at e
          cases e
          exact ⟨hgl, hcl g (by rw [e4]; rfl)⟩) (fun e => by
          rcases hown.2 with ⟨h1, h2⟩ | ⟨g, cap, cur, h1, _⟩
          · simp only [Value.slice.injEq] at h1; exact ⟨h2, h1.2.2⟩
          · simp only [Value.slice.injEq] at h1; rw [e] at h1; cases h1.1) hn
        obtain ⟨⟨q0, q1, q2⟩, -, -⟩ := hCW.cells
        have HC2 : Hid _ := hCW
        clear hown hCW hcl hKL HI
        go_wp2_with fail
        refine hcr.mono ?_
        rintro x w5 ⟨rfl, ω5, d5, hp5, ⟨hl5, hn5, -⟩, E5⟩
        have h5 := HC2.out.crashed hk hp5 E5
        obtain ⟨⟨q0, q1, q2⟩, ⟨⟨y0, g0⟩, ⟨y1, g1⟩, ⟨y2, g2⟩⟩, gf⟩ := h5.cells
        have gf0 := gf 0
        have gf1 := gf 1
        have gf2 := gf 2
        have HP : Hid _ := h5.put hk (.pointer (some ⟨db, 0, none⟩)) (.pointer (some ⟨rb, 0, none⟩)) (.int .i64 c)
        clear hcr HC2 h5 gf hp5 E5
        go_wp2
        refine bodyPost_ret (res_step HP.out.2 true _ rfl rfl) rfl ?_
        exact ⟨rfl, HP.out.1.stepped ⟨by omega, hn5⟩⟩
end
end Go.Proofs.YtjambfbibeihiaaGreat
