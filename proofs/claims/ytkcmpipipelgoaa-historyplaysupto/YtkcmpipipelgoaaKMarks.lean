import Derived.Test.YtkcmpipipelgoaaKGrow
/- Columns that came out, marked and grown. -/
namespace Go.Proofs.Ytkcmpipipelgoaa
open Go.RowKit Go

theorem info_cols : (Try.prog.info? 34).map (fun i => (i.zero, i.size, i.bytes)) = some (some (.slice none 0 0), 1, 24) := by kernel_rfl
set_option maxHeartbeats 1000000 in
set_option maxRecDepth 100000 in
theorem marks_any (b : Nat) (cur : Array Value) (A : List Value) (rv v : Value) (n : Nat) (xs : List Value) (F : Nat → Prop) (a0 a1 : Int) (a2 : ByteArray) (a4 : Int) (w : World)
    (hb : w.heap[b]? = some (.cells cur 59 (0, 0))) (hs : cur.size = 8) (hc2 : cur[4]? = some rv)
    (hL : LSb 34 w (fun i => F i ∨ v.ownBlock = some i) b mkC A rv) (hv : w.ownsRow 0 80 3 v n xs) (hn : n ≤ 8) (hg : ∀ g, v.ownBlock = some g → g ≠ b ∧ ¬ F g)
    (hF : ∀ i, F i → i < w.heap.size) (hA : A.length ≤ 1099511627776) (h20 : A.length % 20 = 0) :
    Calls Try.prog 53 #[.pointer (some ⟨b, 0, none⟩), tA a0 a1 a2 v a4] w fun x w' => x = .returned (.tuple #[]) ∧ (∃ rv' A', A'.length = A.length + 20 ∧ w'.heap[b]? = some (.cells (cur.setIfInBounds 4 rv') 59 (0, 0)) ∧ LSb 34 w' F b mkC A' rv') ∧ Tch (fun i => i = b ∨ rv.ownBlock = some i ∨ v.ownBlock = some i) w w' := by
  obtain ⟨w00, hw00⟩ : ∃ w00, w00 = w.alloc (.cells #[.int .i64 a0, .int .i64 a1, .string a2, v, .int .i64 a4] 36) := ⟨_, rfl⟩
  have t00 : Tch (fun _ => False) w w00 := by rw [hw00]; exact Tch.alloc _ _ _
  have hbx : w00.heap[w.heap.size]? = some (.cells #[.int .i64 a0, .int .i64 a1, .string a2, v, .int .i64 a4] 36 (0, 0)) := by rw [hw00]; exact alloc_new _ _
  have k0 : w00.cell? ⟨w.heap.size, 3, none⟩ = some v := by rw [blk_cell hbx]; rfl
  have hsz00 : w00.heap.size = w.heap.size + 1 := by rw [hw00, World.size_alloc]
  have q : Calls Try.prog 53 #[.pointer (some ⟨b, 0, none⟩), tA a0 a1 a2 v a4] w fun x w' => x = .returned (.tuple #[]) ∧ (∃ rv' A', A'.length = A.length + 20 ∧ w'.heap[b]? = some (.cells (cur.setIfInBounds 4 rv') 59 (0, 0)) ∧ LSb 34 w' F b mkC A' rv') ∧ Tch (fun i => i = b ∨ rv.ownBlock = some i ∨ v.ownBlock = some i) w00 w' := by
    replace hb := (t00.block b (blk_lt hb) (fun h => h)).trans hb
    replace hL := hL.tch t00 (fun _ h => h.elim)
    replace hv := own_tch hv t00 (fun _ _ h => h)
    replace hF : ∀ i, F i → i < w00.heap.size := fun i h => by have := hF i h; omega
    rw [hw00] at k0
    have Hw00 : Hid _ := hw00
    have Hs00 : Hid (w00.heap.size = w.heap.size + 1) := hsz00
    clear hw00 t00 hbx hsz00
    obtain ⟨i0, hi0, hz0, hz1, hz2⟩ := info_parts info_col
    obtain ⟨i1, hi1, hy0, hy1, hy2⟩ := info_parts info_cols
    obtain ⟨vo, vc, hvv0⟩ := row_slice hv
    subst hvv0
    obtain ⟨ro, rc, hrv⟩ := row_slice hL.all
    obtain ⟨M, hM⟩ : ∃ M : Int, M = -7 - (A.length : Int) := ⟨_, rfl⟩
    obtain ⟨N, hN⟩ : ∃ N, N = w00.heap.size := ⟨_, rfl⟩
    obtain ⟨w0, hw0⟩ : ∃ w0, w0 = w00.alloc (.cells #[.string ⟨#[]⟩, .int .i64 M, .bool false] 80) := ⟨_, rfl⟩
    obtain ⟨cs, hcs⟩ : ∃ cs : List Value, cs = [.string ⟨#[]⟩, .int .i64 M, .bool false] := ⟨_, rfl⟩
    have t0 : Tch (fun _ => False) w00 w0 := by rw [hw0]; exact Tch.alloc _ _ _
    have hbN : b < N := by rw [hN]; exact blk_lt hb
    have hN0 : w0.heap.size = N + 1 := by rw [hw0, hN, World.size_alloc]
    have hmk : ∀ j, A.length ≤ j → j < A.length + 20 → mkC j = cs := fun j h1 h2 => by
      rw [hcs, hM]; unfold mkC; rw [show j / 20 * 20 = A.length by omega]
    have HL0 : Hid (LSb 34 w00 (fun i => (F i ∨ i = N) ∨ (Value.slice vo n vc).ownBlock = some i) b mkC A rv) := hL.fresh (fun i hi h => by
      rcases h with (h | h) | h
      · exact Or.inl h
      · omega
      · exact Or.inr h)
    have HB0 : Hid (w0.cell? ⟨N, 0, none⟩ = some (.string ⟨#[]⟩) ∧ w0.cell? ⟨N, 1, none⟩ = some (.int .i64 M) ∧ w0.cell? ⟨N, 2, none⟩ = some (.bool false)) := by
      have q := box_cells w00 (.string ⟨#[]⟩) (.int .i64 M) (.bool false) 80
      rw [← hw0, ← hN] at q
      exact q
    have HVb : Hid (∀ g, (Value.slice vo n vc).ownBlock = some g → g ≠ b ∧ ¬ F g ∧ g < N) := fun g e => ⟨(hg g e).1, (hg g e).2, by rw [hN]; exact (hv.lt g e).2⟩
    have HV0 : Hid (MC 80 w0 (.slice vo n vc) n cs 0) := (MC.of hv).tch t0 (fun _ _ h => h)
    have Hb0 : Hid (w0.heap[b]? = some (.cells cur 59 (0, 0))) := by show _ = _; rw [t0.block b (blk_lt hb) (fun h => h)]; exact hb
    have cb2 : w00.cell? ⟨b, 4, none⟩ = some (.slice ro A.length rc) := by rw [blk_cell hb, hc2, hrv]
    have Hmk : Hid _ := hmk
    have Hcs : Hid _ := hcs
    have HM : Hid _ := hM
    have Hw0 : Hid _ := hw0
    have HN : Hid (N = w00.heap.size) := hN
    have HrvE : Hid _ := hrv
    have Ht0 : Hid _ := t0
    have HFw : Hid _ := hF
    have hAI : (A.length : Int) ≤ 1099511627776 := by omega
    have hMw : IntKind.i64.wrap (-7 - (A.length : Int)) = M := by rw [hM]; exact wrap_of (by omega) (by omega)
    have HN0 : Hid (w0.heap.size = N + 1) := hN0
    clear hb hv hL hcs hw0 hN hrv t0 hmk hF hg hM hN0 hA h20
    rw [Hw00.out] at cb2
    go_enter Try.func53, Try.ntmps53
    go_wp2_with fail
    have hw00 := Hw00.out
    rw [← hw00]
    clear hw00
    have hs00 := Hs00.out
    rw [← hs00]
    clear hs00
    rw [← HN.out]
    have hw0 := Hw0.out
    rw [← hw0]
    clear hw0 cb2 hMw k0
    go_loopw [6] (fun i wr => ∃ q : Nat, i = .int .i64 q ∧ q ≤ n ∧ Hid (MC 80 wr (.slice vo n vc) n cs q) ∧ Hid (Tch (fun i => (Value.slice vo n vc).ownBlock = some i) w0 wr)) (fun i _ => n - (intOf i).toNat)
    case atStart => exact ⟨0, rfl, by omega, HV0, Tch.refl _ _⟩
    case round =>
      obtain ⟨q, rfl, hq, HC, HT⟩ := hrel
      by_cases hqn : (q : Int) < n
      · rcases HC.out with ⟨_, h0⟩ | ⟨g, c, cu, hvv, hh, hnc, hcm, hsz, htk⟩
        · omega
        · injection hvv with e1 e2 e3
          subst e1 e3
          have hqc : q < vc := by omega
          obtain ⟨⟨y0, e0⟩, ⟨y1, e1⟩, ⟨y2, e2⟩, hf⟩ := set3_cells hh hsz hqc (.string ⟨#[]⟩) (.int .i64 M)
          have f0 := hf (q * 3); have f1 := hf (q * 3 + 1); have f2 := hf (q * 3 + 2)
          have hNg : ¬ (Value.slice (some ⟨g, 0, none⟩) n vc).ownBlock = some N := fun e => by have := (HVb.out N e).2.2; omega
          have b0 : wr.cell? ⟨N, 0, none⟩ = some (.string ⟨#[]⟩) := by rw [HT.out.cell (p := ⟨N, 0, none⟩) (by have := HN0.out; show N < _; omega) hNg]; exact HB0.out.1
          have b1 : wr.cell? ⟨N, 1, none⟩ = some (.int .i64 M) := by rw [HT.out.cell (p := ⟨N, 1, none⟩) (by have := HN0.out; show N < _; omega) hNg]; exact HB0.out.2.1
          have b2 : wr.cell? ⟨N, 2, none⟩ = some (.bool false) := by rw [HT.out.cell (p := ⟨N, 2, none⟩) (by have := HN0.out; show N < _; omega) hNg]; exact HB0.out.2.2
          have HC2 : Hid (MC 80 (((wr.setCell ⟨g, q * 3, none⟩ (.string ⟨#[]⟩)).setCell ⟨g, q * 3 + 1, none⟩ (.int .i64 M)).setCell ⟨g, q * 3 + 2, none⟩ (.bool false)) (.slice (some ⟨g, 0, none⟩) n vc) n cs (q + 1)) := by
            refine Or.inr ⟨g, vc, _, rfl, blk_set (blk_set (blk_set hh _) _) _, hnc, hcm, by simp [hsz], ?_⟩
            have h1 := Hcs.out
            rw [h1] at htk ⊢
            exact mark_step cu q vc _ _ _ hsz hqc htk
          have HT2 : Hid (Tch (fun i => (Value.slice (some ⟨g, 0, none⟩) n vc).ownBlock = some i) w0 (((wr.setCell ⟨g, q * 3, none⟩ (.string ⟨#[]⟩)).setCell ⟨g, q * 3 + 1, none⟩ (.int .i64 M)).setCell ⟨g, q * 3 + 2, none⟩ (.bool false))) := ((Tch.setCellR HT.out ⟨g, q * 3, none⟩ _ rfl).setCellR ⟨g, q * 3 + 1, none⟩ _ rfl).setCellR ⟨g, q * 3 + 2, none⟩ _ rfl
          clear hh hf hsz htk hNg HC HT
          go_wp2_with fail
          go_roundw
          case rel => exact ⟨q + 1, by go_num, by omega, HC2, HT2⟩
          case measure => simp [intOf]; omega
      · obtain rfl : q = n := by omega
        obtain ⟨wV, hwV⟩ : ∃ wV, wV = wr := ⟨_, rfl⟩
        subst hwV
        have HLG : Hid (LGb 34 80 wV (fun i => F i ∨ i = N) b mkC A rv (.slice vo q vc) cs q) := by
          have h1 : LSb 34 wV (fun i => (F i ∨ i = N) ∨ (Value.slice vo q vc).ownBlock = some i) b mkC A rv := (HL0.out.tch Ht0.out (fun _ h => h.elim)).tch HT.out (fun i h => Or.inr (Or.inr h))
          exact h1.enter (HC.out.own (by rw [Hcs.out]; rfl)) (fun g e => ⟨(HVb.out g e).1, fun h => h.elim (HVb.out g e).2.1 (fun h => by have := (HVb.out g e).2.2; omega)⟩)
        have HbV : Hid (wV.heap[b]? = some (.cells cur 59 (0, 0))) := by show _ = _; rw [HT.out.block b (blk_lt Hb0.out) (fun e => (HVb.out b e).1 rfl)]; exact Hb0.out
        have HTV : Hid (Tch (fun i => i = b ∨ rv.ownBlock = some i ∨ (Value.slice vo q vc).ownBlock = some i) w00 wV) := (Ht0.out.mono (fun _ _ h => h.elim)).trans' (HT.out.mono (fun i _ h => Or.inr (Or.inr h)))
        have HBV : Hid (wV.cell? ⟨N, 0, none⟩ = some (.string ⟨#[]⟩) ∧ wV.cell? ⟨N, 1, none⟩ = some (.int .i64 M) ∧ wV.cell? ⟨N, 2, none⟩ = some (.bool false)) := by
          have hNg : ¬ (Value.slice vo q vc).ownBlock = some N := fun e => by have := (HVb.out N e).2.2; omega
          have hlt : N < w0.heap.size := by have := HN0.out; omega
          exact ⟨(HT.out.cell (p := ⟨N, 0, none⟩) hlt hNg).trans HB0.out.1, (HT.out.cell (p := ⟨N, 1, none⟩) hlt hNg).trans HB0.out.2.1, (HT.out.cell (p := ⟨N, 2, none⟩) hlt hNg).trans HB0.out.2.2⟩
        have HNV : Hid (N < wV.heap.size) := by have := HN0.out; have := HT.out.size; show N < _; omega
        have Hrv2 : Hid (cur.setIfInBounds 4 rv = cur) := by
          show _ = _
          apply Array.ext_getElem?
          intro i
          by_cases h : i = 4
          · subst h; rw [Array.getElem?_setIfInBounds_self_of_lt (by omega), hc2]
          · rw [Array.getElem?_setIfInBounds_ne (by omega)]
        clear HC HT HL0 HV0 HB0 Ht0 Hb0 hqn hq
        go_wp2_with fail
        go_loopw [4, 7] (fun x i wr => ∃ (k nx : Nat) (A' : List Value) (rv' : Value), i = .int .i64 k ∧ k ≤ 20 ∧ (A'.length ≤ 1099511627796 ∧ Hid (A'.length = A.length + k)) ∧ nx ≤ 8 + k ∧ Hid (LGb 34 80 wr (fun i => F i ∨ i = N) b mkC A' rv' x cs nx) ∧ Hid (wr.heap[b]? = some (.cells (cur.setIfInBounds 4 rv') 59 (0, 0))) ∧ Hid (wr.cell? ⟨N, 0, none⟩ = some (.string ⟨#[]⟩) ∧ wr.cell? ⟨N, 1, none⟩ = some (.int .i64 M) ∧ wr.cell? ⟨N, 2, none⟩ = some (.bool false)) ∧ Hid (N < wr.heap.size) ∧ Hid ((∀ g, rv'.ownBlock = some g → rv.ownBlock = some g ∨ N < g) ∧ ∀ g, x.ownBlock = some g → (Value.slice vo q vc).ownBlock = some g ∨ N < g) ∧ Hid (Tch (fun i => i = b ∨ rv.ownBlock = some i ∨ (Value.slice vo q vc).ownBlock = some i) w00 wr)) (fun _ i _ => 20 - (intOf i).toNat)
        case atStart => exact ⟨0, q, A, rv, rfl, by omega, ⟨by omega, rfl⟩, by omega, HLG, by show _ = _; rw [Hrv2.out]; exact HbV.out, HBV, HNV, ⟨fun g e => Or.inl e, fun g e => Or.inl e⟩, HTV⟩
        case round =>
          clear HLG HbV HBV HNV HTV Hrv2
          obtain ⟨k, nx, A', rv', rfl, hk, ⟨hA', HA'⟩, hnx, HG, Hb, HBx, HNs, HO, HT⟩ := hrel
          by_cases hk20 : (k : Int) < 20
          · obtain ⟨ro', rc', hrv'⟩ := row_slice HG.out.all
            subst hrv'
            obtain ⟨xo, xc, hxv⟩ := row_slice HG.out.xr
            subst hxv
            have cb2 : wr.cell? ⟨b, 4, none⟩ = some (.slice ro' A'.length rc') := by rw [blk_cell Hb.out, Array.getElem?_setIfInBounds_self_of_lt (by omega)]
            have fb2 := blk_frozen Hb.out 4
            have HF2 : Hid (∀ i, (F i ∨ i = N) → i < wr.heap.size) := fun i h => by
              rcases h with h | h
              · have := HFw.out i h; have := HN.out; have := HNs.out; omega
              · have := HNs.out; omega
            have Hbl : Hid (b < wr.heap.size) := blk_lt Hb.out
            have Hcs3 : Hid (cs.length = 3) := by show _ = _; rw [Hcs.out]; rfl
            go_wp2_with (first
              | (at_builtin; refine wpList_append_keeps _ rfl _ _ 55 rfl 0 34 i1 (.slice none 0 0) 1 24 Try.underlying55 hi1 hy0 hy1 hy2 rfl (by decide) (.slice ro' A'.length rc') A'.length A' rfl (own_tch HG.out.all (Tch.alloc (fun _ => False) _ _) (fun _ _ h => h)) ⟨wr.heap.size, 0, none⟩ 1 1 [.slice xo nx xc] rfl rfl (World.news_of_block (alloc_new _ _)) (by simp [Value.oneCell']) (by unfold maxLen; omega) (by omega) (Nat.zero_le _) ?_
                 intro v1 w1 hown1 hgr1 hat1 _
                 have HG1 : Hid _ := HG.out.one (Tch.alloc _ _ _) hgr1 hown1 hat1 (Hmk.out _ (by have := HA'.out; omega) (by have := HA'.out; omega)) (by omega) Hbl.out HF2.out
                 have T1 := grown_at (Tch.alloc (fun _ => False) wr _) hgr1
                 have Hb1 : Hid (w1.heap[b]? = some (.cells (cur.setIfInBounds 4 (.slice ro' A'.length rc')) 59 (0, 0))) := (T1.block b Hbl.out (fun e => (HG.out.ag b e).1 rfl)).trans Hb.out
                 have hNn : ¬ (Value.slice ro' A'.length rc').ownBlock = some N := fun e => (HG.out.ag N e).2 (Or.inr rfl)
                 have HBx1 : Hid (w1.cell? ⟨N, 0, none⟩ = some (.string ⟨#[]⟩) ∧ w1.cell? ⟨N, 1, none⟩ = some (.int .i64 M) ∧ w1.cell? ⟨N, 2, none⟩ = some (.bool false)) := ⟨(T1.cell (p := ⟨N, 0, none⟩) HNs.out hNn).trans HBx.out.1, (T1.cell (p := ⟨N, 1, none⟩) HNs.out hNn).trans HBx.out.2.1, (T1.cell (p := ⟨N, 2, none⟩) HNs.out hNn).trans HBx.out.2.2⟩
                 obtain ⟨ro1, rc1, hv1⟩ := row_slice hown1
                 subst hv1
                 have HG2 : Hid (LGb 34 80 (w1.setCell ⟨b, 4, none⟩ (.slice ro1 (A'.length + 1) rc1)) (fun i => F i ∨ i = N) b mkC (A' ++ [.slice xo nx xc]) (.slice ro1 (A'.length + 1) rc1) (.slice xo nx xc) cs nx) := HG1.out.tch (Tch.setCell (fun i => i = b) w1 ⟨b, 4, none⟩ _ rfl) (fun i h => Or.inl h)
                 have Hb2 : Hid ((w1.setCell ⟨b, 4, none⟩ (.slice ro1 (A'.length + 1) rc1)).heap[b]? = some (.cells (cur.setIfInBounds 4 (.slice ro1 (A'.length + 1) rc1)) 59 (0, 0))) := by
                   show _ = _
                   rw [blk_set Hb1.out, Array.setIfInBounds_setIfInBounds]
                 have b0 : (w1.setCell ⟨b, 4, none⟩ (.slice ro1 (A'.length + 1) rc1)).cell? ⟨N, 0, none⟩ = some (.string ⟨#[]⟩) := by rw [World.cell?_setCell_other (h := by intro e; injection e; omega)]; exact HBx1.out.1
                 have b1 : (w1.setCell ⟨b, 4, none⟩ (.slice ro1 (A'.length + 1) rc1)).cell? ⟨N, 1, none⟩ = some (.int .i64 M) := by rw [World.cell?_setCell_other (h := by intro e; injection e; omega)]; exact HBx1.out.2.1
                 have b2 : (w1.setCell ⟨b, 4, none⟩ (.slice ro1 (A'.length + 1) rc1)).cell? ⟨N, 2, none⟩ = some (.bool false) := by rw [World.cell?_setCell_other (h := by intro e; injection e; omega)]; exact HBx1.out.2.2
                 have T2 : Tch (fun i => i = b ∨ (Value.slice ro' A'.length rc').ownBlock = some i) wr (w1.setCell ⟨b, 4, none⟩ (.slice ro1 (A'.length + 1) rc1)) := (T1.mono (fun _ _ h => Or.inr h)).setCellR ⟨b, 4, none⟩ _ (Or.inl rfl)
                 have HO2 : Hid (∀ g, (Value.slice ro1 (A'.length + 1) rc1).ownBlock = some g → rv.ownBlock = some g ∨ N < g) := fun g e => by
                   rcases hat1 with e1 | e1
                   · exact HO.out.1 g (e1 ▸ e)
                   · rw [e1] at e; injection e with e; rw [World.size_alloc] at e; have := HNs.out; right; omega
                 have HF3 : Hid (∀ i, (F i ∨ i = N) → i < (w1.setCell ⟨b, 4, none⟩ (.slice ro1 (A'.length + 1) rc1)).heap.size) := fun i h => Nat.lt_of_lt_of_le (HF2.out i h) T2.size
                 have Hbl3 : Hid (b < (w1.setCell ⟨b, 4, none⟩ (.slice ro1 (A'.length + 1) rc1)).heap.size) := blk_lt Hb2.out
                 have HNW : Hid (∀ j u, ([.string ⟨#[]⟩, .int .i64 M, .bool false] : List Value)[j]? = some u → ((w1.setCell ⟨b, 4, none⟩ (.slice ro1 (A'.length + 1) rc1)).alloc (.cells #[.string ⟨#[]⟩, .int .i64 M, .bool false] 80)).cell? ((⟨w1.heap.size, 0, none⟩ : Addr).add j) = some u) := fun j u hu => by
                   have h1 := World.news_of_block (alloc_new (w1.setCell ⟨b, 4, none⟩ (.slice ro1 (A'.length + 1) rc1)) (.cells #[.string ⟨#[]⟩, .int .i64 M, .bool false] 80)) j u hu
                   rwa [World.size_setCell] at h1
                 have cb3 : w1.cell? ⟨b, 4, none⟩ = some (.slice ro' A'.length rc') := by rw [blk_cell Hb1.out, Array.getElem?_setIfInBounds_self_of_lt (by omega)]
                 have fb3 := blk_frozen Hb1.out 4
                 clear cb2 fb2)
              | (at_builtin; refine wpList_append_keeps _ rfl _ _ 34 rfl 0 80 i0 (.agg #[.string ⟨#[]⟩, .int .i64 0, .bool false]) 3 32 Try.underlying34 hi0 hz0 hz1 hz2 rfl (by decide) (.slice xo nx xc) nx (rep nx cs) rfl (own_tch (by have := HG2.out.xr; rw [Hcs3.out] at this; exact this) (Tch.alloc (fun _ => False) _ _) (fun _ _ h => h)) ⟨w1.heap.size, 0, none⟩ 1 1 [.string ⟨#[]⟩, .int .i64 M, .bool false] rfl rfl HNW.out (by simp [Value.oneCell']) (by unfold maxLen; omega) (by omega) (Nat.zero_le _) ?_
                 intro v2 w3 hown2 hgr2 hat2 hk2
                 have hown3 : w3.ownsRow 0 80 cs.length v2 (nx + 1) (rep (nx + 1) cs) := by
                   rw [Hcs3.out, rep_succ, Hcs.out]; rw [Hcs.out] at hown2; exact hown2
                 have HG3 : Hid _ := HG2.out.two (Tch.alloc _ _ _) hgr2 hown3 hat2 (by rw [Hcs3.out]; exact hk2) Hbl3.out HF3.out (fun j => by rw [Hcs3.out]; rfl)
                 have T3 := grown_at (Tch.alloc (fun _ => False) _ _) hgr2
                 have Hb3 : Hid (w3.heap[b]? = some (.cells (cur.setIfInBounds 4 (.slice ro1 (A'.length + 1) rc1)) 59 (0, 0))) := (T3.block b Hbl3.out (fun e => (HG2.out.xg b e).2.1 rfl)).trans Hb2.out
                 have hNx : ¬ (Value.slice xo nx xc).ownBlock = some N := fun e => (HG2.out.xg N e).2.2 (Or.inr rfl)
                 have hNlt : N < (w1.setCell ⟨b, 4, none⟩ (.slice ro1 (A'.length + 1) rc1)).heap.size := HF3.out N (Or.inr rfl)
                 have HBx3 : Hid (w3.cell? ⟨N, 0, none⟩ = some (.string ⟨#[]⟩) ∧ w3.cell? ⟨N, 1, none⟩ = some (.int .i64 M) ∧ w3.cell? ⟨N, 2, none⟩ = some (.bool false)) := ⟨(T3.cell (p := ⟨N, 0, none⟩) hNlt hNx).trans b0, (T3.cell (p := ⟨N, 1, none⟩) hNlt hNx).trans b1, (T3.cell (p := ⟨N, 2, none⟩) hNlt hNx).trans b2⟩
                 have HN3 : Hid (N < w3.heap.size) := Nat.lt_of_lt_of_le hNlt T3.size
                 have HO3 : Hid (∀ g, v2.ownBlock = some g → (Value.slice vo q vc).ownBlock = some g ∨ N < g) := fun g e => by
                   rcases hat2 with e1 | e1
                   · exact HO.out.2 g (e1 ▸ e)
                   · rw [e1] at e; injection e with e; rw [World.size_alloc] at e; right; omega
                 have HT3 : Hid (Tch (fun i => i = b ∨ rv.ownBlock = some i ∨ (Value.slice vo q vc).ownBlock = some i) w00 w3) := (HT.out.trans T2 (fun i hi h => by
                   rcases h with h | h
                   · exact Or.inl h
                   · rcases HO.out.1 i h with h | h
                     · exact Or.inr (Or.inl h)
                     · have := HN.out; omega)).trans T3 (fun i hi h => by
                   rcases HO.out.2 i h with h | h
                   · exact Or.inr (Or.inr h)
                   · have := HN.out; omega)
                 obtain ⟨xo2, xc2, hv2⟩ := row_slice hown2
                 subst hv2
                 clear b0 b1 b2 cb3 fb3))
            exact ⟨⟨k + 1, nx + 1, A' ++ [.slice xo nx xc], .slice ro1 (A'.length + 1) rc1, by go_num, by omega, ⟨by have := HA'.out; simp; omega, by show _ = _; rw [List.length_append, HA'.out]; rfl⟩, by omega, HG3, Hb3, HBx3, HN3, ⟨HO2.out, HO3.out⟩, HT3⟩, by simp [intOf]; omega⟩
          · go_wp2_with fail
            go_end0
            exact ⟨rfl, ⟨rv', A', by have := HA'.out; omega, Hb.out, HG.out.leave.fresh (fun i _ h => Or.inl h)⟩, HT.out⟩
  refine q.mono ?_
  rintro x w' ⟨e, h1, h2⟩
  exact ⟨e, h1, (t00.mono (fun _ _ h => h.elim)).trans' h2⟩
end Go.Proofs.Ytkcmpipipelgoaa
