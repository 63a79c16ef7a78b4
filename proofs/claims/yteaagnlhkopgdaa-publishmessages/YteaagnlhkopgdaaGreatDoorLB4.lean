import Derived.Test.YteaagnlhkopgdaaGreatDoorLB1
import Derived.Test.YteaagnlhkopgdaaGreatDoorCCat
set_option maxHeartbeats 2000000
set_option maxRecDepth 100000
namespace Go.Proofs.YteaagnlhkopgdaaGreatDoor.C
open Go.RowKit Go
def mkCL (j : Nat) : List Value := [.string ⟨#[109, 105, 110, 101]⟩, .int .i64 (-5 - ((j / 14 * 14 : Nat) : Int)), .bool false]
theorem info_colsL : (Tryz.prog.info? 22).map (fun i => (i.zero, i.size, i.bytes)) = some (some (.slice none 0 0), 1, 24) := by kernel_rfl
theorem ltable_any (b : Nat) (cur : Array Value) (A : List Value) (rv v : Value) (n : Nat) (xs : List Value) (F : Nat → Prop) (a0 a1 : Int) (a2 : ByteArray) (a4 : Int) (w : World)
    (hb : w.heap[b]? = some (.cells cur 44 (0, 0))) (hs : cur.size = 6) (hc2 : cur[2]? = some rv)
    (hL : LSb 22 w (fun i => F i ∨ v.ownBlock = some i) b mkCL A rv) (hv : w.ownsRow 0 54 3 v n xs) (hn : n ≤ 1000000000000) (hg : ∀ g, v.ownBlock = some g → g ≠ b ∧ ¬ F g)
    (hF : ∀ i, F i → i < w.heap.size) (hA : A.length ≤ 100000000) (h14 : A.length % 14 = 0) :
    Calls Tryz.prog 47 #[.pointer (some ⟨b, 0, none⟩), tA a0 a1 a2 v a4] w fun x w' => x = .returned (.tuple #[]) ∧ (∃ rv' A', A'.length = A.length + 14 ∧ w'.heap[b]? = some (.cells (cur.setIfInBounds 2 rv') 44 (0, 0)) ∧ LSb 22 w' F b mkCL A' rv') ∧ Tch (fun i => i = b ∨ rv.ownBlock = some i ∨ v.ownBlock = some i) w w' := by
  obtain ⟨w00, hw00⟩ : ∃ w00, w00 = w.alloc (.cells #[.int .i64 a0, .int .i64 a1, .string a2, v, .int .i64 a4] 24) := ⟨_, rfl⟩
  have t00 : Tch (fun _ => False) w w00 := by rw [hw00]; exact Tch.alloc _ _ _
  have hbx : w00.heap[w.heap.size]? = some (.cells #[.int .i64 a0, .int .i64 a1, .string a2, v, .int .i64 a4] 24 (0, 0)) := by rw [hw00]; exact alloc_new _ _
  have k0 : w00.cell? ⟨w.heap.size, 3, none⟩ = some v := by rw [blk_cell hbx]; rfl
  have hsz00 : w00.heap.size = w.heap.size + 1 := by rw [hw00, World.size_alloc]
  have q : Calls Tryz.prog 47 #[.pointer (some ⟨b, 0, none⟩), tA a0 a1 a2 v a4] w fun x w' => x = .returned (.tuple #[]) ∧ (∃ rv' A', A'.length = A.length + 14 ∧ w'.heap[b]? = some (.cells (cur.setIfInBounds 2 rv') 44 (0, 0)) ∧ LSb 22 w' F b mkCL A' rv') ∧ Tch (fun i => i = b ∨ rv.ownBlock = some i ∨ v.ownBlock = some i) w00 w' := by
    replace hb := (t00.block b (blk_lt hb) (fun h => h)).trans hb
    replace hL := hL.tch t00 (fun _ h => h.elim)
    replace hv := own_tch hv t00 (fun _ _ h => h)
    replace hF : ∀ i, F i → i < w00.heap.size := fun i h => by have := hF i h; omega
    rw [hw00] at k0
    have Hw00 : Hid _ := hw00
    have Hs00 : Hid (w00.heap.size = w.heap.size + 1) := hsz00
    clear hw00 t00 hbx hsz00
    obtain ⟨i0, hi0, hz0, hz1, hz2⟩ := info_parts info_col
    obtain ⟨i1, hi1, hy0, hy1, hy2⟩ := info_parts info_colsL
    obtain ⟨vo, vc, hvv0⟩ := row_slice hv
    subst hvv0
    obtain ⟨ro, rc, hrv⟩ := row_slice hL.all
    obtain ⟨M, hM⟩ : ∃ M : Int, M = -5 - (A.length : Int) := ⟨_, rfl⟩
    obtain ⟨N, hN⟩ : ∃ N, N = w00.heap.size := ⟨_, rfl⟩
    obtain ⟨w0, hw0⟩ : ∃ w0, w0 = w00.alloc (.cells #[.string ⟨#[109, 105, 110, 101]⟩, .int .i64 M, .bool false] 54) := ⟨_, rfl⟩
    obtain ⟨cs, hcs⟩ : ∃ cs : List Value, cs = [.string ⟨#[109, 105, 110, 101]⟩, .int .i64 M, .bool false] := ⟨_, rfl⟩
    have t0 : Tch (fun _ => False) w00 w0 := by rw [hw0]; exact Tch.alloc _ _ _
    have hbN : b < N := by rw [hN]; exact blk_lt hb
    have hN0 : w0.heap.size = N + 1 := by rw [hw0, hN, World.size_alloc]
    have hmk : ∀ j, A.length ≤ j → j < A.length + 14 → mkCL j = cs := fun j h1 h2 => by
      rw [hcs, hM]; unfold mkCL; rw [show j / 14 * 14 = A.length by omega]
    have HL0 : Hid (LSb 22 w00 (fun i => (F i ∨ i = N) ∨ (Value.slice vo n vc).ownBlock = some i) b mkCL A rv) := hL.fresh (fun i hi h => by
      rcases h with (h | h) | h
      · exact Or.inl h
      · omega
      · exact Or.inr h)
    have HB0 : Hid (w0.cell? ⟨N, 0, none⟩ = some (.string ⟨#[109, 105, 110, 101]⟩) ∧ w0.cell? ⟨N, 1, none⟩ = some (.int .i64 M) ∧ w0.cell? ⟨N, 2, none⟩ = some (.bool false)) := by
      have q := box_cells w00 (.string ⟨#[109, 105, 110, 101]⟩) (.int .i64 M) (.bool false) 54
      rw [← hw0, ← hN] at q
      exact q
    have HVb : Hid (∀ g, (Value.slice vo n vc).ownBlock = some g → g ≠ b ∧ ¬ F g ∧ g < N) := fun g e => ⟨(hg g e).1, (hg g e).2, by rw [hN]; exact (hv.lt g e).2⟩
    have HV0 : Hid (MC 54 w0 (.slice vo n vc) n cs 0) := (MC.of hv).tch t0 (fun _ _ h => h)
    have Hb0 : Hid (w0.heap[b]? = some (.cells cur 44 (0, 0))) := by show _ = _; rw [t0.block b (blk_lt hb) (fun h => h)]; exact hb
    have cb2 : w00.cell? ⟨b, 2, none⟩ = some (.slice ro A.length rc) := by rw [blk_cell hb, hc2, hrv]
    have Hmk : Hid _ := hmk
    have Hcs : Hid _ := hcs
    have HM : Hid _ := hM
    have Hw0 : Hid _ := hw0
    have HN : Hid (N = w00.heap.size) := hN
    have HrvE : Hid _ := hrv
    have Ht0 : Hid _ := t0
    have HFw : Hid _ := hF
    have hAI : (A.length : Int) ≤ 100000000 := by omega
    have hMw : IntKind.i64.wrap (-5 - (A.length : Int)) = M := by rw [hM]; exact wrap_of (by omega) (by omega)
    have HN0 : Hid (w0.heap.size = N + 1) := hN0
    clear hb hv hL hcs hw0 hN hrv t0 hmk hF hg hM hN0 hA h14
    rw [Hw00.out] at cb2
    go_enter Tryz.func47, Tryz.ntmps47
    go_wp2_with fail
    have hw00 := Hw00.out
    rw [← hw00]
    clear hw00
    have hs00 := Hs00.out
    rw [← hs00]
    clear hs00
    rw [← HN.out]
    have hw0 := Hw0.out
    rw [← hw0]
    clear hw0 cb2 hMw k0
    go_loopw [6] (fun i wr => ∃ q : Nat, i = .int .i64 q ∧ q ≤ n ∧ Hid (MC 54 wr (.slice vo n vc) n cs q) ∧ Hid (Tch (fun i => (Value.slice vo n vc).ownBlock = some i) w0 wr)) (fun i _ => n - (intOf i).toNat)
    case atStart => exact ⟨0, rfl, by omega, HV0, Tch.refl _ _⟩
    case round =>
      obtain ⟨q, rfl, hq, HC, HT⟩ := hrel
      by_cases hqn : (q : Int) < n
      · rcases HC.out with ⟨_, h0⟩ | ⟨g, c, cu, hvv, hh, hnc, hcm, hsz, htk⟩
        · omega
        · injection hvv with e1 e2 e3
          subst e1 e3
          have hqc : q < vc := by omega
          obtain ⟨⟨y0, e0⟩, ⟨y1, e1⟩, ⟨y2, e2⟩, hf⟩ := set3_cells hh hsz hqc (.string ⟨#[109, 105, 110, 101]⟩) (.int .i64 M)
          have f0 := hf (q * 3); have f1 := hf (q * 3 + 1); have f2 := hf (q * 3 + 2)
          have hNg : ¬ (Value.slice (some ⟨g, 0, none⟩) n vc).ownBlock = some N := fun e => by have := (HVb.out N e).2.2; omega
          have b0 : wr.cell? ⟨N, 0, none⟩ = some (.string ⟨#[109, 105, 110, 101]⟩) := by rw [HT.out.cell (p := ⟨N, 0, none⟩) (by have := HN0.out; show N < _; omega) hNg]; exact HB0.out.1
          have b1 : wr.cell? ⟨N, 1, none⟩ = some (.int .i64 M) := by rw [HT.out.cell (p := ⟨N, 1, none⟩) (by have := HN0.out; show N < _; omega) hNg]; exact HB0.out.2.1
          have b2 : wr.cell? ⟨N, 2, none⟩ = some (.bool false) := by rw [HT.out.cell (p := ⟨N, 2, none⟩) (by have := HN0.out; show N < _; omega) hNg]; exact HB0.out.2.2
          have HC2 : Hid (MC 54 (((wr.setCell ⟨g, q * 3, none⟩ (.string ⟨#[109, 105, 110, 101]⟩)).setCell ⟨g, q * 3 + 1, none⟩ (.int .i64 M)).setCell ⟨g, q * 3 + 2, none⟩ (.bool false)) (.slice (some ⟨g, 0, none⟩) n vc) n cs (q + 1)) := by
            refine Or.inr ⟨g, vc, _, rfl, blk_set (blk_set (blk_set hh _) _) _, hnc, hcm, by simp [hsz], ?_⟩
            have h1 := Hcs.out
            rw [h1] at htk ⊢
            exact mark_step cu q vc _ _ _ hsz hqc htk
          have HT2 : Hid (Tch (fun i => (Value.slice (some ⟨g, 0, none⟩) n vc).ownBlock = some i) w0 (((wr.setCell ⟨g, q * 3, none⟩ (.string ⟨#[109, 105, 110, 101]⟩)).setCell ⟨g, q * 3 + 1, none⟩ (.int .i64 M)).setCell ⟨g, q * 3 + 2, none⟩ (.bool false))) := ((Tch.setCellR HT.out ⟨g, q * 3, none⟩ _ rfl).setCellR ⟨g, q * 3 + 1, none⟩ _ rfl).setCellR ⟨g, q * 3 + 2, none⟩ _ rfl
          clear hh hf hsz htk hNg HC HT
          go_wp2_with fail
          go_roundw
          case rel => exact ⟨q + 1, by go_num, by omega, HC2, HT2⟩
          case measure => simp [intOf]; omega
      · obtain rfl : q = n := by omega
        obtain ⟨wV, hwV⟩ : ∃ wV, wV = wr := ⟨_, rfl⟩
        subst hwV
        have HLG : Hid (LGb 22 54 wV (fun i => F i ∨ i = N) b mkCL A rv (.slice vo q vc) cs q) := by
          have h1 : LSb 22 wV (fun i => (F i ∨ i = N) ∨ (Value.slice vo q vc).ownBlock = some i) b mkCL A rv := (HL0.out.tch Ht0.out (fun _ h => h.elim)).tch HT.out (fun i h => Or.inr (Or.inr h))
          exact h1.enter (HC.out.own (by rw [Hcs.out]; rfl)) (fun g e => ⟨(HVb.out g e).1, fun h => h.elim (HVb.out g e).2.1 (fun h => by have := (HVb.out g e).2.2; omega)⟩)
        have HbV : Hid (wV.heap[b]? = some (.cells cur 44 (0, 0))) := by show _ = _; rw [HT.out.block b (blk_lt Hb0.out) (fun e => (HVb.out b e).1 rfl)]; exact Hb0.out
        have HTV : Hid (Tch (fun i => i = b ∨ rv.ownBlock = some i ∨ (Value.slice vo q vc).ownBlock = some i) w00 wV) := (Ht0.out.mono (fun _ _ h => h.elim)).trans' (HT.out.mono (fun i _ h => Or.inr (Or.inr h)))
        have HBV : Hid (wV.cell? ⟨N, 0, none⟩ = some (.string ⟨#[109, 105, 110, 101]⟩) ∧ wV.cell? ⟨N, 1, none⟩ = some (.int .i64 M) ∧ wV.cell? ⟨N, 2, none⟩ = some (.bool false)) := by
          have hNg : ¬ (Value.slice vo q vc).ownBlock = some N := fun e => by have := (HVb.out N e).2.2; omega
          have hlt : N < w0.heap.size := by have := HN0.out; omega
          exact ⟨(HT.out.cell (p := ⟨N, 0, none⟩) hlt hNg).trans HB0.out.1, (HT.out.cell (p := ⟨N, 1, none⟩) hlt hNg).trans HB0.out.2.1, (HT.out.cell (p := ⟨N, 2, none⟩) hlt hNg).trans HB0.out.2.2⟩
        have HNV : Hid (N < wV.heap.size) := by have := HN0.out; have := HT.out.size; show N < _; omega
        have Hrv2 : Hid (cur.setIfInBounds 2 rv = cur) := by
          show _ = _
          apply Array.ext_getElem?
          intro i
          by_cases h : i = 2
          · subst h; rw [Array.getElem?_setIfInBounds_self_of_lt (by omega), hc2]
          · rw [Array.getElem?_setIfInBounds_ne (by omega)]
        clear HC HT HL0 HV0 HB0 Ht0 Hb0 hqn hq
        go_wp2_with fail
        go_loopw [4, 7] (fun x i wr => ∃ (k nx : Nat) (A' : List Value) (rv' : Value), i = .int .i64 k ∧ k ≤ 14 ∧ (A'.length ≤ 100000014 ∧ Hid (A'.length = A.length + k)) ∧ nx ≤ 1000000000000 + k ∧ Hid (LGb 22 54 wr (fun i => F i ∨ i = N) b mkCL A' rv' x cs nx) ∧ Hid (wr.heap[b]? = some (.cells (cur.setIfInBounds 2 rv') 44 (0, 0))) ∧ Hid (wr.cell? ⟨N, 0, none⟩ = some (.string ⟨#[109, 105, 110, 101]⟩) ∧ wr.cell? ⟨N, 1, none⟩ = some (.int .i64 M) ∧ wr.cell? ⟨N, 2, none⟩ = some (.bool false)) ∧ Hid (N < wr.heap.size) ∧ Hid ((∀ g, rv'.ownBlock = some g → rv.ownBlock = some g ∨ N < g) ∧ ∀ g, x.ownBlock = some g → (Value.slice vo q vc).ownBlock = some g ∨ N < g) ∧ Hid (Tch (fun i => i = b ∨ rv.ownBlock = some i ∨ (Value.slice vo q vc).ownBlock = some i) w00 wr)) (fun _ i _ => 14 - (intOf i).toNat)
        case atStart => exact ⟨0, q, A, rv, rfl, by omega, ⟨by omega, rfl⟩, by omega, HLG, by show _ = _; rw [Hrv2.out]; exact HbV.out, HBV, HNV, ⟨fun g e => Or.inl e, fun g e => Or.inl e⟩, HTV⟩
        case round =>
          clear HLG HbV HBV HNV HTV Hrv2
          obtain ⟨k, nx, A', rv', rfl, hk, ⟨hA', HA'⟩, hnx, HG, Hb, HBx, HNs, HO, HT⟩ := hrel
          by_cases hk14 : (k : Int) < 14
          · obtain ⟨ro', rc', hrv'⟩ := row_slice HG.out.all
            subst hrv'
            obtain ⟨xo, xc, hxv⟩ := row_slice HG.out.xr
            subst hxv
            have cb2 : wr.cell? ⟨b, 2, none⟩ = some (.slice ro' A'.length rc') := by rw [blk_cell Hb.out, Array.getElem?_setIfInBounds_self_of_lt (by omega)]
            have fb2 := blk_frozen Hb.out 2
            have HF2 : Hid (∀ i, (F i ∨ i = N) → i < wr.heap.size) := fun i h => by
              rcases h with h | h
              · have := HFw.out i h; have := HN.out; have := HNs.out; omega
              · have := HNs.out; omega
            have Hbl : Hid (b < wr.heap.size) := blk_lt Hb.out
            have Hcs3 : Hid (cs.length = 3) := by show _ = _; rw [Hcs.out]; rfl
            go_wp2_with (first
              | (at_builtin; refine wpList_append_keeps _ rfl _ _ 40 rfl 0 22 i1 (.slice none 0 0) 1 24 Tryz.underlying40 hi1 hy0 hy1 hy2 rfl (by decide) (.slice ro' A'.length rc') A'.length A' rfl (own_tch HG.out.all (Tch.alloc (fun _ => False) _ _) (fun _ _ h => h)) ⟨wr.heap.size, 0, none⟩ 1 1 [.slice xo nx xc] rfl rfl (World.news_of_block (alloc_new _ _)) (by simp [Value.oneCell']) (by unfold maxLen; omega) (by omega) (Nat.zero_le _) ?_
                 intro v1 w1 hown1 hgr1 hat1 _
                 have HG1 : Hid _ := HG.out.one (Tch.alloc _ _ _) hgr1 hown1 hat1 (Hmk.out _ (by have := HA'.out; omega) (by have := HA'.out; omega)) (by omega) Hbl.out HF2.out
                 have T1 := grown_at (Tch.alloc (fun _ => False) wr _) hgr1
                 have Hb1 : Hid (w1.heap[b]? = some (.cells (cur.setIfInBounds 2 (.slice ro' A'.length rc')) 44 (0, 0))) := (T1.block b Hbl.out (fun e => (HG.out.ag b e).1 rfl)).trans Hb.out
                 have hNn : ¬ (Value.slice ro' A'.length rc').ownBlock = some N := fun e => (HG.out.ag N e).2 (Or.inr rfl)
                 have HBx1 : Hid (w1.cell? ⟨N, 0, none⟩ = some (.string ⟨#[109, 105, 110, 101]⟩) ∧ w1.cell? ⟨N, 1, none⟩ = some (.int .i64 M) ∧ w1.cell? ⟨N, 2, none⟩ = some (.bool false)) := ⟨(T1.cell (p := ⟨N, 0, none⟩) HNs.out hNn).trans HBx.out.1, (T1.cell (p := ⟨N, 1, none⟩) HNs.out hNn).trans HBx.out.2.1, (T1.cell (p := ⟨N, 2, none⟩) HNs.out hNn).trans HBx.out.2.2⟩
                 obtain ⟨ro1, rc1, hv1⟩ := row_slice hown1
                 subst hv1
                 have HG2 : Hid (LGb 22 54 (w1.setCell ⟨b, 2, none⟩ (.slice ro1 (A'.length + 1) rc1)) (fun i => F i ∨ i = N) b mkCL (A' ++ [.slice xo nx xc]) (.slice ro1 (A'.length + 1) rc1) (.slice xo nx xc) cs nx) := HG1.out.tch (Tch.setCell (fun i => i = b) w1 ⟨b, 2, none⟩ _ rfl) (fun i h => Or.inl h)
                 have Hb2 : Hid ((w1.setCell ⟨b, 2, none⟩ (.slice ro1 (A'.length + 1) rc1)).heap[b]? = some (.cells (cur.setIfInBounds 2 (.slice ro1 (A'.length + 1) rc1)) 44 (0, 0))) := by
                   show _ = _
                   rw [blk_set Hb1.out, Array.setIfInBounds_setIfInBounds]
                 have b0 : (w1.setCell ⟨b, 2, none⟩ (.slice ro1 (A'.length + 1) rc1)).cell? ⟨N, 0, none⟩ = some (.string ⟨#[109, 105, 110, 101]⟩) := by rw [World.cell?_setCell_other (h := by intro e; injection e; omega)]; exact HBx1.out.1
                 have b1 : (w1.setCell ⟨b, 2, none⟩ (.slice ro1 (A'.length + 1) rc1)).cell? ⟨N, 1, none⟩ = some (.int .i64 M) := by rw [World.cell?_setCell_other (h := by intro e; injection e; omega)]; exact HBx1.out.2.1
                 have b2 : (w1.setCell ⟨b, 2, none⟩ (.slice ro1 (A'.length + 1) rc1)).cell? ⟨N, 2, none⟩ = some (.bool false) := by rw [World.cell?_setCell_other (h := by intro e; injection e; omega)]; exact HBx1.out.2.2
                 have T2 : Tch (fun i => i = b ∨ (Value.slice ro' A'.length rc').ownBlock = some i) wr (w1.setCell ⟨b, 2, none⟩ (.slice ro1 (A'.length + 1) rc1)) := (T1.mono (fun _ _ h => Or.inr h)).setCellR ⟨b, 2, none⟩ _ (Or.inl rfl)
                 have HO2 : Hid (∀ g, (Value.slice ro1 (A'.length + 1) rc1).ownBlock = some g → rv.ownBlock = some g ∨ N < g) := fun g e => by
                   rcases hat1 with e1 | e1
                   · exact HO.out.1 g (e1 ▸ e)
                   · rw [e1] at e; injection e with e; rw [World.size_alloc] at e; have := HNs.out; right; omega
                 have HF3 : Hid (∀ i, (F i ∨ i = N) → i < (w1.setCell ⟨b, 2, none⟩ (.slice ro1 (A'.length + 1) rc1)).heap.size) := fun i h => Nat.lt_of_lt_of_le (HF2.out i h) T2.size
                 have Hbl3 : Hid (b < (w1.setCell ⟨b, 2, none⟩ (.slice ro1 (A'.length + 1) rc1)).heap.size) := blk_lt Hb2.out
                 have HNW : Hid (∀ j u, ([.string ⟨#[109, 105, 110, 101]⟩, .int .i64 M, .bool false] : List Value)[j]? = some u → ((w1.setCell ⟨b, 2, none⟩ (.slice ro1 (A'.length + 1) rc1)).alloc (.cells #[.string ⟨#[109, 105, 110, 101]⟩, .int .i64 M, .bool false] 54)).cell? ((⟨w1.heap.size, 0, none⟩ : Addr).add j) = some u) := fun j u hu => by
                   have h1 := World.news_of_block (alloc_new (w1.setCell ⟨b, 2, none⟩ (.slice ro1 (A'.length + 1) rc1)) (.cells #[.string ⟨#[109, 105, 110, 101]⟩, .int .i64 M, .bool false] 54)) j u hu
                   rwa [World.size_setCell] at h1
                 have cb3 : w1.cell? ⟨b, 2, none⟩ = some (.slice ro' A'.length rc') := by rw [blk_cell Hb1.out, Array.getElem?_setIfInBounds_self_of_lt (by omega)]
                 have fb3 := blk_frozen Hb1.out 2
                 clear cb2 fb2)
              | (at_builtin; refine wpList_append_keeps _ rfl _ _ 22 rfl 0 54 i0 (.agg #[.string ⟨#[]⟩, .int .i64 0, .bool false]) 3 32 Tryz.underlying22 hi0 hz0 hz1 hz2 rfl (by decide) (.slice xo nx xc) nx (rep nx cs) rfl (own_tch (by have := HG2.out.xr; rw [Hcs3.out] at this; exact this) (Tch.alloc (fun _ => False) _ _) (fun _ _ h => h)) ⟨w1.heap.size, 0, none⟩ 1 1 [.string ⟨#[109, 105, 110, 101]⟩, .int .i64 M, .bool false] rfl rfl HNW.out (by simp [Value.oneCell']) (by unfold maxLen; omega) (by omega) (Nat.zero_le _) ?_
                 intro v2 w3 hown2 hgr2 hat2 hk2
                 have hown3 : w3.ownsRow 0 54 cs.length v2 (nx + 1) (rep (nx + 1) cs) := by
                   rw [Hcs3.out, rep_succ, Hcs.out]; rw [Hcs.out] at hown2; exact hown2
                 have HG3 : Hid _ := HG2.out.two (Tch.alloc _ _ _) hgr2 hown3 hat2 (by rw [Hcs3.out]; exact hk2) Hbl3.out HF3.out (fun j => by rw [Hcs3.out]; rfl)
                 have T3 := grown_at (Tch.alloc (fun _ => False) _ _) hgr2
                 have Hb3 : Hid (w3.heap[b]? = some (.cells (cur.setIfInBounds 2 (.slice ro1 (A'.length + 1) rc1)) 44 (0, 0))) := (T3.block b Hbl3.out (fun e => (HG2.out.xg b e).2.1 rfl)).trans Hb2.out
                 have hNx : ¬ (Value.slice xo nx xc).ownBlock = some N := fun e => (HG2.out.xg N e).2.2 (Or.inr rfl)
                 have hNlt : N < (w1.setCell ⟨b, 2, none⟩ (.slice ro1 (A'.length + 1) rc1)).heap.size := HF3.out N (Or.inr rfl)
                 have HBx3 : Hid (w3.cell? ⟨N, 0, none⟩ = some (.string ⟨#[109, 105, 110, 101]⟩) ∧ w3.cell? ⟨N, 1, none⟩ = some (.int .i64 M) ∧ w3.cell? ⟨N, 2, none⟩ = some (.bool false)) := ⟨(T3.cell (p := ⟨N, 0, none⟩) hNlt hNx).trans b0, (T3.cell (p := ⟨N, 1, none⟩) hNlt hNx).trans b1, (T3.cell (p := ⟨N, 2, none⟩) hNlt hNx).trans b2⟩
                 have HN3 : Hid (N < w3.heap.size) := Nat.lt_of_lt_of_le hNlt T3.size
                 have HO3 : Hid (∀ g, v2.ownBlock = some g → (Value.slice vo q vc).ownBlock = some g ∨ N < g) := fun g e => by
                   rcases hat2 with e1 | e1
                   · exact HO.out.2 g (e1 ▸ e)
                   · rw [e1] at e; injection e with e; rw [World.size_alloc] at e; right; omega
                 have HT3 : Hid (Tch (fun i => i = b ∨ rv.ownBlock = some i ∨ (Value.slice vo q vc).ownBlock = some i) w00 w3) := (HT.out.trans T2 (fun i hi h => by
                   rcases h with h | h
                   · exact Or.inl h
                   · rcases HO.out.1 i h with h | h
                     · exact Or.inr (Or.inl h)
                     · have := HN.out; omega)).trans T3 (fun i hi h => by
                   rcases HO.out.2 i h with h | h
                   · exact Or.inr (Or.inr h)
                   · have := HN.out; omega)
                 obtain ⟨xo2, xc2, hv2⟩ := row_slice hown2
                 subst hv2
                 clear b0 b1 b2 cb3 fb3))
            exact ⟨⟨k + 1, nx + 1, A' ++ [.slice xo nx xc], .slice ro1 (A'.length + 1) rc1, by go_num, by omega, ⟨by have := HA'.out; simp; omega, by show _ = _; rw [List.length_append, HA'.out]; rfl⟩, by omega, HG3, Hb3, HBx3, HN3, ⟨HO2.out, HO3.out⟩, HT3⟩, by simp [intOf]; omega⟩
          · go_wp2_with fail
            go_end0
            exact ⟨rfl, ⟨rv', A', by have := HA'.out; omega, Hb.out, HG.out.leave.fresh (fun i _ h => Or.inl h)⟩, HT.out⟩
  refine q.mono ?_
  rintro x w' ⟨e, h1, h2⟩
  exact ⟨e, h1, (t00.mono (fun _ _ h => h.elim)).trans' h2⟩
end Go.Proofs.YteaagnlhkopgdaaGreatDoor.C
namespace Go.Proofs.YteaagnlhkopgdaaGreatDoor.C
open Go.RowKit Go
theorem lstill_any (b : Nat) (cur : Array Value) (R C : List Value) (rv cv : Value) (F1 F2 : Nat → Prop) (w : World)
    (hb : w.heap[b]? = some (.cells cur 44 (0, 0))) (hc0 : cur[0]? = some (.slice none 0 0)) (hc1 : cur[1]? = some rv) (hc2 : cur[2]? = some cv) (hc3 : cur[3]? = some (.slice none 0 0))
    (hR : LSb 26 w F1 b mkR R rv) (hC : LSb 22 w F2 b mkCL C cv) (lR : R.length ≤ 1000000000) (lC : C.length ≤ 1000000000) :
    Calls Tryz.prog 25 #[.pointer (some ⟨b, 0, none⟩)] w fun x w' => x = .returned (.bool true) ∧ w' = w := by
  obtain ⟨co, cc, rfl, HC⟩ := hC.read
  obtain ⟨ro, rc, rfl, HR⟩ := hR.read
  have b0 : w.cell? ⟨b, 0, none⟩ = some (.slice none 0 0) := by rw [blk_cell hb]; exact hc0
  have b1 : w.cell? ⟨b, 1, none⟩ = some (.slice ro R.length rc) := by rw [blk_cell hb]; exact hc1
  have b2 : w.cell? ⟨b, 2, none⟩ = some (.slice co C.length cc) := by rw [blk_cell hb]; exact hc2
  have b3 : w.cell? ⟨b, 3, none⟩ = some (.slice none 0 0) := by rw [blk_cell hb]; exact hc3
  have KC : Hid _ := HC
  have KR : Hid _ := HR
  clear HC HR hb hc0 hc1 hc2 hc3 hC hR
  go_enter Tryz.func25, Tryz.ntmps25
  go_wp2_with fail
  go_loopw [3] (fun i W => i = .int .i64 0 ∧ W = w) (fun _ _ => 0)
  case atStart => exact ⟨rfl, rfl⟩
  case round =>
    obtain ⟨rfl, hw⟩ := hrel
    obtain rfl := hw.symm
    go_wp2_with fail
    go_loopw [5] (fun i W => ∃ j : Nat, i = .int .i64 j ∧ j ≤ R.length ∧ W = w) (fun i _ => R.length - (intOf i).toNat)
    case atStart => exact ⟨0, rfl, by omega, rfl⟩
    case round =>
      obtain ⟨j, rfl, hj, hw⟩ := hrel
      obtain rfl := hw.symm
      by_cases hjl : (j : Int) < R.length
      · obtain ⟨G, xo, m, xc, rfl, cj, hm, HQ⟩ := KR.out j (by omega)
        have KQ : Hid _ := HQ
        have hM : ((j / 14 * 14 : Nat) : Int) = (j : Int) / 14 * 14 := by omega
        have HM : Hid _ := hM
        clear HQ hM
        go_wp2_with fail
        go_loopw [6] (fun k W => ∃ q : Nat, k = .int .i64 q ∧ q ≤ m ∧ W = w) (fun k _ => m - (intOf k).toNat)
        case atStart => exact ⟨0, rfl, by omega, rfl⟩
        case round =>
          obtain ⟨q, rfl, hq, hw⟩ := hrel
          obtain rfl := hw.symm
          by_cases hqm : (q : Int) < m
          · obtain ⟨g, rfl, hgc⟩ := KQ.out q (by omega)
            have hM := HM.out
            have g0 : w.cell? ⟨g, q * 3, none⟩ = _ := hgc 0 _ rfl
            have g1 : w.cell? ⟨g, q * 3 + 1, none⟩ = _ := hgc 1 _ rfl
            have g2 : w.cell? ⟨g, q * 3 + 2, none⟩ = _ := hgc 2 _ rfl
            rw [hM] at g0
            obtain ⟨d, hd1, hd⟩ := ne_val ⟨-5 - (j : Int) / 14 * 14, 0, ⟨#[]⟩⟩ ⟨-5 - (j : Int) / 14 * 14, 0, ⟨#[]⟩⟩
            obtain rfl : d = false := by cases d with
              | false => rfl
              | true => exact absurd rfl (hd1.1 rfl)
            clear hd1 hgc
            clear hM
            go_wp2_with fail
            go_roundw
            case rel => exact ⟨q + 1, by go_num, by omega, by first | rfl | trivial⟩
            case measure => simp [intOf]; omega
          · go_wp2_with fail
            go_roundw
            case rel => exact ⟨j + 1, by go_num, by omega, by first | rfl | trivial⟩
            case measure => simp [intOf]; omega
      · go_wp2_with fail
        go_loopw [7] (fun i W => ∃ j : Nat, i = .int .i64 j ∧ j ≤ C.length ∧ W = w) (fun i _ => C.length - (intOf i).toNat)
        case atStart => exact ⟨0, rfl, by omega, rfl⟩
        case round =>
          obtain ⟨j, rfl, hj, hw⟩ := hrel
          obtain rfl := hw.symm
          by_cases hjl : (j : Int) < C.length
          · obtain ⟨G, xo, m, xc, rfl, cj, hm, HQ⟩ := KC.out j (by omega)
            have KQ : Hid _ := HQ
            have hM : ((j / 14 * 14 : Nat) : Int) = (j : Int) / 14 * 14 := by omega
            have HM : Hid _ := hM
            clear HQ hM
            go_wp2_with fail
            go_loopw [8] (fun k W => ∃ q : Nat, k = .int .i64 q ∧ q ≤ m ∧ W = w) (fun k _ => m - (intOf k).toNat)
            case atStart => exact ⟨0, rfl, by omega, rfl⟩
            case round =>
              obtain ⟨q, rfl, hq, hw⟩ := hrel
              obtain rfl := hw.symm
              by_cases hqm : (q : Int) < m
              · obtain ⟨g, rfl, hgc⟩ := KQ.out q (by omega)
                have hM := HM.out
                have g0 : w.cell? ⟨g, q * 3, none⟩ = _ := hgc 0 _ rfl
                have g1 : w.cell? ⟨g, q * 3 + 1, none⟩ = _ := hgc 1 _ rfl
                have g2 : w.cell? ⟨g, q * 3 + 2, none⟩ = _ := hgc 2 _ rfl
                rw [hM] at g1
                obtain ⟨d, hd1, hd⟩ := ne_col ⟨⟨#[109, 105, 110, 101]⟩, -5 - (j : Int) / 14 * 14, false⟩ ⟨⟨#[109, 105, 110, 101]⟩, -5 - (j : Int) / 14 * 14, false⟩
                obtain rfl : d = false := by cases d with
                  | false => rfl
                  | true => exact absurd rfl (hd1.1 rfl)
                clear hd1 hgc
                clear hM
                go_wp2_with fail
                go_roundw
                case rel => exact ⟨q + 1, by go_num, by omega, by first | rfl | trivial⟩
                case measure => simp [intOf]; omega
              · go_wp2_with fail
                go_roundw
                case rel => exact ⟨j + 1, by go_num, by omega, by first | rfl | trivial⟩
                case measure => simp [intOf]; omega
          · go_wp2_with fail
            go_loopw [9] (fun i W => i = .int .i64 0 ∧ W = w) (fun _ _ => 0)
            case atStart => exact ⟨rfl, rfl⟩
            case round =>
              obtain ⟨rfl, hw⟩ := hrel
              obtain rfl := hw.symm
              go_wp2_with fail
              go_ret
              exact ⟨rfl, rfl⟩
end Go.Proofs.YteaagnlhkopgdaaGreatDoor.C
namespace Go.Proofs.YteaagnlhkopgdaaGreatDoor.C
open Go.RowKit Go
def BK (w : World) (b : Nat) (Q : Nat → Prop) (n : Nat) : Prop := ∃ (P1 P2 : Nat → Prop) (R C : List Value) (rv cv : Value),
  (∀ i, P1 i → ¬ P2 i ∧ i ≠ b ∧ Q i) ∧ (∀ i, P2 i → i ≠ b ∧ Q i) ∧ Q b ∧ (∀ i, Q i → i < w.heap.size) ∧
  w.heap[b]? = some (.cells #[.slice none 0 0, rv, cv, .slice none 0 0, .slice none 0 0, .slice none 0 0] 44 (0, 0)) ∧
  LSb 26 w (fun i => i < w.heap.size ∧ ¬ P1 i ∧ i ≠ b) b mkR R rv ∧ LSb 22 w (fun i => i < w.heap.size ∧ ¬ P2 i ∧ i ≠ b) b mkCL C cv ∧
  R.length % 14 = 0 ∧ C.length % 14 = 0 ∧ R.length ≤ n ∧ C.length ≤ n
theorem lsb_tch {S P : Nat → Prop} {le : TypeId} {w w' : World} {b : Nat} {mk : Nat → List Value} {A : List Value} {rv : Value} (h : LSb le w (fun i => i < w.heap.size ∧ ¬ P i ∧ i ≠ b) b mk A rv) (t : Tch S w w') (hS : ∀ i, i < w.heap.size → S i → ¬ P i) : LSb le w' (fun i => i < w'.heap.size ∧ ¬ P i ∧ i ≠ b) b mk A rv := by
  have h1 : LSb le w (fun i => i < w'.heap.size ∧ ¬ P i ∧ i ≠ b) b mk A rv := h.fresh (fun i hi hf => ⟨hi, hf.2⟩)
  have t1 : Tch (fun i => i < w.heap.size ∧ S i) w w' := t.mono (fun i hi hs => ⟨hi, hs⟩)
  refine h1.tch t1 (fun i hi => ?_)
  by_cases e : i = b
  · exact Or.inl e
  · exact Or.inr ⟨Nat.lt_of_lt_of_le hi.1 t.size, hS i hi.1 hi.2, e⟩
theorem BK.tch {S Q : Nat → Prop} {w w' : World} {b n : Nat} (h : BK w b Q n) (t : Tch S w w') (hS : ∀ i, Q i → ¬ S i) : BK w' b Q n := by
  obtain ⟨P1, P2, R, C, rv, cv, h1, h2, hb, hq, hk, hr, hc, h3⟩ := h
  exact ⟨P1, P2, R, C, rv, cv, h1, h2, hb, fun i hi => Nat.lt_of_lt_of_le (hq i hi) t.size, (t.block b (blk_lt hk) (hS b hb)).trans hk, lsb_tch hr t (fun i _ hs hp => hS i (h1 i hp).2.2 hs), lsb_tch hc t (fun i _ hs hp => hS i (h2 i hp).2 hs), h3⟩
theorem lsb_blk {P : Nat → Prop} {le : TypeId} {w : World} {b : Nat} {mk : Nat → List Value} {A : List Value} {rv : Value} (h : LSb le w (fun i => i < w.heap.size ∧ ¬ P i ∧ i ≠ b) b mk A rv) {g : Nat} (hg : rv.ownBlock = some g) : P g :=
  Classical.byContradiction fun hp => (h.ag g hg).2 ⟨(h.all.lt g hg).2, hp, (h.ag g hg).1⟩
def BkOut (w : World) (b : Nat) (Q : Nat → Prop) (v : Value) (n : Nat) (x : Ending) (w' : World) : Prop := x = .returned (.tuple #[]) ∧ (∃ Q', BK w' b Q' (n + 14) ∧ ∀ i, Q' i → Q i ∨ v.ownBlock = some i ∨ w.heap.size ≤ i) ∧ Tch (fun i => Q i ∨ v.ownBlock = some i) w w'
theorem row_bk (w : World) (b : Nat) (Q : Nat → Prop) (n : Nat) (v : Value) (m : Nat) (xs : List Value) (h : BK w b Q n) (hv : w.ownsRow 0 52 3 v m xs) (hm : m ≤ 1000000000000) (hg : ∀ g, v.ownBlock = some g → ¬ Q g) (hn : n ≤ 100000000) :
    Calls Tryz.prog 46 #[.pointer (some ⟨b, 0, none⟩), v] w fun x w' => BkOut w b Q v n x w' := by
  obtain ⟨P1, P2, R, C, rv, cv, h1, h2, hb, hq, hk, hr, hc, r14, c14, rn, cn⟩ := h
  have hgb : ∀ g, v.ownBlock = some g → g ≠ b ∧ ¬ P1 g ∧ ¬ P2 g ∧ g < w.heap.size := fun g e => ⟨fun e2 => hg g e (e2 ▸ hb), fun hp => hg g e (h1 g hp).2.2, fun hp => hg g e (h2 g hp).2, (hv.lt g e).2⟩
  refine (lrow_any b _ R rv v m xs (fun i => i < w.heap.size ∧ ¬ P1 i ∧ v.ownBlock ≠ some i ∧ i ≠ b) w hk rfl rfl (hr.fresh (fun i hi hf => ?_)) hv hm (fun g e => ⟨(hgb g e).1, fun hf => hf.2.2.1 e⟩) (fun i hf => hf.1) (by omega) r14).mono ?_
  · rcases hf with hf | hf
    · exact ⟨hf.1, hf.2.1, hf.2.2.2⟩
    · exact ⟨hi, (hgb i hf).2.1, (hgb i hf).1⟩
  · rintro x w' ⟨rfl, ⟨rv', A', hA, hk', hr'⟩, t⟩
    have t' : Tch (fun i => Q i ∨ v.ownBlock = some i) w w' := t.mono (fun i _ hi => by
      rcases hi with rfl | hi | hi
      · exact Or.inl hb
      · exact Or.inl (h1 i (lsb_blk hr hi)).2.2
      · exact Or.inr hi)
    refine ⟨rfl, ⟨fun i => i < w'.heap.size ∧ (Q i ∨ v.ownBlock = some i ∨ w.heap.size ≤ i), ⟨fun i => i < w'.heap.size ∧ (P1 i ∨ v.ownBlock = some i ∨ w.heap.size ≤ i), P2, A', C, rv', cv, fun i hi => ⟨fun hp => ?_, ?_, hi.1, hi.2.imp (fun hp => (h1 i hp).2.2) id⟩, fun i hi => ⟨(h2 i hi).1, Nat.lt_of_lt_of_le (hq i (h2 i hi).2) t.size, Or.inl (h2 i hi).2⟩, ⟨Nat.lt_of_lt_of_le (hq b hb) t.size, Or.inl hb⟩, fun i hi => hi.1, hk', hr'.fresh (fun i hi hf => ⟨?_, ?_, ?_, hf.2.2⟩), lsb_tch hc t (fun i _ hs hp => ?_), by omega, c14, by omega, by omega⟩, fun i hi => hi.2⟩, t'⟩
    · rcases hi.2 with h | h | h
      · exact (h1 i h).1 hp
      · exact (hgb i h).2.2.1 hp
      · have := hq i (h2 i hp).2; omega
    · rcases hi.2 with h | h | h
      · exact (h1 i h).2.1
      · exact (hgb i h).1
      · have := hq b hb; omega
    · exact Nat.lt_of_not_le (fun h => hf.2.1 ⟨hi, Or.inr (Or.inr h)⟩)
    · exact fun h => hf.2.1 ⟨hi, Or.inl h⟩
    · exact fun h => hf.2.1 ⟨hi, Or.inr (Or.inl h)⟩
    · rcases hs with rfl | h | h
      · exact (h2 _ hp).1 rfl
      · exact (h1 i (lsb_blk hr h)).1 hp
      · exact (hgb i h).2.2.1 hp
theorem table_bk (w : World) (b : Nat) (Q : Nat → Prop) (n : Nat) (v : Value) (m : Nat) (xs : List Value) (a0 a1 : Int) (a2 : ByteArray) (a4 : Int) (h : BK w b Q n) (hv : w.ownsRow 0 54 3 v m xs) (hm : m ≤ 1000000000000) (hg : ∀ g, v.ownBlock = some g → ¬ Q g) (hn : n ≤ 100000000) :
    Calls Tryz.prog 47 #[.pointer (some ⟨b, 0, none⟩), tA a0 a1 a2 v a4] w fun x w' => BkOut w b Q v n x w' := by
  obtain ⟨P1, P2, R, C, rv, cv, h1, h2, hb, hq, hk, hr, hc, r14, c14, rn, cn⟩ := h
  have hgb : ∀ g, v.ownBlock = some g → g ≠ b ∧ ¬ P1 g ∧ ¬ P2 g ∧ g < w.heap.size := fun g e => ⟨fun e2 => hg g e (e2 ▸ hb), fun hp => hg g e (h1 g hp).2.2, fun hp => hg g e (h2 g hp).2, (hv.lt g e).2⟩
  refine (ltable_any b _ C cv v m xs (fun i => i < w.heap.size ∧ ¬ P2 i ∧ v.ownBlock ≠ some i ∧ i ≠ b) a0 a1 a2 a4 w hk rfl rfl (hc.fresh (fun i hi hf => ?_)) hv hm (fun g e => ⟨(hgb g e).1, fun hf => hf.2.2.1 e⟩) (fun i hf => hf.1) (by omega) c14).mono ?_
  · rcases hf with hf | hf
    · exact ⟨hf.1, hf.2.1, hf.2.2.2⟩
    · exact ⟨hi, (hgb i hf).2.2.1, (hgb i hf).1⟩
  · rintro x w' ⟨rfl, ⟨cv', A', hA, hk', hc'⟩, t⟩
    have t' : Tch (fun i => Q i ∨ v.ownBlock = some i) w w' := t.mono (fun i _ hi => by
      rcases hi with rfl | hi | hi
      · exact Or.inl hb
      · exact Or.inl (h2 i (lsb_blk hc hi)).2
      · exact Or.inr hi)
    refine ⟨rfl, ⟨fun i => i < w'.heap.size ∧ (Q i ∨ v.ownBlock = some i ∨ w.heap.size ≤ i), ⟨P1, fun i => i < w'.heap.size ∧ (P2 i ∨ v.ownBlock = some i ∨ w.heap.size ≤ i), R, A', rv, cv', fun i hi => ⟨fun hp => ?_, (h1 i hi).2.1, Nat.lt_of_lt_of_le (hq i (h1 i hi).2.2) t.size, Or.inl (h1 i hi).2.2⟩, fun i hi => ⟨?_, hi.1, hi.2.imp (fun hp => (h2 i hp).2) id⟩, ⟨Nat.lt_of_lt_of_le (hq b hb) t.size, Or.inl hb⟩, fun i hi => hi.1, hk', lsb_tch hr t (fun i _ hs hp => ?_), hc'.fresh (fun i hi hf => ⟨?_, ?_, ?_, hf.2.2⟩), r14, by omega, by omega, by omega⟩, fun i hi => hi.2⟩, t'⟩
    · rcases hp.2 with h | h | h
      · exact (h1 i hi).1 h
      · exact (hgb i h).2.1 hi
      · have := hq i (h1 i hi).2.2; omega
    · rcases hi.2 with h | h | h
      · exact (h2 i h).1
      · exact (hgb i h).1
      · have := hq b hb; omega
    · rcases hs with rfl | h | h
      · exact (h1 _ hp).2.1 rfl
      · exact (h1 i hp).1 (lsb_blk hc h)
      · exact (hgb i h).2.1 hp
    · exact Nat.lt_of_not_le (fun h => hf.2.1 ⟨hi, Or.inr (Or.inr h)⟩)
    · exact fun h => hf.2.1 ⟨hi, Or.inl h⟩
    · exact fun h => hf.2.1 ⟨hi, Or.inr (Or.inl h)⟩
theorem still_bk (w : World) (b : Nat) (Q : Nat → Prop) (n : Nat) (h : BK w b Q n) (hn : n ≤ 100000000) : Calls Tryz.prog 25 #[.pointer (some ⟨b, 0, none⟩)] w fun x w' => x = .returned (.bool true) ∧ w' = w := by
  obtain ⟨P1, P2, R, C, rv, cv, h1, h2, hb, hq, hk, hr, hc, r14, c14, rn, cn⟩ := h
  exact lstill_any b _ R C rv cv _ _ w hk rfl rfl rfl rfl hr hc (by omega) (by omega)
end Go.Proofs.YteaagnlhkopgdaaGreatDoor.C
