import Derived.Test.YtjambfbibeihiaaGreatBkN
import Derived.Test.YtjambfbibeihiaaGreatMakes0
/- The book: takeFiles. -/
namespace Go.Proofs.YtjambfbibeihiaaGreat
set_option maxRecDepth 100000
open Go.RowKit Go.ChangeMaps Go.Sort

theorem info_filess : (Tryz.prog.info? 32).map (fun i => (i.zero, i.size, i.bytes)) = some (some (.slice none 0 0), 1, 24) := by kernel_rfl
theorem rep_set2 (u v : Value) (xs : List Value) {k n : Nat} (hl : xs.length = n * 2) (h : k < n) : ((rep [u, v] k ++ xs.drop (k * 2)).set (k * 2) u).set (k * 2 + 1) v = rep [u, v] (k + 1) ++ xs.drop ((k + 1) * 2) := by
  have hl1 : (rep [u, v] k).length = k * 2 := by rw [rep_len]; simp
  rw [List.set_append_right _ _ (by omega), hl1, Nat.sub_self, List.set_append_right _ _ (by omega), hl1, show k * 2 + 1 - k * 2 = 1 by omega]
  rw [List.drop_eq_getElem_cons (by omega : k * 2 < xs.length), List.set_cons_zero, List.drop_eq_getElem_cons (by omega : k * 2 + 1 < xs.length), List.set_cons_succ, List.set_cons_zero, rep_succ, List.append_assoc, show (k + 1) * 2 = k * 2 + 1 + 1 by omega]
  rfl

set_option maxHeartbeats 4000000 in
theorem takeF (bb kl n kn kf : Nat) (l hN wN hF wF : Value) (xs : List Value) (ω : Nat → Nat) (w : World) (hB : BK w ω bb kn kf hN wN hF wF) (hl : LO w ω kl 31 2 l n xs) (hk : 9 ≤ kl) (hm : kf % 20 = 0) (hkn : kf + 20 ≤ 1099511627776) (hn : n + 20 ≤ 1099511627776) :
    Calls Tryz.prog 80 #[.pointer (some ⟨bb, 0, none⟩), l] w fun x w' => x = .returned (.tuple #[]) ∧ ∃ ω', BK w' ω' bb kn (kf + 20) hN wN hF wF ∧ Ev (fun i => i = kl ∨ i = 5 ∨ i = 6 ∨ i = 8) w ω w' ω' := by
  obtain ⟨fv, nv, hb, hFR, hNR⟩ := hB.row
  have hbb := hB.own
  obtain ⟨lo, lc, hlv⟩ := rowN_of hl.1
  subst hlv
  have hNR' := hNR
  obtain ⟨vs, hvs, _⟩ := hNR'
  obtain ⟨no, nc, hnv⟩ := rowN_of hvs.1
  subst hnv
  have hbl := blk_lt hb
  have c0 : w.cell? ⟨bb, 1, none⟩ = some (.slice no kf nc) := by rw [blk_cell hb]; rfl
  have hmk := mark_any kf w
  have hlen : xs.length = n * 2 := by simpa using hl.1.1
  have hnI : (n : Int) ≤ 9223372036854775807 := by omega
  obtain ⟨mk, hmk'⟩ : ∃ mk, mk = markB kf := ⟨_, rfl⟩
  rw [← hmk'] at hmk
  have HN : Hid (NR w ω 8 32 patF (.slice no kf nc) kf) := by assumption
  have HF : Hid (NR w ω 7 36 patN fv kn) := hFR
  have HL : Hid (LO w ω kl 31 2 (.slice lo n lc) n xs) := hl
  have HP : Hid (patF kf = [.string mk, .string ⟨#[]⟩]) := by rw [hmk']; rfl
  obtain ⟨i0, hi0, hz0, hz1, hz2⟩ := info_parts info_filess
  obtain ⟨i1, hi1, hy0, hy1, hy2⟩ := info_parts info_file
  clear hB hFR hmk' hvs
  go_enter Tryz.func80, Tryz.ntmps80
  go_wp2_with fail
  refine hmk.mono ?_
  rintro x w1 ⟨rfl, t1⟩
  obtain ⟨mb, hmb⟩ : ∃ mb, mb = w1.heap.size := ⟨_, rfl⟩
  obtain ⟨w1', hw1'⟩ : ∃ w1', w1' = w1.alloc (.cells #[.string mk, .string ⟨#[]⟩] 31) := ⟨_, rfl⟩
  have hmw : w1'.heap[mb]? = some (.cells #[.string mk, .string ⟨#[]⟩] 31 (0, 0)) := by rw [hw1', hmb]; exact box_one w1 _
  have t1' : Tch (fun _ => False) w w1' := by rw [hw1']; exact t1.trans' (Tch.alloc _ _ _)
  have hz1' : w.heap.size ≤ mb := by rw [hmb]; exact t1.size
  have hl1 : w1'.ownsRow 0 31 2 (.slice lo n lc) n xs := rowN_tch HL.out.1 t1' (fun _ _ h => h)
  have hlm : ∀ g, (Value.slice lo n lc).ownBlock = some g → g ≠ mb := fun g hg => by have := (HL.out.1.lt g hg).2; omega
  clear hmk c0
  go_wp2_with fail
  rw [← hw1', ← hmb]
  clear hw1' hmb t1
  go_loopw [5] (fun i wr => ∃ k : Nat, i = .int .i64 k ∧ k ≤ n ∧ wr.ownsRow 0 31 2 (.slice lo n lc) n (rep [.string mk, .string ⟨#[]⟩] k ++ xs.drop (k * 2)) ∧ Tch (fun i => (Value.slice lo n lc).ownBlock = some i) w wr ∧ wr.heap[mb]? = some (.cells #[.string mk, .string ⟨#[]⟩] 31 (0, 0))) (fun i _ => n - (intOf i).toNat)
  case atStart => exact ⟨0, rfl, by omega, by simpa [rep] using hl1, t1'.mono (fun _ _ h => h.elim), hmw⟩
  case round =>
    obtain ⟨k, rfl, hkk, hown, hT, hmr⟩ := hrel
    have m0 : wr.cell? ⟨mb, 0, none⟩ = some (.string mk) := by rw [blk_cell hmr]; rfl
    have m1 : wr.cell? ⟨mb, 1, none⟩ = some (.string ⟨#[]⟩) := by rw [blk_cell hmr]; rfl
    by_cases hlt : (k : Int) < n
    · obtain ⟨g, cp', e1, _, hgl⟩ := hown.form (by omega)
      simp only [Value.slice.injEq, true_and] at e1
      obtain ⟨rfl, _⟩ := e1
      have r0 := hown.cellAt (k * 2) (by omega)
      have r1 := hown.cellAt (k * 2 + 1) (by omega)
      have rf0 := hown.frozenAt (k * 2)
      have rf1 := hown.frozenAt (k * 2 + 1)
      have hll : (rep [.string mk, .string ⟨#[]⟩] k : List Value).length = k * 2 := by rw [rep_len]; simp
      rw [List.getElem?_append_right (by omega), hll, Nat.sub_self, List.getElem?_drop, Nat.add_zero, List.getElem?_eq_getElem (by omega)] at r0
      rw [List.getElem?_append_right (by omega), hll, show k * 2 + 1 - k * 2 = 1 by omega, List.getElem?_drop, List.getElem?_eq_getElem (by omega)] at r1
      have hst := ((hown.stored (k * 2) (.string mk)).1.stored (k * 2 + 1) (.string ⟨#[]⟩)).1
      rw [rep_set2 _ _ _ hlen (by omega)] at hst
      have HST : Hid _ := hst
      have hgm : g ≠ mb := hlm g rfl
      have HMR : Hid (((wr.setCell ⟨g, k * 2, none⟩ (.string mk)).setCell ⟨g, k * 2 + 1, none⟩ (.string ⟨#[]⟩)).heap[mb]? = some (.cells #[.string mk, .string ⟨#[]⟩] 31 (0, 0))) := by
        have t := (Tch.setCell (fun i => i = g) wr ⟨g, k * 2, none⟩ (.string mk) rfl).setCellR ⟨g, k * 2 + 1, none⟩ (.string ⟨#[]⟩) rfl
        exact (t.block mb (blk_lt hmr) (fun e => hgm e.symm)).trans hmr
      clear hst
      go_wp2
      go_roundw
      case rel => exact ⟨k + 1, by go_num, by omega, HST.out, (hT.setCellR ⟨g, k * 2, none⟩ _ rfl).setCellR ⟨g, k * 2 + 1, none⟩ _ rfl, HMR.out⟩
      case measure => simp [intOf]; omega
    · obtain rfl : n = k := by omega
      have hown' : wr.ownsRow 0 31 (patF kf).length (.slice lo n lc) n (rep (patF kf) n) := by
        rw [HP.out]
        rw [List.drop_of_length_le (by omega), List.append_nil] at hown
        exact hown
      have hTN := TN.start HN.out hown' (fun g hg => ⟨HL.out.2 g hg, (HL.out.1.lt g hg).2⟩) hT hk (by omega)
      have hbw : wr.heap[bb]? = some (.cells #[fv, .slice no kf nc, hN, wN, hF, wF] 38 (0, 0)) := (hT.block bb hbl (fun e => by have := HL.out.2 bb e; omega)).trans hb
      have hbo : ext ω w.heap.size kl bb = 6 := by rw [ext_lt hbl]; exact hbb
      have hmo : ext ω w.heap.size kl mb = kl := ext_ge hz1'
      clear hown hown' hl1 t1' hT hl m0 m1 hmw
      go_wp2_with fail
      go_loopw [1, 6] (fun lv i wr => ∃ j : Nat, i = .int .i64 j ∧ j ≤ 20 ∧ ∃ nv ωj, wr.heap[bb]? = some (.cells #[fv, nv, hN, wN, hF, wF] 38 (0, 0)) ∧ (ωj bb = 6 ∧ ωj mb = kl ∧ wr.heap[mb]? = some (.cells #[.string mk, .string ⟨#[]⟩] 31 (0, 0)) ∧ ∀ g, lv.ownBlock = some g → g ≠ mb) ∧ TN 32 31 8 patF kl kf n w ω j nv lv wr ωj) (fun _ i _ => 20 - (intOf i).toNat)
      case atStart => exact ⟨0, rfl, by omega, _, _, hbw, ⟨hbo, hmo, hmr, hlm⟩, hTN⟩
      case round =>
        obtain ⟨j, rfl, hj, nv, ωj, hb, ⟨hbo, hmo, hmr, hlm⟩, hTN⟩ := hrel
        by_cases hlt : (j : Int) < 20
        · obtain ⟨vs, hvs, hold, hnew⟩ := hTN.row
          obtain ⟨no', nc', hnv⟩ := rowN_of hvs.1
          subst hnv
          obtain ⟨lo', lc', hlv⟩ := rowN_of hTN.lst.1
          subst hlv
          have hbl' := blk_lt hb
          have hml' := blk_lt hmr
          have c0 : wr.cell? ⟨bb, 1, none⟩ = some (.slice no' (kf + j) nc') := by rw [blk_cell hb]; rfl
          have HRW := fun w2 nv2 => TN.row' (w2 := w2) (nv2 := nv2) hTN hbo hk (by omega) hvs hold hnew
          have HT : Hid (TN 32 31 8 patF kl kf n w ω j (.slice no' (kf + j) nc') (.slice lo' (n + j) lc') wr ωj) := hTN
          clear hTN hbw
          go_wp2_with (first
            | (at_builtin; refine wpList_append_own_at _ rfl (.tmp 32) (.tmp 34) 35 rfl 0 32 i0 (.slice none 0 0) 1 24 Tryz.underlying35 hi0 hz0 hz1 hz2 rfl (by decide) (.slice no' (kf + j) nc') (kf + j) vs rfl (hvs.1.alloc _) ⟨wr.heap.size, 0, none⟩ 1 1 [.slice lo' (n + j) lc'] rfl rfl (Go.Proofs.YtjambfbibeihiaaGreat.cell_one_new _ _ _) (fun x hx => by simp at hx; rw [hx]; rfl) (by unfold maxLen; omega) (by omega) (Nat.zero_le _) ?_; intro v2 w2 hown2 hgrow2 _ hloc2
               obtain ⟨no2, nc2, hv2⟩ := rowN_of hown2
               subst hv2
               have t2 : Tch (fun i => (Value.slice no' (kf + j) nc').ownBlock = some i) wr w2 := (Tch.alloc _ _ _).trans' (Tch.of_grown hgrow2 (fun g e => e))
               have hnb : ¬ (Value.slice no' (kf + j) nc').ownBlock = some bb := fun e => by have := hvs.2 bb e; omega
               have hnm : ¬ (Value.slice no' (kf + j) nc').ownBlock = some mb := fun e => by have := hvs.2 mb e; omega
               have hb2 := (t2.block bb hbl' hnb).trans hb
               have hm2 := (t2.block mb hml' hnm).trans hmr
               have c2 : w2.cell? ⟨bb, 1, none⟩ = some (.slice no' (kf + j) nc') := by rw [blk_cell hb2]; rfl
               have f2 := blk_frozen hb2 1
               have hbm : ¬ bb = mb := fun e => by rw [e] at hbo; omega
               have hmb' : ¬ mb = bb := fun e => hbm e.symm
               have m0 : w2.cell? ⟨mb, 0, none⟩ = some (.string mk) := by rw [blk_cell hm2]; rfl
               have m1 : w2.cell? ⟨mb, 1, none⟩ = some (.string ⟨#[]⟩) := by rw [blk_cell hm2]; rfl
               have hloc : (Value.slice no2 (kf + j + 1) nc2).ownBlock = (Value.slice no' (kf + j) nc').ownBlock ∨ ∀ g, (Value.slice no2 (kf + j + 1) nc2).ownBlock = some g → wr.heap.size ≤ g := hloc2.imp id (fun e g hg => by rw [e] at hg; simp only [World.size_alloc, Option.some.injEq] at hg; omega)
               have hnb2 : ∀ g, (Value.slice no2 (kf + j + 1) nc2).ownBlock = some g → ¬ g = bb := fun g hg e => by
                 rcases hloc with h | h
                 · rw [h] at hg; exact hnb (e ▸ hg)
                 · have := h g hg; omega
               have hr3 := rowN_tch hown2 (Tch.setCell (fun i => i = bb) w2 ⟨bb, 1, none⟩ (.slice no2 (kf + j + 1) nc2) rfl) hnb2
               have t3 : Tch (fun i => i = bb ∨ (Value.slice no' (kf + j) nc').ownBlock = some i) wr (w2.setCell ⟨bb, 1, none⟩ (.slice no2 (kf + j + 1) nc2)) := (t2.mono (fun _ _ h => Or.inr h)).setCellR _ _ (Or.inl rfl)
               have H3 : Hid _ := HRW _ _ hr3 hloc t3
               have hb3 : (w2.setCell ⟨bb, 1, none⟩ (.slice no2 (kf + j + 1) nc2)).heap[bb]? = some (.cells #[fv, .slice no2 (kf + j + 1) nc2, hN, wN, hF, wF] 38 (0, 0)) := blk_set hb2 _
               have hm3 : (w2.setCell ⟨bb, 1, none⟩ (.slice no2 (kf + j + 1) nc2)).heap[mb]? = some (.cells #[.string mk, .string ⟨#[]⟩] 31 (0, 0)) := (t3.block mb hml' (fun e => e.elim hmb' hnm)).trans hmr
               have hz3 := t3.size
               have hL3 : (w2.setCell ⟨bb, 1, none⟩ (.slice no2 (kf + j + 1) nc2)).ownsRow 0 31 2 (.slice lo' (n + j) lc') (n + j) (rep [.string mk, .string ⟨#[]⟩] (n + j)) := by
                 have := H3.out.2.1.1
                 rw [HP.out] at this
                 exact this
               have hszc : (w2.setCell ⟨bb, 1, none⟩ (.slice no2 (kf + j + 1) nc2)).heap.size = w2.heap.size := by simp
               have HNW := cell_two_new (w2.setCell ⟨bb, 1, none⟩ (.slice no2 (kf + j + 1) nc2)) (.string mk) (.string ⟨#[]⟩) 31
               rw [hszc] at HNW
               clear hown2 hgrow2 hloc2 HRW hr3 c0 hb hb2 t2 hold hnew hm2)
            | (at_builtin; refine wpList_append_keeps _ rfl (.tmp 38) (.tmp 40) 32 rfl 0 31 i1 (.agg #[.string ⟨#[]⟩, .string ⟨#[]⟩]) 2 32 Tryz.underlying32 hi1 hy0 hy1 hy2 rfl (by decide) (.slice lo' (n + j) lc') (n + j) (rep [.string mk, .string ⟨#[]⟩] (n + j)) rfl (hL3.alloc _) ⟨w2.heap.size, 0, none⟩ 1 1 [.string mk, .string ⟨#[]⟩] rfl rfl HNW (fun x hx => by simp at hx; rcases hx with rfl | rfl <;> rfl) (by unfold maxLen; omega) (by omega) (Nat.zero_le _) ?_; intro lv4 w4 hown4 hgrow4 hloc4 hkp4
               obtain ⟨lo4, lc4, hv4⟩ := rowN_of hown4
               subst hv4
               have t4 : Tch (fun i => (Value.slice lo' (n + j) lc').ownBlock = some i) (w2.setCell ⟨bb, 1, none⟩ (.slice no2 (kf + j + 1) nc2)) w4 := (Tch.alloc _ _ _).trans' (Tch.of_grown hgrow4 (fun g e => e))
               have hT4 := TN.next (w3 := w4) (lv3 := .slice lo4 (n + j + 1) lc4) hk (by omega) H3.out.1 H3.out.2.1 H3.out.2.2 (by rw [HP.out]; exact hown4) (hloc4.imp id (fun e g hg => by rw [e] at hg; simp only [World.size_alloc, Option.some.injEq] at hg; omega)) t4 (fun b q hb' hq => by
                 rw [hkp4 b q (by simp only [World.size_alloc]; omega) (fun e => by have := hq e; rw [HP.out] at this; simpa using this)]
                 exact World.cell?_of_block (heap_alloc_old _ _ hb'))
               have hb4 := (t4.block bb (by omega) (fun e => by have := H3.out.2.1.2 bb e; rw [ext_lt hbl'] at this; omega)).trans hb3
               have hm4 := (t4.block mb (by omega) (fun e => hlm mb e rfl)).trans hm3
               have hlm4 : ∀ g, (Value.slice lo4 (n + j + 1) lc4).ownBlock = some g → g ≠ mb := fun g hg => by
                 rcases hloc4 with h | h
                 · rw [h] at hg; exact hlm g hg
                 · rw [h] at hg; simp only [World.size_alloc, Option.some.injEq] at hg; omega
               have HT4 : Hid _ := hT4
               have HB4 : Hid _ := hb4
               have HM4 : Hid _ := hm4
               have HLM : Hid _ := hlm4
               clear hown4 hgrow4 hloc4 hkp4 hT4 hb4 hb3 hL3 t4 hm4 hm3 hlm4)
            | fail)
          go_roundw
          case rel => exact ⟨j + 1, by go_num, by omega, _, _, HB4.out, ⟨by rw [ext_lt (by omega), ext_lt hbl']; exact hbo, by rw [ext_lt (by omega), ext_lt hml']; exact hmo, HM4.out, HLM.out⟩, HT4.out⟩
          case measure => simp [intOf]; omega
        · obtain rfl : j = 20 := by omega
          obtain ⟨hN', hE⟩ := hTN.done hk (by omega) hm hn
          have hF' := HF.out.rest (kl := kl) hTN.ev ⟨by omega, by omega⟩ hk (by omega)
          go_wp2
          go_end0
          refine ⟨rfl, _, ⟨⟨_, _, hb, hF', hN'⟩, ?_⟩, hE⟩
          show (if ωj bb = kl then 5 else ωj bb) = 6
          rw [hbo, if_neg (by omega)]
end Go.Proofs.YtjambfbibeihiaaGreat
