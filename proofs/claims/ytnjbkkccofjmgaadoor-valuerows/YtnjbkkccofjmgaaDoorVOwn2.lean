/- owned of the law, walked. -/
import Derived.Test.YtnjbkkccofjmgaaDoorVOwn
namespace Go.Proofs.YtnjbkkccofjmgaaDoor
open Go.RowKit Go.Sort

theorem info_row : (Tryd.prog.info? 36).map (fun i => (i.zero, i.size, i.bytes)) = some (some (.slice none 0 0), 1, 24) := by kernel_rfl
theorem new_ge {b g : Nat} {W : World} {o : Obj} (h : b ≤ W.heap.size) (e : some (W.alloc o).heap.size = some g) : b ≤ g := by
  injection e with e
  rw [World.size_alloc] at e
  omega
/-- The rows' blocks. -/
def OBs (L : Nat → Value) (i : Nat) : Prop := ∃ j, j < 5 ∧ (L j).ownBlock = some i
theorem ro2_cells {W : World} {g c q : Nat} {cur : Array Value} (hh : W.heap[g]? = some (.cells cur 23 (0, 0))) (hs : cur.size = c * 3) (hq : q < c) (v0 v1 : Value) :
    (∃ y, W.cell? ⟨g, q * 3, none⟩ = some y) ∧ (∃ y, (W.setCell ⟨g, q * 3, none⟩ v0).cell? ⟨g, q * 3 + 1, none⟩ = some y) ∧ (∃ y, ((W.setCell ⟨g, q * 3, none⟩ v0).setCell ⟨g, q * 3 + 1, none⟩ v1).cell? ⟨g, q * 3 + 2, none⟩ = some y) ∧ ∀ j, W.frozen? ⟨g, j, none⟩ = false := by
  refine ⟨⟨cur[q * 3]'(by omega), by rw [blk_cell hh]; exact Array.getElem?_eq_getElem _⟩, ⟨cur[q * 3 + 1]'(by omega), ?_⟩, ⟨cur[q * 3 + 2]'(by omega), ?_⟩, fun j => blk_frozen hh j⟩
  · rw [World.cell?_setCell_other (h := by intro e; injection e; omega), blk_cell hh]; exact Array.getElem?_eq_getElem _
  · rw [World.cell?_setCell_other (h := by intro e; injection e; omega), World.cell?_setCell_other (h := by intro e; injection e; omega), blk_cell hh]; exact Array.getElem?_eq_getElem _

set_option maxHeartbeats 400000 in
set_option maxRecDepth 100000 in
theorem owned_any (gl cap base : Nat) (L : Nat → Value) (n : Nat → Nat) (w : World) (hl : ∀ i, i < 5 → w.cell? ⟨gl, i, none⟩ = some (L i))
    (hr : ∀ i, i < 5 → RO2 w base (L i) (n i)) (hn8 : ∀ i, n i ≤ 8) (hd : ∀ i j g, i < 5 → j < 5 → i ≠ j → (L i).ownBlock = some g → (L j).ownBlock ≠ some g) (hgl : ∀ i, i < 5 → (L i).ownBlock ≠ some gl) (hb : base ≤ w.heap.size) :
    Calls Tryd.prog 27 #[.slice (some ⟨gl, 0, none⟩) 5 cap] w fun x w' => x = .returned (.bool true) ∧ Tch (OBs L) w w' := by
  obtain ⟨i0, hii, hz0, hz1, hz2⟩ := info_parts info_val
  obtain ⟨i1, hi1, hy0, hy1, hy2⟩ := info_parts info_row
  have hgw : gl < w.heap.size := cell_lt (hl 0 (by omega))
  have HGL : Hid (∀ W, Tch (OBs L) w W → ∀ i, i < 5 → W.cell? ⟨gl, i, none⟩ = some (L i)) := fun W t i hi => by
    rw [t.cell (p := ⟨gl, i, none⟩) hgw (fun ⟨j, hj, e⟩ => hgl j hj e)]; exact hl i hi
  have HR : Hid (∀ i, i < 5 → RO2 w base (L i) (n i)) := hr
  have HD : Hid (∀ i j g, i < 5 → j < 5 → i ≠ j → (L i).ownBlock = some g → (L j).ownBlock ≠ some g) := hd
  have H8 : Hid (∀ i, n i ≤ 8) := hn8
  have Hgl : Hid (∀ i, i < 5 → (L i).ownBlock ≠ some gl) := hgl
  clear hl hr hn8 hd hgl
  go_enter Tryd.func27, Tryd.ntmps27
  go_wp2_with fail
  go_loopw [3] (fun i wr => ∃ p : Nat, i = .int .i64 p ∧ p ≤ 5 ∧ Hid (∀ i, i < 5 → RO2 wr base (L i) (n i) ∧ (i < p → MC wr (L i) i (n i))) ∧ Tch (OBs L) w wr) (fun i _ => 5 - (intOf i).toNat)
  case atStart => exact ⟨0, rfl, by omega, fun i hi => ⟨HR.out i hi, fun h => by omega⟩, Tch.refl _ _⟩
  case round =>
    obtain ⟨p, rfl, hp, HS, hT⟩ := hrel
    by_cases hp5 : (p : Int) < 5
    · obtain ⟨m, hm⟩ : ∃ m, m = n p := ⟨_, rfl⟩
      have hm8 : m ≤ 8 := by rw [hm]; exact H8.out p
      have HM : Hid (m = n p) := hm
      obtain ⟨ao, c, hLp⟩ := (HS.out p (by omega)).1.slice
      rw [← hm] at hLp
      have HLp : Hid (L p = .slice ao m c) := hLp
      clear hm hLp
      go_wp2_with fail
      go_loopw [4] (fun k wr => ∃ q : Nat, k = .int .i64 q ∧ q ≤ m ∧ Hid ((∀ i, i < 5 → RO2 wr base (L i) (n i) ∧ (i < p → MC wr (L i) i (n i))) ∧ MC wr (L p) p q) ∧ Tch (OBs L) w wr) (fun i _ => m - (intOf i).toNat)
      case atStart => exact ⟨0, rfl, by omega, ⟨HS.out, fun h => by omega⟩, hT⟩
      case round =>
        clear hT HS
        obtain ⟨q, rfl, hq, HS, hT⟩ := hrel
        have hcl := HGL.out _ hT p (by omega)
        rw [HLp.out] at hcl
        by_cases hqm : (q : Int) < m
        · obtain ⟨g, c', cur, hv, hbg, hh, hnc, hmx, hs⟩ := (HS.out.1 p (by omega)).1.blk (by rw [← HM.out]; omega)
          rw [HLp.out] at hv
          injection hv with hv1 hv2 hv3
          subst hv1 hv3
          have hqc : q < c := by rw [← HM.out] at hnc; omega
          obtain ⟨⟨y0, e0⟩, ⟨y1, e1⟩, ⟨y2, e2⟩, hf⟩ := ro2_cells hh hs hqc (.int .i64 (-5)) (.int .i64 p)
          have f0 := hf (q * 3); have f1 := hf (q * 3 + 1); have f2 := hf (q * 3 + 2)
          have HN : Hid ((∀ i, i < 5 → RO2 (((wr.setCell ⟨g, q * 3, none⟩ (.int .i64 (-5))).setCell ⟨g, q * 3 + 1, none⟩ (.int .i64 p)).setCell ⟨g, q * 3 + 2, none⟩ (.string ⟨#[]⟩)) base (L i) (n i) ∧ (i < p → MC (((wr.setCell ⟨g, q * 3, none⟩ (.int .i64 (-5))).setCell ⟨g, q * 3 + 1, none⟩ (.int .i64 p)).setCell ⟨g, q * 3 + 2, none⟩ (.string ⟨#[]⟩)) (L i) i (n i))) ∧ MC (((wr.setCell ⟨g, q * 3, none⟩ (.int .i64 (-5))).setCell ⟨g, q * 3 + 1, none⟩ (.int .i64 p)).setCell ⟨g, q * 3 + 2, none⟩ (.string ⟨#[]⟩)) (L p) p (q + 1)) := by
            have t3 : Tch (fun i => i = g) wr (((wr.setCell ⟨g, q * 3, none⟩ (.int .i64 (-5))).setCell ⟨g, q * 3 + 1, none⟩ (.int .i64 p)).setCell ⟨g, q * 3 + 2, none⟩ (.string ⟨#[]⟩)) := ((Tch.setCell (fun i => i = g) wr ⟨g, q * 3, none⟩ _ rfl).setCellR ⟨g, q * 3 + 1, none⟩ _ rfl).setCellR ⟨g, q * 3 + 2, none⟩ _ rfl
            have hLg : (L p).ownBlock = some g := by rw [HLp.out]; rfl
            have hmc : MC wr (.slice (some ⟨g, 0, none⟩) m c) p q := by rw [← HLp.out]; exact HS.out.2
            obtain ⟨m1, m2⟩ := MC.step hmc hh hqc hs
            refine ⟨fun i hi => ?_, by rw [HLp.out]; exact m1⟩
            by_cases hip : i = p
            · subst hip
              refine ⟨?_, fun h => by omega⟩
              rw [HLp.out, ← HM.out]
              exact RO2.of hbg m2 (by rw [← HM.out] at hnc; exact hnc) hmx (by simp [hs])
            · have hne : ∀ g', (L i).ownBlock = some g' → ¬ g' = g := fun g' k1 k2 => by subst k2; exact HD.out i p g' hi (by omega) hip k1 hLg
              exact ⟨(HS.out.1 i hi).1.tch t3 hne, fun h => ((HS.out.1 i hi).2 h).tch t3 hne⟩
          have HT : Hid (OBs L g) := ⟨p, by omega, by rw [HLp.out]; rfl⟩
          clear hh hf hs
          go_wp2_with fail
          go_roundw
          case rel => exact ⟨q + 1, by go_num, by omega, HN, ((hT.setCellR ⟨g, q * 3, none⟩ _ HT.out).setCellR ⟨g, q * 3 + 1, none⟩ _ HT.out).setCellR ⟨g, q * 3 + 2, none⟩ _ HT.out⟩
          case measure => simp [intOf]; omega
        · have HE : Hid (∀ i, i < 5 → RO2 _ base (L i) (n i) ∧ (i < p + 1 → MC _ (L i) i (n i))) := fun i hi => ⟨(HS.out.1 i hi).1, fun h => by
            by_cases hip : i = p
            · subst hip; have : q = n i := by rw [← HM.out]; omega
              rw [← this]; exact HS.out.2
            · exact (HS.out.1 i hi).2 (by omega)⟩
          go_wp2_with fail
          go_roundw
          case rel => exact ⟨p + 1, by go_num, by omega, HE, hT⟩
          case measure => simp [intOf]; omega
    · obtain rfl : p = 5 := by omega
      obtain ⟨b2, hb2⟩ : ∃ b2, b2 = wr.heap.size := ⟨_, rfl⟩
      have hw2 : w.heap.size ≤ b2 := by rw [hb2]; exact hT.size
      have HI : Hid (OA0 wr base b2 gl L n [] (.slice none 0 0) 0) := ⟨⟨rfl, Or.inl ⟨rfl, rfl⟩⟩, fun j hj => by simp at hj, fun i _ hi => ⟨(HS.out i hi).1.marks ((HS.out i hi).2 hi), fun g _ e => by cases e⟩, by omega⟩
      clear HS hb2 HR
      go_wp2_with fail
      go_loopw [5, 6] (fun allv i wr => ∃ (p : Nat) (A : List Value), i = .int .i64 p ∧ p ≤ 5 ∧ (A.length ≤ 100 ∧ Hid (A.length = 20 * p)) ∧ Hid (OA0 wr base b2 gl L n A allv p) ∧ Tch (OBs L) w wr) (fun _ i _ => 5 - (intOf i).toNat)
      case atStart => exact ⟨0, [], rfl, by omega, ⟨by simp, rfl⟩, HI, hT⟩
      case round =>
        clear hT HI
        obtain ⟨p, A, rfl, hp, ⟨hA, HA⟩, HO, hT⟩ := hrel
        obtain ⟨ao, ca, hv⟩ := row_slice HO.out.all
        subst hv
        by_cases hp5 : (p : Int) < 5
        · have hcl := HGL.out _ hT p (by omega)
          have HE : Hid (OA _ base b2 gl L n A (.slice ao A.length ca) (L p) p (n p)) := HO.out.enter (by omega) HD.out Hgl.out
          have HXO : Hid (∀ g, (L p).ownBlock = some g → OBs L g ∨ b2 ≤ g) := fun g e => Or.inl ⟨p, by omega, e⟩
          have hn8 := H8.out p
          clear HO
          obtain ⟨m, hm⟩ : ∃ m, m = n p := ⟨_, rfl⟩
          obtain ⟨lp, hlp⟩ : ∃ lp, lp = L p := ⟨_, rfl⟩
          rw [← hm, ← hlp] at HE
          rw [← hm] at hn8
          rw [← hlp] at HXO hcl
          clear hm hlp
          go_wp2_with fail
          go_loopw [5, 7, 8] (fun allv x k wr => ∃ (q nx : Nat) (A : List Value), k = .int .i64 q ∧ q ≤ 20 ∧ (A.length ≤ 100 ∧ Hid (A.length = 20 * p + q)) ∧ nx ≤ 8 + q ∧ Hid (OA wr base b2 gl L n A allv x p nx) ∧ Hid (∀ g, x.ownBlock = some g → OBs L g ∨ b2 ≤ g) ∧ Tch (OBs L) w wr) (fun _ _ k _ => 20 - (intOf k).toNat)
          case atStart => exact ⟨0, m, A, rfl, by omega, ⟨hA, HA⟩, by omega, HE, HXO, hT⟩
          case round =>
            clear hT HE HXO hcl hA hn8 HA
            obtain ⟨q, nx, A, rfl, hq, ⟨hA, HA⟩, hnx, HO, HXO, hT⟩ := hrel
            obtain ⟨ao, ca, hv⟩ := row_slice HO.out.all
            subst hv
            obtain ⟨xo, cx, hv⟩ := row_slice HO.out.xr
            subst hv
            have HX0 : Hid (∀ g, (Value.slice ao A.length ca).ownBlock = some g → b2 ≤ g) := fun g e => row_ge HO.out.all e
            by_cases hq20 : (q : Int) < 20
            · have hwz := HO.out.sz
              go_wp2_with (first
                | (at_builtin; refine wpList_append_keeps _ rfl _ _ 44 rfl b2 36 i1 (.slice none 0 0) 1 24 Tryd.underlying44 hi1 hy0 hy1 hy2 rfl (by decide) (.slice ao A.length ca) A.length A rfl (own_tch HO.out.all (Tch.alloc (fun _ => False) _ _) (fun _ _ h => h)) ⟨wr.heap.size, 0, none⟩ 1 1 [.slice xo nx cx] rfl rfl (World.news_of_block (alloc_new _ _)) (by simp [Value.oneCell']) (by unfold maxLen; omega) (by omega) (by simp; omega) ?_; intro v1 w1 hown1 hgr1 hat1 _; have HO1 : Hid _ := HO.out.one (Tch.alloc _ _ _) hgr1 hown1 hat1 HA.out (by omega) (by omega); have T1 := hT.trans (grown_at (Tch.alloc _ _ _) hgr1) (fun i hi h => by have := HX0.out i h; omega); obtain ⟨ao1, ca1, hv1⟩ := row_slice hown1; subst hv1)
                | (at_builtin; refine wpList_append_keeps _ rfl _ _ 36 rfl base 23 i0 (.agg #[.int .i64 0, .int .i64 0, .string ⟨#[]⟩]) 3 32 Tryd.underlying36 hii hz0 hz1 hz2 rfl (by decide) (.slice xo nx cx) nx (rcl (List.replicate nx (mkV p))) rfl (own_tch HO1.out.xr (Tch.alloc (fun _ => False) _ _) (fun _ _ h => h)) ⟨w1.heap.size, 0, none⟩ 1 1 (rcl [mkV p]) rfl rfl (rcl_cells (by simp [mkV]) (by simp [mkV]) (by simp [mkV])) (rcl_one _) (by unfold maxLen; omega) (by omega) (by have := HO1.out.sz; simp; omega) ?_; intro v2 w2 hown2 hgr2 hat2 hk2; have hown3 : w2.ownsRow base 23 3 v2 (nx + 1) (rcl (List.replicate (nx + 1) (mkV p))) := (by rw [List.replicate_succ', rcl_snoc]; exact hown2); have HO2 : Hid _ := HO1.out.two (Tch.alloc _ _ _) hgr2 hown3 hat2 hk2; have T2 := T1.trans ((grown_at (Tch.alloc _ _ _) hgr2)) (fun i hi h => (HXO.out i h).elim id (fun h => by omega)); have HX2 : Hid (∀ g, v2.ownBlock = some g → OBs L g ∨ b2 ≤ g) := (fun g e => hat2.elim (fun e1 => HXO.out g (e1 ▸ e)) (fun e1 => Or.inr (new_ge HO1.out.sz.1 (e1.symm.trans e)))); obtain ⟨ao2, ca2, hv2⟩ := row_slice hown2; subst hv2))
              exact ⟨⟨q + 1, nx + 1, A ++ [.slice xo nx cx], by go_num, by omega, ⟨by have := HA.out; simp; omega, by show _ = _; rw [List.length_append, HA.out]; rfl⟩, by omega, HO2, HX2, T2⟩, by simp [intOf]; omega⟩
            · have HE : Hid (OA0 _ base b2 gl L n A (.slice ao A.length ca) (p + 1)) := HO.out.leave
              go_wp2_with fail
              go_roundw
              case rel => exact ⟨p + 1, A, by go_num, by omega, ⟨hA, by show _ = _; rw [HA.out]; omega⟩, HE, hT⟩
              case measure => simp [intOf]; omega
        · obtain rfl : p = 5 := by omega
          have hA5 : A.length = 100 := HA.out
          obtain ⟨G, rfl, hAc⟩ : ∃ G, ao = some ⟨G, 0, none⟩ ∧ ∀ j (hj : j < A.length), wr.cell? ⟨G, j, none⟩ = some A[j] := by
            rcases HO.out.all.2 with ⟨h1, h2⟩ | ⟨G, c', cur, hv, _, hh, hc, hm, hs, ht⟩
            · omega
            · simp only [Value.slice.injEq] at hv
              refine ⟨G, hv.1, fun j hj => ?_⟩
              rw [blk_cell hh, ← Array.getElem?_toList]
              have h1 : (cur.toList.take (A.length * 1))[j]? = A[j]? := by rw [ht]
              rw [List.getElem?_take_of_lt (by omega), List.getElem?_eq_getElem hj] at h1
              exact h1
          have HAc : Hid (∀ j (hj : j < A.length), wr.cell? ⟨G, j, none⟩ = some A[j]) := hAc
          have HMV : Hid (∀ j (hj : j < A.length), MVv wr A[j] (j / 20) (fun _ _ => True)) := fun j hj => (HO.out.mv j hj).up (Nat.le_refl _) (fun _ _ _ _ => ⟨trivial, fun _ _ => rfl⟩)
          have HA5 : Hid (A.length = 100) := hA5
          clear hAc hA5 HO
          go_wp2_with fail
          go_loopw [9] (fun i W => ∃ j : Nat, i = .int .i64 j ∧ j ≤ 100 ∧ W = wr) (fun i _ => 100 - (intOf i).toNat)
          case atStart => exact ⟨0, rfl, by omega, rfl⟩
          case round =>
            obtain ⟨j, rfl, hj, rfl⟩ := hrel
            have hA6 : (A.length : Int) = 100 := by have := HA5.out; omega
            by_cases hj1 : (j : Int) < 100
            · have hjA : j < A.length := by have := HA5.out; omega
              have hcj := HAc.out j hjA
              obtain ⟨xo, m, cx, hx, hm, hmc⟩ := HMV.out j hjA
              rw [hx] at hcj
              have HMC : Hid (0 < m → ∃ g, xo = some ⟨g, 0, none⟩ ∧ _ ∧ True ∧ ∀ q, q < m → _ ∧ _) := hmc
              clear hx hmc
              go_wp2_with fail
              go_loopw [10] (fun k W => ∃ q : Nat, k = .int .i64 q ∧ q ≤ m ∧ W = wr) (fun k _ => m - (intOf k).toNat)
              case atStart => exact ⟨0, rfl, by omega, rfl⟩
              case round =>
                obtain ⟨q, rfl, hq, rfl⟩ := hrel
                by_cases hqm : (q : Int) < m
                · obtain ⟨g, rfl, _, _, hc⟩ := HMC.out (by omega)
                  obtain ⟨c0, c1⟩ := hc q (by omega)
                  clear hc
                  go_wp2_with fail
                  go_roundw
                  case rel => exact ⟨q + 1, by go_num, by omega, by first | rfl | trivial⟩
                  case measure => simp [intOf]; omega
                · go_wp2_with fail
                  go_roundw
                  case rel => exact ⟨j + 1, by go_num, by omega, by first | rfl | trivial⟩
                  case measure => simp [intOf]; omega
            · go_wp2_with fail
              go_ret
              exact ⟨rfl, hT⟩
end Go.Proofs.YtnjbkkccofjmgaaDoor
