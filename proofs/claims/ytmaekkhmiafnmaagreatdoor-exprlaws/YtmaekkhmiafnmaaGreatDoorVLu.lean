import Derived.Test.YtmaekkhmiafnmaaGreatDoorVRights
import Derived.Test.YtmaekkhmiafnmaaGreatDoorOrdv
import Derived.BigQuiet
set_option maxHeartbeats 4000000
set_option maxRecDepth 100000
namespace Go.Proofs.YtmaekkhmiafnmaaGreatDoor
open Go.RowKit
theorem quoted_any (s : ByteArray) (w : World) (hs : s.size ≤ 17592186044416) :
    Calls Tryz.prog 83 #[.string s] w fun x w' => x = .returned (.string ⟨(qtd s).toArray⟩) ∧ Tch (fun _ => False) w w' := by
  obtain ⟨i0, hi, hz0, hz1, hz2⟩ := info_byte'
  go_enter Tryz.func83, Tryz.ntmps83
  go_wp2_with fail
  go_loopw [3, 9] (fun v i wr => ∃ (k : Nat) (bs : List UInt8), i = .int .i64 k ∧ k ≤ s.size ∧ Hid (bs = 39 :: escs (s.data.toList.take k)) ∧ bs.length ≤ 1 + 3 * k ∧ wr.ownsRow w.heap.size 5 1 v bs.length (Lib.byteCells bs) ∧ Tch (fun i => w.heap.size ≤ i) w wr) (fun _ i _ => s.size - (intOf i).toNat)
  case atStart => exact ⟨0, [39], rfl, by omega, rfl, by simp, own_new w [39] (by decide), Tch.alloc _ _ _⟩
  case round =>
    obtain ⟨k, bs, rfl, hk, HB, hbl, hown, hT⟩ := hrel
    obtain ⟨ao, cp, hv⟩ := slice_of hown
    subst hv
    have HG : Hid (∀ g, (Value.slice ao bs.length cp).ownBlock = some g → w.heap.size ≤ g) := fun g hk => ownBlock_ge hown hk.symm
    have HO : Hid (∀ W, Tch (fun _ => False) wr W → W.ownsRow w.heap.size 5 1 (.slice ao bs.length cp) bs.length (Lib.byteCells bs)) := fun W t => ownsRow_tch hown t (fun _ _ _ h => h)
    have hwr := hT.size
    have hbs : bs.length ≤ 60000000000000 := by omega
    by_cases hlt : (k : Int) < s.size
    · have hks : k < s.size := by omega
      have HEnd : Hid (∀ (l : List UInt8) (W w1 : World) (v' : Value), esc s[k] = l → w1.ownsRow w.heap.size 5 1 v' (bs.length + l.length) (Lib.byteCells bs ++ Lib.byteCells l) → Tch (fun _ => False) wr W → W.grownBy w1 (Value.slice ao bs.length cp).ownBlock →
          (∃ (k_1 : Nat) (bs_1 : List UInt8), Value.int .i64 ((k : Int) + 1) = .int .i64 k_1 ∧ k_1 ≤ s.size ∧ Hid (bs_1 = 39 :: escs (s.data.toList.take k_1)) ∧ bs_1.length ≤ 1 + 3 * k_1 ∧ w1.ownsRow w.heap.size 5 1 v' bs_1.length (Lib.byteCells bs_1) ∧ Tch (fun i => w.heap.size ≤ i) w w1) ∧ s.size - (intOf (Value.int .i64 ((k : Int) + 1))).toNat < s.size - (intOf (Value.int .i64 (k : Int))).toNat) := fun l W w1 v' he ho t hgr => by
        have hel := esc_len s[k]
        rw [he] at hel
        refine ⟨⟨k + 1, bs ++ l, by go_num, by omega, ?_, by rw [List.length_append]; omega, ?_, ?_⟩, by simp [intOf]; omega⟩
        · show _ = _
          rw [List.take_succ_eq_append_getElem (by simpa using hks), escs_snoc, HB.out]
          show _ = _ :: (_ ++ esc s[k])
          rw [he]; rfl
        · rw [Lib.byteCells_append, List.length_append]; exact ho
        · exact (hT.trans' (no_mono t)).trans' (grown_tch hgr HG.out)
      have hxl : s[k].toNat ≤ 255 := by have := s[k].toNat_lt; omega
      by_cases h39 : s[k].toNat = 39
      · have HE : Hid (esc s[k] = [39, 39]) := by show _ = _; unfold esc; rw [if_pos h39]
        have h39' : (s[k].toNat : Int) = 39 := by omega
        clear h39 hxl hown
        go_wp2_with (at_builtin; refine wpList_append_own _ rfl _ _ 118 rfl w.heap.size 5 i0 (.int .u8 0) 1 1 Tryz.underlying118 hi hz0 hz1 hz2 rfl (by decide) (.slice ao bs.length cp) _ _ rfl (HO.out _ (Tch.alloc _ _ _)) ⟨wr.heap.size, 0, none⟩ 2 2 (Lib.byteCells [39, 39]) rfl rfl (byteCells_get (fun j hj => by rcases j with _ | _ | j <;> simp at hj ⊢ <;> omega)) (Lib.byteCells_one _) (by unfold maxLen; omega) (by omega) (by simp; omega) ?_; intro v' w1 hown' hgr hnil; obtain ⟨ao', cp', hv'⟩ := slice_of hown'; subst hv'; clear hnil)
        exact HEnd.out [39, 39] _ w1 _ HE.out hown' (Tch.alloc _ _ _) hgr
      · have h39' : ¬ (s[k].toNat : Int) = 39 := by omega
        by_cases hes : s[k].toNat < 32 ∨ 126 < s[k].toNat ∨ s[k].toNat = 92
        · obtain ⟨p1, hp1⟩ : ∃ p1, p1 = sgn (s[k].toNat / 16) := ⟨_, rfl⟩
          obtain ⟨p2, hp2⟩ : ∃ p2, p2 = sgn (s[k].toNat % 16) := ⟨_, rfl⟩
          have HE : Hid (esc s[k] = [92, p1, p2]) := by show _ = _; unfold esc; rw [if_neg h39, if_pos hes, hp1, hp2]
          have HC : Hid (((s[k].toNat : Int) < 32 ∨ 126 < (s[k].toNat : Int)) ∨ (s[k].toNat : Int) = 92) := by show _ ∨ _; omega
          have hi1 : ∀ W, (Instr.index 9 (.string ⟨#[48, 49, 50, 51, 52, 53, 54, 55, 56, 57, 97, 98, 99, 100, 101, 102]⟩) (.int .u8 (IntKind.u8.wrap ((s[k].toNat : Int) / 16)))).run Tryz.prog W = .ok (.int .u8 p1.toNat) W := fun W => by
            have e : IntKind.u8.wrap ((s[k].toNat : Int) / 16) = ((s[k].toNat / 16 : Nat) : Int) := by rw [IntKind.wrap_u8]; omega
            rw [e, sgn_run _ (by omega), hp1]
          have hi2 : ∀ W, (Instr.index 9 (.string ⟨#[48, 49, 50, 51, 52, 53, 54, 55, 56, 57, 97, 98, 99, 100, 101, 102]⟩) (.int .u8 ((s[k].toNat : Int).tmod 16))).run Tryz.prog W = .ok (.int .u8 p2.toNat) W := fun W => by
            have e : ((s[k].toNat : Int).tmod 16) = ((s[k].toNat % 16 : Nat) : Int) := by rw [Int.tmod_eq_emod_of_nonneg (by omega)]; omega
            rw [e, sgn_run _ (by omega), hp2]
          clear h39 hown hes hp1 hp2
          by_cases c1 : (s[k].toNat : Int) < 32
          · go_wp2_with fail
            obtain ⟨C, hC⟩ : ∃ C : List Value → World → Prop, C = fun st W => match st with
              | [] => Tch (fun _ => False) wr W
              | [y] => Tch (fun _ => False) wr W ∧ ∃ g, y = .slice (some ⟨g, 0, none⟩) 3 3 ∧ wr.heap.size ≤ g ∧ ∀ j u, (Lib.byteCells [92, p1, p2])[j]? = some u → W.cell? ((⟨g, 0, none⟩ : Addr).add j) = some u
              | [_, z] => ∃ ao' cp', z = .slice ao' (bs.length + 3) cp' ∧ W.ownsRow w.heap.size 5 1 (.slice ao' (bs.length + 3) cp') (bs.length + 3) (Lib.byteCells bs ++ Lib.byteCells [92, p1, p2]) ∧ ∃ W0, Tch (fun _ => False) wr W0 ∧ W0.grownBy W (Value.slice ao bs.length cp).ownBlock
              | _ => False := ⟨_, rfl⟩
            have h0' : C [] wr.drew := by rw [hC]; exact (Tch.refl _ _).drew
            have h7 : ∀ W, C [] W → C [.slice (some ⟨W.heap.size, 0, none⟩) 3 3] (W.alloc (.cells #[.int .u8 92, .int .u8 p1.toNat, .int .u8 p2.toNat] 5)) := fun W h => by
              rw [hC] at h ⊢
              exact ⟨h.allocR _, W.heap.size, rfl, h.size, fun j u hu => World.news_of_block (heap_new W _) j u hu⟩
            have hsh : ∀ y W, C [y] W → ∃ g, y = .slice (some ⟨g, 0, none⟩) 3 3 := fun y W h => by
              rw [hC] at h
              obtain ⟨_, g, e, _⟩ := h
              exact ⟨g, e⟩
            have h8 : ∀ g W, C [.slice (some ⟨g, 0, none⟩) 3 3] W → ∃ ao' cp' w', (Builtin.append_ #[118, 118] 118 #[.slice ao bs.length cp, .slice (some ⟨g, 0, none⟩) 3 3]).run Tryz.prog W = .ok (.slice ao' (bs.length + 3) cp') w' ∧ C [.slice (some ⟨g, 0, none⟩) 3 3, .slice ao' (bs.length + 3) cp'] w' := fun g W h => by
              rw [hC] at h
              obtain ⟨tW, g', e, hg1, hg2⟩ := h
              have e' : g = g' := by simpa using e
              subst e'
              have hz := tW.size
              obtain ⟨v', w', hr, hown', hgr, _⟩ := run_append_keeps (P := Tryz.prog) W w.heap.size 118 118 5 i0 (.int .u8 0) 1 1 Tryz.underlying118 hi hz0 hz1 hz2 rfl (by decide) (.slice ao bs.length cp) bs.length (Lib.byteCells bs) (HO.out W tW) ⟨g, 0, none⟩ 3 3 (Lib.byteCells [92, p1, p2]) rfl hg2 (Lib.byteCells_one _) (by unfold maxLen; omega) (by omega) (by omega)
              obtain ⟨ao', cp', rfl⟩ := slice_of hown'
              refine ⟨ao', cp', w', hr, ?_⟩
              rw [hC]
              exact ⟨ao', cp', rfl, hown', W, tW, hgr⟩
            have hfin : ∀ y z W, C [y, z] W → ∃ ao' cp', z = .slice ao' (bs.length + 3) cp' ∧ W.ownsRow w.heap.size 5 1 (.slice ao' (bs.length + 3) cp') (bs.length + 3) (Lib.byteCells bs ++ Lib.byteCells [92, p1, p2]) ∧ ∃ W0, Tch (fun _ => False) wr W0 ∧ W0.grownBy W (Value.slice ao bs.length cp).ownBlock := fun y z W h => by
              rw [hC] at h
              exact h
            clear hC
            refine wp_region_ordv [7, 8] C 9 [0, 1, 2, 3, 4, 5, 6, 7, 8] (by kernel_rfl) (by kernel_rfl) h0' ?_
            clear h0'
            refine ordv_read rfl (by go_simp) (by rfl) ?_
            apply Exists.intro
            refine ⟨fun s' W hW b K Q hK' => ?_, fun K hK' => ?_⟩
            · go_simp
              exact hK' W hW
            go_simp
            refine hK' _ ?_
            clear hK' K
            refine ordv_read rfl (by go_simp) (by rfl) ?_
            apply Exists.intro
            refine ⟨fun s' W hW b K Q hK' => ?_, fun K hK' => ?_⟩
            · go_simp
              exact hK' W hW
            go_simp
            refine hK' _ ?_
            clear hK' K
            refine ordv_read rfl (by go_simp) (by rfl) ?_
            apply Exists.intro
            refine ⟨fun s' W hW b K Q hK' => ?_, fun K hK' => ?_⟩
            · go_simp
              exact hK' W hW
            go_simp
            refine hK' _ ?_
            clear hK' K
            refine ordv_read rfl (by go_simp) (by rfl) ?_
            apply Exists.intro
            refine ⟨fun s' W hW b K Q hK' => ?_, fun K hK' => ?_⟩
            · go_simp
              exact hK' W hW
            go_simp
            refine hK' _ ?_
            clear hK' K
            refine ordv_read rfl (by go_simp) (by rfl) ?_
            apply Exists.intro
            refine ⟨fun s' W hW b K Q hK' => ?_, fun K hK' => ?_⟩
            · go_simp
              exact hK' W hW
            go_simp
            refine hK' _ ?_
            clear hK' K
            refine ordv_read rfl (by go_simp) (by rfl) ?_
            apply Exists.intro
            refine ⟨fun s' W hW b K Q hK' => ?_, fun K hK' => ?_⟩
            · go_simp
              exact hK' W hW
            go_simp
            refine hK' _ ?_
            clear hK' K
            refine ordv_read rfl (by go_simp) (by rfl) ?_
            apply Exists.intro
            refine ⟨fun s' W hW b K Q hK' => ?_, fun K hK' => ?_⟩
            · go_simp
              exact hK' W hW
            go_simp
            refine hK' _ ?_
            clear hK' K
            refine ordv_turn rfl (by go_simp) (by rfl) (fun W hW b K Q hK' => ?_) (fun u hu K hK' => ?_)
            · go_simp
              exact hK' _ _ (h7 W hW)
            obtain ⟨g, rfl⟩ : ∃ g, u = .slice (some ⟨g, 0, none⟩) 3 3 := by
              obtain ⟨W', hW'⟩ := hu
              exact hsh u W' hW'
            clear hu h7 hsh
            go_simp
            refine hK' _ ?_
            clear hK' K
            refine ordv_turn rfl (by go_simp) (by rfl) (fun W hW => ?_) (fun u hu K hK' => ?_)
            · obtain ⟨ao', cp', w', hr, h1⟩ := h8 g W hW
              exact yv_append (.tmp 36) (.tmp 43) 118 rfl (.slice ao bs.length cp) (.slice (some ⟨g, 0, none⟩) 3 3) rfl rfl hr h1
            obtain ⟨ao', cp', rfl⟩ : ∃ ao' cp', u = .slice ao' (bs.length + 3) cp' := by
              obtain ⟨W', hW'⟩ := hu
              obtain ⟨ao', cp', e, _⟩ := hfin _ u W' hW'
              exact ⟨ao', cp', e⟩
            clear hu h8
            go_simp
            refine hK' _ ?_
            clear hK' K
            refine ordv_nil ?_
            intro w1 hw1
            obtain ⟨_, _, e1, hown', W0, tW0, hgr⟩ := hfin _ _ w1 hw1
            injection e1 with e1 e2 e3
            subst e1 e3
            have HF : Hid _ := HEnd.out [92, p1, p2] W0 w1 _ HE.out hown' tW0 hgr
            clear hfin hw1 e2 hown' tW0 hgr HEnd HE hi1 hi2
            go_wp2_with fail
            exact HF.out
          · by_cases c2 : 126 < (s[k].toNat : Int)
            · go_wp2_with fail
              obtain ⟨C, hC⟩ : ∃ C : List Value → World → Prop, C = fun st W => match st with
                | [] => Tch (fun _ => False) wr W
                | [y] => Tch (fun _ => False) wr W ∧ ∃ g, y = .slice (some ⟨g, 0, none⟩) 3 3 ∧ wr.heap.size ≤ g ∧ ∀ j u, (Lib.byteCells [92, p1, p2])[j]? = some u → W.cell? ((⟨g, 0, none⟩ : Addr).add j) = some u
                | [_, z] => ∃ ao' cp', z = .slice ao' (bs.length + 3) cp' ∧ W.ownsRow w.heap.size 5 1 (.slice ao' (bs.length + 3) cp') (bs.length + 3) (Lib.byteCells bs ++ Lib.byteCells [92, p1, p2]) ∧ ∃ W0, Tch (fun _ => False) wr W0 ∧ W0.grownBy W (Value.slice ao bs.length cp).ownBlock
                | _ => False := ⟨_, rfl⟩
              have h0' : C [] wr.drew := by rw [hC]; exact (Tch.refl _ _).drew
              have h7 : ∀ W, C [] W → C [.slice (some ⟨W.heap.size, 0, none⟩) 3 3] (W.alloc (.cells #[.int .u8 92, .int .u8 p1.toNat, .int .u8 p2.toNat] 5)) := fun W h => by
                rw [hC] at h ⊢
                exact ⟨h.allocR _, W.heap.size, rfl, h.size, fun j u hu => World.news_of_block (heap_new W _) j u hu⟩
              have hsh : ∀ y W, C [y] W → ∃ g, y = .slice (some ⟨g, 0, none⟩) 3 3 := fun y W h => by
                rw [hC] at h
                obtain ⟨_, g, e, _⟩ := h
                exact ⟨g, e⟩
              have h8 : ∀ g W, C [.slice (some ⟨g, 0, none⟩) 3 3] W → ∃ ao' cp' w', (Builtin.append_ #[118, 118] 118 #[.slice ao bs.length cp, .slice (some ⟨g, 0, none⟩) 3 3]).run Tryz.prog W = .ok (.slice ao' (bs.length + 3) cp') w' ∧ C [.slice (some ⟨g, 0, none⟩) 3 3, .slice ao' (bs.length + 3) cp'] w' := fun g W h => by
                rw [hC] at h
                obtain ⟨tW, g', e, hg1, hg2⟩ := h
                have e' : g = g' := by simpa using e
                subst e'
                have hz := tW.size
                obtain ⟨v', w', hr, hown', hgr, _⟩ := run_append_keeps (P := Tryz.prog) W w.heap.size 118 118 5 i0 (.int .u8 0) 1 1 Tryz.underlying118 hi hz0 hz1 hz2 rfl (by decide) (.slice ao bs.length cp) bs.length (Lib.byteCells bs) (HO.out W tW) ⟨g, 0, none⟩ 3 3 (Lib.byteCells [92, p1, p2]) rfl hg2 (Lib.byteCells_one _) (by unfold maxLen; omega) (by omega) (by omega)
                obtain ⟨ao', cp', rfl⟩ := slice_of hown'
                refine ⟨ao', cp', w', hr, ?_⟩
                rw [hC]
                exact ⟨ao', cp', rfl, hown', W, tW, hgr⟩
              have hfin : ∀ y z W, C [y, z] W → ∃ ao' cp', z = .slice ao' (bs.length + 3) cp' ∧ W.ownsRow w.heap.size 5 1 (.slice ao' (bs.length + 3) cp') (bs.length + 3) (Lib.byteCells bs ++ Lib.byteCells [92, p1, p2]) ∧ ∃ W0, Tch (fun _ => False) wr W0 ∧ W0.grownBy W (Value.slice ao bs.length cp).ownBlock := fun y z W h => by
                rw [hC] at h
                exact h
              clear hC
              refine wp_region_ordv [7, 8] C 9 [0, 1, 2, 3, 4, 5, 6, 7, 8] (by kernel_rfl) (by kernel_rfl) h0' ?_
              clear h0'
              refine ordv_read rfl (by go_simp) (by rfl) ?_
              apply Exists.intro
              refine ⟨fun s' W hW b K Q hK' => ?_, fun K hK' => ?_⟩
              · go_simp
                exact hK' W hW
              go_simp
              refine hK' _ ?_
              clear hK' K
              refine ordv_read rfl (by go_simp) (by rfl) ?_
              apply Exists.intro
              refine ⟨fun s' W hW b K Q hK' => ?_, fun K hK' => ?_⟩
              · go_simp
                exact hK' W hW
              go_simp
              refine hK' _ ?_
              clear hK' K
              refine ordv_read rfl (by go_simp) (by rfl) ?_
              apply Exists.intro
              refine ⟨fun s' W hW b K Q hK' => ?_, fun K hK' => ?_⟩
              · go_simp
                exact hK' W hW
              go_simp
              refine hK' _ ?_
              clear hK' K
              refine ordv_read rfl (by go_simp) (by rfl) ?_
              apply Exists.intro
              refine ⟨fun s' W hW b K Q hK' => ?_, fun K hK' => ?_⟩
              · go_simp
                exact hK' W hW
              go_simp
              refine hK' _ ?_
              clear hK' K
              refine ordv_read rfl (by go_simp) (by rfl) ?_
              apply Exists.intro
              refine ⟨fun s' W hW b K Q hK' => ?_, fun K hK' => ?_⟩
              · go_simp
                exact hK' W hW
              go_simp
              refine hK' _ ?_
              clear hK' K
              refine ordv_read rfl (by go_simp) (by rfl) ?_
              apply Exists.intro
              refine ⟨fun s' W hW b K Q hK' => ?_, fun K hK' => ?_⟩
              · go_simp
                exact hK' W hW
              go_simp
              refine hK' _ ?_
              clear hK' K
              refine ordv_read rfl (by go_simp) (by rfl) ?_
              apply Exists.intro
              refine ⟨fun s' W hW b K Q hK' => ?_, fun K hK' => ?_⟩
              · go_simp
                exact hK' W hW
              go_simp
              refine hK' _ ?_
              clear hK' K
              refine ordv_turn rfl (by go_simp) (by rfl) (fun W hW b K Q hK' => ?_) (fun u hu K hK' => ?_)
              · go_simp
                exact hK' _ _ (h7 W hW)
              obtain ⟨g, rfl⟩ : ∃ g, u = .slice (some ⟨g, 0, none⟩) 3 3 := by
                obtain ⟨W', hW'⟩ := hu
                exact hsh u W' hW'
              clear hu h7 hsh
              go_simp
              refine hK' _ ?_
              clear hK' K
              refine ordv_turn rfl (by go_simp) (by rfl) (fun W hW => ?_) (fun u hu K hK' => ?_)
              · obtain ⟨ao', cp', w', hr, h1⟩ := h8 g W hW
                exact yv_append (.tmp 36) (.tmp 43) 118 rfl (.slice ao bs.length cp) (.slice (some ⟨g, 0, none⟩) 3 3) rfl rfl hr h1
              obtain ⟨ao', cp', rfl⟩ : ∃ ao' cp', u = .slice ao' (bs.length + 3) cp' := by
                obtain ⟨W', hW'⟩ := hu
                obtain ⟨ao', cp', e, _⟩ := hfin _ u W' hW'
                exact ⟨ao', cp', e⟩
              clear hu h8
              go_simp
              refine hK' _ ?_
              clear hK' K
              refine ordv_nil ?_
              intro w1 hw1
              obtain ⟨_, _, e1, hown', W0, tW0, hgr⟩ := hfin _ _ w1 hw1
              injection e1 with e1 e2 e3
              subst e1 e3
              have HF : Hid _ := HEnd.out [92, p1, p2] W0 w1 _ HE.out hown' tW0 hgr
              clear hfin hw1 e2 hown' tW0 hgr HEnd HE hi1 hi2
              go_wp2_with fail
              exact HF.out
            · have c3 : ((s[k].toNat : Int) == 92) = true := by have := HC.out; simp; omega
              go_wp2_with fail
              obtain ⟨C, hC⟩ : ∃ C : List Value → World → Prop, C = fun st W => match st with
                | [] => Tch (fun _ => False) wr W
                | [y] => Tch (fun _ => False) wr W ∧ ∃ g, y = .slice (some ⟨g, 0, none⟩) 3 3 ∧ wr.heap.size ≤ g ∧ ∀ j u, (Lib.byteCells [92, p1, p2])[j]? = some u → W.cell? ((⟨g, 0, none⟩ : Addr).add j) = some u
                | [_, z] => ∃ ao' cp', z = .slice ao' (bs.length + 3) cp' ∧ W.ownsRow w.heap.size 5 1 (.slice ao' (bs.length + 3) cp') (bs.length + 3) (Lib.byteCells bs ++ Lib.byteCells [92, p1, p2]) ∧ ∃ W0, Tch (fun _ => False) wr W0 ∧ W0.grownBy W (Value.slice ao bs.length cp).ownBlock
                | _ => False := ⟨_, rfl⟩
              have h0' : C [] wr.drew := by rw [hC]; exact (Tch.refl _ _).drew
              have h7 : ∀ W, C [] W → C [.slice (some ⟨W.heap.size, 0, none⟩) 3 3] (W.alloc (.cells #[.int .u8 92, .int .u8 p1.toNat, .int .u8 p2.toNat] 5)) := fun W h => by
                rw [hC] at h ⊢
                exact ⟨h.allocR _, W.heap.size, rfl, h.size, fun j u hu => World.news_of_block (heap_new W _) j u hu⟩
              have hsh : ∀ y W, C [y] W → ∃ g, y = .slice (some ⟨g, 0, none⟩) 3 3 := fun y W h => by
                rw [hC] at h
                obtain ⟨_, g, e, _⟩ := h
                exact ⟨g, e⟩
              have h8 : ∀ g W, C [.slice (some ⟨g, 0, none⟩) 3 3] W → ∃ ao' cp' w', (Builtin.append_ #[118, 118] 118 #[.slice ao bs.length cp, .slice (some ⟨g, 0, none⟩) 3 3]).run Tryz.prog W = .ok (.slice ao' (bs.length + 3) cp') w' ∧ C [.slice (some ⟨g, 0, none⟩) 3 3, .slice ao' (bs.length + 3) cp'] w' := fun g W h => by
                rw [hC] at h
                obtain ⟨tW, g', e, hg1, hg2⟩ := h
                have e' : g = g' := by simpa using e
                subst e'
                have hz := tW.size
                obtain ⟨v', w', hr, hown', hgr, _⟩ := run_append_keeps (P := Tryz.prog) W w.heap.size 118 118 5 i0 (.int .u8 0) 1 1 Tryz.underlying118 hi hz0 hz1 hz2 rfl (by decide) (.slice ao bs.length cp) bs.length (Lib.byteCells bs) (HO.out W tW) ⟨g, 0, none⟩ 3 3 (Lib.byteCells [92, p1, p2]) rfl hg2 (Lib.byteCells_one _) (by unfold maxLen; omega) (by omega) (by omega)
                obtain ⟨ao', cp', rfl⟩ := slice_of hown'
                refine ⟨ao', cp', w', hr, ?_⟩
                rw [hC]
                exact ⟨ao', cp', rfl, hown', W, tW, hgr⟩
              have hfin : ∀ y z W, C [y, z] W → ∃ ao' cp', z = .slice ao' (bs.length + 3) cp' ∧ W.ownsRow w.heap.size 5 1 (.slice ao' (bs.length + 3) cp') (bs.length + 3) (Lib.byteCells bs ++ Lib.byteCells [92, p1, p2]) ∧ ∃ W0, Tch (fun _ => False) wr W0 ∧ W0.grownBy W (Value.slice ao bs.length cp).ownBlock := fun y z W h => by
                rw [hC] at h
                exact h
              clear hC
              refine wp_region_ordv [7, 8] C 9 [0, 1, 2, 3, 4, 5, 6, 7, 8] (by kernel_rfl) (by kernel_rfl) h0' ?_
              clear h0'
              refine ordv_read rfl (by go_simp) (by rfl) ?_
              apply Exists.intro
              refine ⟨fun s' W hW b K Q hK' => ?_, fun K hK' => ?_⟩
              · go_simp
                exact hK' W hW
              go_simp
              refine hK' _ ?_
              clear hK' K
              refine ordv_read rfl (by go_simp) (by rfl) ?_
              apply Exists.intro
              refine ⟨fun s' W hW b K Q hK' => ?_, fun K hK' => ?_⟩
              · go_simp
                exact hK' W hW
              go_simp
              refine hK' _ ?_
              clear hK' K
              refine ordv_read rfl (by go_simp) (by rfl) ?_
              apply Exists.intro
              refine ⟨fun s' W hW b K Q hK' => ?_, fun K hK' => ?_⟩
              · go_simp
                exact hK' W hW
              go_simp
              refine hK' _ ?_
              clear hK' K
              refine ordv_read rfl (by go_simp) (by rfl) ?_
              apply Exists.intro
              refine ⟨fun s' W hW b K Q hK' => ?_, fun K hK' => ?_⟩
              · go_simp
                exact hK' W hW
              go_simp
              refine hK' _ ?_
              clear hK' K
              refine ordv_read rfl (by go_simp) (by rfl) ?_
              apply Exists.intro
              refine ⟨fun s' W hW b K Q hK' => ?_, fun K hK' => ?_⟩
              · go_simp
                exact hK' W hW
              go_simp
              refine hK' _ ?_
              clear hK' K
              refine ordv_read rfl (by go_simp) (by rfl) ?_
              apply Exists.intro
              refine ⟨fun s' W hW b K Q hK' => ?_, fun K hK' => ?_⟩
              · go_simp
                exact hK' W hW
              go_simp
              refine hK' _ ?_
              clear hK' K
              refine ordv_read rfl (by go_simp) (by rfl) ?_
              apply Exists.intro
              refine ⟨fun s' W hW b K Q hK' => ?_, fun K hK' => ?_⟩
              · go_simp
                exact hK' W hW
              go_simp
              refine hK' _ ?_
              clear hK' K
              refine ordv_turn rfl (by go_simp) (by rfl) (fun W hW b K Q hK' => ?_) (fun u hu K hK' => ?_)
              · go_simp
                exact hK' _ _ (h7 W hW)
              obtain ⟨g, rfl⟩ : ∃ g, u = .slice (some ⟨g, 0, none⟩) 3 3 := by
                obtain ⟨W', hW'⟩ := hu
                exact hsh u W' hW'
              clear hu h7 hsh
              go_simp
              refine hK' _ ?_
              clear hK' K
              refine ordv_turn rfl (by go_simp) (by rfl) (fun W hW => ?_) (fun u hu K hK' => ?_)
              · obtain ⟨ao', cp', w', hr, h1⟩ := h8 g W hW
                exact yv_append (.tmp 36) (.tmp 43) 118 rfl (.slice ao bs.length cp) (.slice (some ⟨g, 0, none⟩) 3 3) rfl rfl hr h1
              obtain ⟨ao', cp', rfl⟩ : ∃ ao' cp', u = .slice ao' (bs.length + 3) cp' := by
                obtain ⟨W', hW'⟩ := hu
                obtain ⟨ao', cp', e, _⟩ := hfin _ u W' hW'
                exact ⟨ao', cp', e⟩
              clear hu h8
              go_simp
              refine hK' _ ?_
              clear hK' K
              refine ordv_nil ?_
              intro w1 hw1
              obtain ⟨_, _, e1, hown', W0, tW0, hgr⟩ := hfin _ _ w1 hw1
              injection e1 with e1 e2 e3
              subst e1 e3
              have HF : Hid _ := HEnd.out [92, p1, p2] W0 w1 _ HE.out hown' tW0 hgr
              clear hfin hw1 e2 hown' tW0 hgr HEnd HE hi1 hi2
              go_wp2_with fail
              exact HF.out
        · have HE : Hid (esc s[k] = [s[k]]) := by show _ = _; unfold esc; rw [if_neg h39, if_neg hes]
          have c1 : ¬ (s[k].toNat : Int) < 32 := by omega
          have c2 : ¬ 126 < (s[k].toNat : Int) := by omega
          have c3 : ¬ (s[k].toNat : Int) = 92 := by omega
          clear h39 hown hes
          go_wp2_with (at_builtin; refine wpList_append_own _ rfl _ _ 118 rfl w.heap.size 5 i0 (.int .u8 0) 1 1 Tryz.underlying118 hi hz0 hz1 hz2 rfl (by decide) (.slice ao bs.length cp) _ _ rfl (HO.out _ (Tch.alloc _ _ _)) ⟨wr.heap.size, 0, none⟩ 1 1 (Lib.byteCells [s[k]]) rfl rfl (byteCells_get (fun j hj => by rcases j with _ | j <;> simp at hj ⊢)) (Lib.byteCells_one _) (by unfold maxLen; omega) (by omega) (by simp; omega) ?_; intro v' w1 hown' hgr hnil; obtain ⟨ao', cp', hv'⟩ := slice_of hown'; subst hv'; clear hnil)
          exact HEnd.out [s[k]] _ w1 _ HE.out hown' (Tch.alloc _ _ _) hgr
    · have HE2 : Hid (⟨(qtd s).toArray⟩ = (⟨(bs ++ [39]).toArray⟩ : ByteArray)) := by
        show _ = _
        rw [HB.out, List.take_of_length_le (by simp; omega)]; rfl
      clear hown
      go_wp2_with (at_builtin; refine wpList_append_own _ rfl _ _ 118 rfl w.heap.size 5 i0 (.int .u8 0) 1 1 Tryz.underlying118 hi hz0 hz1 hz2 rfl (by decide) (.slice ao bs.length cp) _ _ rfl (HO.out _ (Tch.alloc _ _ _)) ⟨wr.heap.size, 0, none⟩ 1 1 (Lib.byteCells [39]) rfl rfl (byteCells_get (fun j hj => by rcases j with _ | j <;> simp at hj ⊢)) (Lib.byteCells_one _) (by unfold maxLen; omega) (by omega) (by simp; omega) ?_; intro v' w1 hown' hgr hnil; obtain ⟨ao', cp', hv'⟩ := slice_of hown'; subst hv'; clear hnil; rw [← Lib.byteCells_append] at hown'; have hcv := conv_row (bs := bs ++ [39]) (by rw [List.length_append]; exact hown'))
      go_ret
      rw [HE2.out]
      exact ⟨rfl, ge_new ((hT.allocR _).trans' (grown_tch hgr HG.out))⟩
end Go.Proofs.YtmaekkhmiafnmaaGreatDoor
namespace Go.Proofs.YtmaekkhmiafnmaaGreatDoor
open Go.RowKit Go
def UI (s : List UInt8) (i : Nat) (bs : List UInt8) : Prop := bs ++ unqC (s.drop i) = unqC (s.drop 1)
theorem drop_at {s : ByteArray} {k : Nat} (hk : k < s.size) : s.data.toList.drop k = s[k] :: s.data.toList.drop (k + 1) := by
  rw [List.drop_eq_getElem_cons (by rw [llen]; exact hk)]
  congr 1
theorem UI.q {s : ByteArray} {k : Nat} {bs : List UInt8} (h : UI s.data.toList k bs) (hk : k + 1 < s.size) (hb : s[k].toNat = 39) : UI s.data.toList (k + 2) (bs ++ [39]) := by
  unfold UI at h ⊢
  rw [← h, drop_at (k := k) (by omega), drop_at (k := k + 1) hk, List.append_assoc]
  congr 1
  cases hr : s.data.toList.drop (k + 1 + 1) with
  | nil => simp only [unqC, hb]; simp
  | cons d r => simp only [unqC]; rw [if_pos hb]; rfl
theorem UI.e {s : ByteArray} {k : Nat} {bs : List UInt8} (h : UI s.data.toList k bs) (hk : k + 2 < s.size) (hb : s[k].toNat = 92) : UI s.data.toList (k + 3) (bs ++ [UInt8.ofNat (16 * sgC s[k + 1] + sgC s[k + 2])]) := by
  unfold UI at h ⊢
  rw [← h, drop_at (k := k) (by omega), drop_at (k := k + 1) (by omega), drop_at (k := k + 1 + 1) (by omega), List.append_assoc]
  congr 1
  simp only [unqC]
  rw [if_neg (by omega), if_pos hb]
  rfl
theorem UI.p {s : ByteArray} {k : Nat} {bs : List UInt8} (h : UI s.data.toList k bs) (hk : k + 1 < s.size) (hb : ¬ s[k].toNat = 39) (hb2 : ¬ (s[k].toNat = 92 ∧ k + 2 < s.size)) : UI s.data.toList (k + 1) (bs ++ [s[k]]) := by
  unfold UI at h ⊢
  rw [← h, drop_at (k := k) (by omega), drop_at (k := k + 1) hk, List.append_assoc]
  congr 1
  cases hr : s.data.toList.drop (k + 1 + 1) with
  | nil => simp only [unqC]; rw [if_neg hb]; rfl
  | cons d r =>
    have : k + 2 < s.size := by
      have h1 := congrArg List.length hr
      rw [List.length_drop, llen, List.length_cons] at h1; omega
    simp only [unqC]; rw [if_neg hb, if_neg (fun e => hb2 ⟨e, this⟩)]; rfl
theorem UI.end {s : ByteArray} {k : Nat} {bs : List UInt8} (h : UI s.data.toList k bs) (hk : s.size ≤ k + 1) : bs = unqC (s.data.toList.drop 1) := by
  unfold UI at h
  rw [← h]
  have hl : (s.data.toList.drop k).length ≤ 1 := by rw [List.length_drop, llen]; omega
  cases hd : s.data.toList.drop k with
  | nil => simp [unqC]
  | cons a r => rw [hd, List.length_cons] at hl; obtain rfl := List.length_eq_zero_iff.1 (by omega : r.length = 0); simp [unqC]
def uq (s : ByteArray) : List UInt8 := unqC (s.data.toList.drop 1)
theorem str_at (s : ByteArray) (j : Nat) (hj : j < s.size) (W : World) : (Instr.index 9 (.string s) (.int .i64 (j : Int))).run Tryz.prog W = .ok (.int .u8 s[j].toNat) W := by
  rw [run_index_string W _ _ _ _ Tryz.underlying9, dif_pos (by omega)]
  simp only [Int.toNat_natCast]
theorem unquoted_any (s : ByteArray) (hs : s.size ≤ 1048576) (w : World) :
    Calls Tryz.prog 175 #[.string s] w fun x w' => x = .returned (.string ⟨(uq s).toArray⟩) ∧ Tch (fun _ => False) w w' := by
  obtain ⟨i0, hi, hz0, hz1, hz2⟩ := info_byte'
  have hsub : IntKind.i64.wrap ((s.size : Int) - 1) = (s.size : Int) - 1 := wrap_of (by omega) (by omega)
  go_enter Tryz.func175, Tryz.ntmps175
  go_wp2_with fail
  go_loopw [3, 4] (fun v iv wr => ∃ (k : Nat) (bs : List UInt8), iv = .int .i64 k ∧ 1 ≤ k ∧ k ≤ s.size + 3 ∧ bs.length ≤ k ∧ Hid (UI s.data.toList k bs) ∧ Hid (wr.ownsRow w.heap.size 5 1 v bs.length (Lib.byteCells bs)) ∧ Hid (Tch (fun i => w.heap.size ≤ i) w wr)) (fun _ iv _ => s.size + 4 - (RowKit.intOf iv).toNat)
  case atStart => exact ⟨1, [], rfl, by omega, by omega, by simp, rfl, World.ownsRow_nil _ _ _ _, Tch.refl _ _⟩
  case round =>
    obtain ⟨k, bs, rfl, hk1, hk, hbl, HU, Hown, HT⟩ := hrel
    obtain ⟨wV, hwV⟩ : ∃ wV, wV = wr := ⟨_, rfl⟩
    subst hwV
    obtain ⟨ao, cp, hv⟩ := slice_of Hown.out
    subst hv
    have HG : Hid (∀ g, (Value.slice ao bs.length cp).ownBlock = some g → w.heap.size ≤ g) := fun g hk => ownBlock_ge Hown.out hk.symm
    have HO : Hid (∀ W, Tch (fun _ => False) wV W → W.ownsRow w.heap.size 5 1 (.slice ao bs.length cp) bs.length (Lib.byteCells bs)) := fun W t => ownsRow_tch Hown.out t (fun _ _ _ h => h)
    have hwr := HT.out.size
    by_cases hlt : (k : Int) < (s.size : Int) - 1
    · have hks : k < s.size := by omega
      have hksI : (k : Int) < s.size := by omega
      have HEnd : Hid (∀ (k' : Nat) (c : UInt8) (W w1 : World) (v' : Value), k < k' → k' ≤ s.size + 3 → UI s.data.toList k' (bs ++ [c]) → w1.ownsRow w.heap.size 5 1 v' (bs.length + 1) (Lib.byteCells bs ++ Lib.byteCells [c]) → Tch (fun _ => False) wV W → W.grownBy w1 (Value.slice ao bs.length cp).ownBlock →
          ((∃ (k_1 : Nat) (bs_1 : List UInt8), Value.int .i64 (k' : Int) = .int .i64 k_1 ∧ 1 ≤ k_1 ∧ k_1 ≤ s.size + 3 ∧ bs_1.length ≤ k_1 ∧ Hid (UI s.data.toList k_1 bs_1) ∧ Hid (w1.ownsRow w.heap.size 5 1 v' bs_1.length (Lib.byteCells bs_1)) ∧ Hid (Tch (fun i => w.heap.size ≤ i) w w1)) ∧ s.size + 4 - (RowKit.intOf (Value.int .i64 (k' : Int))).toNat < s.size + 4 - (RowKit.intOf (Value.int .i64 (k : Int))).toNat)) := fun k' c W w1 v' h1 h2 hu ho t hgr => by
        refine ⟨⟨k', bs ++ [c], rfl, by omega, h2, by rw [List.length_append, List.length_singleton]; omega, hu, ?_, ?_⟩, by simp [RowKit.intOf]; omega⟩
        · show World.ownsRow _ _ _ _ _ _ _
          rw [Lib.byteCells_append, List.length_append]; exact ho
        · exact (HT.out.trans' (no_mono t)).trans' (grown_tch hgr HG.out)
      have hx8 := s[k].toNat_lt
      by_cases h39 : s[k].toNat = 39
      · have h39' : (s[k].toNat : Int) = 39 := by omega
        have HUI := HU.out.q (by omega) h39
        have HX : Hid (UI s.data.toList (k + 2) (bs ++ [39])) := HUI
        have hb1 : k + 2 ≤ s.size + 3 := by omega
        clear h39 HUI hx8
        go_wp2_with (at_builtin; refine wpList_append_own _ rfl _ _ 118 rfl w.heap.size 5 i0 (.int .u8 0) 1 1 Tryz.underlying118 hi hz0 hz1 hz2 rfl (by decide) (.slice ao bs.length cp) _ _ rfl (HO.out _ (Tch.alloc _ _ _)) ⟨wV.heap.size, 0, none⟩ 1 1 (Lib.byteCells [39]) rfl rfl (byteCells_get (fun j hj => by rcases j with _ | j <;> simp at hj ⊢ <;> omega)) (Lib.byteCells_one _) (by unfold maxLen; omega) (by omega) (by simp; omega) ?_; intro v' w1 hown' hgr hnil; obtain ⟨ao', cp', hv'⟩ := slice_of hown'; subst hv'; clear hnil)
        have h := HEnd.out (k + 2) 39 _ w1 _ (by omega) hb1 HX.out hown' (Tch.alloc _ _ _) hgr
        rw [show ((k + 2 : Nat) : Int) = (k : Int) + 1 + 1 by omega] at h
        exact h
      · have h39' : ¬ (s[k].toNat : Int) = 39 := by omega
        have h39b : ((s[k].toNat : Int) == 39) = false := beq_eq_false_iff_ne.2 h39'
        by_cases h92 : s[k].toNat = 92 ∧ k + 2 < s.size
        · obtain ⟨h92a, h92b⟩ := h92
          have h92' : (s[k].toNat : Int) = 92 := by omega
          have h92I : (k : Int) + 2 < s.size := by omega
          have h1I : (k : Int) + 1 < s.size := by omega
          obtain ⟨c, hc⟩ : ∃ c, c = UInt8.ofNat (16 * sgC s[k + 1] + sgC s[k + 2]) := ⟨_, rfl⟩
          have HX : Hid (UI s.data.toList (k + 3) (bs ++ [c])) := by rw [hc]; exact HU.out.e h92b h92a
          obtain ⟨x1, hx1⟩ : ∃ x1, x1 = sgC s[k + 1] := ⟨_, rfl⟩
          obtain ⟨x2, hx2⟩ : ∃ x2, x2 = sgC s[k + 2] := ⟨_, rfl⟩
          have hxe : IntKind.u8.wrap (IntKind.u8.wrap (16 * (x1 : Int)) + (x2 : Int)) = (c.toNat : Int) := by
            rw [IntKind.wrap_u8, IntKind.wrap_u8, hc, hx1, hx2]
            have : (UInt8.ofNat (16 * sgC s[k + 1] + sgC s[k + 2])).toNat = (16 * sgC s[k + 1] + sgC s[k + 2]) % 256 := by simp
            rw [this]; omega
          have q1 : Hid (∀ W, Calls Tryz.prog 196 #[.int .u8 s[k + 1].toNat] W fun x w' => x = .returned (.int .u8 (x1 : Nat)) ∧ w' = W) := fun W => by rw [hx1]; exact sign_any _ W
          have q2 : Hid (∀ W, Calls Tryz.prog 196 #[.int .u8 s[k + 2].toNat] W fun x w' => x = .returned (.int .u8 (x2 : Nat)) ∧ w' = W) := fun W => by rw [hx2]; exact sign_any _ W
          have hb1 : k + 3 ≤ s.size + 3 := by omega
          have h1N : k + 1 < s.size := by omega
          have HI1 : Hid (∀ W, (Instr.index 9 (.string s) (.int .i64 (IntKind.i64.wrap ((k : Int) + 1)))).run Tryz.prog W = .ok (.int .u8 s[k + 1].toNat) W) := fun W => by
            rw [show IntKind.i64.wrap ((k : Int) + 1) = ((k + 1 : Nat) : Int) by rw [wrap_of (by omega) (by omega)]; omega]
            exact str_at s (k + 1) h1N W
          have HI2 : Hid (∀ W, (Instr.index 9 (.string s) (.int .i64 (IntKind.i64.wrap ((k : Int) + 2)))).run Tryz.prog W = .ok (.int .u8 s[k + 2].toNat) W) := fun W => by
            rw [show IntKind.i64.wrap ((k : Int) + 2) = ((k + 2 : Nat) : Int) by rw [wrap_of (by omega) (by omega)]; omega]
            exact str_at s (k + 2) h92b W
          have c8 := c.toNat_lt
          have Hxe : Hid _ := hxe
          clear hxe
          clear h39 hc hx1 hx2 hx8 h92a
          go_wp2_with fail
          have hi1 := HI1.out
          have hi2 := HI2.out
          go_quiet (first | (go_at_call 196; exact Calls.quiet_of_same (q1.out _)) | (go_at_call 196; exact Calls.quiet_of_same (q2.out _)))
          rw [Hxe.out]
          obtain ⟨wD, hwD⟩ : ∃ wD, wD = wV.drewN nq := ⟨_, rfl⟩
          have tD : Tch (fun _ => False) wV wD := by rw [hwD]; exact (Tch.refl _ _).drewN _
          rw [← hwD]
          have hzD := tD.size
          clear hwD hi1 hi2
          go_wp2_with (at_builtin; refine wpList_append_own _ rfl _ _ 118 rfl w.heap.size 5 i0 (.int .u8 0) 1 1 Tryz.underlying118 hi hz0 hz1 hz2 rfl (by decide) (.slice ao bs.length cp) _ _ rfl (HO.out _ (tD.allocR _)) ⟨wD.heap.size, 0, none⟩ 1 1 (Lib.byteCells [c]) rfl rfl (byteCells_get (fun j hj => by rcases j with _ | j <;> simp at hj ⊢ <;> omega)) (Lib.byteCells_one _) (by unfold maxLen; omega) (by omega) (by simp; omega) ?_; intro v' w1 hown' hgr hnil; obtain ⟨ao', cp', hv'⟩ := slice_of hown'; subst hv'; clear hnil)
          have h := HEnd.out (k + 3) c _ w1 _ (by omega) hb1 HX.out hown' (tD.allocR _) hgr
          rw [show ((k + 3 : Nat) : Int) = (k : Int) + 2 + 1 by omega] at h
          exact h
        · have HUI := HU.out.p (by omega) h39 h92
          have HX : Hid (UI s.data.toList (k + 1) (bs ++ [s[k]])) := HUI
          have hb1 : k + 1 ≤ s.size + 3 := by omega
          have hcase : (((s[k].toNat : Int) == 92) = false) ∨ (((s[k].toNat : Int) = 92) ∧ ¬ (k : Int) + 2 < s.size) := by
            by_cases h : s[k].toNat = 92
            · exact Or.inr ⟨by omega, by omega⟩
            · exact Or.inl (beq_eq_false_iff_ne.2 (by omega))
          clear h39 h92 HUI
          rcases hcase with hcc | ⟨hcc, hcd⟩
          all_goals
            go_wp2_with (at_builtin; refine wpList_append_own _ rfl _ _ 118 rfl w.heap.size 5 i0 (.int .u8 0) 1 1 Tryz.underlying118 hi hz0 hz1 hz2 rfl (by decide) (.slice ao bs.length cp) _ _ rfl (HO.out _ (Tch.alloc _ _ _)) ⟨wV.heap.size, 0, none⟩ 1 1 (Lib.byteCells [s[k]]) rfl rfl (byteCells_get (fun j hj => by rcases j with _ | j <;> simp at hj ⊢ <;> omega)) (Lib.byteCells_one _) (by unfold maxLen; omega) (by omega) (by simp; omega) ?_; intro v' w1 hown' hgr hnil; obtain ⟨ao', cp', hv'⟩ := slice_of hown'; subst hv'; clear hnil)
            have h := HEnd.out (k + 1) s[k] _ w1 _ (by omega) hb1 HX.out hown' (Tch.alloc _ _ _) hgr
            rw [show ((k + 1 : Nat) : Int) = (k : Int) + 1 by omega] at h
            exact h
    · have hcv := conv_row Hown.out
      have HR : Hid (bs = uq s) := HU.out.end (by omega)
      go_wp2_with fail
      go_ret
      refine ⟨by rw [← HR.out]; rfl, ge_new HT.out⟩
end Go.Proofs.YtmaekkhmiafnmaaGreatDoor
