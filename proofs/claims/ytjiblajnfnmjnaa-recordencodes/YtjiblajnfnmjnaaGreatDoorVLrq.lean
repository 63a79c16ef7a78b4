import Derived.Test.YtjiblajnfnmjnaaGreatDoorVLq
import Derived.Test.YtjiblajnfnmjnaaGreatDoorLE1
import Derived.Test.YtjiblajnfnmjnaaGreatDoorRW2
set_option maxHeartbeats 4000000
set_option maxRecDepth 100000
namespace Go.Proofs.YtjiblajnfnmjnaaGreatDoor
open Go.RowKit Go
theorem literal_null (w : World) (hw : HWd w) :
    Calls Tryz.prog 143 #[vA 0 0 ⟨#[]⟩] w fun x w' => x = .returned (.string ⟨#[110, 117, 108, 108]⟩) ∧ Tch (fun _ => False) w w' := by
  have hl := hw.lt
  have hw1 := hw.tch (Tch.alloc (fun _ => False) w (.cells #[.int .i64 0, .int .i64 0, .string ⟨#[]⟩] 58)) (fun h => h)
  have HC : Hid (∀ W, Tch (fun _ => False) (w.alloc (.cells #[.int .i64 0, .int .i64 0, .string ⟨#[]⟩] 58)) W → HWd W ∧ W.cell? ⟨w.heap.size, 0, none⟩ = some (.int .i64 0) ∧ W.cell? ⟨w.heap.size, 1, none⟩ = some (.int .i64 0) ∧ W.cell? ⟨w.heap.size, 2, none⟩ = some (.string ⟨#[]⟩)) := fun W t =>
    ⟨hw1.tch t (fun h => h), box_tch t⟩
  have w0 := hw 0 _ rfl; have w1 := hw 1 _ rfl; have w2 := hw 2 _ rfl; have w3 := hw 3 _ rfl; have w4 := hw 4 _ rfl; have w5 := hw 5 _ rfl
  have w6 := hw 6 _ rfl; have w7 := hw 7 _ rfl; have w8 := hw 8 _ rfl; have w9 := hw 9 _ rfl; have w10 := hw 10 _ rfl; have w11 := hw 11 _ rfl
  clear hw hw1
  go_enter Tryz.func143, Tryz.ntmps143
  go_wp2_with fail
  clear w0 w1 w2 w3 w4 w5 w6 w7 w8 w9 w10 w11
  go_loopw [6] (fun i wr => ∃ k : Nat, i = .int .i64 k ∧ k ≤ 0 ∧ Tch (fun _ => False) (w.alloc (.cells #[.int .i64 0, .int .i64 0, .string ⟨#[]⟩] 58)) wr) (fun i _ => 3 - (RowKit.intOf i).toNat)
  case atStart => exact ⟨0, rfl, by omega, Tch.refl _ _⟩
  case round =>
    obtain ⟨k, rfl, hk, hT⟩ := hrel
    obtain ⟨-, c0, c1, c2⟩ := HC.out wr hT
    have hz := hT.size
    have hwz : w.heap.size < wr.heap.size := by simp at hz; omega
    clear hz
    have i0 := word_0; have i1 := word_1; have i2 := word_2
    rcases (by omega : k = 0) with rfl
    · go_wp2_with fail
      go_ret
      exact ⟨rfl, ((Tch.alloc _ _ _).trans' hT).allocR _⟩
theorem literal_false (w : World) (hw : HWd w) :
    Calls Tryz.prog 143 #[vA 3 0 ⟨#[]⟩] w fun x w' => x = .returned (.string ⟨#[102, 97, 108, 115, 101]⟩) ∧ Tch (fun _ => False) w w' := by
  have hl := hw.lt
  have hw1 := hw.tch (Tch.alloc (fun _ => False) w (.cells #[.int .i64 3, .int .i64 0, .string ⟨#[]⟩] 58)) (fun h => h)
  have HC : Hid (∀ W, Tch (fun _ => False) (w.alloc (.cells #[.int .i64 3, .int .i64 0, .string ⟨#[]⟩] 58)) W → HWd W ∧ W.cell? ⟨w.heap.size, 0, none⟩ = some (.int .i64 3) ∧ W.cell? ⟨w.heap.size, 1, none⟩ = some (.int .i64 0) ∧ W.cell? ⟨w.heap.size, 2, none⟩ = some (.string ⟨#[]⟩)) := fun W t =>
    ⟨hw1.tch t (fun h => h), box_tch t⟩
  have w0 := hw 0 _ rfl; have w1 := hw 1 _ rfl; have w2 := hw 2 _ rfl; have w3 := hw 3 _ rfl; have w4 := hw 4 _ rfl; have w5 := hw 5 _ rfl
  have w6 := hw 6 _ rfl; have w7 := hw 7 _ rfl; have w8 := hw 8 _ rfl; have w9 := hw 9 _ rfl; have w10 := hw 10 _ rfl; have w11 := hw 11 _ rfl
  clear hw hw1
  go_enter Tryz.func143, Tryz.ntmps143
  go_wp2_with fail
  clear w0 w1 w2 w3 w4 w5 w6 w7 w8 w9 w10 w11
  go_loopw [6] (fun i wr => ∃ k : Nat, i = .int .i64 k ∧ k ≤ 1 ∧ Tch (fun _ => False) (w.alloc (.cells #[.int .i64 3, .int .i64 0, .string ⟨#[]⟩] 58)) wr) (fun i _ => 3 - (RowKit.intOf i).toNat)
  case atStart => exact ⟨0, rfl, by omega, Tch.refl _ _⟩
  case round =>
    obtain ⟨k, rfl, hk, hT⟩ := hrel
    obtain ⟨-, c0, c1, c2⟩ := HC.out wr hT
    have hz := hT.size
    have hwz : w.heap.size < wr.heap.size := by simp at hz; omega
    clear hz
    have i0 := word_0; have i1 := word_1; have i2 := word_2
    rcases (by omega : k = 0 ∨ k = 1) with rfl | rfl
    · go_wp2_with fail
      go_roundw
      case rel => exact ⟨1, rfl, by omega, hT.allocR _⟩
      case measure => simp [RowKit.intOf]
    · go_wp2_with fail
      go_ret
      exact ⟨rfl, ((Tch.alloc _ _ _).trans' hT).allocR _⟩
theorem literal_true (w : World) (hw : HWd w) :
    Calls Tryz.prog 143 #[vA 3 1 ⟨#[]⟩] w fun x w' => x = .returned (.string ⟨#[116, 114, 117, 101]⟩) ∧ Tch (fun _ => False) w w' := by
  have hl := hw.lt
  have hw1 := hw.tch (Tch.alloc (fun _ => False) w (.cells #[.int .i64 3, .int .i64 1, .string ⟨#[]⟩] 58)) (fun h => h)
  have HC : Hid (∀ W, Tch (fun _ => False) (w.alloc (.cells #[.int .i64 3, .int .i64 1, .string ⟨#[]⟩] 58)) W → HWd W ∧ W.cell? ⟨w.heap.size, 0, none⟩ = some (.int .i64 3) ∧ W.cell? ⟨w.heap.size, 1, none⟩ = some (.int .i64 1) ∧ W.cell? ⟨w.heap.size, 2, none⟩ = some (.string ⟨#[]⟩)) := fun W t =>
    ⟨hw1.tch t (fun h => h), box_tch t⟩
  have w0 := hw 0 _ rfl; have w1 := hw 1 _ rfl; have w2 := hw 2 _ rfl; have w3 := hw 3 _ rfl; have w4 := hw 4 _ rfl; have w5 := hw 5 _ rfl
  have w6 := hw 6 _ rfl; have w7 := hw 7 _ rfl; have w8 := hw 8 _ rfl; have w9 := hw 9 _ rfl; have w10 := hw 10 _ rfl; have w11 := hw 11 _ rfl
  clear hw hw1
  go_enter Tryz.func143, Tryz.ntmps143
  go_wp2_with fail
  clear w0 w1 w2 w3 w4 w5 w6 w7 w8 w9 w10 w11
  go_loopw [6] (fun i wr => ∃ k : Nat, i = .int .i64 k ∧ k ≤ 2 ∧ Tch (fun _ => False) (w.alloc (.cells #[.int .i64 3, .int .i64 1, .string ⟨#[]⟩] 58)) wr) (fun i _ => 3 - (RowKit.intOf i).toNat)
  case atStart => exact ⟨0, rfl, by omega, Tch.refl _ _⟩
  case round =>
    obtain ⟨k, rfl, hk, hT⟩ := hrel
    obtain ⟨-, c0, c1, c2⟩ := HC.out wr hT
    have hz := hT.size
    have hwz : w.heap.size < wr.heap.size := by simp at hz; omega
    clear hz
    have i0 := word_0; have i1 := word_1; have i2 := word_2
    rcases (by omega : k = 0 ∨ k = 1 ∨ k = 2) with rfl | rfl | rfl
    · go_wp2_with fail
      go_roundw
      case rel => exact ⟨1, rfl, by omega, hT.allocR _⟩
      case measure => simp [RowKit.intOf]
    · go_wp2_with fail
      go_roundw
      case rel => exact ⟨2, rfl, by omega, hT.allocR _⟩
      case measure => simp [RowKit.intOf]
    · go_wp2_with fail
      go_ret
      exact ⟨rfl, ((Tch.alloc _ _ _).trans' hT).allocR _⟩
end Go.Proofs.YtjiblajnfnmjnaaGreatDoor
namespace Go.Proofs.YtjiblajnfnmjnaaGreatDoor
open Go.RowKit
theorem sgn_run64 (n : Nat) (hn : n < 16) (W : World) : (Instr.index 9 (.string ⟨#[48, 49, 50, 51, 52, 53, 54, 55, 56, 57, 97, 98, 99, 100, 101, 102]⟩) (.int .i64 (n : Int))).run Tryz.prog W = .ok (.int .u8 (sgn n).toNat) W := by
  have hz : (⟨#[48, 49, 50, 51, 52, 53, 54, 55, 56, 57, 97, 98, 99, 100, 101, 102]⟩ : ByteArray).size = 16 := rfl
  rw [run_index_string W _ _ _ _ Tryz.underlying9, dif_pos (by rw [hz]; omega)]
  have := sgn_get n hn (by rw [hz]; exact hn)
  simp only [Int.toNat_natCast]
  rw [this]
theorem rquoted_any (s : ByteArray) (w : World) (hs : s.size ≤ 17592186044416) :
    Calls Tryz.prog 120 #[.string s] w fun x w' => x = .returned (.string ⟨(qtd s).toArray⟩) ∧ Tch (fun _ => False) w w' := by
  obtain ⟨i0, hi, hz0, hz1, hz2⟩ := info_byte'
  go_enter Tryz.func120, Tryz.ntmps120
  go_wp2_with fail
  go_loopw [4, 5] (fun v i wr => ∃ (k : Nat) (bs : List UInt8), i = .int .i64 k ∧ k ≤ s.size ∧ Hid (bs = 39 :: escs (s.data.toList.take k)) ∧ bs.length ≤ 1 + 3 * k ∧ wr.ownsRow w.heap.size 5 1 v bs.length (Lib.byteCells bs) ∧ Tch (fun i => w.heap.size ≤ i) w wr) (fun _ i _ => s.size - (intOf i).toNat)
  case atStart => exact ⟨0, [39], rfl, by omega, rfl, by simp, own_new w [39] (by decide), Tch.alloc _ _ _⟩
  case round =>
    obtain ⟨k, bs, rfl, hk, HB, hbl, hown, hT⟩ := hrel
    obtain ⟨ao, cp, hv⟩ := slice_of hown
    subst hv
    have HG : Hid (∀ g, (Value.slice ao bs.length cp).ownBlock = some g → w.heap.size ≤ g) := fun g hk => ownBlock_ge hown hk.symm
    have HO : Hid (∀ W, Tch (fun _ => False) wr W → W.ownsRow w.heap.size 5 1 (.slice ao bs.length cp) bs.length (Lib.byteCells bs)) := fun W t => ownsRow_tch hown t (fun _ _ _ h => h)
    have hwr := hT.size
    have hbs : bs.length ≤ 60000000000000 := by omega
    by_cases hlt : (k : Int) < s.size
    · have hks : k < s.size := by omega
      have HEnd : Hid (∀ (l : List UInt8) (W w1 : World) (v' : Value), esc s[k] = l → w1.ownsRow w.heap.size 5 1 v' (bs.length + l.length) (Lib.byteCells bs ++ Lib.byteCells l) → Tch (fun _ => False) wr W → W.grownBy w1 (Value.slice ao bs.length cp).ownBlock →
          (∃ (k_1 : Nat) (bs_1 : List UInt8), Value.int .i64 ((k : Int) + 1) = .int .i64 k_1 ∧ k_1 ≤ s.size ∧ Hid (bs_1 = 39 :: escs (s.data.toList.take k_1)) ∧ bs_1.length ≤ 1 + 3 * k_1 ∧ w1.ownsRow w.heap.size 5 1 v' bs_1.length (Lib.byteCells bs_1) ∧ Tch (fun i => w.heap.size ≤ i) w w1) ∧ s.size - (intOf (Value.int .i64 ((k : Int) + 1))).toNat < s.size - (intOf (Value.int .i64 (k : Int))).toNat) := fun l W w1 v' he ho t hgr => by
        have hel := esc_len s[k]
        rw [he] at hel
        refine ⟨⟨k + 1, bs ++ l, by go_num, by omega, ?_, by rw [List.length_append]; omega, ?_, ?_⟩, by simp [intOf]; omega⟩
        · show _ = _
          rw [List.take_succ_eq_append_getElem (by simpa using hks), escs_snoc, HB.out]
          show _ = _ :: (_ ++ esc s[k])
          rw [he]; rfl
        · rw [Lib.byteCells_append, List.length_append]; exact ho
        · exact (hT.trans' (no_mono t)).trans' (grown_tch hgr HG.out)
      have hxl : s[k].toNat ≤ 255 := by have := s[k].toNat_lt; omega
      by_cases h39 : s[k].toNat = 39
      · have HE : Hid (esc s[k] = [39, 39]) := by show _ = _; unfold esc; rw [if_pos h39]
        have h39' : (s[k].toNat : Int) = 39 := by omega
        clear h39 hxl hown
        go_wp2_with (at_builtin; refine wpList_append_own _ rfl _ _ 115 rfl w.heap.size 5 i0 (.int .u8 0) 1 1 Tryz.underlying115 hi hz0 hz1 hz2 rfl (by decide) (.slice ao bs.length cp) _ _ rfl (HO.out _ (Tch.alloc _ _ _)) ⟨wr.heap.size, 0, none⟩ 2 2 (Lib.byteCells [39, 39]) rfl rfl (byteCells_get (fun j hj => by rcases j with _ | _ | j <;> simp at hj ⊢ <;> omega)) (Lib.byteCells_one _) (by unfold maxLen; omega) (by omega) (by simp; omega) ?_; intro v' w1 hown' hgr hnil; obtain ⟨ao', cp', hv'⟩ := slice_of hown'; subst hv'; clear hnil)
        exact HEnd.out [39, 39] _ w1 _ HE.out hown' (Tch.alloc _ _ _) hgr
      · have h39' : ¬ (s[k].toNat : Int) = 39 := by omega
        by_cases hes : s[k].toNat < 32 ∨ 126 < s[k].toNat ∨ s[k].toNat = 92
        · obtain ⟨p1, hp1⟩ : ∃ p1, p1 = sgn (s[k].toNat / 16) := ⟨_, rfl⟩
          obtain ⟨p2, hp2⟩ : ∃ p2, p2 = sgn (s[k].toNat % 16) := ⟨_, rfl⟩
          have HE : Hid (esc s[k] = [92, p1, p2]) := by show _ = _; unfold esc; rw [if_neg h39, if_pos hes, hp1, hp2]
          have HC : Hid (((s[k].toNat : Int) < 32 ∨ 126 < (s[k].toNat : Int)) ∨ (s[k].toNat : Int) = 92) := by show _ ∨ _; omega
          have hi1 : ∀ W, (Instr.index 9 (.string ⟨#[48, 49, 50, 51, 52, 53, 54, 55, 56, 57, 97, 98, 99, 100, 101, 102]⟩) (.int .i64 (IntKind.i64.wrap ((s[k].toNat : Int) / 16)))).run Tryz.prog W = .ok (.int .u8 p1.toNat) W := fun W => by
            have e : IntKind.i64.wrap ((s[k].toNat : Int) / 16) = ((s[k].toNat / 16 : Nat) : Int) := by rw [wrap_of (by omega) (by omega)]; omega
            rw [e, sgn_run64 _ (by omega), hp1]
          have hi2 : ∀ W, (Instr.index 9 (.string ⟨#[48, 49, 50, 51, 52, 53, 54, 55, 56, 57, 97, 98, 99, 100, 101, 102]⟩) (.int .i64 ((s[k].toNat : Int).tmod 16))).run Tryz.prog W = .ok (.int .u8 p2.toNat) W := fun W => by
            have e : ((s[k].toNat : Int).tmod 16) = ((s[k].toNat % 16 : Nat) : Int) := by rw [Int.tmod_eq_emod_of_nonneg (by omega)]; omega
            rw [e, sgn_run64 _ (by omega), hp2]
          clear h39 hown hes hp1 hp2
          by_cases c1 : ((s[k].toNat : Int) == 92) = true
          · go_wp2_with fail
            obtain ⟨C, hC⟩ : ∃ C : List Value → World → Prop, C = fun st W => match st with
              | [] => Tch (fun _ => False) wr W
              | [y] => Tch (fun _ => False) wr W ∧ ∃ g, y = .slice (some ⟨g, 0, none⟩) 3 3 ∧ wr.heap.size ≤ g ∧ ∀ j u, (Lib.byteCells [92, p1, p2])[j]? = some u → W.cell? ((⟨g, 0, none⟩ : Addr).add j) = some u
              | [_, z] => ∃ ao' cp', z = .slice ao' (bs.length + 3) cp' ∧ W.ownsRow w.heap.size 5 1 (.slice ao' (bs.length + 3) cp') (bs.length + 3) (Lib.byteCells bs ++ Lib.byteCells [92, p1, p2]) ∧ ∃ W0, Tch (fun _ => False) wr W0 ∧ W0.grownBy W (Value.slice ao bs.length cp).ownBlock
              | _ => False := ⟨_, rfl⟩
            have h0' : C [] wr.drew := by rw [hC]; exact (Tch.refl _ _).drew
            have h7 : ∀ W, C [] W → C [.slice (some ⟨W.heap.size, 0, none⟩) 3 3] (W.alloc (.cells #[.int .u8 92, .int .u8 p1.toNat, .int .u8 p2.toNat] 5)) := fun W h => by
              rw [hC] at h ⊢
              exact ⟨h.allocR _, W.heap.size, rfl, h.size, fun j u hu => World.news_of_block (heap_new W _) j u hu⟩
            have hsh : ∀ y W, C [y] W → ∃ g, y = .slice (some ⟨g, 0, none⟩) 3 3 := fun y W h => by
              rw [hC] at h
              obtain ⟨_, g, e, _⟩ := h
              exact ⟨g, e⟩
            have h8 : ∀ g W, C [.slice (some ⟨g, 0, none⟩) 3 3] W → ∃ ao' cp' w', (Builtin.append_ #[115, 115] 115 #[.slice ao bs.length cp, .slice (some ⟨g, 0, none⟩) 3 3]).run Tryz.prog W = .ok (.slice ao' (bs.length + 3) cp') w' ∧ C [.slice (some ⟨g, 0, none⟩) 3 3, .slice ao' (bs.length + 3) cp'] w' := fun g W h => by
              rw [hC] at h
              obtain ⟨tW, g', e, hg1, hg2⟩ := h
              have e' : g = g' := by simpa using e
              subst e'
              have hz := tW.size
              obtain ⟨v', w', hr, hown', hgr, _⟩ := run_append_keeps (P := Tryz.prog) W w.heap.size 115 115 5 i0 (.int .u8 0) 1 1 Tryz.underlying115 hi hz0 hz1 hz2 rfl (by decide) (.slice ao bs.length cp) bs.length (Lib.byteCells bs) (HO.out W tW) ⟨g, 0, none⟩ 3 3 (Lib.byteCells [92, p1, p2]) rfl hg2 (Lib.byteCells_one _) (by unfold maxLen; omega) (by omega) (by omega)
              obtain ⟨ao', cp', rfl⟩ := slice_of hown'
              refine ⟨ao', cp', w', hr, ?_⟩
              rw [hC]
              exact ⟨ao', cp', rfl, hown', W, tW, hgr⟩
            have hfin : ∀ y z W, C [y, z] W → ∃ ao' cp', z = .slice ao' (bs.length + 3) cp' ∧ W.ownsRow w.heap.size 5 1 (.slice ao' (bs.length + 3) cp') (bs.length + 3) (Lib.byteCells bs ++ Lib.byteCells [92, p1, p2]) ∧ ∃ W0, Tch (fun _ => False) wr W0 ∧ W0.grownBy W (Value.slice ao bs.length cp).ownBlock := fun y z W h => by
              rw [hC] at h
              exact h
            clear hC
            refine wp_region_ordv [9, 10] C 11 [0, 1, 2, 3, 4, 5, 6, 7, 8, 9, 10] (by kernel_rfl) (by kernel_rfl) h0' ?_
            clear h0'
            refine ordv_read rfl (by go_simp) (by rfl) ?_
            apply Exists.intro
            refine ⟨fun s' W hW b K Q hK' => ?_, fun K hK' => ?_⟩
            · go_simp
              exact hK' W hW
            go_simp
            refine hK' _ ?_
            clear hK' K
            refine ordv_read rfl (by go_simp) (by rfl) ?_
            apply Exists.intro
            refine ⟨fun s' W hW b K Q hK' => ?_, fun K hK' => ?_⟩
            · go_simp
              exact hK' W hW
            go_simp
            refine hK' _ ?_
            clear hK' K
            refine ordv_read rfl (by go_simp) (by rfl) ?_
            apply Exists.intro
            refine ⟨fun s' W hW b K Q hK' => ?_, fun K hK' => ?_⟩
            · go_simp
              exact hK' W hW
            go_simp
            refine hK' _ ?_
            clear hK' K
            refine ordv_read rfl (by go_simp) (by rfl) ?_
            apply Exists.intro
            refine ⟨fun s' W hW b K Q hK' => ?_, fun K hK' => ?_⟩
            · go_simp
              exact hK' W hW
            go_simp
            refine hK' _ ?_
            clear hK' K
            refine ordv_read rfl (by go_simp) (by rfl) ?_
            apply Exists.intro
            refine ⟨fun s' W hW b K Q hK' => ?_, fun K hK' => ?_⟩
            · go_simp
              exact hK' W hW
            go_simp
            refine hK' _ ?_
            clear hK' K
            refine ordv_read rfl (by go_simp) (by rfl) ?_
            apply Exists.intro
            refine ⟨fun s' W hW b K Q hK' => ?_, fun K hK' => ?_⟩
            · go_simp
              exact hK' W hW
            go_simp
            refine hK' _ ?_
            clear hK' K
            refine ordv_read rfl (by go_simp) (by rfl) ?_
            apply Exists.intro
            refine ⟨fun s' W hW b K Q hK' => ?_, fun K hK' => ?_⟩
            · go_simp
              exact hK' W hW
            go_simp
            refine hK' _ ?_
            clear hK' K
            refine ordv_read rfl (by go_simp) (by rfl) ?_
            apply Exists.intro
            refine ⟨fun s' W hW b K Q hK' => ?_, fun K hK' => ?_⟩
            · go_simp
              exact hK' W hW
            go_simp
            refine hK' _ ?_
            clear hK' K
            refine ordv_read rfl (by go_simp) (by rfl) ?_
            apply Exists.intro
            refine ⟨fun s' W hW b K Q hK' => ?_, fun K hK' => ?_⟩
            · go_simp
              exact hK' W hW
            go_simp
            refine hK' _ ?_
            clear hK' K
            refine ordv_turn rfl (by go_simp) (by rfl) (fun W hW b K Q hK' => ?_) (fun u hu K hK' => ?_)
            · go_simp
              exact hK' _ _ (h7 W hW)
            obtain ⟨g, rfl⟩ : ∃ g, u = .slice (some ⟨g, 0, none⟩) 3 3 := by
              obtain ⟨W', hW'⟩ := hu
              exact hsh u W' hW'
            clear hu h7 hsh
            go_simp
            refine hK' _ ?_
            clear hK' K
            refine ordv_turn rfl (by go_simp) (by rfl) (fun W hW => ?_) (fun u hu K hK' => ?_)
            · obtain ⟨ao', cp', w', hr, h1⟩ := h8 g W hW
              exact yv_append (.tmp 41) (.tmp 50) 115 rfl (.slice ao bs.length cp) (.slice (some ⟨g, 0, none⟩) 3 3) rfl rfl hr h1
            obtain ⟨ao', cp', rfl⟩ : ∃ ao' cp', u = .slice ao' (bs.length + 3) cp' := by
              obtain ⟨W', hW'⟩ := hu
              obtain ⟨ao', cp', e, _⟩ := hfin _ u W' hW'
              exact ⟨ao', cp', e⟩
            clear hu h8
            go_simp
            refine hK' _ ?_
            clear hK' K
            refine ordv_nil ?_
            intro w1 hw1
            obtain ⟨_, _, e1, hown', W0, tW0, hgr⟩ := hfin _ _ w1 hw1
            injection e1 with e1 e2 e3
            subst e1 e3
            have HF : Hid _ := HEnd.out [92, p1, p2] W0 w1 _ HE.out hown' tW0 hgr
            clear hfin hw1 e2 hown' tW0 hgr HEnd HE hi1 hi2
            go_wp2_with fail
            exact HF.out
          · by_cases c2 : (s[k].toNat : Int) < 32
            · go_wp2_with fail
              obtain ⟨C, hC⟩ : ∃ C : List Value → World → Prop, C = fun st W => match st with
                | [] => Tch (fun _ => False) wr W
                | [y] => Tch (fun _ => False) wr W ∧ ∃ g, y = .slice (some ⟨g, 0, none⟩) 3 3 ∧ wr.heap.size ≤ g ∧ ∀ j u, (Lib.byteCells [92, p1, p2])[j]? = some u → W.cell? ((⟨g, 0, none⟩ : Addr).add j) = some u
                | [_, z] => ∃ ao' cp', z = .slice ao' (bs.length + 3) cp' ∧ W.ownsRow w.heap.size 5 1 (.slice ao' (bs.length + 3) cp') (bs.length + 3) (Lib.byteCells bs ++ Lib.byteCells [92, p1, p2]) ∧ ∃ W0, Tch (fun _ => False) wr W0 ∧ W0.grownBy W (Value.slice ao bs.length cp).ownBlock
                | _ => False := ⟨_, rfl⟩
              have h0' : C [] wr.drew := by rw [hC]; exact (Tch.refl _ _).drew
              have h7 : ∀ W, C [] W → C [.slice (some ⟨W.heap.size, 0, none⟩) 3 3] (W.alloc (.cells #[.int .u8 92, .int .u8 p1.toNat, .int .u8 p2.toNat] 5)) := fun W h => by
                rw [hC] at h ⊢
                exact ⟨h.allocR _, W.heap.size, rfl, h.size, fun j u hu => World.news_of_block (heap_new W _) j u hu⟩
              have hsh : ∀ y W, C [y] W → ∃ g, y = .slice (some ⟨g, 0, none⟩) 3 3 := fun y W h => by
                rw [hC] at h
                obtain ⟨_, g, e, _⟩ := h
                exact ⟨g, e⟩
              have h8 : ∀ g W, C [.slice (some ⟨g, 0, none⟩) 3 3] W → ∃ ao' cp' w', (Builtin.append_ #[115, 115] 115 #[.slice ao bs.length cp, .slice (some ⟨g, 0, none⟩) 3 3]).run Tryz.prog W = .ok (.slice ao' (bs.length + 3) cp') w' ∧ C [.slice (some ⟨g, 0, none⟩) 3 3, .slice ao' (bs.length + 3) cp'] w' := fun g W h => by
                rw [hC] at h
                obtain ⟨tW, g', e, hg1, hg2⟩ := h
                have e' : g = g' := by simpa using e
                subst e'
                have hz := tW.size
                obtain ⟨v', w', hr, hown', hgr, _⟩ := run_append_keeps (P := Tryz.prog) W w.heap.size 115 115 5 i0 (.int .u8 0) 1 1 Tryz.underlying115 hi hz0 hz1 hz2 rfl (by decide) (.slice ao bs.length cp) bs.length (Lib.byteCells bs) (HO.out W tW) ⟨g, 0, none⟩ 3 3 (Lib.byteCells [92, p1, p2]) rfl hg2 (Lib.byteCells_one _) (by unfold maxLen; omega) (by omega) (by omega)
                obtain ⟨ao', cp', rfl⟩ := slice_of hown'
                refine ⟨ao', cp', w', hr, ?_⟩
                rw [hC]
                exact ⟨ao', cp', rfl, hown', W, tW, hgr⟩
              have hfin : ∀ y z W, C [y, z] W → ∃ ao' cp', z = .slice ao' (bs.length + 3) cp' ∧ W.ownsRow w.heap.size 5 1 (.slice ao' (bs.length + 3) cp') (bs.length + 3) (Lib.byteCells bs ++ Lib.byteCells [92, p1, p2]) ∧ ∃ W0, Tch (fun _ => False) wr W0 ∧ W0.grownBy W (Value.slice ao bs.length cp).ownBlock := fun y z W h => by
                rw [hC] at h
                exact h
              clear hC
              refine wp_region_ordv [9, 10] C 11 [0, 1, 2, 3, 4, 5, 6, 7, 8, 9, 10] (by kernel_rfl) (by kernel_rfl) h0' ?_
              clear h0'
              refine ordv_read rfl (by go_simp) (by rfl) ?_
              apply Exists.intro
              refine ⟨fun s' W hW b K Q hK' => ?_, fun K hK' => ?_⟩
              · go_simp
                exact hK' W hW
              go_simp
              refine hK' _ ?_
              clear hK' K
              refine ordv_read rfl (by go_simp) (by rfl) ?_
              apply Exists.intro
              refine ⟨fun s' W hW b K Q hK' => ?_, fun K hK' => ?_⟩
              · go_simp
                exact hK' W hW
              go_simp
              refine hK' _ ?_
              clear hK' K
              refine ordv_read rfl (by go_simp) (by rfl) ?_
              apply Exists.intro
              refine ⟨fun s' W hW b K Q hK' => ?_, fun K hK' => ?_⟩
              · go_simp
                exact hK' W hW
              go_simp
              refine hK' _ ?_
              clear hK' K
              refine ordv_read rfl (by go_simp) (by rfl) ?_
              apply Exists.intro
              refine ⟨fun s' W hW b K Q hK' => ?_, fun K hK' => ?_⟩
              · go_simp
                exact hK' W hW
              go_simp
              refine hK' _ ?_
              clear hK' K
              refine ordv_read rfl (by go_simp) (by rfl) ?_
              apply Exists.intro
              refine ⟨fun s' W hW b K Q hK' => ?_, fun K hK' => ?_⟩
              · go_simp
                exact hK' W hW
              go_simp
              refine hK' _ ?_
              clear hK' K
              refine ordv_read rfl (by go_simp) (by rfl) ?_
              apply Exists.intro
              refine ⟨fun s' W hW b K Q hK' => ?_, fun K hK' => ?_⟩
              · go_simp
                exact hK' W hW
              go_simp
              refine hK' _ ?_
              clear hK' K
              refine ordv_read rfl (by go_simp) (by rfl) ?_
              apply Exists.intro
              refine ⟨fun s' W hW b K Q hK' => ?_, fun K hK' => ?_⟩
              · go_simp
                exact hK' W hW
              go_simp
              refine hK' _ ?_
              clear hK' K
              refine ordv_read rfl (by go_simp) (by rfl) ?_
              apply Exists.intro
              refine ⟨fun s' W hW b K Q hK' => ?_, fun K hK' => ?_⟩
              · go_simp
                exact hK' W hW
              go_simp
              refine hK' _ ?_
              clear hK' K
              refine ordv_read rfl (by go_simp) (by rfl) ?_
              apply Exists.intro
              refine ⟨fun s' W hW b K Q hK' => ?_, fun K hK' => ?_⟩
              · go_simp
                exact hK' W hW
              go_simp
              refine hK' _ ?_
              clear hK' K
              refine ordv_turn rfl (by go_simp) (by rfl) (fun W hW b K Q hK' => ?_) (fun u hu K hK' => ?_)
              · go_simp
                exact hK' _ _ (h7 W hW)
              obtain ⟨g, rfl⟩ : ∃ g, u = .slice (some ⟨g, 0, none⟩) 3 3 := by
                obtain ⟨W', hW'⟩ := hu
                exact hsh u W' hW'
              clear hu h7 hsh
              go_simp
              refine hK' _ ?_
              clear hK' K
              refine ordv_turn rfl (by go_simp) (by rfl) (fun W hW => ?_) (fun u hu K hK' => ?_)
              · obtain ⟨ao', cp', w', hr, h1⟩ := h8 g W hW
                exact yv_append (.tmp 41) (.tmp 50) 115 rfl (.slice ao bs.length cp) (.slice (some ⟨g, 0, none⟩) 3 3) rfl rfl hr h1
              obtain ⟨ao', cp', rfl⟩ : ∃ ao' cp', u = .slice ao' (bs.length + 3) cp' := by
                obtain ⟨W', hW'⟩ := hu
                obtain ⟨ao', cp', e, _⟩ := hfin _ u W' hW'
                exact ⟨ao', cp', e⟩
              clear hu h8
              go_simp
              refine hK' _ ?_
              clear hK' K
              refine ordv_nil ?_
              intro w1 hw1
              obtain ⟨_, _, e1, hown', W0, tW0, hgr⟩ := hfin _ _ w1 hw1
              injection e1 with e1 e2 e3
              subst e1 e3
              have HF : Hid _ := HEnd.out [92, p1, p2] W0 w1 _ HE.out hown' tW0 hgr
              clear hfin hw1 e2 hown' tW0 hgr HEnd HE hi1 hi2
              go_wp2_with fail
              exact HF.out
            · have c3 : 126 < (s[k].toNat : Int) := by have h1 := HC.out; have h2 : ¬ (s[k].toNat : Int) = 92 := fun e => c1 (by simp [e]); omega
              go_wp2_with fail
              obtain ⟨C, hC⟩ : ∃ C : List Value → World → Prop, C = fun st W => match st with
                | [] => Tch (fun _ => False) wr W
                | [y] => Tch (fun _ => False) wr W ∧ ∃ g, y = .slice (some ⟨g, 0, none⟩) 3 3 ∧ wr.heap.size ≤ g ∧ ∀ j u, (Lib.byteCells [92, p1, p2])[j]? = some u → W.cell? ((⟨g, 0, none⟩ : Addr).add j) = some u
                | [_, z] => ∃ ao' cp', z = .slice ao' (bs.length + 3) cp' ∧ W.ownsRow w.heap.size 5 1 (.slice ao' (bs.length + 3) cp') (bs.length + 3) (Lib.byteCells bs ++ Lib.byteCells [92, p1, p2]) ∧ ∃ W0, Tch (fun _ => False) wr W0 ∧ W0.grownBy W (Value.slice ao bs.length cp).ownBlock
                | _ => False := ⟨_, rfl⟩
              have h0' : C [] wr.drew := by rw [hC]; exact (Tch.refl _ _).drew
              have h7 : ∀ W, C [] W → C [.slice (some ⟨W.heap.size, 0, none⟩) 3 3] (W.alloc (.cells #[.int .u8 92, .int .u8 p1.toNat, .int .u8 p2.toNat] 5)) := fun W h => by
                rw [hC] at h ⊢
                exact ⟨h.allocR _, W.heap.size, rfl, h.size, fun j u hu => World.news_of_block (heap_new W _) j u hu⟩
              have hsh : ∀ y W, C [y] W → ∃ g, y = .slice (some ⟨g, 0, none⟩) 3 3 := fun y W h => by
                rw [hC] at h
                obtain ⟨_, g, e, _⟩ := h
                exact ⟨g, e⟩
              have h8 : ∀ g W, C [.slice (some ⟨g, 0, none⟩) 3 3] W → ∃ ao' cp' w', (Builtin.append_ #[115, 115] 115 #[.slice ao bs.length cp, .slice (some ⟨g, 0, none⟩) 3 3]).run Tryz.prog W = .ok (.slice ao' (bs.length + 3) cp') w' ∧ C [.slice (some ⟨g, 0, none⟩) 3 3, .slice ao' (bs.length + 3) cp'] w' := fun g W h => by
                rw [hC] at h
                obtain ⟨tW, g', e, hg1, hg2⟩ := h
                have e' : g = g' := by simpa using e
                subst e'
                have hz := tW.size
                obtain ⟨v', w', hr, hown', hgr, _⟩ := run_append_keeps (P := Tryz.prog) W w.heap.size 115 115 5 i0 (.int .u8 0) 1 1 Tryz.underlying115 hi hz0 hz1 hz2 rfl (by decide) (.slice ao bs.length cp) bs.length (Lib.byteCells bs) (HO.out W tW) ⟨g, 0, none⟩ 3 3 (Lib.byteCells [92, p1, p2]) rfl hg2 (Lib.byteCells_one _) (by unfold maxLen; omega) (by omega) (by omega)
                obtain ⟨ao', cp', rfl⟩ := slice_of hown'
                refine ⟨ao', cp', w', hr, ?_⟩
                rw [hC]
                exact ⟨ao', cp', rfl, hown', W, tW, hgr⟩
              have hfin : ∀ y z W, C [y, z] W → ∃ ao' cp', z = .slice ao' (bs.length + 3) cp' ∧ W.ownsRow w.heap.size 5 1 (.slice ao' (bs.length + 3) cp') (bs.length + 3) (Lib.byteCells bs ++ Lib.byteCells [92, p1, p2]) ∧ ∃ W0, Tch (fun _ => False) wr W0 ∧ W0.grownBy W (Value.slice ao bs.length cp).ownBlock := fun y z W h => by
                rw [hC] at h
                exact h
              clear hC
              refine wp_region_ordv [9, 10] C 11 [0, 1, 2, 3, 4, 5, 6, 7, 8, 9, 10] (by kernel_rfl) (by kernel_rfl) h0' ?_
              clear h0'
              refine ordv_read rfl (by go_simp) (by rfl) ?_
              apply Exists.intro
              refine ⟨fun s' W hW b K Q hK' => ?_, fun K hK' => ?_⟩
              · go_simp
                exact hK' W hW
              go_simp
              refine hK' _ ?_
              clear hK' K
              refine ordv_read rfl (by go_simp) (by rfl) ?_
              apply Exists.intro
              refine ⟨fun s' W hW b K Q hK' => ?_, fun K hK' => ?_⟩
              · go_simp
                exact hK' W hW
              go_simp
              refine hK' _ ?_
              clear hK' K
              refine ordv_read rfl (by go_simp) (by rfl) ?_
              apply Exists.intro
              refine ⟨fun s' W hW b K Q hK' => ?_, fun K hK' => ?_⟩
              · go_simp
                exact hK' W hW
              go_simp
              refine hK' _ ?_
              clear hK' K
              refine ordv_read rfl (by go_simp) (by rfl) ?_
              apply Exists.intro
              refine ⟨fun s' W hW b K Q hK' => ?_, fun K hK' => ?_⟩
              · go_simp
                exact hK' W hW
              go_simp
              refine hK' _ ?_
              clear hK' K
              refine ordv_read rfl (by go_simp) (by rfl) ?_
              apply Exists.intro
              refine ⟨fun s' W hW b K Q hK' => ?_, fun K hK' => ?_⟩
              · go_simp
                exact hK' W hW
              go_simp
              refine hK' _ ?_
              clear hK' K
              refine ordv_read rfl (by go_simp) (by rfl) ?_
              apply Exists.intro
              refine ⟨fun s' W hW b K Q hK' => ?_, fun K hK' => ?_⟩
              · go_simp
                exact hK' W hW
              go_simp
              refine hK' _ ?_
              clear hK' K
              refine ordv_read rfl (by go_simp) (by rfl) ?_
              apply Exists.intro
              refine ⟨fun s' W hW b K Q hK' => ?_, fun K hK' => ?_⟩
              · go_simp
                exact hK' W hW
              go_simp
              refine hK' _ ?_
              clear hK' K
              refine ordv_read rfl (by go_simp) (by rfl) ?_
              apply Exists.intro
              refine ⟨fun s' W hW b K Q hK' => ?_, fun K hK' => ?_⟩
              · go_simp
                exact hK' W hW
              go_simp
              refine hK' _ ?_
              clear hK' K
              refine ordv_read rfl (by go_simp) (by rfl) ?_
              apply Exists.intro
              refine ⟨fun s' W hW b K Q hK' => ?_, fun K hK' => ?_⟩
              · go_simp
                exact hK' W hW
              go_simp
              refine hK' _ ?_
              clear hK' K
              refine ordv_turn rfl (by go_simp) (by rfl) (fun W hW b K Q hK' => ?_) (fun u hu K hK' => ?_)
              · go_simp
                exact hK' _ _ (h7 W hW)
              obtain ⟨g, rfl⟩ : ∃ g, u = .slice (some ⟨g, 0, none⟩) 3 3 := by
                obtain ⟨W', hW'⟩ := hu
                exact hsh u W' hW'
              clear hu h7 hsh
              go_simp
              refine hK' _ ?_
              clear hK' K
              refine ordv_turn rfl (by go_simp) (by rfl) (fun W hW => ?_) (fun u hu K hK' => ?_)
              · obtain ⟨ao', cp', w', hr, h1⟩ := h8 g W hW
                exact yv_append (.tmp 41) (.tmp 50) 115 rfl (.slice ao bs.length cp) (.slice (some ⟨g, 0, none⟩) 3 3) rfl rfl hr h1
              obtain ⟨ao', cp', rfl⟩ : ∃ ao' cp', u = .slice ao' (bs.length + 3) cp' := by
                obtain ⟨W', hW'⟩ := hu
                obtain ⟨ao', cp', e, _⟩ := hfin _ u W' hW'
                exact ⟨ao', cp', e⟩
              clear hu h8
              go_simp
              refine hK' _ ?_
              clear hK' K
              refine ordv_nil ?_
              intro w1 hw1
              obtain ⟨_, _, e1, hown', W0, tW0, hgr⟩ := hfin _ _ w1 hw1
              injection e1 with e1 e2 e3
              subst e1 e3
              have HF : Hid _ := HEnd.out [92, p1, p2] W0 w1 _ HE.out hown' tW0 hgr
              clear hfin hw1 e2 hown' tW0 hgr HEnd HE hi1 hi2
              go_wp2_with fail
              exact HF.out
        · have HE : Hid (esc s[k] = [s[k]]) := by show _ = _; unfold esc; rw [if_neg h39, if_neg hes]
          have c1 : ¬ (s[k].toNat : Int) < 32 := by omega
          have c2 : ¬ 126 < (s[k].toNat : Int) := by omega
          have c3 : ¬ (s[k].toNat : Int) = 92 := by omega
          clear h39 hown hes
          go_wp2_with (at_builtin; refine wpList_append_own _ rfl _ _ 115 rfl w.heap.size 5 i0 (.int .u8 0) 1 1 Tryz.underlying115 hi hz0 hz1 hz2 rfl (by decide) (.slice ao bs.length cp) _ _ rfl (HO.out _ (Tch.alloc _ _ _)) ⟨wr.heap.size, 0, none⟩ 1 1 (Lib.byteCells [s[k]]) rfl rfl (byteCells_get (fun j hj => by rcases j with _ | j <;> simp at hj ⊢)) (Lib.byteCells_one _) (by unfold maxLen; omega) (by omega) (by simp; omega) ?_; intro v' w1 hown' hgr hnil; obtain ⟨ao', cp', hv'⟩ := slice_of hown'; subst hv'; clear hnil)
          exact HEnd.out [s[k]] _ w1 _ HE.out hown' (Tch.alloc _ _ _) hgr
    · have HE2 : Hid (⟨(qtd s).toArray⟩ = (⟨(bs ++ [39]).toArray⟩ : ByteArray)) := by
        show _ = _
        rw [HB.out, List.take_of_length_le (by simp; omega)]; rfl
      clear hown
      go_wp2_with (at_builtin; refine wpList_append_own _ rfl _ _ 115 rfl w.heap.size 5 i0 (.int .u8 0) 1 1 Tryz.underlying115 hi hz0 hz1 hz2 rfl (by decide) (.slice ao bs.length cp) _ _ rfl (HO.out _ (Tch.alloc _ _ _)) ⟨wr.heap.size, 0, none⟩ 1 1 (Lib.byteCells [39]) rfl rfl (byteCells_get (fun j hj => by rcases j with _ | j <;> simp at hj ⊢)) (Lib.byteCells_one _) (by unfold maxLen; omega) (by omega) (by simp; omega) ?_; intro v' w1 hown' hgr hnil; obtain ⟨ao', cp', hv'⟩ := slice_of hown'; subst hv'; clear hnil; rw [← Lib.byteCells_append] at hown'; have hcv := conv_row (bs := bs ++ [39]) (by rw [List.length_append]; exact hown'))
      go_ret
      rw [HE2.out]
      exact ⟨rfl, ge_new ((hT.allocR _).trans' (grown_tch hgr HG.out))⟩
end Go.Proofs.YtjiblajnfnmjnaaGreatDoor
