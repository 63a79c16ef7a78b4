/- FilesLasts, walked. -/
import Derived.Test.YtodkefbaandeiaaLasts2
import Derived.Deep.OwnRows
import Derived.Deep.CutBlock
import Derived.BigQuiet
namespace Go.Proofs.Ytodkefbaandeiaa
open Go.RowKit Go.ChangeMaps Go.Sort

/-- The numbers of a list. -/
def Ints (w : World) (ao : Option Addr) (len : Nat) (kz : Nat → Int) : Prop := ∀ i, i < len → ∃ b off, ao = some ⟨b, off, none⟩ ∧ w.cell? ⟨b, off + i, none⟩ = some (.int .i64 (kz i)) ∧ -9223372036854775808 ≤ kz i ∧ kz i ≤ 9223372036854775807
theorem Ints.tch {w w' : World} {ao : Option Addr} {len : Nat} {kz : Nat → Int} (h : Ints w ao len kz) (t : Tch (fun _ => False) w w') : Ints w' ao len kz := fun i hi => by
  obtain ⟨b, off, h1, h2, h3⟩ := h i hi
  exact ⟨b, off, h1, (t.cell (p := ⟨b, _, none⟩) (cell_lt h2) (fun h => h)).trans h2, h3⟩

set_option maxHeartbeats 16000000 in
set_option maxRecDepth 100000 in
theorem lasts_any (ao : Option Addr) (len cap : Nat) (ko : Option Addr) (kl kc : Nat) (kz : Nat → Int) (w : World) (hK : Deeds w ao len) (hlen : len ≤ 9223372036854775807) (hI : Ints w ko kl kz) (hkl : kl ≤ 9223372036854775807) :
    Calls Try.prog 6 #[.slice ao len cap, .slice ko kl kc] w fun x w' => x = .returned (.bool true) ∧ Tch (fun _ => False) w w' := by
  have HK : Hid (∀ W, Tch (fun _ => False) w W → Deeds W ao len) := fun W t => hK.tch t
  have HI : Hid (∀ W, Tch (fun _ => False) w W → Ints W ko kl kz) := fun W t => hI.tch t
  clear hK hI
  go_enter Try.func6, Try.ntmps6
  go_wp2_with fail
  refine (four_any w).mono ?_
  rintro x w3 ⟨b, rfl, h3, t3⟩
  have hmk := fun W => run_make_row' (P := Try.prog) 47 9 (.string ⟨#[]⟩) 16 Try.underlying47 info_str rfl .i64 .i64 4 (by omega) (by omega) W
  have hmi := fun W => run_make_row' (P := Try.prog) 22 3 (.int .i64 0) 8 Try.underlying22 info_int rfl .i64 .i64 4 (by omega) (by omega) W
  obtain ⟨nb, hnb⟩ : ∃ nb, nb = w3.heap.size := ⟨_, rfl⟩
  obtain ⟨w4, hw4⟩ : ∃ w4, w4 = w3.alloc (.cells #[.string ⟨#[]⟩, .string ⟨#[]⟩, .string ⟨#[]⟩, .string ⟨#[]⟩] 9) := ⟨_, rfl⟩
  have hmk3 : (Instr.makeSlice 47 (.int .i64 4) (.int .i64 4)).run Try.prog w3 = .ok (.slice (some ⟨nb, 0, none⟩) 4 4) w4 := by
    rw [hnb, hw4]; rw [← made4]; exact hmk w3
  have t4 : Tch (fun _ => False) w3 w4 := by rw [hw4]; exact Tch.alloc _ _ _
  have z4 : Txt4 w4 nb (fun _ => ⟨#[]⟩) := by
    unfold Txt4
    rw [hw4, hnb]; exact box_one w3 _
  obtain ⟨lb, hlb⟩ : ∃ lb, lb = w4.heap.size := ⟨_, rfl⟩
  obtain ⟨w5, hw5⟩ : ∃ w5, w5 = w4.alloc (.cells #[.int .i64 0, .int .i64 0, .int .i64 0, .int .i64 0] 3) := ⟨_, rfl⟩
  have hmk4 : (Instr.makeSlice 22 (.int .i64 4) (.int .i64 4)).run Try.prog w4 = .ok (.slice (some ⟨lb, 0, none⟩) 4 4) w5 := by
    rw [hlb, hw5]; rw [← made4]; exact hmi w4
  have t5 : Tch (fun _ => False) w4 w5 := by rw [hw5]; exact Tch.alloc _ _ _
  have l5 : Four4 w5 lb (fun _ => 0) := by
    unfold Four4
    rw [hw5, hlb]; exact box_one w4 _
  have hnl := blk_lt z4
  have hll := blk_lt l5
  have s3 := t3.size
  have s4 := t4.size
  have hnb0 : w.heap.size ≤ nb := by omega
  have hlb0 : w.heap.size ≤ lb := by omega
  have hnlb : nb ≠ lb := by omega
  have hS : LS w b nb lb w5 (D4 100000 (fz (fun _ => ⟨#[]⟩) (fun _ => 0))) (fun _ => ⟨#[]⟩) (fun _ => 0) := by
    refine ⟨?_, z4.tch t5 (fun h => h), l5, (t3.trans' t4).trans' t5⟩
    refine (h3.fresh (t4.trans' t5)).mono (fun i hi => ?_)
    rcases hi with hi | hi | hi
    · exact Or.inl hi
    · exact Or.inr ⟨by omega, by omega⟩
    · exact Or.inr ⟨by omega, by omega⟩
  clear hmk hmi hnb hw4 hlb hw5 t4 t5 z4 l5 hnl hll s3 s4 h3 t3
  go_upto_block 0 with fail
  clear hmk3 hmk4
  go_cut [8, 9, 10, 11, 12, 13, 14, 15] from 36 to 196 (fun _ _ _ _ _ _ _ _ wr => ∃ (z : Nat → ByteArray) (la : Nat → Nat), LS w b nb lb wr (D4 100000 (fz z la)) z la ∧ Hid (LE4 z la) ∧ Z4 z ≤ 20000)
  case first =>
    as_aux_lemma =>
      go_wp2_with fail
      go_loopw [8] (fun i wr => ∃ (k : Nat) (z : Nat → ByteArray) (la : Nat → Nat), i = .int .i64 k ∧ (k ≤ len ∧ k ≤ 200) ∧ LS w b nb lb wr (D4 100000 (fz z la)) z la ∧ Hid (LE4 z la) ∧ Z4 z ≤ 100 * k) (fun i _ => len - (intOf i).toNat)
      case atStart => exact ⟨0, _, _, rfl, by omega, hS, fun i _ => Nat.zero_le _, Z4_0⟩
      case round =>
        clear hS
        obtain ⟨k, z, la, rfl, ⟨hk, hk2⟩, hS, hle, hu⟩ := hrel
        by_cases hlt : (k : Int) < len ∧ (k : Int) < 200
        · obtain ⟨hlt, hlt2⟩ := hlt
          obtain ⟨kb, off, kd, fl, nn, s, rfl, ⟨c0, c1, c2, c3⟩, ⟨bk, bf, bn⟩, hs⟩ := HK.out w (Tch.refl _ _) k (by omega)
          have HC : Hid (∀ W, Tch (fun _ => False) w W → W.cell? ⟨kb, off + k * 4, none⟩ = some (.int .i64 kd) ∧ W.cell? ⟨kb, off + k * 4 + 1, none⟩ = some (.int .i64 fl) ∧ W.cell? ⟨kb, off + k * 4 + 2, none⟩ = some (.int .i64 nn) ∧ W.cell? ⟨kb, off + k * 4 + 3, none⟩ = some (.string s)) := fun W t =>
            ⟨(t.cell (p := ⟨kb, _, none⟩) (cell_lt c0) (fun h => h)).trans c0, (t.cell (p := ⟨kb, _, none⟩) (cell_lt c1) (fun h => h)).trans c1, (t.cell (p := ⟨kb, _, none⟩) (cell_lt c2) (fun h => h)).trans c2, (t.cell (p := ⟨kb, _, none⟩) (cell_lt c3) (fun h => h)).trans c3⟩
          clear c0 c1 c2 c3
          obtain ⟨c0, c1, c2, c3⟩ := HC.out wr hS.T
          go_wp2_with fail
          refine (pick_any fl 4 _ bf.1 bf.2 (by omega) (by omega)).mono ?_
          rintro x w6 ⟨rfl, hw6⟩
          subst hw6
          have hr4 := pk_rng fl 4 (by omega)
          obtain ⟨q, hq⟩ : ∃ q : Nat, pk fl 4 = q := ⟨(pk fl 4).toNat, by omega⟩
          rw [hq] at hr4 ⊢
          have hq4 : q < 4 := by omega
          clear hq hr4 bf
          have hzq := Z4_ge z hq4
          by_cases h100 : (100 : Int) < s.size
          · as_aux_lemma =>
            have hct := cut_ext s 100
            have htl : (cut s 100).size = 100 := cut_size s (by omega)
            go_wp2_with fail
            obtain ⟨t, ht⟩ : ∃ t, t = cut s 100 := ⟨_, rfl⟩
            rw [← ht] at htl ⊢
            clear ht hct h100
            refine (pick_any kd 5 _ bk.1 bk.2 (by omega) (by omega)).mono ?_
            rintro x w7 ⟨rfl, hw7⟩
            subst hw7
            have hr5 := pk_rng kd 5 (by omega)
            obtain ⟨dk, hdk⟩ : ∃ dk, dk = pk kd 5 := ⟨_, rfl⟩
            rw [← hdk] at hr5 ⊢
            have hk5 : dk = 0 ∨ dk = 1 ∨ dk = 2 ∨ dk = 3 ∨ dk = 4 := by omega
            clear hdk hr5 bk
            rcases hk5 with rfl | rfl | rfl | rfl | rfl
            · clear c0 c1 c2 c3
              go_wp2_with fail
              refine (file_k hq4 _).mono ?_
              rintro y w71 ⟨rfl, t71⟩
              have hS1 := hS.no t71
              have hc := append_f b _ _ w71 (fileB q) t hS1.D
              rw [fileB_nm, l_append hq4 (by omega)] at hc
              go_wp2_with fail
              refine hc.mono ?_
              rintro y w8 ⟨rfl, h8, t8⟩
              have hS8 := hS1.op h8 t8
              have zq := hS8.Z.cell hq4
              have zf := hS8.Z.fz q
              have hadd : (z q).size + t.size ≤ 9223372036854775807 := by omega
              have hu' : Z4 (upd z q (z q ++ t)) ≤ 100 * (k + 1) := by rw [Z4_upd z hq4, ByteArray.size_append]; omega
              have HL : Hid (LE4 (upd z q (z q ++ t)) la) := hle.out.updZ q _ (by rw [ByteArray.size_append]; have := hle.out q hq4; omega)
              have HS : Hid (LS w b nb lb _ _ _ _) := hS8.setZ hnlb hnb0 hq4 (z q ++ t)
              clear hc t8 t71 hS hS1 h8 hS8 hle
              go_wp2
              go_roundw
              case rel => exact ⟨k + 1, _, la, by go_num, by omega, HS.out, HL, hu'⟩
              case measure => simp [intOf]; omega
            · clear c0 c1 c2 c3
              go_wp2_with fail
              refine (file_k hq4 _).mono ?_
              rintro y w71 ⟨rfl, t71⟩
              have hS1 := hS.no t71
              have hc := sync_f b _ _ w71 (fileB q) hS1.D
              rw [fileB_nm, l_sync hq4] at hc
              go_wp2_with fail
              refine hc.mono ?_
              rintro y w8 ⟨rfl, h8, t8⟩
              have hS8 := hS1.op h8 t8
              have zq := hS8.Z.cell hq4
              have lq := hS8.L.cell hq4
              have lf := hS8.L.fz q
              have HL : Hid (LE4 z (upd la q (z q).size)) := hle.out.updL q _ (Nat.le_refl _)
              have HS : Hid (LS w b nb lb _ _ _ _) := hS8.setL (v := ((z q).size : Int)) hnlb hlb0 hq4 rfl
              clear hc t8 t71 hS hS1 h8 hS8 hle
              go_wp2
              go_roundw
              case rel => exact ⟨k + 1, z, _, by go_num, by omega, HS.out, HL, by omega⟩
              case measure => simp [intOf]; omega
            · have zq := hS.Z.cell hq4
              have hpk : ∀ W, Calls Try.prog 8 #[.int .i64 nn, .int .i64 (((z q).size : Int) + 1)] W fun x w' => x = .returned (.int .i64 (pk nn (((z q).size : Int) + 1))) ∧ w' = W := fun W => pick_any nn _ W bn.1 bn.2 (by omega) (by omega)
              have hrn := pk_rng nn (((z q).size : Int) + 1) (by omega)
              obtain ⟨x, hx⟩ : ∃ x : Nat, pk nn (((z q).size : Int) + 1) = x := ⟨(pk nn (((z q).size : Int) + 1)).toNat, by omega⟩
              rw [hx] at hrn hpk
              have hxl : x ≤ (z q).size := by omega
              clear hx hrn
              have HP : Hid (∀ m, LS w b nb lb (w7.drewN m) (D4 100000 (fz z la)) z la) := fun m => hS.no ((Tch.refl _ _).drewN m)
              clear hS
              go_wp2_with fail
              go_quiet ((go_at_call 8; exact Calls.quiet_of_same (hpk _)))
              go_wp2_with fail
              refine (file_k hq4 _).mono ?_
              rintro y w71 ⟨rfl, t71⟩
              have hS1 := (HP.out _).no t71
              have hc := trunc_f b _ _ w71 (fileB q) x hS1.D
              rw [fileB_nm, l_trunc hq4 hxl] at hc
              go_wp2_with fail
              refine hc.mono ?_
              rintro y w8 ⟨rfl, h8, t8⟩
              have hS8 := hS1.op h8 t8
              have zq := hS8.Z.cell hq4
              have zf := hS8.Z.fz q
              have lq := hS8.L.cell hq4
              have lf := hS8.L.fz q
              have hu' : Z4 (upd z q (cut (z q) x)) ≤ 100 * (k + 1) := by rw [Z4_upd z hq4, cut_size _ hxl]; omega
              have HL : Hid (LE4 (upd z q (cut (z q) x)) (upd la q (min (la q) x))) := hle.out.upd q _ _ (by rw [cut_size _ hxl]; omega)
              have S1 := hS8.setZ hnlb hnb0 hq4 (cut (z q) x)
              have hct := cut_ext (z q) x
              have hnlb' : lb ≠ nb := Ne.symm hnlb
              clear hc t8 t71 h8 hS8 hle HP hpk c0 c1 c2 c3 hS1
              by_cases hx2 : (x : Int) < la q
              · have HS : Hid (LS w b nb lb _ _ _ _) := S1.setL (v := (x : Int)) (l := min (la q) x) hnlb hlb0 hq4 (by omega)
                clear S1
                go_wp2
                go_roundw
                case rel => exact ⟨k + 1, _, _, by go_num, by omega, HS.out, HL, hu'⟩
                case measure => simp [intOf]; omega
              · have HS : Hid (LS w b nb lb (w8.setCell ⟨nb, q, none⟩ (.string (cut (z q) x))) (D4 100000 (fz (upd z q (cut (z q) x)) (upd la q (min (la q) x)))) (upd z q (cut (z q) x)) (upd la q (min (la q) x))) := by
                  have e : upd la q (min (la q) x) = la := by rw [show min (la q) x = la q by omega, upd_self]
                  rw [e] at S1 ⊢
                  exact S1
                clear S1
                go_wp2
                go_roundw
                case rel => exact ⟨k + 1, _, _, by go_num, by omega, HS.out, HL, hu'⟩
                case measure => simp [intOf]; omega
            · clear c0 c1 c2 c3
              go_wp2_with fail
              refine (file_k hq4 _).mono ?_
              rintro y w71 ⟨rfl, t71⟩
              have hS1 := hS.no t71
              have hc := remove_f b _ _ w71 (fileB q) hS1.D
              rw [fileB_nm, d4_remove _ _ hq4] at hc
              go_wp2_with fail
              refine hc.mono ?_
              rintro y w72 ⟨rfl, h72, t72⟩
              have hS2 := hS1.op h72 t72
              clear hc hS1 t71 t72 h72
              go_wp2_with fail
              refine (file_k hq4 _).mono ?_
              rintro y w73 ⟨rfl, t73⟩
              have hS3 := hS2.no t73
              have hl4 : (delL (nmF q) (fourL (fz z la))).length < maxLen := by have := length_delL_le (nmF q) (fourL (fz z la)); have h4 : (fourL (fz z la)).length = 4 := rfl; unfold maxLen; omega
              have hc := create_f b _ _ w73 (fileB q) hS3.D hl4
              rw [fileB_nm, l_again hq4] at hc
              go_wp2_with fail
              refine hc.mono ?_
              rintro y w8 ⟨rfl, h8, t8⟩
              have hS8 := hS3.op h8 t8
              have zq := hS8.Z.cell hq4
              have zf := hS8.Z.fz q
              have lq := hS8.L.cell hq4
              have lf := hS8.L.fz q
              have hnlb' : lb ≠ nb := Ne.symm hnlb
              have hu' : Z4 (upd z q ⟨#[]⟩) ≤ 100 * (k + 1) := by rw [Z4_upd z hq4]; show _ - _ + 0 ≤ _; omega
              have HL : Hid (LE4 (upd z q ⟨#[]⟩) (upd la q 0)) := hle.out.upd q _ _ (Nat.zero_le _)
              have HS : Hid (LS w b nb lb _ _ _ _) := (hS8.setZ hnlb hnb0 hq4 ⟨#[]⟩).setL (v := 0) (l := 0) hnlb hlb0 hq4 rfl
              clear hc t8 hS hS2 hS3 h8 hS8 hle hl4 t73
              go_wp2
              go_roundw
              case rel => exact ⟨k + 1, _, _, by go_num, by omega, HS.out, HL, hu'⟩
              case measure => simp [intOf]; omega
            · go_wp2_with fail
              refine (pick_any nn 4 _ bn.1 bn.2 (by omega) (by omega)).mono ?_
              rintro y w70 ⟨rfl, hw70⟩
              subst hw70
              have hrn := pk_rng nn 4 (by omega)
              obtain ⟨j, hj⟩ : ∃ j : Nat, pk nn 4 = j := ⟨(pk nn 4).toNat, by omega⟩
              rw [hj] at hrn ⊢
              have hj4 : j < 4 := by omega
              clear hj hrn c0 c1 c2 c3
              by_cases hqj : q = j
              · subst hqj
                have HS : Hid (LS w b nb lb _ _ _ _) := hS
                clear hS
                go_wp2
                go_roundw
                case rel => exact ⟨k + 1, _, _, by go_num, by omega, HS.out, hle, by omega⟩
                case measure => simp [intOf]; omega
              · have hjq : ¬ (j : Int) = (q : Int) := by omega
                have hjqb : ((j : Int) != (q : Int)) = true := by simpa using hjq
                go_wp2_with fail
                refine (file_k hq4 _).mono ?_
                rintro y w71 ⟨rfl, t71⟩
                go_wp2_with fail
                refine (file_k hj4 _).mono ?_
                rintro y w72 ⟨rfl, t72⟩
                have hS2 := (hS.no t71).no t72
                have hc := rename_f b _ _ w72 (fileB q) (fileB j) hS2.D
                rw [fileB_nm, fileB_nm, d4_rename _ _ hq4 hj4 hqj] at hc
                go_wp2_with fail
                refine hc.mono ?_
                rintro y w73 ⟨rfl, h73, t73⟩
                have hS3 := hS2.op h73 t73
                clear hc hS2 t71 t72 h73 t73
                go_wp2_with fail
                refine (file_k hq4 _).mono ?_
                rintro y w74 ⟨rfl, t74⟩
                have hS4 := hS3.no t74
                have hl4 : (putL (nmF j) (fz z la q) (delL (nmF q) (delL (nmF j) (fourL (fz z la))))).length < maxLen := by
                  have h1 := length_putL_le (nmF j) (fz z la q) (delL (nmF q) (delL (nmF j) (fourL (fz z la))))
                  have h2 := length_delL_le (nmF q) (delL (nmF j) (fourL (fz z la)))
                  have h3 := length_delL_le (nmF j) (fourL (fz z la))
                  have h4 : (fourL (fz z la)).length = 4 := rfl
                  unfold maxLen; omega
                have hc := create_f b _ _ w74 (fileB q) hS4.D hl4
                rw [fileB_nm, l_anew hq4 hj4 hqj] at hc
                go_wp2_with fail
                refine hc.mono ?_
                rintro y w8 ⟨rfl, h8, t8⟩
                have hS8 := hS4.op h8 t8
                have zq := hS8.Z.cell hq4
                have zf := hS8.Z.fz q
                have lq := hS8.L.cell hq4
                have lf := hS8.L.fz q
                have zj := hS8.Z.cell hj4
                have zg := hS8.Z.fz j
                have lj := hS8.L.cell hj4
                have lg := hS8.L.fz j
                have hnlb' : lb ≠ nb := Ne.symm hnlb
                have hu' : Z4 (upd (upd z j (z q)) q ⟨#[]⟩) ≤ 100 * (k + 1) := by
                  rw [Z4_upd _ hq4, Z4_upd z hj4, upd_other _ _ hqj]
                  have := Z4_two z hq4 hj4 hqj
                  show _ - _ + 0 ≤ _
                  omega
                have HL : Hid (LE4 (upd (upd z j (z q)) q ⟨#[]⟩) (upd (upd la j (la q)) q 0)) := (hle.out.upd j _ _ (hle.out q hq4)).upd q _ _ (Nat.zero_le _)
                have HS : Hid (LS w b nb lb _ _ _ _) := (((hS8.setZ hnlb hnb0 hj4 (z q)).setL (v := (la q : Int)) (l := la q) hnlb hlb0 hj4 rfl).setZ hnlb hnb0 hq4 ⟨#[]⟩).setL (v := 0) (l := 0) hnlb hlb0 hq4 rfl
                clear hc t8 hS hS3 hS4 h8 hS8 hle hl4 t74
                go_wp2
                go_roundw
                case rel => exact ⟨k + 1, _, _, by go_num, by omega, HS.out, HL, hu'⟩
                case measure => simp [intOf]; omega
          · as_aux_lemma =>
            have htl : s.size ≤ 100 := by omega
            go_wp2_with fail
            obtain ⟨t, ht⟩ : ∃ t, t = s := ⟨_, rfl⟩
            rw [← ht] at htl ⊢
            clear ht h100
            refine (pick_any kd 5 _ bk.1 bk.2 (by omega) (by omega)).mono ?_
            rintro x w7 ⟨rfl, hw7⟩
            subst hw7
            have hr5 := pk_rng kd 5 (by omega)
            obtain ⟨dk, hdk⟩ : ∃ dk, dk = pk kd 5 := ⟨_, rfl⟩
            rw [← hdk] at hr5 ⊢
            have hk5 : dk = 0 ∨ dk = 1 ∨ dk = 2 ∨ dk = 3 ∨ dk = 4 := by omega
            clear hdk hr5 bk
            rcases hk5 with rfl | rfl | rfl | rfl | rfl
            · clear c0 c1 c2 c3
              go_wp2_with fail
              refine (file_k hq4 _).mono ?_
              rintro y w71 ⟨rfl, t71⟩
              have hS1 := hS.no t71
              have hc := append_f b _ _ w71 (fileB q) t hS1.D
              rw [fileB_nm, l_append hq4 (by omega)] at hc
              go_wp2_with fail
              refine hc.mono ?_
              rintro y w8 ⟨rfl, h8, t8⟩
              have hS8 := hS1.op h8 t8
              have zq := hS8.Z.cell hq4
              have zf := hS8.Z.fz q
              have hadd : (z q).size + t.size ≤ 9223372036854775807 := by omega
              have hu' : Z4 (upd z q (z q ++ t)) ≤ 100 * (k + 1) := by rw [Z4_upd z hq4, ByteArray.size_append]; omega
              have HL : Hid (LE4 (upd z q (z q ++ t)) la) := hle.out.updZ q _ (by rw [ByteArray.size_append]; have := hle.out q hq4; omega)
              have HS : Hid (LS w b nb lb _ _ _ _) := hS8.setZ hnlb hnb0 hq4 (z q ++ t)
              clear hc t8 t71 hS hS1 h8 hS8 hle
              go_wp2
              go_roundw
              case rel => exact ⟨k + 1, _, la, by go_num, by omega, HS.out, HL, hu'⟩
              case measure => simp [intOf]; omega
            · clear c0 c1 c2 c3
              go_wp2_with fail
              refine (file_k hq4 _).mono ?_
              rintro y w71 ⟨rfl, t71⟩
              have hS1 := hS.no t71
              have hc := sync_f b _ _ w71 (fileB q) hS1.D
              rw [fileB_nm, l_sync hq4] at hc
              go_wp2_with fail
              refine hc.mono ?_
              rintro y w8 ⟨rfl, h8, t8⟩
              have hS8 := hS1.op h8 t8
              have zq := hS8.Z.cell hq4
              have lq := hS8.L.cell hq4
              have lf := hS8.L.fz q
              have HL : Hid (LE4 z (upd la q (z q).size)) := hle.out.updL q _ (Nat.le_refl _)
              have HS : Hid (LS w b nb lb _ _ _ _) := hS8.setL (v := ((z q).size : Int)) hnlb hlb0 hq4 rfl
              clear hc t8 t71 hS hS1 h8 hS8 hle
              go_wp2
              go_roundw
              case rel => exact ⟨k + 1, z, _, by go_num, by omega, HS.out, HL, by omega⟩
              case measure => simp [intOf]; omega
            · have zq := hS.Z.cell hq4
              have hpk : ∀ W, Calls Try.prog 8 #[.int .i64 nn, .int .i64 (((z q).size : Int) + 1)] W fun x w' => x = .returned (.int .i64 (pk nn (((z q).size : Int) + 1))) ∧ w' = W := fun W => pick_any nn _ W bn.1 bn.2 (by omega) (by omega)
              have hrn := pk_rng nn (((z q).size : Int) + 1) (by omega)
              obtain ⟨x, hx⟩ : ∃ x : Nat, pk nn (((z q).size : Int) + 1) = x := ⟨(pk nn (((z q).size : Int) + 1)).toNat, by omega⟩
              rw [hx] at hrn hpk
              have hxl : x ≤ (z q).size := by omega
              clear hx hrn
              have HP : Hid (∀ m, LS w b nb lb (w7.drewN m) (D4 100000 (fz z la)) z la) := fun m => hS.no ((Tch.refl _ _).drewN m)
              clear hS
              go_wp2_with fail
              go_quiet ((go_at_call 8; exact Calls.quiet_of_same (hpk _)))
              go_wp2_with fail
              refine (file_k hq4 _).mono ?_
              rintro y w71 ⟨rfl, t71⟩
              have hS1 := (HP.out _).no t71
              have hc := trunc_f b _ _ w71 (fileB q) x hS1.D
              rw [fileB_nm, l_trunc hq4 hxl] at hc
              go_wp2_with fail
              refine hc.mono ?_
              rintro y w8 ⟨rfl, h8, t8⟩
              have hS8 := hS1.op h8 t8
              have zq := hS8.Z.cell hq4
              have zf := hS8.Z.fz q
              have lq := hS8.L.cell hq4
              have lf := hS8.L.fz q
              have hu' : Z4 (upd z q (cut (z q) x)) ≤ 100 * (k + 1) := by rw [Z4_upd z hq4, cut_size _ hxl]; omega
              have HL : Hid (LE4 (upd z q (cut (z q) x)) (upd la q (min (la q) x))) := hle.out.upd q _ _ (by rw [cut_size _ hxl]; omega)
              have S1 := hS8.setZ hnlb hnb0 hq4 (cut (z q) x)
              have hct := cut_ext (z q) x
              have hnlb' : lb ≠ nb := Ne.symm hnlb
              clear hc t8 t71 h8 hS8 hle HP hpk c0 c1 c2 c3 hS1
              by_cases hx2 : (x : Int) < la q
              · have HS : Hid (LS w b nb lb _ _ _ _) := S1.setL (v := (x : Int)) (l := min (la q) x) hnlb hlb0 hq4 (by omega)
                clear S1
                go_wp2
                go_roundw
                case rel => exact ⟨k + 1, _, _, by go_num, by omega, HS.out, HL, hu'⟩
                case measure => simp [intOf]; omega
              · have HS : Hid (LS w b nb lb (w8.setCell ⟨nb, q, none⟩ (.string (cut (z q) x))) (D4 100000 (fz (upd z q (cut (z q) x)) (upd la q (min (la q) x)))) (upd z q (cut (z q) x)) (upd la q (min (la q) x))) := by
                  have e : upd la q (min (la q) x) = la := by rw [show min (la q) x = la q by omega, upd_self]
                  rw [e] at S1 ⊢
                  exact S1
                clear S1
                go_wp2
                go_roundw
                case rel => exact ⟨k + 1, _, _, by go_num, by omega, HS.out, HL, hu'⟩
                case measure => simp [intOf]; omega
            · clear c0 c1 c2 c3
              go_wp2_with fail
              refine (file_k hq4 _).mono ?_
              rintro y w71 ⟨rfl, t71⟩
              have hS1 := hS.no t71
              have hc := remove_f b _ _ w71 (fileB q) hS1.D
              rw [fileB_nm, d4_remove _ _ hq4] at hc
              go_wp2_with fail
              refine hc.mono ?_
              rintro y w72 ⟨rfl, h72, t72⟩
              have hS2 := hS1.op h72 t72
              clear hc hS1 t71 t72 h72
              go_wp2_with fail
              refine (file_k hq4 _).mono ?_
              rintro y w73 ⟨rfl, t73⟩
              have hS3 := hS2.no t73
              have hl4 : (delL (nmF q) (fourL (fz z la))).length < maxLen := by have := length_delL_le (nmF q) (fourL (fz z la)); have h4 : (fourL (fz z la)).length = 4 := rfl; unfold maxLen; omega
              have hc := create_f b _ _ w73 (fileB q) hS3.D hl4
              rw [fileB_nm, l_again hq4] at hc
              go_wp2_with fail
              refine hc.mono ?_
              rintro y w8 ⟨rfl, h8, t8⟩
              have hS8 := hS3.op h8 t8
              have zq := hS8.Z.cell hq4
              have zf := hS8.Z.fz q
              have lq := hS8.L.cell hq4
              have lf := hS8.L.fz q
              have hnlb' : lb ≠ nb := Ne.symm hnlb
              have hu' : Z4 (upd z q ⟨#[]⟩) ≤ 100 * (k + 1) := by rw [Z4_upd z hq4]; show _ - _ + 0 ≤ _; omega
              have HL : Hid (LE4 (upd z q ⟨#[]⟩) (upd la q 0)) := hle.out.upd q _ _ (Nat.zero_le _)
              have HS : Hid (LS w b nb lb _ _ _ _) := (hS8.setZ hnlb hnb0 hq4 ⟨#[]⟩).setL (v := 0) (l := 0) hnlb hlb0 hq4 rfl
              clear hc t8 hS hS2 hS3 h8 hS8 hle hl4 t73
              go_wp2
              go_roundw
              case rel => exact ⟨k + 1, _, _, by go_num, by omega, HS.out, HL, hu'⟩
              case measure => simp [intOf]; omega
            · go_wp2_with fail
              refine (pick_any nn 4 _ bn.1 bn.2 (by omega) (by omega)).mono ?_
              rintro y w70 ⟨rfl, hw70⟩
              subst hw70
              have hrn := pk_rng nn 4 (by omega)
              obtain ⟨j, hj⟩ : ∃ j : Nat, pk nn 4 = j := ⟨(pk nn 4).toNat, by omega⟩
              rw [hj] at hrn ⊢
              have hj4 : j < 4 := by omega
              clear hj hrn c0 c1 c2 c3
              by_cases hqj : q = j
              · subst hqj
                have HS : Hid (LS w b nb lb _ _ _ _) := hS
                clear hS
                go_wp2
                go_roundw
                case rel => exact ⟨k + 1, _, _, by go_num, by omega, HS.out, hle, by omega⟩
                case measure => simp [intOf]; omega
              · have hjq : ¬ (j : Int) = (q : Int) := by omega
                have hjqb : ((j : Int) != (q : Int)) = true := by simpa using hjq
                go_wp2_with fail
                refine (file_k hq4 _).mono ?_
                rintro y w71 ⟨rfl, t71⟩
                go_wp2_with fail
                refine (file_k hj4 _).mono ?_
                rintro y w72 ⟨rfl, t72⟩
                have hS2 := (hS.no t71).no t72
                have hc := rename_f b _ _ w72 (fileB q) (fileB j) hS2.D
                rw [fileB_nm, fileB_nm, d4_rename _ _ hq4 hj4 hqj] at hc
                go_wp2_with fail
                refine hc.mono ?_
                rintro y w73 ⟨rfl, h73, t73⟩
                have hS3 := hS2.op h73 t73
                clear hc hS2 t71 t72 h73 t73
                go_wp2_with fail
                refine (file_k hq4 _).mono ?_
                rintro y w74 ⟨rfl, t74⟩
                have hS4 := hS3.no t74
                have hl4 : (putL (nmF j) (fz z la q) (delL (nmF q) (delL (nmF j) (fourL (fz z la))))).length < maxLen := by
                  have h1 := length_putL_le (nmF j) (fz z la q) (delL (nmF q) (delL (nmF j) (fourL (fz z la))))
                  have h2 := length_delL_le (nmF q) (delL (nmF j) (fourL (fz z la)))
                  have h3 := length_delL_le (nmF j) (fourL (fz z la))
                  have h4 : (fourL (fz z la)).length = 4 := rfl
                  unfold maxLen; omega
                have hc := create_f b _ _ w74 (fileB q) hS4.D hl4
                rw [fileB_nm, l_anew hq4 hj4 hqj] at hc
                go_wp2_with fail
                refine hc.mono ?_
                rintro y w8 ⟨rfl, h8, t8⟩
                have hS8 := hS4.op h8 t8
                have zq := hS8.Z.cell hq4
                have zf := hS8.Z.fz q
                have lq := hS8.L.cell hq4
                have lf := hS8.L.fz q
                have zj := hS8.Z.cell hj4
                have zg := hS8.Z.fz j
                have lj := hS8.L.cell hj4
                have lg := hS8.L.fz j
                have hnlb' : lb ≠ nb := Ne.symm hnlb
                have hu' : Z4 (upd (upd z j (z q)) q ⟨#[]⟩) ≤ 100 * (k + 1) := by
                  rw [Z4_upd _ hq4, Z4_upd z hj4, upd_other _ _ hqj]
                  have := Z4_two z hq4 hj4 hqj
                  show _ - _ + 0 ≤ _
                  omega
                have HL : Hid (LE4 (upd (upd z j (z q)) q ⟨#[]⟩) (upd (upd la j (la q)) q 0)) := (hle.out.upd j _ _ (hle.out q hq4)).upd q _ _ (Nat.zero_le _)
                have HS : Hid (LS w b nb lb _ _ _ _) := (((hS8.setZ hnlb hnb0 hj4 (z q)).setL (v := (la q : Int)) (l := la q) hnlb hlb0 hj4 rfl).setZ hnlb hnb0 hq4 ⟨#[]⟩).setL (v := 0) (l := 0) hnlb hlb0 hq4 rfl
                clear hc t8 hS hS3 hS4 h8 hS8 hle hl4 t74
                go_wp2
                go_roundw
                case rel => exact ⟨k + 1, _, _, by go_num, by omega, HS.out, HL, hu'⟩
                case measure => simp [intOf]; omega
        · have hend : ¬ (k : Int) < len ∨ (k : Int) < len ∧ ¬ (k : Int) < 200 := by omega
          rcases hend with hend | ⟨hend, hend2⟩
          · go_wp2
            go_meet
            exact ⟨z, la, hS, hle, by omega⟩
          · go_wp2
            go_meet
            exact ⟨z, la, hS, hle, by omega⟩
  case rest =>
    as_aux_lemma =>
      clear hS
      obtain ⟨z, la, hS, HLE, hz4⟩ := hcut
      obtain ⟨σ, hK0, hF0⟩ := hS.D
      have hfi := files_any b _ σ wc hK0 (by show (4 : Nat) * 32 ≤ _; omega)
      rw [show (D4 100000 (fz z la)).m.length = 4 from rfl] at hfi
      clear hK0 hF0 σ
      go_wp2_with fail
      refine hfi.mono ?_
      rintro x w9 ⟨sb, rfl, hO, hsb, t9⟩
      have hS9 := hS.no t9
      have hlbw := blk_lt hS.L
      have hnbw := blk_lt hS.Z
      have hsbl := blk_lt hO.blk.choose_spec.1
      have hFL : FLs w9 (some ⟨sb, 0, none⟩) 4 (fun i => fileB i) (fun i => cut (z i) (la i)) := fun i hi => by
        obtain ⟨g1, g2⟩ := hO.got i hi
        rw [nmAt4 _ _ hi] at g1
        rw [bsAt4 _ _ _ hi] at g2
        exact ⟨sb, 0, rfl, by simpa using g1, by simpa using g2⟩
      have hlo := load_any 100000 (some ⟨sb, 0, none⟩) 4 4 (fun i => fileB i) (fun i => cut (z i) (la i)) w9 (by omega) (by omega) hFL (by decide)
      clear hfi
      go_wp2_with fail
      refine hlo.mono ?_
      rintro x w10 ⟨hx, t10⟩
      rcases hx with ⟨e, he, _⟩ | ⟨_, cb, rfl, hC⟩
      · exact (loads4 _ _ (fun _ _ => rfl) (Nat.le_trans (Z4_cut HLE.out) (by omega)) he).elim
      rw [mk3_four _ _ _ (fun _ _ => rfl)] at hC
      have hS10 := hS9.no t10
      have HW : Hid (∀ W, Tch (fun i => i = lb) w10 W → DF W b (D4 100000 (fz z la)) (fun i => i < w.heap.size ∨ i = nb ∨ i = lb) ∧ DF W cb (D4 100000 (fz (fun i => cut (z i) (la i)) (fun i => (cut (z i) (la i)).size))) (fun i => i < w9.heap.size) ∧ Txt4 W nb z ∧ (∀ i, i < 4 → W.cell? ⟨sb, i * 2, none⟩ = some (.string (fileB i)) ∧ W.cell? ⟨sb, i * 2 + 1, none⟩ = some (.string (cut (z i) (la i)))) ∧ Tch (fun _ => False) w W) := fun W t => by
        refine ⟨hS10.D.tch t (fun i _ hi => Or.inr (Or.inr hi)), hC.tch t (fun i _ hi => ?_), hS10.Z.tch t hnlb, fun i hi => ?_, hS10.T.trans t (fun i hi e => by omega)⟩
        · have := t9.size
          show i < w9.heap.size
          omega
        · obtain ⟨_, _, he, h1, h2⟩ := hFL.no t10 i hi
          simp only [Option.some.injEq, Addr.mk.injEq, and_true] at he
          obtain ⟨rfl, rfl⟩ := he
          simp only [Nat.zero_add] at h1 h2
          have hne : ¬ sb = lb := by omega
          exact ⟨(t.cell (p := ⟨sb, _, none⟩) (cell_lt h1) hne).trans h1, (t.cell (p := ⟨sb, _, none⟩) (cell_lt h2) hne).trans h2⟩
      have R0 : R2 w10 lb la (knOf kz z la) kl 0 (.slice none 0 0) w10 := by
        refine ⟨Tch.refl _ _, ?_, ?_⟩
        · rw [l2_0]; exact hS10.L
        · rw [show min 0 kl = 0 by omega]; exact World.ownsRow_nil _ _ _ _
      have hlb10 : lb < w10.heap.size := by have := t9.size; have := t10.size; omega
      clear hlo hFL hC hS10 hS9 hS hO t9 t10 hsb hlbw hnbw hsbl
      go_wp2_with fail
      go_loopw [19, 20] (fun l i wr => ∃ k : Nat, i = .int .i64 k ∧ k ≤ 4 ∧ R2 w10 lb la (knOf kz z la) kl k l wr) (fun _ i _ => 4 - (intOf i).toNat)
      case atStart => exact ⟨0, rfl, by omega, R0⟩
      case round =>
        clear R0
        obtain ⟨k, rfl, hk, hR⟩ := hrel
        obtain ⟨lo, lc, hlv⟩ := slice_ofN hR.own
        subst hlv
        by_cases hlt : (k : Int) < 4
        · have hk4 : k < 4 := by omega
          have hzk := Z4_ge z hk4
          have hlek := HLE.out k hk4
          obtain ⟨p, hp⟩ : ∃ p : Nat, p = (z k).size - la k := ⟨_, rfl⟩
          have hpi : ((z k).size : Int) - (la k : Int) = (p : Int) := by omega
          have hpb : p ≤ 20000 := by omega
          have hpk := kn_pk kz HLE.out hk4
          rw [hpi] at hpk
          go_wp2_with fail
          refine (file_k hk4 _).mono ?_
          rintro x w11 ⟨rfl, t11⟩
          have hR1 := hR.no t11
          have hw1 := whole_f b 100000 z la _ hk4 w11 (HW.out _ hR1.T).1 (by omega)
          go_wp2_with fail
          refine hw1.mono ?_
          rintro x w12 ⟨rfl, hw12⟩
          subst hw12
          clear hw1 t11 hR
          go_wp2_with fail
          refine (file_k hk4 _).mono ?_
          rintro x w13 ⟨rfl, t13⟩
          have hR2 := hR1.no t13
          have hw2 := whole_f cb 100000 _ _ _ hk4 w13 (HW.out _ hR2.T).2.1 (by rw [cut_size _ hlek]; omega)
          go_wp2_with fail
          refine hw2.mono ?_
          rintro x w14 ⟨rfl, hw14⟩
          subst hw14
          clear hw2 t13 hR1
          go_wp2_with fail
          refine (file_k hk4 _).mono ?_
          rintro x w15 ⟨rfl, t15⟩
          have hR3 := hR2.no t15
          have hpe := pending_f b _ _ w15 (fileB k) (HW.out _ hR3.T).1 (by rcases lt4 hk4 with rfl | rfl | rfl | rfl <;> decide)
          rw [fileB_nm, pend4 _ _ _ hk4, ← hp] at hpe
          clear hp
          go_wp2_with fail
          refine hpe.mono ?_
          rintro x w16 ⟨rfl, m16, hw16⟩
          have hR4 : R2 w10 lb la (knOf kz z la) kl k (.slice lo (min k kl) lc) w16 := by rw [hw16]; exact hR3.no ((Tch.refl _ _).drewN m16)
          clear hpe t15 hR2 hR3 hw16
          obtain ⟨_, _, hZ, hout, hTw⟩ := HW.out _ hR4.T
          have zk := cell_regrown (hZ.cell hk4)
          have lk : w16.cell? ⟨lb, k, none⟩ = some (.int .i64 (la k)) := by have := hR4.L.cell hk4; rw [l2_at] at this; exact this
          have lk' := cell_regrown lk
          obtain ⟨o0, o1⟩ := hout k hk4
          have o0' := cell_regrown o0
          have o1' := cell_regrown o1
          have hct := cut_ext (z k) (la k)
          have cF : ∀ d os, Calls Try.prog 23 #[.int .i64 (k : Int)] (grow (redrawn w16 d) os) fun e w'' => e = .returned (.string (fileB k)) ∧ ∃ p : Regrown, w'' = grow (redrawn w16 p.d) p.os := fun d os => Calls.tch_regrown_of (file_k hk4 _)
          clear hZ hout hTw lk o0 o1
          go_wp2_with fail
          refine wp_region_quiet_below (by kernel_rfl) (by kernel_rfl) ?_
          repeat (first | go_big_quiet_step ((go_at_call 23; exact cF _ _)) | quiet_step ((go_at_call 23; exact cF _ _)))
          refine wpQuiet_nil ?_
          rintro w17 ⟨pp, rfl⟩
          have tG := tch_regrown w16 pp
          obtain ⟨W, hW⟩ : ∃ W, W = grow (redrawn w16 pp.d) pp.os := ⟨_, rfl⟩
          rw [← hW] at tG ⊢
          clear hW
          have hR5 := hR4.no tG
          have hTw := (HW.out _ hR5.T).2.2.2.2
          clear zk lk' o0' o1' cF hct hR4 tG
          by_cases hkk : (k : Int) < kl
          · obtain ⟨ib, io, hko, hic, hi1, hi2⟩ := HI.out W hTw k (by omega)
            subst hko
            obtain ⟨hpk1, hpk2⟩ := hpk
            go_wp2_with fail
            refine (pick_any (kz k) ((p : Int) + 1) _ hi1 hi2 (by omega) (by omega)).mono ?_
            rintro x w18 ⟨rfl, hw18⟩
            subst hw18
            rw [hpk1]
            clear hpk1 hic
            go_wp2_with fail
            refine (file_k hk4 _).mono ?_
            rintro x w19 ⟨rfl, t19⟩
            have hR6 := hR5.no t19
            obtain ⟨i0, hi0, hz0, hz1, hz2⟩ := info_parts info_keep
            clear t19 hR5 hTw
            go_wp2_with (first | (at_builtin; refine wpList_append_own _ rfl _ _ 64 rfl w10.heap.size 68 i0 (.agg #[.string ⟨#[]⟩, .int .i64 0]) 2 24 Try.underlying64 hi0 hz0 hz1 hz2 rfl (by decide) _ _ _ rfl (hR6.own.alloc _) ⟨w19.heap.size, 0, none⟩ 1 1 [.string (fileB k), .int .i64 (knOf kz z la k : Nat)] rfl rfl (cell_two_new _ _ _ _) (fun x hx => by simp at hx; rcases hx with rfl | rfl <;> rfl) (by unfold maxLen; omega) (by omega) (by have := hR6.lt; simp; omega) ?_; intro v' w20 hown' hgrow _; obtain ⟨⟨lk2, lf2⟩, hR7⟩ := hR6.step hlb10 (by omega) hk4 hown' hgrow; have HR7 : Hid _ := hR7; clear hown' hgrow hR7 hR6) | fail)
            go_roundw
            case rel => exact ⟨k + 1, by go_num, by omega, HR7.out⟩
            case measure => simp [intOf]; omega
          · have HR7 : Hid _ := hR5.skip (by omega)
            clear hR5 hpk
            go_wp2
            go_roundw
            case rel => exact ⟨k + 1, by go_num, by omega, HR7.out⟩
            case measure => simp [intOf]; omega
        · obtain rfl : k = 4 := by omega
          obtain ⟨hD, _, hZ, _, hTw⟩ := HW.out _ hR.T
          have hKL := kls_of hR.own (fun i hi => by have := (kn_pk kz HLE.out (i := i) (by omega)).2; have := Z4_ge z (k := i) (by omega); omega)
          have hcr := crash_f b _ _ lo (min 4 kl) lc _ _ wr hD hKL (by omega)
          go_wp2_with fail
          refine hcr.mono ?_
          rintro x w21 ⟨hx, t21⟩
          rcases hx with ⟨e, he, _⟩ | ⟨_, rfl, hD21⟩
          · exact absurd (keep4 HLE.out kl) he.no.2
          rw [torn4] at hD21
          have hZ21 := hZ.tch t21 (fun hn => hn (Or.inr (Or.inl rfl)))
          have hL21 := hR.L.tch t21 (fun hn => hn (Or.inr (Or.inr rfl)))
          have T21 := hTw.trans t21 (fun i hi hn => hn (Or.inl hi))
          have HX : Hid (∀ W, Tch (fun _ => False) w21 W → DF W b (D4 100000 (fz (fun i => cut (z i) (l2 la (knOf kz z la) kl 4 i)) (l2 la (knOf kz z la) kl 4))) (fun i => i < w.heap.size ∨ i = nb ∨ i = lb) ∧ Txt4 W nb z ∧ Four4 W lb (fun i => (l2 la (knOf kz z la) kl 4 i : Int)) ∧ Tch (fun _ => False) w W) := fun W t =>
            ⟨hD21.no t, hZ21.tch t (fun h => h), hL21.tch t (fun h => h), T21.trans' t⟩
          clear hcr hKL hD hZ hTw t21 hD21 hZ21 hL21 T21 hR
          go_wp2_with fail
          go_loopw [28] (fun i wr => ∃ k : Nat, i = .int .i64 k ∧ k ≤ 4 ∧ Tch (fun _ => False) w21 wr) (fun i _ => 4 - (intOf i).toNat)
          case atStart => exact ⟨0, rfl, by omega, Tch.refl _ _⟩
          case round =>
            obtain ⟨k, rfl, hk', hT⟩ := hrel
            by_cases hlt : (k : Int) < 4
            · have hk4 : k < 4 := by omega
              have hzk := Z4_ge z hk4
              have hlk := l2_le (kz := kz) HLE.out kl hk4
              go_wp2_with fail
              refine (file_k hk4 _).mono ?_
              rintro x w22 ⟨rfl, t22⟩
              have T22 := hT.trans' t22
              obtain ⟨hD, hZ, hL, hTw⟩ := HX.out _ T22
              have hw1 := whole_f b 100000 _ _ _ hk4 w22 hD (by rw [cut_size _ hlk]; omega)
              go_wp2_with fail
              refine hw1.mono ?_
              rintro x w23 ⟨rfl, hw23⟩
              subst hw23
              have hpe : ∀ W, Tch (fun _ => False) w23 W → Calls Try.prog 21 #[.pointer (some ⟨b, 0, none⟩), .string (fileB k)] W fun x w' => x = .returned (.int .i64 0) ∧ Tch (fun _ => False) W w' := fun W t => by
                have h1 := pending_f b _ _ W (fileB k) (hD.no t) (by rcases lt4 hk4 with rfl | rfl | rfl | rfl <;> decide)
                rw [fileB_nm, pend4 _ _ _ hk4, cut_size _ hlk, Nat.sub_self] at h1
                exact h1.mono fun x w' ⟨hx, m, hm⟩ => ⟨hx, by rw [hm]; exact (Tch.refl _ _).drewN m⟩
              have cP : ∀ d os, Calls Try.prog 21 #[.pointer (some ⟨b, 0, none⟩), .string (fileB k)] (grow (redrawn w23 d) os) fun e w'' => e = .returned (.int .i64 0) ∧ ∃ p : Regrown, w'' = grow (redrawn w23 p.d) p.os := fun d os => Calls.tch_regrown_of (hpe _ (tch_regrown w23 ⟨d, os⟩))
              have cF : ∀ d os, Calls Try.prog 23 #[.int .i64 (k : Int)] (grow (redrawn w23 d) os) fun e w'' => e = .returned (.string (fileB k)) ∧ ∃ p : Regrown, w'' = grow (redrawn w23 p.d) p.os := fun d os => Calls.tch_regrown_of (file_k hk4 _)
              have zk := cell_regrown (hZ.cell hk4)
              have lk' := cell_regrown (hL.cell hk4)
              obtain ⟨lz, hlz⟩ : ∃ lz, lz = l2 la (knOf kz z la) kl 4 k := ⟨_, rfl⟩
              rw [← hlz] at hlk ⊢
              simp only [← hlz] at lk'
              have hct := cut_ext (z k) lz
              clear hlz hD hZ hL hTw hpe hw1 t22 hT
              go_wp2_with fail
              refine wp_region_quiet_below (by kernel_rfl) (by kernel_rfl) ?_
              repeat (first | go_big_quiet_step (first | (go_at_call 23; exact cF _ _) | (go_at_call 21; exact cP _ _)) | quiet_step (first | (go_at_call 23; exact cF _ _) | (go_at_call 21; exact cP _ _)))
              refine wpQuiet_nil ?_
              rintro w24 ⟨pp, rfl⟩
              have tG := T22.trans' (tch_regrown w23 pp)
              obtain ⟨W, hW⟩ : ∃ W, W = grow (redrawn w23 pp.d) pp.os := ⟨_, rfl⟩
              rw [← hW] at tG ⊢
              clear hW zk lk' cF cP hct T22
              go_wp2
              go_roundw
              case rel => exact ⟨k + 1, by go_num, by omega, tG⟩
              case measure => simp [intOf]; omega
            · have T9 := (HX.out _ hT).2.2.2
              go_wp2
              go_ret
              exact ⟨rfl, T9⟩
end Go.Proofs.Ytodkefbaandeiaa
