/- Keys, by the code and by the document. -/
import Derived.Test.YtnjbkkccofjmgaaDoorVKey0
import Derived.Test.YtnjbkkccofjmgaaDoorVPrint
namespace Go.Proofs.YtnjbkkccofjmgaaDoor
open Go.RowKit

theorem raised_any (u : Nat) (w : World) :
    Calls Tryd.prog 63 #[.int .u64 u] w fun x w' => x = .returned (.int .u64 (((u + 9223372036854775808) % 18446744073709551616 : Nat) : Int)) ∧ w' = w := by
  have e : IntKind.u64.wrap ((u : Int) + 9223372036854775808) = (((u + 9223372036854775808) % 18446744073709551616 : Nat) : Int) := by rw [IntKind.wrap_u64]; omega
  go_enter Tryd.func63, Tryd.ntmps63
  go_wp2
  go_ret
  exact ⟨by rw [← e]; rfl, rfl⟩

set_option maxHeartbeats 2000000 in
set_option maxRecDepth 100000 in
theorem keyOfInt_any (n : Int) (w : World) (h1 : -9223372036854775808 ≤ n) (h2 : n ≤ 9223372036854775807) :
    Calls Tryd.prog 31 #[.int .i64 n] w fun x w' => ∃ v, x = .returned v ∧ w'.ownsRow w.heap.size 5 1 v 9 (Lib.byteCells (3 :: be8 (n + 9223372036854775808).toNat)) ∧ Tch (fun _ => False) w w' := by
  obtain ⟨i0, hi, hz0, hz1, hz2⟩ := info_byte'
  obtain ⟨u, hu⟩ : ∃ u : Nat, (u : Int) = n % 18446744073709551616 := ⟨(n % 18446744073709551616).toNat, by omega⟩
  obtain ⟨U, hU⟩ : ∃ U : Nat, U = (n + 9223372036854775808).toNat := ⟨_, rfl⟩
  have hUu : (u + 9223372036854775808) % 18446744073709551616 = U := by omega
  have hU64 : U < 18446744073709551616 := by omega
  have hr := fun W => raised_any u W
  rw [hUu, hu] at hr
  rw [← hU]
  clear hU hUu hu
  go_enter Tryd.func31, Tryd.ntmps31
  go_wp2_with fail
  refine (hr _).mono ?_
  rintro x w1 ⟨rfl, rfl⟩
  clear hr
  go_wp2_with fail
  go_loopw [3, 10] (fun v i wr => ∃ (k : Nat) (bs : List UInt8), i = .int .i64 k ∧ k ≤ 8 ∧ Hid (bs = 3 :: (be8 U).take k) ∧ (bs.length ≤ k + 1 ∧ Hid (bs.length = k + 1)) ∧ wr.ownsRow w.heap.size 5 1 v bs.length (Lib.byteCells bs) ∧ Tch (fun i => w.heap.size ≤ i) w wr) (fun _ i _ => 8 - (intOf i).toNat)
  case atStart => exact ⟨0, [3], rfl, by omega, rfl, ⟨by decide, rfl⟩, own_new w [3] (by decide), Tch.alloc _ _ _⟩
  case round =>
    obtain ⟨k, bs, rfl, hk, HB, ⟨hbl, HBL⟩, hown, hT⟩ := hrel
    obtain ⟨ao, cp, hv⟩ := slice_of hown
    subst hv
    have HG : Hid (∀ g, (Value.slice ao bs.length cp).ownBlock = some g → w.heap.size ≤ g) := fun g hk => ownBlock_ge hown hk.symm
    have HO : Hid (∀ W, Tch (fun _ => False) wr W → W.ownsRow w.heap.size 5 1 (.slice ao bs.length cp) bs.length (Lib.byteCells bs)) := fun W t => ownsRow_tch hown t (fun _ _ _ h => h)
    have hwr := hT.size
    by_cases hlt : (k : Int) < 8
    · obtain ⟨b, hb⟩ : ∃ b, b = UInt8.ofNat (U / 256 ^ (7 - k) % 256) := ⟨_, rfl⟩
      have HE : Hid (3 :: (be8 U).take (k + 1) = bs ++ [b]) := by
        show _ = _
        rw [be8_take (by omega), HB.out, hb]; rfl
      have HV : Hid ((U : Int) / 2 ^ (8 * (7 - k)) % 256 = b.toNat) := by
        show _ = _
        have e1 : (2 : Nat) ^ (8 * (7 - k)) = 256 ^ (7 - k) := by rw [Nat.pow_mul]
        have e2 : (2 : Int) ^ (8 * (7 - k)) = ((256 ^ (7 - k) : Nat) : Int) := by rw [← e1]; simp
        have e3 : b.toNat = U / 256 ^ (7 - k) % 256 := by rw [hb]; simp
        rw [e2, e3]; simp
      clear hown hb
      go_wp2_with (at_builtin; refine wpList_append_own _ rfl _ _ 51 rfl w.heap.size 5 i0 (.int .u8 0) 1 1 Tryd.underlying51 hi hz0 hz1 hz2 rfl (by decide) (.slice ao bs.length cp) _ _ rfl (HO.out _ (Tch.alloc _ _ _)) ⟨wr.heap.size, 0, none⟩ 1 1 (Lib.byteCells [b]) rfl rfl (byteCells_get (fun j hj => by rcases j with _ | j <;> simp at hj ⊢; exact HV.out)) (Lib.byteCells_one _) (by unfold maxLen; omega) (by omega) (by simp; omega) ?_; intro v' w1 hown' hgr hnil; obtain ⟨ao', cp', hv'⟩ := slice_of hown'; subst hv'; clear hnil)
      refine ⟨⟨k + 1, bs ++ [b], by go_num, by omega, HE.out.symm, ⟨by simp; omega, by show _ = _; rw [List.length_append, HBL.out]; rfl⟩, by rw [Lib.byteCells_append, List.length_append]; exact hown', (hT.allocR _).trans' (grown_tch hgr HG.out)⟩, by simp [intOf]; omega⟩
    · obtain rfl : k = 8 := by omega
      have HE : Hid (bs = 3 :: be8 U) := by
        show _ = _
        rw [HB.out, List.take_of_length_le (by rw [show (be8 U).length = 8 from beN_len 8 U]; exact Nat.le_refl _)]
      go_wp2_with fail
      go_ret
      refine ⟨_, rfl, ?_, ge_new hT⟩
      rw [← HE.out]
      show wr.ownsRow _ _ _ (.slice ao bs.length cp) 9 _
      rw [HBL.out] at hown ⊢
      exact hown

theorem key_str {k n : Int} {s : ByteArray} (h : wrg ⟨k, n, s⟩ = 0) : keyP ⟨k, n, s⟩ = (key ⟨k, n, s⟩, 0) := by unfold keyP; rw [if_pos h]
theorem conv_new (w W : World) (bs : List UInt8) (hl : bs.length ≤ maxLen) (hW : W = w.alloc (.cells (Lib.byteCells bs).toArray 5)) : (convert 51 9 (.slice (some ⟨w.heap.size, 0, none⟩) bs.length bs.length)).run Tryd.prog W = .ok (.string ⟨bs.toArray⟩) W := by
  rw [hW]; exact conv_row (own_new w bs hl)
set_option maxHeartbeats 2000000 in
set_option maxRecDepth 100000 in
theorem key_any (k n : Int) (s : ByteArray) (w : World) (hi : (Val.mk k n s).i64) :
    Calls Tryd.prog 11 #[vA k n s] w fun x w' => x = .returned (.tuple #[.string ⟨(keyP ⟨k, n, s⟩).1.toArray⟩, .int .i64 (keyP ⟨k, n, s⟩).2]) ∧ Tch (fun _ => False) w w' := by
  obtain ⟨-, hi1, hi2⟩ := hi
  simp only at hi1 hi2
  have T0 : Tch (fun _ => False) w (w.alloc (.cells #[.int .i64 k, .int .i64 n, .string s] 23)) := Tch.alloc _ _ _
  by_cases hw : wrg ⟨k, n, s⟩ = 0
  · obtain ⟨hf, hs⟩ := wrg_zero hw
    rw [key_str hw]
    go_enter Tryd.func11, Tryd.ntmps11
    go_wp2_with fail
    refine (wrong_any k n s _).mono ?_
    rintro x w1 ⟨rfl, t1⟩
    obtain ⟨c0, c1, c2⟩ := box_tch t1
    have T1 := T0.trans' t1
    rw [hw]
    clear t1 T0
    unfold frm at hf
    simp only at hf hs
    rcases hf with ⟨rfl, rfl, -⟩ | ⟨rfl, -⟩ | ⟨rfl, rfl⟩ | ⟨rfl, -, hn⟩
    · have hcv : (convert 51 9 (.slice (some ⟨w1.heap.size, 0, none⟩) 1 1)).run Tryd.prog (w1.alloc (.cells #[.int .u8 1] 5)) = .ok (.string ⟨#[1]⟩) (w1.alloc (.cells #[.int .u8 1] 5)) := conv_new w1 _ [1] (by decide) rfl
      go_wp2_with fail
      go_ret2
      exact ⟨rfl, T1.allocR _⟩
    · go_wp2_with fail
      refine (keyOfInt_any n w1 hi1 hi2).mono ?_
      rintro x w2 ⟨v, rfl, hown, t2⟩
      obtain ⟨L, hL⟩ : ∃ L, L = 3 :: be8 (n + 9223372036854775808).toNat := ⟨_, rfl⟩
      have HK : Hid ((⟨(key ⟨1, n, s⟩).toArray⟩ : ByteArray) = ⟨L.toArray⟩) := by show _ = _; rw [hL]; simp [key]
      have hLl : L.length = 9 := by rw [hL, List.length_cons, show (be8 _).length = 8 from beN_len 8 _]
      have hcv := conv_row (bs := L) (by rw [hLl, hL]; exact hown)
      clear hL hown c0 c1 c2
      go_wp2_with fail
      go_ret2
      rw [HK.out]
      exact ⟨rfl, T1.trans' t2⟩
    · have HK : Hid ((⟨(key ⟨2, 0, s⟩).toArray⟩ : ByteArray) = ⟨#[4]⟩ ++ s) := by
        apply ByteArray.ext
        simp [key]
      have hcv : (convert 51 9 (.slice (some ⟨w1.heap.size, 0, none⟩) 1 1)).run Tryd.prog (w1.alloc (.cells #[.int .u8 4] 5)) = .ok (.string ⟨#[4]⟩) (w1.alloc (.cells #[.int .u8 4] 5)) := conv_new w1 _ [4] (by decide) rfl
      have n1 : ¬ 9223372036854775807 < (⟨#[4]⟩ : ByteArray).size + s.size := by have : (⟨#[4]⟩ : ByteArray).size = 1 := rfl; omega
      have hlt : w.heap.size < w1.heap.size := cell_lt c0
      go_wp2_with fail
      go_ret2
      rw [HK.out]
      exact ⟨rfl, T1.allocR _⟩
    · rcases hn with rfl | rfl
      · have HK : Hid ((⟨(key ⟨3, 0, s⟩).toArray⟩ : ByteArray) = ⟨#[2, 0]⟩) := by show _ = _; simp [key]
        have hcv : (convert 51 9 (.slice (some ⟨w1.heap.size, 0, none⟩) 2 2)).run Tryd.prog (w1.alloc (.cells #[.int .u8 2, .int .u8 0] 5)) = .ok (.string ⟨#[2, 0]⟩) (w1.alloc (.cells #[.int .u8 2, .int .u8 0] 5)) := conv_new w1 _ [2, 0] (by decide) rfl
        go_wp2_with fail
        go_ret2
        rw [HK.out]
        exact ⟨rfl, T1.allocR _⟩
      · have HK : Hid ((⟨(key ⟨3, 1, s⟩).toArray⟩ : ByteArray) = ⟨#[2, 1]⟩) := by show _ = _; simp [key]
        have hcv : (convert 51 9 (.slice (some ⟨w1.heap.size, 0, none⟩) 2 2)).run Tryd.prog (w1.alloc (.cells #[.int .u8 2, .int .u8 1] 5)) = .ok (.string ⟨#[2, 1]⟩) (w1.alloc (.cells #[.int .u8 2, .int .u8 1] 5)) := conv_new w1 _ [2, 1] (by decide) rfl
        go_wp2_with fail
        go_ret2
        rw [HK.out]
        exact ⟨rfl, T1.allocR _⟩
  · have e : keyP ⟨k, n, s⟩ = ([], wrg ⟨k, n, s⟩) := by unfold keyP; rw [if_neg hw]
    rw [e]
    have hw' : (wrg ⟨k, n, s⟩ != 0) = true := by simpa using hw
    have hwr := fun W => wrong_any k n s W
    obtain ⟨q, hq⟩ : ∃ q, q = wrg ⟨k, n, s⟩ := ⟨_, rfl⟩
    rw [← hq] at hw' ⊢
    simp only [← hq] at hwr
    clear hq hw e
    go_enter Tryd.func11, Tryd.ntmps11
    go_wp2_with fail
    refine (hwr _).mono ?_
    rintro x w1 ⟨rfl, t1⟩
    have T1 := T0.trans' t1
    clear t1 T0 hwr
    go_wp2_with fail
    go_ret2
    exact ⟨rfl, T1⟩
end Go.Proofs.YtnjbkkccofjmgaaDoor
