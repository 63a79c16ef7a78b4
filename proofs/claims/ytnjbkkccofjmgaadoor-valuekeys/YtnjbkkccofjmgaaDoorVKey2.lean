/- Keys, by the document; and back. -/
import Derived.Test.YtnjbkkccofjmgaaDoorVKey
namespace Go.Proofs.YtnjbkkccofjmgaaDoor
open Go.RowKit

/-- Eight bytes, by the document. -/
theorem make8 (w : World) : ∃ M : Array Value, M.size = 8 ∧ (∀ j, j < 8 → ∃ y, M[j]? = some y) ∧ (Instr.makeSlice 51 (.int .i64 8) (.int .i64 8)).run Tryd.prog w = .ok (.slice (some ⟨w.heap.size, 0, none⟩) 8 8) (w.alloc (.cells M 5)) := by
  obtain ⟨i0, hi, hz0, hz1, hz2⟩ := info_byte'
  have h := run_make (P := Tryd.prog) w 51 5 i0 (.int .u8 0) Tryd.underlying51 hi hz0 .i64 .i64 8 8 (by omega) (Int.le_refl _) (by rw [hz2]; decide) (by omega)
  have hs : (madeCells (Value.cells (.int .u8 0)) ((8 : Int).toNat * i0.size)).size = 8 := by rw [size_madeCells, hz1]; rfl
  exact ⟨_, hs, fun j hj => ⟨_, Array.getElem?_eq_getElem (by rw [hs]; exact hj)⟩, h⟩
/-- So far: the last bytes are there. -/
structure E8 (w : World) (g k u U : Nat) : Prop where
  blk : ∃ cur, w.heap[g]? = some (.cells cur 5 (0, 0)) ∧ cur.size = 8 ∧ ∀ j, k ≤ j → j < 8 → cur[j]? = some (.int .u8 (((be8 U).getD j 0).toNat : Nat))
  u : u = U / 256 ^ (8 - k)
theorem E8.tch {S : Nat → Prop} {w w' : World} {g k u U : Nat} (h : E8 w g k u U) (t : Tch S w w') (hs : ¬ S g) : E8 w' g k u U := by
  obtain ⟨cur, h1, h2⟩ := h.blk
  exact ⟨⟨cur, (t.block g (blk_lt h1) hs).trans h1, h2⟩, h.u⟩
theorem be8_getD {U j : Nat} (hj : j < 8) : ((be8 U).getD j 0).toNat = U / 256 ^ (7 - j) % 256 := by
  rw [List.getD_eq_getElem?_getD, show (be8 U)[j]? = _ from beN_get 8 U j hj]
  simp
theorem E8.step {w : World} {g k u U : Nat} (h : E8 w g (k + 1) u U) (hk : k < 8) : E8 (w.setCell ⟨g, k, none⟩ (.int .u8 ((u % 256 : Nat) : Int))) g k (u / 256) U := by
  obtain ⟨cur, h1, h2, h3⟩ := h.blk
  have hu := h.u
  refine ⟨⟨_, blk_set h1 _, by simp [h2], fun j hj hj8 => ?_⟩, ?_⟩
  · rcases Nat.eq_or_lt_of_le hj with rfl | hlt
    · rw [Array.getElem?_setIfInBounds_self_of_lt (by omega), be8_getD hk, hu]
      rw [show 8 - (k + 1) = 7 - k by omega]
    · rw [Array.getElem?_setIfInBounds_ne (by omega)]
      exact h3 j (by omega) hj8
  · rw [hu, Nat.div_div_eq_div_mul, ← Nat.pow_succ]
    rw [show (8 - (k + 1)).succ = 8 - k by omega]
set_option maxHeartbeats 2000000 in
set_option maxRecDepth 100000 in
theorem eight_any (U : Nat) (w : World) (hU : U < 18446744073709551616) :
    Calls Tryd.prog 32 #[.int .u64 U] w fun x w' => x = .returned (.string ⟨(be8 U).toArray⟩) ∧ Tch (fun _ => False) w w' := by
  obtain ⟨M, hM, hMj, hmk⟩ := make8 w
  obtain ⟨w1, hw1⟩ : ∃ w1, w1 = w.alloc (.cells M 5) := ⟨_, rfl⟩
  rw [← hw1] at hmk
  have E0 : E8 w1 w.heap.size 8 U U := ⟨⟨M, by rw [hw1]; exact heap_new w _, hM, fun j h1 h2 => by omega⟩, by simp⟩
  have T1 : Tch (fun i => w.heap.size ≤ i) w w1 := by rw [hw1]; exact Tch.alloc _ _ _
  clear hw1 hM hMj
  go_enter Tryd.func32, Tryd.ntmps32
  go_wp2_with fail
  go_loopw [0, 4] (fun n i wr => ∃ k u : Nat, i = .int .i64 ((k : Int) - 1) ∧ n = .int .u64 u ∧ k ≤ 8 ∧ u < 18446744073709551616 ∧ E8 wr w.heap.size k u U ∧ Tch (fun i => w.heap.size ≤ i) w wr) (fun _ i _ => (intOf i + 1).toNat)
  case atStart => exact ⟨8, U, rfl, rfl, by omega, hU, E0, T1⟩
  case round =>
    obtain ⟨k, u, rfl, rfl, hk, hu, hE, hT⟩ := hrel
    clear E0 T1
    rcases k with _ | k
    · obtain ⟨cur, h1, h2, h3⟩ := hE.blk
      have hl : (be8 U).length = 8 := beN_len 8 U
      have hcs : cur.toList = Lib.byteCells (be8 U) := by
        apply List.ext_getElem?
        intro j
        rw [Array.getElem?_toList]
        rcases Nat.lt_or_ge j 8 with hj | hj
        · rw [h3 j (by omega) hj]
          have e1 : (be8 U)[j]? = some ((be8 U).getD j 0) := by rw [List.getD_eq_getElem?_getD, List.getElem?_eq_getElem (by omega)]; rfl
          simp only [Lib.byteCells, List.getElem?_map, e1, Option.map_some]
        · rw [Array.getElem?_eq_none (by omega), List.getElem?_eq_none (by rw [Lib.byteCells_length]; omega)]
      have hown : wr.ownsRow w.heap.size 5 1 (.slice (some ⟨w.heap.size, 0, none⟩) (be8 U).length 8) (be8 U).length (Lib.byteCells (be8 U)) := by
        refine ⟨by rw [Lib.byteCells_length]; omega, Or.inr ⟨w.heap.size, 8, cur, rfl, Nat.le_refl _, h1, by omega, by decide, by omega, ?_⟩⟩
        rw [hcs, List.take_of_length_le (by rw [Lib.byteCells_length]; omega)]
      have hcv := conv_row hown
      rw [hl] at hcv
      clear hown hcs h3 h2 h1 hl hE
      go_wp2_with fail
      go_ret
      exact ⟨rfl, ge_new hT⟩
    · have e1 : ((u % 256 : Nat) : Int) = (u : Int) % 256 := by omega
      have hS := hE.step (by omega)
      rw [e1] at hS
      clear e1
      have e2 : ((u / 256 : Nat) : Int) = (u : Int) / 256 := by omega
      have HE2 : Hid (((u / 256 : Nat) : Int) = (u : Int) / 256) := e2
      clear e2
      obtain ⟨cur, h1, h2, -⟩ := hE.blk
      obtain ⟨y, g0⟩ : ∃ y, wr.cell? ⟨w.heap.size, k, none⟩ = some y := ⟨cur[k]'(by omega), by rw [blk_cell h1]; exact Array.getElem?_eq_getElem _⟩
      have f0 := blk_frozen h1 k
      have hl := blk_lt h1
      clear h1 h2 hE
      have ek : (((k + 1 : Nat) : Int) - 1) = k := by omega
      rw [ek]
      have T2 := hT.setCellR ⟨w.heap.size, k, none⟩ (.int .u8 ((u : Int) % 256)) (Nat.le_refl _)
      clear ek
      go_wp2_with fail
      go_roundw
      case rel => exact ⟨k, u / 256, rfl, by rw [HE2.out], by omega, by omega, hS, T2⟩
      case measure => simp [intOf]

set_option maxHeartbeats 2000000 in
set_option maxRecDepth 100000 in
theorem rkey_any (k n : Int) (s : ByteArray) (w : World) (hi : (Val.mk k n s).i64) :
    Calls Tryd.prog 12 #[vA k n s] w fun x w' => x = .returned (.tuple #[.string ⟨(keyP ⟨k, n, s⟩).1.toArray⟩, .int .i64 (keyP ⟨k, n, s⟩).2]) ∧ Tch (fun _ => False) w w' := by
  obtain ⟨-, hi1, hi2⟩ := hi
  simp only at hi1 hi2
  have T0 : Tch (fun _ => False) w (w.alloc (.cells #[.int .i64 k, .int .i64 n, .string s] 23)) := Tch.alloc _ _ _
  by_cases hw : wrg ⟨k, n, s⟩ = 0
  · obtain ⟨hf, hs⟩ := wrg_zero hw
    rw [key_str hw]
    go_enter Tryd.func12, Tryd.ntmps12
    go_wp2_with fail
    refine (rwrong_any k n s _).mono ?_
    rintro x w1 ⟨rfl, t1⟩
    obtain ⟨c0, c1, c2⟩ := box_tch t1
    have T1 := T0.trans' t1
    have hlt : w.heap.size < w1.heap.size := cell_lt c0
    rw [hw]
    clear t1 T0
    unfold frm at hf
    simp only at hf hs
    rcases hf with ⟨rfl, rfl, -⟩ | ⟨rfl, -⟩ | ⟨rfl, rfl⟩ | ⟨rfl, -, hn⟩
    · have HK : Hid ((⟨(key ⟨0, 0, s⟩).toArray⟩ : ByteArray) = ⟨#[1]⟩) := by show _ = _; simp [key]
      go_wp2_with fail
      go_ret2
      rw [HK.out]
      exact ⟨rfl, T1⟩
    · obtain ⟨U, hU⟩ : ∃ U : Nat, (U : Int) = n + 9223372036854775808 := ⟨(n + 9223372036854775808).toNat, by omega⟩
      have HK : Hid ((⟨(key ⟨1, n, s⟩).toArray⟩ : ByteArray) = ⟨#[3]⟩ ++ ⟨(be8 U).toArray⟩) := by
        apply ByteArray.ext
        have : (n + 9223372036854775808).toNat = U := by omega
        simp [key, this]
      have he := eight_any U w1 (by omega)
      obtain ⟨D, hD⟩ : ∃ D : ByteArray, D = ⟨(be8 U).toArray⟩ := ⟨_, rfl⟩
      have hDs : D.size = 8 := by rw [hD]; show (be8 U).toArray.size = 8; rw [List.size_toArray]; exact beN_len 8 U
      have n1 : ¬ 9223372036854775807 < (⟨#[3]⟩ : ByteArray).size + D.size := by have : (⟨#[3]⟩ : ByteArray).size = 1 := rfl; omega
      have eU : IntKind.u64.wrap (IntKind.u64.wrap n + 9223372036854775808) = U := by rw [IntKind.wrap_u64, IntKind.wrap_u64]; omega
      rw [← hD] at he HK
      rw [← eU] at he
      clear hD hDs eU hU
      go_wp2_with fail
      refine he.mono ?_
      rintro x w2 ⟨rfl, t2⟩
      clear he
      go_wp2_with fail
      go_ret2
      rw [HK.out]
      exact ⟨rfl, T1.trans' t2⟩
    · have HK : Hid ((⟨(key ⟨2, 0, s⟩).toArray⟩ : ByteArray) = ⟨#[4]⟩ ++ s) := by
        apply ByteArray.ext
        simp [key]
      have n1 : ¬ 9223372036854775807 < (⟨#[4]⟩ : ByteArray).size + s.size := by have : (⟨#[4]⟩ : ByteArray).size = 1 := rfl; omega
      go_wp2_with fail
      go_ret2
      rw [HK.out]
      exact ⟨rfl, T1⟩
    · rcases hn with rfl | rfl
      · have HK : Hid ((⟨(key ⟨3, 0, s⟩).toArray⟩ : ByteArray) = ⟨#[2, 0]⟩) := by show _ = _; simp [key]
        have hcv : (convert 51 9 (.slice (some ⟨w1.heap.size, 0, none⟩) 2 2)).run Tryd.prog (w1.alloc (.cells #[.int .u8 2, .int .u8 0] 5)) = .ok (.string ⟨#[2, 0]⟩) (w1.alloc (.cells #[.int .u8 2, .int .u8 0] 5)) := conv_new w1 _ [2, 0] (by decide) rfl
        go_wp2_with fail
        go_ret2
        rw [HK.out]
        exact ⟨rfl, T1.allocR _⟩
      · have HK : Hid ((⟨(key ⟨3, 1, s⟩).toArray⟩ : ByteArray) = ⟨#[2, 1]⟩) := by show _ = _; simp [key]
        have hcv : (convert 51 9 (.slice (some ⟨w1.heap.size, 0, none⟩) 2 2)).run Tryd.prog (w1.alloc (.cells #[.int .u8 2, .int .u8 1] 5)) = .ok (.string ⟨#[2, 1]⟩) (w1.alloc (.cells #[.int .u8 2, .int .u8 1] 5)) := conv_new w1 _ [2, 1] (by decide) rfl
        go_wp2_with fail
        go_ret2
        rw [HK.out]
        exact ⟨rfl, T1.allocR _⟩
  · have e : keyP ⟨k, n, s⟩ = ([], wrg ⟨k, n, s⟩) := by unfold keyP; rw [if_neg hw]
    rw [e]
    have hw' : (wrg ⟨k, n, s⟩ != 0) = true := by simpa using hw
    have hwr := fun W => rwrong_any k n s W
    obtain ⟨q, hq⟩ : ∃ q, q = wrg ⟨k, n, s⟩ := ⟨_, rfl⟩
    rw [← hq] at hw' ⊢
    simp only [← hq] at hwr
    clear hq hw e
    go_enter Tryd.func12, Tryd.ntmps12
    go_wp2_with fail
    refine (hwr _).mono ?_
    rintro x w1 ⟨rfl, t1⟩
    have T1 := T0.trans' t1
    clear t1 T0 hwr
    go_wp2_with fail
    go_ret2
    exact ⟨rfl, T1⟩

/-- The number of a key, by the code. -/
theorem or_byte {u : Nat} (b : Nat) (hb : b < 256) : u * 256 ||| b = u * 256 + b := by
  have h : (256 : Nat) = 2 ^ 8 := rfl
  rw [Nat.mul_comm, h, ← Nat.two_pow_add_eq_or_of_lt (by rw [← h]; exact hb)]
set_option maxHeartbeats 2000000 in
set_option maxRecDepth 100000 in
theorem intOfKey_any (r : ByteArray) (w : World) (hr : r.size = 8) :
    Calls Tryd.prog 33 #[.string r] w fun x w' => x = .returned (.int .i64 ((beV r.data.toList : Int) - 9223372036854775808)) ∧ w' = w := by
  have hV : beV r.data.toList < 18446744073709551616 := beV_lt 8 _ (by simpa using hr)
  have hs : (r.size : Int) = 8 := by omega
  go_enter Tryd.func33, Tryd.ntmps33
  go_wp2_with fail
  go_loopw [3, 7] (fun n i wr => ∃ k u : Nat, i = .int .i64 k ∧ n = .int .u64 u ∧ k ≤ 8 ∧ Hid (u = beV (r.data.toList.take k)) ∧ wr = w) (fun _ i _ => 8 - (intOf i).toNat)
  case atStart => exact ⟨0, 0, rfl, rfl, by omega, rfl, rfl⟩
  case round =>
    obtain ⟨k, u, rfl, rfl, hk, HU, rfl⟩ := hrel
    by_cases hlt : (k : Int) < 8
    · have hkl : k < r.size := by omega
      have hul : u < 256 ^ k := by rw [HU.out]; exact beV_lt k _ (by simp; omega)
      have hu7 : u < 72057594037927936 := Nat.lt_of_lt_of_le hul (Nat.le_trans (Nat.pow_le_pow_right (by decide) (by omega : k ≤ 7)) (by decide))
      have HS : Hid (beV (r.data.toList.take (k + 1)) = u * 256 + r[k].toNat) := by
        show _ = _
        rw [List.take_succ_eq_append_getElem (by simpa using hkl), beV_snoc, ← HU.out]; rfl
      have hb := r[k].toNat_lt
      have HO : Hid (bits .or .u64 ((u : Int) * 256) (r[k].toNat : Int) = ((u * 256 + r[k].toNat : Nat) : Int)) := by
        show _ = _
        rw [show (u : Int) * 256 = ((u * 256 : Nat) : Int) by simp, u64_or_nat _ _ (by omega) (by omega), or_byte _ (by omega)]
      clear hul
      go_wp2_with fail
      exact ⟨⟨k + 1, u * 256 + r[k].toNat, by go_num, by rw [HO.out], by omega, HS.out.symm, trivial⟩, by simp [intOf]; omega⟩
    · obtain rfl : k = 8 := by omega
      have HU2 : Hid (u = beV r.data.toList) := by
        show _ = _
        rw [HU.out, List.take_of_length_le (by simp; omega)]
      have hu : u < 18446744073709551616 := by rw [HU2.out]; exact hV
      have hra := raised_any u wr
      obtain ⟨v, hv⟩ : ∃ v : Nat, v = (u + 9223372036854775808) % 18446744073709551616 := ⟨_, rfl⟩
      rw [← hv] at hra
      have hcv : IntKind.i64.wrap (v : Int) = (u : Int) - 9223372036854775808 := by rw [IntKind.wrap_i64]; omega
      clear hv
      go_wp2_with fail
      refine hra.mono ?_
      rintro x w1 ⟨rfl, rfl⟩
      clear hra
      go_wp2_with fail
      go_ret
      rw [← HU2.out, ← hcv]
      exact ⟨rfl, rfl⟩

theorem unkey_res (tmps : Array Value) (W : World) (p : Nat) (k n : Int) (s : ByteArray) (e : Int) (c0 : W.cell? ⟨p, 0, none⟩ = some (.int .i64 k)) (c1 : W.cell? ⟨p, 1, none⟩ = some (.int .i64 n)) (c2 : W.cell? ⟨p, 2, none⟩ = some (.string s)) (h2 : tmps[2]?.getD undef = .pointer (some ⟨p, 0, none⟩)) (h3 : tmps[3]?.getD undef = .int .i64 e) :
    (results Tryd.f13 tmps).run Tryd.prog W = .ok (.tuple #[vA k n s, .int .i64 e]) W := by
  have hrs : Tryd.f13.results = #[.cell 2 23, .tmp 3] := by kernel_rfl
  simp only [results, hrs]
  go_simp
theorem runkey_res (tmps : Array Value) (W : World) (p : Nat) (k n : Int) (s : ByteArray) (e : Int) (c0 : W.cell? ⟨p, 0, none⟩ = some (.int .i64 k)) (c1 : W.cell? ⟨p, 1, none⟩ = some (.int .i64 n)) (c2 : W.cell? ⟨p, 2, none⟩ = some (.string s)) (h2 : tmps[2]?.getD undef = .pointer (some ⟨p, 0, none⟩)) (h3 : tmps[3]?.getD undef = .int .i64 e) :
    (results Tryd.f14 tmps).run Tryd.prog W = .ok (.tuple #[vA k n s, .int .i64 e]) W := by
  have hrs : Tryd.f14.results = #[.cell 2 23, .tmp 3] := by kernel_rfl
  simp only [results, hrs]
  go_simp
end Go.Proofs.YtnjbkkccofjmgaaDoor
