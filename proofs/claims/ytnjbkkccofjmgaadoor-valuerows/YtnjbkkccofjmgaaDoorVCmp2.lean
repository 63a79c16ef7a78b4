/- The order of values, by the document. -/
import Derived.Test.YtnjbkkccofjmgaaDoorVCmp
import Derived.BigQuiet
namespace Go.Proofs.YtnjbkkccofjmgaaDoor
open Go.RowKit

def rk2 (k : Int) : Int := if rk k = 4 then k else 0
theorem rrank_any (k : Int) (w : World) : Calls Tryd.prog 40 #[.int .i64 k] w fun x w' => x = .returned (.tuple #[.int .i64 (rk k), .int .i64 (rk2 k)]) ∧ w' = w := by
  go_enter Tryd.func40, Tryd.ntmps40
  go_wp2
  all_goals (go_ret2; refine ⟨?_, rfl⟩; simp_all [rk, rk2])
def oc (a b : Int) : Int := Lib.compareInt a b
theorem order_any (a b : Int) (w : World) : Calls Tryd.prog 41 #[.int .i64 a, .int .i64 b] w fun x w' => x = .returned (.int .i64 (oc a b)) ∧ w' = w := by
  go_enter Tryd.func41, Tryd.ntmps41
  go_wp2
  all_goals (go_ret; refine ⟨?_, rfl⟩; unfold oc Lib.compareInt; simp_all [Int.not_lt.2])

/-- The first of three numbers that is not nought. -/
theorem cmpV_three0 (a b : Val) : cmpV a b = if Lib.compareInt (rk a.k) (rk b.k) ≠ 0 then Lib.compareInt (rk a.k) (rk b.k) else if Lib.compareInt (rk2 a.k) (rk2 b.k) ≠ 0 then Lib.compareInt (rk2 a.k) (rk2 b.k) else if Lib.compareInt a.n b.n ≠ 0 then Lib.compareInt a.n b.n else Lib.compareBytes a.s.data.toList b.s.data.toList := by
  by_cases h1 : Lib.compareInt (rk a.k) (rk b.k) ≠ 0
  · rw [if_pos h1]
    have hk : a.k ≠ b.k := fun e => h1 (by rw [e]; exact cmpInt0.2 rfl)
    rw [cmpV_k hk]; unfold cmpK; rw [if_neg h1]
  · rw [if_neg h1]
    have e1 : rk a.k = rk b.k := cmpInt0.1 (by omega)
    by_cases hk : a.k = b.k
    · have e2 : Lib.compareInt (rk2 a.k) (rk2 b.k) = 0 := by rw [hk]; exact cmpInt0.2 rfl
      rw [if_neg (by omega)]
      by_cases hn : a.n = b.n
      · rw [if_neg (by rw [hn]; simp [cmpInt0.2]), cmpV_s hk hn]
      · rw [if_pos (fun e => hn (cmpInt0.1 e)), cmpV_n hk hn]
    · have h4 : rk a.k = 4 := by
        unfold rk at e1 ⊢
        (repeat' split at e1) <;> (repeat' split) <;> omega
      have e2 : rk2 a.k = a.k ∧ rk2 b.k = b.k := by unfold rk2; rw [if_pos h4, if_pos (by omega)]; exact ⟨rfl, rfl⟩
      rw [e2.1, e2.2, if_pos (fun e => hk (cmpInt0.1 e)), cmpV_k hk]
      unfold cmpK; rw [if_pos (by omega)]
theorem cmpV_three (a b : Val) : cmpV a b = if oc (rk a.k) (rk b.k) ≠ 0 then oc (rk a.k) (rk b.k) else if oc (rk2 a.k) (rk2 b.k) ≠ 0 then oc (rk2 a.k) (rk2 b.k) else if oc a.n b.n ≠ 0 then oc a.n b.n else Lib.compareBytes a.s.data.toList b.s.data.toList := cmpV_three0 a b
theorem compareBytes_drop {x y : List UInt8} {k : Nat} (hx : k < x.length) (hy : k < y.length) (h : x[k] = y[k]) : Lib.compareBytes (x.drop k) (y.drop k) = Lib.compareBytes (x.drop (k + 1)) (y.drop (k + 1)) := by
  rw [List.drop_eq_getElem_cons hx, List.drop_eq_getElem_cons hy, h]; exact compareBytes_cons _ _ _
theorem cmpByte {a b : UInt8} {l m : List UInt8} (h : Lib.compareInt a.toNat b.toNat ≠ 0) : Lib.compareBytes (a :: l) (b :: m) = Lib.compareInt a.toNat b.toNat := by
  have hne : a.toNat ≠ b.toNat := fun e => h (by rw [e]; exact cmpInt0.2 rfl)
  unfold Lib.compareBytes Lib.compareInt
  by_cases h1 : a < b
  · have h2 := UInt8.lt_iff_toNat_lt.1 h1
    rw [if_pos h1, if_pos (by omega)]
  · have h2 : ¬ a.toNat < b.toNat := fun e => h1 (UInt8.lt_iff_toNat_lt.2 e)
    rw [if_neg h1, if_pos (UInt8.lt_iff_toNat_lt.2 (by omega)), if_neg (by omega), if_pos (by omega)]

set_option maxHeartbeats 700000 in
set_option maxRecDepth 100000 in
theorem rcompare_any (a b : Val) (w : World) (ha : a.s.size ≤ 9223372036854775807) (hb : b.s.size ≤ 9223372036854775807) :
    Calls Tryd.prog 20 #[vA a.k a.n a.s, vA b.k b.n b.s] w fun x w' => x = .returned (.int .i64 (cmpV a b)) ∧ Tch (fun _ => False) w w' := by
  obtain ⟨w0, hw0⟩ : ∃ w0, w0 = (w.alloc (.cells #[.int .i64 a.k, .int .i64 a.n, .string a.s] 23)).alloc (.cells #[.int .i64 b.k, .int .i64 b.n, .string b.s] 23) := ⟨_, rfl⟩
  have HBx : Hid (∀ W, Tch (fun _ => False) w0 W → (W.cell? ⟨w.heap.size, 0, none⟩ = some (.int .i64 a.k) ∧ W.cell? ⟨w.heap.size, 1, none⟩ = some (.int .i64 a.n) ∧ W.cell? ⟨w.heap.size, 2, none⟩ = some (.string a.s)) ∧ W.cell? ⟨w.heap.size + 1, 0, none⟩ = some (.int .i64 b.k) ∧ W.cell? ⟨w.heap.size + 1, 1, none⟩ = some (.int .i64 b.n) ∧ W.cell? ⟨w.heap.size + 1, 2, none⟩ = some (.string b.s)) := fun W t => box_tch2 (by rw [hw0] at t; exact t)
  have T0 : Tch (fun _ => False) w w0 := by rw [hw0]; exact (Tch.alloc _ _ _).allocR _
  have HV := cmpV_three a b
  obtain ⟨C, hC⟩ : ∃ C, C = cmpV a b := ⟨_, rfl⟩
  rw [← hC] at HV ⊢
  clear hC
  have H : Hid _ := HV
  clear HV
  obtain ⟨ak, an, sa⟩ := a
  obtain ⟨bk, bn, sb⟩ := b
  simp only at ha hb
  simp only at HBx H
  obtain ⟨⟨c0, c1, c2⟩, c3, c4, c5⟩ := HBx.out w0 (Tch.refl _ _)
  go_enter Tryd.func20, Tryd.ntmps20
  go_wp2_with (go_at_call 40; refine (rrank_any _ _).mono ?_; rintro x w1 ⟨rfl, rfl⟩)
  rw [← hw0]
  refine wp_region_drew_tail 11 (by kernel_rfl) (by kernel_rfl) ?_
  simp only [List.take_succ_cons, List.take_zero, List.drop_succ_cons, List.drop_zero]
  repeat (quiet_step ((go_at_call 41; exact Calls.quiet_of_same (order_any _ _ _))))
  refine wpQuiet_nil ?_
  rintro w2 ⟨m, hw2⟩
  have t2 : Tch (fun _ => False) w0 w2 := by rw [hw2]; exact (Tch.refl _ w0).drewN m
  clear hw2 c0 c1 c2 c3 c4 c5 hw0
  obtain ⟨o1, ho1⟩ : ∃ o1, o1 = oc (rk ak) (rk bk) := ⟨_, rfl⟩
  obtain ⟨o2, ho2⟩ : ∃ o2, o2 = oc (rk2 ak) (rk2 bk) := ⟨_, rfl⟩
  obtain ⟨o3, ho3⟩ : ∃ o3, o3 = oc an bn := ⟨_, rfl⟩
  rw [← ho1, ← ho2, ← ho3] at H
  rw [← ho1, ← ho2, ← ho3]
  clear ho1 ho2 ho3
  go_wp2_with fail
  obtain ⟨w3, hw3⟩ : ∃ w3, w3 = w2.alloc (.cells #[.int .i64 o1, .int .i64 o2, .int .i64 o3] 3) := ⟨_, rfl⟩
  rw [← hw3]
  obtain ⟨g, hg⟩ : ∃ g, g = w2.heap.size := ⟨_, rfl⟩
  rw [← hg]
  have D : Hid (w3.cell? ⟨g, 0, none⟩ = some (.int .i64 o1) ∧ w3.cell? ⟨g, 1, none⟩ = some (.int .i64 o2) ∧ w3.cell? ⟨g, 2, none⟩ = some (.int .i64 o3)) := by
    show _ ∧ _
    rw [hw3, hg]
    refine ⟨?_, ?_, ?_⟩ <;> simp
  have t3 : Tch (fun _ => False) w0 w3 := by rw [hw3]; exact t2.allocR _
  clear hw3 hg t2
  go_loopw [10] (fun i wr => ∃ k : Nat, i = .int .i64 k ∧ k ≤ 3 ∧ Hid ((0 < k → o1 = 0) ∧ (1 < k → o2 = 0) ∧ (2 < k → o3 = 0)) ∧ wr = w3) (fun i _ => 3 - (intOf i).toNat)
  case atStart => exact ⟨0, rfl, by omega, ⟨fun h => by omega, fun h => by omega, fun h => by omega⟩, rfl⟩
  case round =>
    obtain ⟨k, rfl, hk, HZ, rfl⟩ := hrel
    obtain ⟨d0, d1, d2⟩ := D.out
    obtain rfl | rfl | rfl | rfl : k = 0 ∨ k = 1 ∨ k = 2 ∨ k = 3 := by omega
    · by_cases hz : o1 = 0
      · obtain rfl := hz
        go_wp2_with fail
        go_roundw
        case rel => exact ⟨1, by go_num, by omega, ⟨fun _ => by trivial, fun h => by omega, fun h => by omega⟩, trivial⟩
        case measure => simp [intOf]
      · have HC : Hid (C = o1) := by show _ = _; rw [H.out, if_pos hz]
        go_wp2_with fail
        go_ret
        exact ⟨by rw [HC.out]; rfl, T0.trans' t3⟩
    · obtain rfl := HZ.out.1 (by omega)
      by_cases hz : o2 = 0
      · obtain rfl := hz
        go_wp2_with fail
        go_roundw
        case rel => exact ⟨2, by go_num, by omega, ⟨fun _ => by trivial, fun _ => by trivial, fun h => by omega⟩, trivial⟩
        case measure => simp [intOf]
      · have HC : Hid (C = o2) := by show _ = _; rw [H.out, if_neg (by simp), if_pos hz]
        go_wp2_with fail
        go_ret
        exact ⟨by rw [HC.out]; rfl, T0.trans' t3⟩
    · obtain rfl := HZ.out.1 (by omega)
      obtain rfl := HZ.out.2.1 (by omega)
      by_cases hz : o3 = 0
      · obtain rfl := hz
        go_wp2_with fail
        go_roundw
        case rel => exact ⟨3, by go_num, by omega, ⟨fun _ => by trivial, fun _ => by trivial, fun _ => by trivial⟩, trivial⟩
        case measure => simp [intOf]
      · have HC : Hid (C = o3) := by show _ = _; rw [H.out, if_neg (by simp), if_neg (by simp), if_pos hz]
        go_wp2_with fail
        go_ret
        exact ⟨by rw [HC.out]; rfl, T0.trans' t3⟩
    · obtain rfl := HZ.out.1 (by omega)
      obtain rfl := HZ.out.2.1 (by omega)
      obtain rfl := HZ.out.2.2 (by omega)
      have HC : Hid (C = Lib.compareBytes sa.data.toList sb.data.toList) := by show _ = _; rw [H.out, if_neg (by simp), if_neg (by simp), if_neg (by simp)]
      clear H d0 d1 d2 D HZ
      go_wp2_with fail
      go_loopw [11] (fun i wr => ∃ q : Nat, i = .int .i64 q ∧ q ≤ sa.size ∧ q ≤ sb.size ∧ Hid (C = Lib.compareBytes (sa.data.toList.drop q) (sb.data.toList.drop q)) ∧ Tch (fun _ => False) w0 wr) (fun i _ => sa.size - (intOf i).toNat)
      case atStart => exact ⟨0, rfl, by omega, by omega, HC.out, t3⟩
      case round =>
        clear HC t3
        obtain ⟨q, rfl, hq1, hq2, HC, t3⟩ := hrel
        obtain ⟨⟨c0, c1, c2⟩, c3, c4, c5⟩ := HBx.out _ t3
        by_cases hx : (q : Int) < sa.size
        · by_cases hy : (q : Int) < sb.size
          · have hx' : q < sa.size := by omega
            have hy' : q < sb.size := by omega
            go_wp2_with fail
            go_quiet ((go_at_call 41; exact Calls.quiet_of_same (order_any _ _ _)))
            have t4 := t3.drewN nq
            obtain ⟨d, hd⟩ : ∃ d, d = oc (sa[q].toNat : Int) (sb[q].toNat : Int) := ⟨_, rfl⟩
            rw [wrap64_byte, wrap64_byte, ← hd]
            have HD : Hid (C = if d ≠ 0 then d else Lib.compareBytes (sa.data.toList.drop (q + 1)) (sb.data.toList.drop (q + 1))) := by
              show _ = _
              have l1 : q < sa.data.toList.length := by simpa using hx'
              have l2 : q < sb.data.toList.length := by simpa using hy'
              have e1 : sa.data.toList[q] = sa[q] := rfl
              have e2 : sb.data.toList[q] = sb[q] := rfl
              rw [HC.out]
              by_cases h0 : d ≠ 0
              · rw [if_pos h0, List.drop_eq_getElem_cons l1, List.drop_eq_getElem_cons l2, e1, e2, hd]
                exact cmpByte (by rw [hd] at h0; exact h0)
              · rw [if_neg h0]
                have h1 : (sa[q].toNat : Int) = sb[q].toNat := cmpInt0.1 (by rw [hd] at h0; unfold oc at h0; simpa using h0)
                exact compareBytes_drop l1 l2 (by rw [e1, e2]; exact UInt8.toNat_inj.1 (by omega))
            clear hd t3 c0 c1 c2 c3 c4 c5 HC
            by_cases hz : d = 0
            · obtain rfl := hz
              have HC : Hid (C = Lib.compareBytes (sa.data.toList.drop (q + 1)) (sb.data.toList.drop (q + 1))) := by show _ = _; rw [HD.out, if_neg (by simp)]
              go_wp2_with fail
              go_roundw
              case rel => exact ⟨q + 1, by go_num, by omega, by omega, HC.out, t4⟩
              case measure => simp [intOf]; omega
            · have HC : Hid (C = d) := by show _ = _; rw [HD.out, if_pos hz]
              go_wp2_with fail
              go_ret
              exact ⟨by rw [HC.out]; rfl, T0.trans' t4⟩
          · obtain rfl : q = sb.size := by omega
            have HC2 : Hid (C = oc (sa.size : Int) (sb.size : Int)) := by
              show _ = _
              rw [HC.out, List.drop_of_length_le (l := sb.data.toList) (by simp)]
              rw [List.drop_eq_getElem_cons (l := sa.data.toList) (by simp; omega)]
              show (1 : Int) = _
              unfold oc Lib.compareInt; rw [if_neg (by omega), if_pos (by omega)]
            go_wp2_with (go_at_call 41; refine (order_any _ _ _).mono ?_; rintro x w1 ⟨rfl, rfl⟩)
            go_ret
            exact ⟨by rw [HC2.out]; rfl, T0.trans' t3⟩
        · obtain rfl : q = sa.size := by omega
          have HC2 : Hid (C = oc (sa.size : Int) (sb.size : Int)) := by
            show _ = _
            rw [HC.out, List.drop_of_length_le (l := sa.data.toList) (by simp)]
            by_cases he : sa.size = sb.size
            · rw [List.drop_of_length_le (l := sb.data.toList) (by simp; omega), ← he]
              exact (cmpInt0.2 rfl).symm
            · rw [List.drop_eq_getElem_cons (l := sb.data.toList) (by simp; omega)]
              show (-1 : Int) = _
              unfold oc Lib.compareInt; rw [if_pos (by omega)]
          go_wp2_with (go_at_call 41; refine (order_any _ _ _).mono ?_; rintro x w1 ⟨rfl, rfl⟩)
          go_ret
          exact ⟨by rw [HC2.out]; rfl, T0.trans' t3⟩
end Go.Proofs.YtnjbkkccofjmgaaDoor
