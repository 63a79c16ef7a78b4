import Derived.Test.YtmaekkhmiafnmaaGreatDoorEV0
import Derived.Test.YtmaekkhmiafnmaaGreatDoorVRights
import Derived.BigQuiet
set_option maxHeartbeats 8000000
set_option maxRecDepth 100000
namespace Go.Proofs.YtmaekkhmiafnmaaGreatDoor
open Go.RowKit Go Go.Lib
theorem add_out (a b : Int) (ha : i64v a) (hb : i64v b) : wrap64 (a + b) = a + b ∧ i64v (a + b) ∧ (decide (wrap64 (a + b) < a) = decide (b < 0)) ∨ ¬ i64v (a + b) ∧ (decide (wrap64 (a + b) < a) = !decide (b < 0)) := by
  unfold i64v at *
  unfold wrap64
  by_cases h : -9223372036854775808 ≤ a + b ∧ a + b ≤ 9223372036854775807
  · left
    refine ⟨by omega, h, ?_⟩
    rw [decide_eq_decide]; omega
  · right
    refine ⟨h, ?_⟩
    by_cases hb0 : b < 0
    · rw [decide_eq_true hb0]; simp; omega
    · rw [decide_eq_false hb0]; simp; omega
theorem sub_out (a b : Int) (ha : i64v a) (hb : i64v b) : wrap64 (a - b) = a - b ∧ i64v (a - b) ∧ (decide (a < wrap64 (a - b)) = decide (b < 0)) ∨ ¬ i64v (a - b) ∧ (decide (a < wrap64 (a - b)) = !decide (b < 0)) := by
  unfold i64v at *
  unfold wrap64
  by_cases h : -9223372036854775808 ≤ a - b ∧ a - b ≤ 9223372036854775807
  · left
    refine ⟨by omega, h, ?_⟩
    rw [decide_eq_decide]; omega
  · right
    refine ⟨h, ?_⟩
    by_cases hb0 : b < 0
    · rw [decide_eq_true hb0]; simp; omega
    · rw [decide_eq_false hb0]; simp; omega
theorem mul_in (a b : Int) (ha0 : a ≠ 0) (hb : i64v b) (h : i64v (a * b)) : wrap64 (a * b) = a * b ∧ wrap64 ((a * b).tdiv a) = b ∧ ¬ (a = -1 ∧ b = -9223372036854775808) := by
  have e : (a * b).tdiv a = b := Int.mul_tdiv_cancel_left b ha0
  rw [e]
  unfold i64v at *
  refine ⟨by unfold wrap64; omega, by unfold wrap64; omega, ?_⟩
  rintro ⟨rfl, rfl⟩
  omega
theorem mul_not (a b : Int) (ha0 : a ≠ 0) (ha : i64v a) (hb : i64v b) (h : ¬ i64v (a * b)) (h2 : ¬ (a = -1 ∧ b = -9223372036854775808)) : wrap64 ((wrap64 (a * b)).tdiv a) ≠ b := by
  intro he
  obtain ⟨n, hn⟩ : ∃ n, n = wrap64 (a * b) := ⟨_, rfl⟩
  rw [← hn] at he
  have hnr : i64v n := by rw [hn]; unfold i64v wrap64; omega
  obtain ⟨k, hk⟩ : ∃ k, n = a * b + k * 18446744073709551616 := ⟨-((a * b + 9223372036854775808) / 18446744073709551616), by
    rw [hn]; unfold wrap64
    have := Int.emod_add_mul_ediv (a * b + 9223372036854775808) 18446744073709551616
    omega⟩
  have hk0 : k ≠ 0 := by
    rintro rfl
    apply h
    rw [show a * b = n by omega]; exact hnr
  have hdm := Int.tmod_add_mul_tdiv n a
  have hlt : (n.tmod a).natAbs < a.natAbs := by
    rw [Int.natAbs_tmod]
    exact Nat.mod_lt _ (by omega)
  obtain ⟨q, hq⟩ : ∃ q, q = n.tdiv a := ⟨_, rfl⟩
  rw [← hq] at hdm he
  unfold i64v at *
  have hql : q.natAbs ≤ n.natAbs := by
    rw [hq, Int.natAbs_tdiv]
    exact Nat.div_le_self _ _
  have hqb : q = b ∨ (q = 9223372036854775808 ∧ b = -9223372036854775808) := by
    unfold wrap64 at he; omega
  rcases hqb with rfl | ⟨h3, h4⟩
  · have : a * q - n = - (n.tmod a) := by omega
    omega
  · have hnm : n = -9223372036854775808 := by omega
    rw [hnm, h3] at hdm
    have ha1 : a = -1 ∨ a ≠ -1 := by omega
    rcases ha1 with h5 | h5
    · exact h2 ⟨h5, h4⟩
    · have : a.natAbs = 1 ∨ 2 ≤ a.natAbs := by omega
      rcases this with h6 | h6
      · have : a = 1 := by omega
        subst this
        simp at hq
        omega
      · have h7 : q.natAbs = n.natAbs / a.natAbs := by rw [hq, Int.natAbs_tdiv]; rfl
        have h8 : n.natAbs / a.natAbs ≤ n.natAbs / 2 := Nat.div_le_div_left h6 (by omega)
        omega
theorem ofInt_any (n : Int) (w : World) : Calls Tryz.prog 164 #[.int .i64 n] w fun x w' => x = .returned (vV (inV n)) ∧ Tch (fun _ => False) w w' := by
  obtain ⟨b0, b1, b2⟩ := box_v w (inV n)
  have Hb : Hid _ := (⟨b0, b1, b2⟩ : _ ∧ _ ∧ _)
  clear b0 b1 b2
  go_enter Tryz.func164, Tryz.ntmps164
  go_wp2
  exact bodyPost_ret (res_v (j := 2) (by kernel_rfl) _ _ w.heap.size (inV n) rfl Hb.out.1 Hb.out.2.1 Hb.out.2.2) rfl ⟨rfl, Tch.alloc _ _ _⟩
theorem ofText_any (s : ByteArray) (w : World) : Calls Tryz.prog 165 #[.string s] w fun x w' => x = .returned (vV (txV s)) ∧ Tch (fun _ => False) w w' := by
  obtain ⟨b0, b1, b2⟩ := box_v w (txV s)
  have Hb : Hid _ := (⟨b0, b1, b2⟩ : _ ∧ _ ∧ _)
  clear b0 b1 b2
  go_enter Tryz.func165, Tryz.ntmps165
  go_wp2
  exact bodyPost_ret (res_v (j := 2) (by kernel_rfl) _ _ w.heap.size (txV s) rfl Hb.out.1 Hb.out.2.1 Hb.out.2.2) rfl ⟨rfl, Tch.alloc _ _ _⟩
end Go.Proofs.YtmaekkhmiafnmaaGreatDoor
namespace Go.Proofs.YtmaekkhmiafnmaaGreatDoor
open Go.RowKit Go Go.Lib
def OneB (N : Nat) (W : World) : Prop := (W.cell? ⟨N, 0, none⟩ = some (.int .i64 0) ∧ W.cell? ⟨N, 1, none⟩ = some (.int .i64 0) ∧ W.cell? ⟨N, 2, none⟩ = some (.string ⟨#[]⟩)) ∧ W.frozen? ⟨N, 0, none⟩ = false ∧ W.frozen? ⟨N, 1, none⟩ = false ∧ W.frozen? ⟨N, 2, none⟩ = false
theorem oneB {w W : World} (t : Tch (fun _ => False) (w.alloc (.cells #[.int .i64 0, .int .i64 0, .string ⟨#[]⟩] 29)) W) : OneB w.heap.size W := by
  have hl : w.heap.size < (w.alloc (.cells #[.int .i64 0, .int .i64 0, .string ⟨#[]⟩] 29)).heap.size := by simp
  exact ⟨box_tch t, (t.frozen (p := ⟨_, _, none⟩) hl (fun h => h)).trans (by simp), (t.frozen (p := ⟨_, _, none⟩) hl (fun h => h)).trans (by simp), (t.frozen (p := ⟨_, _, none⟩) hl (fun h => h)).trans (by simp)⟩
theorem wrap_in {n : Int} (h : i64v n) : wrap64 n = n := by unfold i64v at h; unfold wrap64; omega
theorem div_in (a b : Int) (hb0 : b ≠ 0) (ha : i64v a) (hb : i64v b) (h : ¬ (a = -9223372036854775808 ∧ b = -1)) : i64v (a.tdiv b) := by
  have h1 : (a.tdiv b).natAbs = a.natAbs / b.natAbs := by rw [Int.natAbs_tdiv]; rfl
  unfold i64v at *
  by_cases h2 : b.natAbs = 1
  · rw [h2, Nat.div_one] at h1
    by_cases h3 : b = 1
    · rw [h3, Int.tdiv_one]; exact ha
    · have h4 : b = -1 := by omega
      omega
  · have h3 : a.natAbs / b.natAbs ≤ a.natAbs / 2 := Nat.div_le_div_left (by omega) (by omega)
    omega
theorem mod_in (a b : Int) (hb0 : b ≠ 0) (hb : i64v b) : i64v (a.tmod b) := by
  have h1 : (a.tmod b).natAbs = a.natAbs % b.natAbs := by rw [Int.natAbs_tmod]
  have h2 : a.natAbs % b.natAbs < b.natAbs := Nat.mod_lt _ (by omega)
  unfold i64v at *
  omega
theorem fitI_in {n : Int} (h : i64v n) : fitI n = (inV n, 0) := if_pos h
theorem fitI_out {n : Int} (h : ¬ i64v n) : fitI n = (zV, 114) := if_neg h
theorem calculate_any (o : Nat) (a b : Int) (ho : o ∈ [16, 17, 18, 19, 20]) (ha : i64v a) (hb : i64v b) (w : World) :
    Calls Tryz.prog 160 #[.int .i64 (o : Nat), .int .i64 a, .int .i64 b] w fun x w' => x = .returned (.tuple #[vV (arV o a b).1, .int .i64 (arV o a b).2]) ∧ Tch (fun _ => False) w w' := by
  have HB : Hid (∀ W, Tch (fun _ => False) (w.alloc (.cells #[.int .i64 0, .int .i64 0, .string ⟨#[]⟩] 29)) W → OneB w.heap.size W ∧ Tch (fun _ => False) w W) := fun W t => ⟨oneB t, (Tch.alloc _ _ _).trans' t⟩
  have Hq : Hid _ := fun n W => ofInt_any n W
  obtain ⟨z0, z1, z2⟩ := box_v w zV
  have Hz : Hid _ := (⟨z0, z1, z2⟩ : _ ∧ _ ∧ _)
  clear z0 z1 z2
  obtain ⟨R, hR⟩ : ∃ R, R = arV o a b := ⟨_, rfl⟩
  rw [← hR]
  simp only [List.mem_cons, List.not_mem_nil, or_false] at ho
  rcases ho with rfl | rfl | rfl | rfl | rfl
  · replace hR : R = fitI (a + b) := hR
    obtain ⟨n, hn⟩ : ∃ n, n = wrap64 (a + b) := ⟨_, rfl⟩
    have e : wrap64 (a + b) = n := hn.symm
    rcases add_out a b ha hb with ⟨h1, h2, h3⟩ | ⟨h2, h3⟩
    · have HR : Hid (R = (inV n, 0)) := (show R = _ from by rw [hR, fitI_in h2, hn, h1])
      rw [e] at h3
      clear h1 h2 hR hn ha hb
      by_cases hb0 : b < 0
      · have hlt : n < a := of_decide_eq_true (h3.trans (decide_eq_true hb0))
        clear h3
        go_enter Tryz.func160, Tryz.ntmps160
        go_wp2_with (go_at_call 164; refine (Hq.out _ _).mono ?_; rintro y v1 ⟨rfl, t1⟩; obtain ⟨⟨⟨x0, x1, x2⟩, f0, f1, f2⟩, hw⟩ := HB.out _ t1)
        obtain ⟨k0, k1, k2⟩ := box_set v1 w.heap.size _ _ _ (.int .i64 (inV n).k) (.int .i64 (inV n).n) (.string (inV n).s) x0 x1 x2
        refine bodyPost_ret (res_ve (j := 6) (m := 7) (by kernel_rfl) _ _ w.heap.size (inV n) (.int .i64 0) rfl rfl k0 k1 k2) rfl ⟨by rw [HR.out], hw.trans (box_set_tch v1 w.heap.size _ _ _) (fun i hi h => by omega)⟩
      · have hlt : ¬ n < a := of_decide_eq_false (h3.trans (decide_eq_false hb0))
        clear h3
        go_enter Tryz.func160, Tryz.ntmps160
        go_wp2_with (go_at_call 164; refine (Hq.out _ _).mono ?_; rintro y v1 ⟨rfl, t1⟩; obtain ⟨⟨⟨x0, x1, x2⟩, f0, f1, f2⟩, hw⟩ := HB.out _ t1)
        obtain ⟨k0, k1, k2⟩ := box_set v1 w.heap.size _ _ _ (.int .i64 (inV n).k) (.int .i64 (inV n).n) (.string (inV n).s) x0 x1 x2
        refine bodyPost_ret (res_ve (j := 6) (m := 7) (by kernel_rfl) _ _ w.heap.size (inV n) (.int .i64 0) rfl rfl k0 k1 k2) rfl ⟨by rw [HR.out], hw.trans (box_set_tch v1 w.heap.size _ _ _) (fun i hi h => by omega)⟩
    · have HR : Hid (R = (zV, 114)) := (show R = _ from by rw [hR, fitI_out h2])
      rw [e] at h3
      clear h2 hR hn ha hb
      by_cases hb0 : b < 0
      · have hlt : ¬ n < a := of_decide_eq_false (by rw [h3, decide_eq_true hb0]; rfl)
        clear h3
        go_enter Tryz.func160, Tryz.ntmps160
        go_wp2_with fail
        refine bodyPost_ret (res_ve (j := 6) (m := 7) (by kernel_rfl) _ _ w.heap.size zV (.int .i64 114) rfl rfl Hz.out.1 Hz.out.2.1 Hz.out.2.2) rfl ⟨by rw [HR.out], Tch.alloc _ _ _⟩
      · have hlt : n < a := of_decide_eq_true (by rw [h3, decide_eq_false hb0]; rfl)
        clear h3
        go_enter Tryz.func160, Tryz.ntmps160
        go_wp2_with fail
        refine bodyPost_ret (res_ve (j := 6) (m := 7) (by kernel_rfl) _ _ w.heap.size zV (.int .i64 114) rfl rfl Hz.out.1 Hz.out.2.1 Hz.out.2.2) rfl ⟨by rw [HR.out], Tch.alloc _ _ _⟩
  · replace hR : R = fitI (a - b) := hR
    obtain ⟨n, hn⟩ : ∃ n, n = wrap64 (a - b) := ⟨_, rfl⟩
    have e : wrap64 (a - b) = n := hn.symm
    rcases sub_out a b ha hb with ⟨h1, h2, h3⟩ | ⟨h2, h3⟩
    · have HR : Hid (R = (inV n, 0)) := (show R = _ from by rw [hR, fitI_in h2, hn, h1])
      rw [e] at h3
      clear h1 h2 hR hn ha hb
      by_cases hb0 : b < 0
      · have hlt : a < n := of_decide_eq_true (h3.trans (decide_eq_true hb0))
        clear h3
        go_enter Tryz.func160, Tryz.ntmps160
        go_wp2_with (go_at_call 164; refine (Hq.out _ _).mono ?_; rintro y v1 ⟨rfl, t1⟩; obtain ⟨⟨⟨x0, x1, x2⟩, f0, f1, f2⟩, hw⟩ := HB.out _ t1)
        obtain ⟨k0, k1, k2⟩ := box_set v1 w.heap.size _ _ _ (.int .i64 (inV n).k) (.int .i64 (inV n).n) (.string (inV n).s) x0 x1 x2
        refine bodyPost_ret (res_ve (j := 6) (m := 7) (by kernel_rfl) _ _ w.heap.size (inV n) (.int .i64 0) rfl rfl k0 k1 k2) rfl ⟨by rw [HR.out], hw.trans (box_set_tch v1 w.heap.size _ _ _) (fun i hi h => by omega)⟩
      · have hlt : ¬ a < n := of_decide_eq_false (h3.trans (decide_eq_false hb0))
        clear h3
        go_enter Tryz.func160, Tryz.ntmps160
        go_wp2_with (go_at_call 164; refine (Hq.out _ _).mono ?_; rintro y v1 ⟨rfl, t1⟩; obtain ⟨⟨⟨x0, x1, x2⟩, f0, f1, f2⟩, hw⟩ := HB.out _ t1)
        obtain ⟨k0, k1, k2⟩ := box_set v1 w.heap.size _ _ _ (.int .i64 (inV n).k) (.int .i64 (inV n).n) (.string (inV n).s) x0 x1 x2
        refine bodyPost_ret (res_ve (j := 6) (m := 7) (by kernel_rfl) _ _ w.heap.size (inV n) (.int .i64 0) rfl rfl k0 k1 k2) rfl ⟨by rw [HR.out], hw.trans (box_set_tch v1 w.heap.size _ _ _) (fun i hi h => by omega)⟩
    · have HR : Hid (R = (zV, 114)) := (show R = _ from by rw [hR, fitI_out h2])
      rw [e] at h3
      clear h2 hR hn ha hb
      by_cases hb0 : b < 0
      · have hlt : ¬ a < n := of_decide_eq_false (by rw [h3, decide_eq_true hb0]; rfl)
        clear h3
        go_enter Tryz.func160, Tryz.ntmps160
        go_wp2_with fail
        refine bodyPost_ret (res_ve (j := 6) (m := 7) (by kernel_rfl) _ _ w.heap.size zV (.int .i64 114) rfl rfl Hz.out.1 Hz.out.2.1 Hz.out.2.2) rfl ⟨by rw [HR.out], Tch.alloc _ _ _⟩
      · have hlt : a < n := of_decide_eq_true (by rw [h3, decide_eq_false hb0]; rfl)
        clear h3
        go_enter Tryz.func160, Tryz.ntmps160
        go_wp2_with fail
        refine bodyPost_ret (res_ve (j := 6) (m := 7) (by kernel_rfl) _ _ w.heap.size zV (.int .i64 114) rfl rfl Hz.out.1 Hz.out.2.1 Hz.out.2.2) rfl ⟨by rw [HR.out], Tch.alloc _ _ _⟩
  · replace hR : R = fitI (a * b) := hR
    by_cases ha0 : a = 0
    · have HR : Hid (R = (inV 0, 0)) := (show R = _ from by rw [hR, ha0, Int.zero_mul]; rfl)
      have e : wrap64 (a * b) = 0 := by rw [ha0, Int.zero_mul]; unfold wrap64; omega
      have e' : (0 : Int) * b = 0 := Int.zero_mul b
      clear hR ha hb
      subst ha0
      go_enter Tryz.func160, Tryz.ntmps160
      go_wp2_with (go_at_call 164; refine (Hq.out _ _).mono ?_; rintro y v1 ⟨rfl, t1⟩; obtain ⟨⟨⟨x0, x1, x2⟩, f0, f1, f2⟩, hw⟩ := HB.out _ t1)
      obtain ⟨k0, k1, k2⟩ := box_set v1 w.heap.size _ _ _ (.int .i64 (inV 0).k) (.int .i64 (inV 0).n) (.string (inV 0).s) x0 x1 x2
      refine bodyPost_ret (res_ve (j := 6) (m := 7) (by kernel_rfl) _ _ w.heap.size (inV 0) (.int .i64 0) rfl rfl k0 k1 k2) rfl ⟨by rw [HR.out], hw.trans (box_set_tch v1 w.heap.size _ _ _) (fun i hi h => by omega)⟩
    · obtain ⟨n, hn⟩ : ∃ n, n = wrap64 (a * b) := ⟨_, rfl⟩
      have e : wrap64 (a * b) = n := hn.symm
      by_cases hin : i64v (a * b)
      · obtain ⟨h1, h2, h3⟩ := mul_in a b ha0 hb hin
        have HR : Hid (R = (inV n, 0)) := (show R = _ from by rw [hR, fitI_in hin, hn, h1])
        have e2 : wrap64 (n.tdiv a) = b := by rw [hn, h1]; exact h2
        clear h1 h2 hin hR hn ha hb
        by_cases hm : a = -1
        · have hbm : ¬ b = -9223372036854775808 := fun h => h3 ⟨hm, h⟩
          have hmb : (a == -1) = true := by simpa using hm
          have hbb : (b == -9223372036854775808) = false := by simpa using hbm
          have hnb : (b != b) = false := by simp
          clear h3 hm hbm
          go_enter Tryz.func160, Tryz.ntmps160
          go_wp2_with (go_at_call 164; refine (Hq.out _ _).mono ?_; rintro y v1 ⟨rfl, t1⟩; obtain ⟨⟨⟨x0, x1, x2⟩, f0, f1, f2⟩, hw⟩ := HB.out _ t1)
          obtain ⟨k0, k1, k2⟩ := box_set v1 w.heap.size _ _ _ (.int .i64 (inV n).k) (.int .i64 (inV n).n) (.string (inV n).s) x0 x1 x2
          refine bodyPost_ret (res_ve (j := 6) (m := 7) (by kernel_rfl) _ _ w.heap.size (inV n) (.int .i64 0) rfl rfl k0 k1 k2) rfl ⟨by rw [HR.out], hw.trans (box_set_tch v1 w.heap.size _ _ _) (fun i hi h => by omega)⟩
        · clear h3
          go_enter Tryz.func160, Tryz.ntmps160
          go_wp2_with (go_at_call 164; refine (Hq.out _ _).mono ?_; rintro y v1 ⟨rfl, t1⟩; obtain ⟨⟨⟨x0, x1, x2⟩, f0, f1, f2⟩, hw⟩ := HB.out _ t1)
          obtain ⟨k0, k1, k2⟩ := box_set v1 w.heap.size _ _ _ (.int .i64 (inV n).k) (.int .i64 (inV n).n) (.string (inV n).s) x0 x1 x2
          refine bodyPost_ret (res_ve (j := 6) (m := 7) (by kernel_rfl) _ _ w.heap.size (inV n) (.int .i64 0) rfl rfl k0 k1 k2) rfl ⟨by rw [HR.out], hw.trans (box_set_tch v1 w.heap.size _ _ _) (fun i hi h => by omega)⟩
      · have HR : Hid (R = (zV, 114)) := (show R = _ from by rw [hR, fitI_out hin])
        by_cases hm : a = -1 ∧ b = -9223372036854775808
        · obtain ⟨rfl, rfl⟩ := hm
          have hn' : n = -9223372036854775808 := by rw [hn]; unfold wrap64; omega
          subst hn'
          have e2 : wrap64 ((-9223372036854775808 : Int).tdiv (-1)) = -9223372036854775808 := by rw [Int.tdiv_neg, Int.tdiv_one]; unfold wrap64; omega
          have e3 : wrap64 9223372036854775808 = -9223372036854775808 := by unfold wrap64; omega
          clear hin hR hn ha hb
          go_enter Tryz.func160, Tryz.ntmps160
          go_wp2_with fail
          refine bodyPost_ret (res_ve (j := 6) (m := 7) (by kernel_rfl) _ _ w.heap.size zV (.int .i64 114) rfl rfl Hz.out.1 Hz.out.2.1 Hz.out.2.2) rfl ⟨by rw [HR.out], Tch.alloc _ _ _⟩
        · have h4 := mul_not a b ha0 ha hb hin hm
          rw [← hn] at h4
          obtain ⟨m, hmm⟩ : ∃ m, m = wrap64 (n.tdiv a) := ⟨_, rfl⟩
          have e2 : wrap64 (n.tdiv a) = m := hmm.symm
          rw [e2] at h4
          have h5 : (m != b) = true := by simpa using h4
          clear hmm hm hin hR hn ha hb h4
          go_enter Tryz.func160, Tryz.ntmps160
          go_wp2_with fail
          refine bodyPost_ret (res_ve (j := 6) (m := 7) (by kernel_rfl) _ _ w.heap.size zV (.int .i64 114) rfl rfl Hz.out.1 Hz.out.2.1 Hz.out.2.2) rfl ⟨by rw [HR.out], Tch.alloc _ _ _⟩
  · replace hR : R = if b = 0 then (zV, 115) else fitI (a.tdiv b) := hR
    by_cases hb0 : b = 0
    · have HR : Hid (R = (zV, 115)) := (show R = _ from by rw [hR, if_pos hb0])
      clear hR ha hb
      subst hb0
      go_enter Tryz.func160, Tryz.ntmps160
      go_wp2_with fail
      refine bodyPost_ret (res_ve (j := 6) (m := 7) (by kernel_rfl) _ _ w.heap.size zV (.int .i64 115) rfl rfl Hz.out.1 Hz.out.2.1 Hz.out.2.2) rfl ⟨by rw [HR.out], Tch.alloc _ _ _⟩
    · rw [if_neg hb0] at hR
      obtain ⟨n, hn⟩ : ∃ n, n = wrap64 (a.tdiv b) := ⟨_, rfl⟩
      have e : wrap64 (a.tdiv b) = n := hn.symm
      by_cases hm : a = -9223372036854775808
      · by_cases hb1 : b = -1
        · have HR : Hid (R = (zV, 114)) := (show R = _ from by rw [hR, hm, hb1]; rfl)
          clear hR ha hb hn
          go_enter Tryz.func160, Tryz.ntmps160
          go_wp2_with fail
          refine bodyPost_ret (res_ve (j := 6) (m := 7) (by kernel_rfl) _ _ w.heap.size zV (.int .i64 114) rfl rfl Hz.out.1 Hz.out.2.1 Hz.out.2.2) rfl ⟨by rw [HR.out], Tch.alloc _ _ _⟩
        · have hi := div_in a b hb0 ha hb (fun h => hb1 h.2)
          have hmb : (a == -9223372036854775808) = true := by simpa using hm
          have HR : Hid (R = (inV n, 0)) := (show R = _ from by rw [hR, fitI_in hi, hn, wrap_in hi])
          clear hi hR ha hb hn hm
          go_enter Tryz.func160, Tryz.ntmps160
          go_wp2_with (go_at_call 164; refine (Hq.out _ _).mono ?_; rintro y v1 ⟨rfl, t1⟩; obtain ⟨⟨⟨x0, x1, x2⟩, f0, f1, f2⟩, hw⟩ := HB.out _ t1)
          obtain ⟨k0, k1, k2⟩ := box_set v1 w.heap.size _ _ _ (.int .i64 (inV n).k) (.int .i64 (inV n).n) (.string (inV n).s) x0 x1 x2
          refine bodyPost_ret (res_ve (j := 6) (m := 7) (by kernel_rfl) _ _ w.heap.size (inV n) (.int .i64 0) rfl rfl k0 k1 k2) rfl ⟨by rw [HR.out], hw.trans (box_set_tch v1 w.heap.size _ _ _) (fun i hi h => by omega)⟩
      · have hi := div_in a b hb0 ha hb (fun h => hm h.1)
        have HR : Hid (R = (inV n, 0)) := (show R = _ from by rw [hR, fitI_in hi, hn, wrap_in hi])
        clear hi hR ha hb hn
        go_enter Tryz.func160, Tryz.ntmps160
        go_wp2_with (go_at_call 164; refine (Hq.out _ _).mono ?_; rintro y v1 ⟨rfl, t1⟩; obtain ⟨⟨⟨x0, x1, x2⟩, f0, f1, f2⟩, hw⟩ := HB.out _ t1)
        obtain ⟨k0, k1, k2⟩ := box_set v1 w.heap.size _ _ _ (.int .i64 (inV n).k) (.int .i64 (inV n).n) (.string (inV n).s) x0 x1 x2
        refine bodyPost_ret (res_ve (j := 6) (m := 7) (by kernel_rfl) _ _ w.heap.size (inV n) (.int .i64 0) rfl rfl k0 k1 k2) rfl ⟨by rw [HR.out], hw.trans (box_set_tch v1 w.heap.size _ _ _) (fun i hi h => by omega)⟩
  · replace hR : R = if b = 0 then (zV, 115) else fitI (a.tmod b) := hR
    by_cases hb0 : b = 0
    · have HR : Hid (R = (zV, 115)) := (show R = _ from by rw [hR, if_pos hb0])
      clear hR ha hb
      subst hb0
      go_enter Tryz.func160, Tryz.ntmps160
      go_wp2_with fail
      refine bodyPost_ret (res_ve (j := 6) (m := 7) (by kernel_rfl) _ _ w.heap.size zV (.int .i64 115) rfl rfl Hz.out.1 Hz.out.2.1 Hz.out.2.2) rfl ⟨by rw [HR.out], Tch.alloc _ _ _⟩
    · rw [if_neg hb0] at hR
      obtain ⟨n, hn⟩ : ∃ n, n = wrap64 (a.tmod b) := ⟨_, rfl⟩
      have e : wrap64 (a.tmod b) = n := hn.symm
      have hi := mod_in a b hb0 hb
      have HR : Hid (R = (inV n, 0)) := (show R = _ from by rw [hR, fitI_in hi, hn, wrap_in hi])
      have e' : a.tmod b = n := (hn.trans (wrap_in hi)).symm
      clear hi hR ha hb hn e
      go_enter Tryz.func160, Tryz.ntmps160
      go_wp2_with (go_at_call 164; refine (Hq.out _ _).mono ?_; rintro y v1 ⟨rfl, t1⟩; obtain ⟨⟨⟨x0, x1, x2⟩, f0, f1, f2⟩, hw⟩ := HB.out _ t1)
      obtain ⟨k0, k1, k2⟩ := box_set v1 w.heap.size _ _ _ (.int .i64 (inV n).k) (.int .i64 (inV n).n) (.string (inV n).s) x0 x1 x2
      refine bodyPost_ret (res_ve (j := 6) (m := 7) (by kernel_rfl) _ _ w.heap.size (inV n) (.int .i64 0) rfl rfl k0 k1 k2) rfl ⟨by rw [HR.out], hw.trans (box_set_tch v1 w.heap.size _ _ _) (fun i hi h => by omega)⟩
end Go.Proofs.YtmaekkhmiafnmaaGreatDoor
namespace Go.Proofs.YtmaekkhmiafnmaaGreatDoor
open Go.RowKit Go Go.Lib
theorem vrow_at {w : World} {ao : Option Addr} {l : List Val} (h : SL w ao (rcl l)) {k : Nat} (hk : k < l.length) : ∃ g o, ao = some ⟨g, o, none⟩ ∧ w.cell? ⟨g, o + k * 3, none⟩ = some (.int .i64 l[k].k) ∧ w.cell? ⟨g, o + k * 3 + 1, none⟩ = some (.int .i64 l[k].n) ∧ w.cell? ⟨g, o + k * 3 + 2, none⟩ = some (.string l[k].s) := by
  obtain ⟨h0, h1, h2⟩ := rcl_get l k hk
  have hne : rcl l ≠ [] := by
    intro e
    rw [e] at h0
    simp at h0
  obtain ⟨g, o, e, ha⟩ := h hne
  exact ⟨g, o, e, ha _ _ h0, ha _ _ h1, ha _ _ h2⟩
theorem vidx_any (v : Val) (l : List Val) (ao : Option Addr) (cp : Nat) (w : World) (h : SL w ao (rcl l)) (hl : l.length ≤ 1000000000) :
    Calls Tryz.prog 156 #[.slice ao l.length cp, vV v] w fun x w' => (∃ i : Int, x = .returned (.int .i64 i) ∧ (0 ≤ i ↔ l.any (fun y => decide (y = v)) = true)) ∧ Tch (fun _ => False) w w' := by
  have HS : Hid (∀ W, Tch (fun _ => False) (w.alloc (.cells #[.int .i64 v.k, .int .i64 v.n, .string v.s] 29)) W → SL W ao (rcl l) ∧ (W.cell? ⟨w.heap.size, 0, none⟩ = some (.int .i64 v.k) ∧ W.cell? ⟨w.heap.size, 1, none⟩ = some (.int .i64 v.n) ∧ W.cell? ⟨w.heap.size, 2, none⟩ = some (.string v.s)) ∧ Tch (fun _ => False) w W) := fun W t =>
    ⟨h.no ((Tch.alloc _ _ _).trans' t), box_tch t, (Tch.alloc _ _ _).trans' t⟩
  obtain ⟨r, hr⟩ : ∃ r, r = l.any (fun y => decide (y = v)) := ⟨_, rfl⟩
  have HR : Hid (r = l.any (fun y => decide (y = v))) := hr
  rw [← hr]
  obtain ⟨n, hn⟩ : ∃ n, n = l.length := ⟨_, rfl⟩
  have Hn : Hid _ := hn
  rw [← hn] at hl ⊢
  clear h hn hr
  go_enter Tryz.func156, Tryz.ntmps156
  go_wp2_with fail
  obtain ⟨w0, hw0⟩ : ∃ w0, w0 = w.alloc (.cells #[.int .i64 v.k, .int .i64 v.n, .string v.s] 29) := ⟨_, rfl⟩
  rw [← hw0] at HS ⊢
  clear hw0
  go_loopw [8] (fun iv wr => ∃ k : Nat, iv = .int .i64 k ∧ k ≤ n ∧ Tch (fun _ => False) w0 wr ∧ Hid (∀ j (hj : j < l.length), j < k → ¬ l[j] = v)) (fun iv _ => n - (RowKit.intOf iv).toNat)
  case atStart => exact ⟨0, rfl, by omega, Tch.refl _ _, fun _ _ h => by omega⟩
  case round =>
    obtain ⟨k, rfl, hk, hT, HK⟩ := hrel
    by_cases hlt : k < n
    · have hltI : (k : Int) < (n : Int) := by omega
      have hkl : k < l.length := by rw [← Hn.out]; exact hlt
      obtain ⟨hSL, ⟨b0, b1, b2⟩, hW⟩ := HS.out _ hT
      obtain ⟨g, o, rfl, c0, c1, c2⟩ := vrow_at hSL hkl
      obtain ⟨p, hp⟩ : ∃ p, p = l[k] := ⟨_, rfl⟩
      rw [← hp] at c0 c1 c2
      have Hp : Hid (p = l[k]) := hp
      obtain ⟨d, hd⟩ : ∃ d, d = decide (v = p) := ⟨_, rfl⟩
      have e1 : ∀ W, (binOp .eql 29 (vV v) (vV p)).run Tryz.prog W = .ok (.bool d) W := fun W => by rw [hd]; exact eql_dec v p W
      have HD : Hid (d = decide (v = p)) := hd
      clear hSL hp hd
      cases d with
      | true =>
        have HE : Hid (r = true) := (show r = true from by
          rw [HR.out, List.any_eq_true]
          exact ⟨l[k], List.getElem_mem hkl, by rw [← Hp.out, of_decide_eq_true HD.out.symm]; simp⟩)
        go_wp2_with fail
        go_quiet (fail)
        go_wp2_with fail
        go_ret
        exact ⟨⟨k, rfl, by simp [HE.out]⟩, hW.trans' ((Tch.refl _ _).drewN _)⟩
      | false =>
        have HE : Hid (∀ j (hj : j < l.length), j < k + 1 → ¬ l[j] = v) := fun j hj hjk => by
          rcases Nat.lt_or_ge j k with h1 | h1
          · exact HK.out j hj h1
          · obtain rfl : j = k := by omega
            rw [← Hp.out]; exact fun h => of_decide_eq_false HD.out.symm h.symm
        go_wp2_with fail
        go_quiet (fail)
        go_wp2_with fail
        go_roundw
        case rel => exact ⟨k + 1, by first | trivial | rfl, by omega, hT.trans' ((Tch.refl _ _).drewN _), HE⟩
        case measure => simp [RowKit.intOf]; omega
    · have hltI : ¬ (k : Int) < (n : Int) := by omega
      have hW := (HS.out _ hT).2.2
      have HE : Hid (r = false) := (show r = false from by
        rw [HR.out]
        rw [List.any_eq_false]
        intro y hy
        obtain ⟨j, hj, rfl⟩ := List.getElem_of_mem hy
        simpa using HK.out j hj (by have := Hn.out; omega))
      go_wp2_with fail
      go_ret
      exact ⟨⟨-1, rfl, by simp [HE.out]⟩, hW⟩
theorem vcontains_any (v : Val) (l : List Val) (ao : Option Addr) (cp : Nat) (w : World) (h : SL w ao (rcl l)) (hl : l.length ≤ 1000000000) :
    Calls Tryz.prog 129 #[.slice ao l.length cp, vV v] w fun x w' => x = .returned (.bool (l.any (fun y => decide (y = v)))) ∧ Tch (fun _ => False) w w' := by
  have q := vidx_any v l ao cp (w.alloc (.cells #[.int .i64 v.k, .int .i64 v.n, .string v.s] 29)) (h.no (Tch.alloc _ _ _)) hl
  obtain ⟨r, hr⟩ : ∃ r, r = l.any (fun y => decide (y = v)) := ⟨_, rfl⟩
  rw [← hr] at q ⊢
  obtain ⟨n, hn⟩ : ∃ n, n = l.length := ⟨_, rfl⟩
  rw [← hn] at q ⊢
  clear h hl hr hn
  go_enter Tryz.func129, Tryz.ntmps129
  go_wp2_with (go_at_call 156; refine q.mono ?_; rintro y w1 ⟨⟨i, rfl, hi⟩, t1⟩)
  have Hi : Hid (r = decide (0 ≤ i)) := (show r = _ from by
    rw [Bool.eq_iff_iff, ← hi]; simp)
  go_ret
  exact ⟨by rw [Hi.out]; rfl, (Tch.alloc _ _ _).trans' t1⟩
end Go.Proofs.YtmaekkhmiafnmaaGreatDoor
namespace Go.Proofs.YtmaekkhmiafnmaaGreatDoor
open Go.RowKit Go Go.Lib
def Bx (N : Nat) (v : Val) (W : World) : Prop := W.cell? ⟨N, 0, none⟩ = some (.int .i64 v.k) ∧ W.cell? ⟨N, 1, none⟩ = some (.int .i64 v.n) ∧ W.cell? ⟨N, 2, none⟩ = some (.string v.s)
theorem Bx.no {N : Nat} {v : Val} {W W' : World} (h : Bx N v W) (t : Tch (fun _ => False) W W') : Bx N v W' :=
  have l0 : N < W.heap.size := cell_lt h.1
  ⟨(t.cell (p := ⟨N, 0, none⟩) l0 (fun h => h)).trans h.1, (t.cell (p := ⟨N, 1, none⟩) l0 (fun h => h)).trans h.2.1, (t.cell (p := ⟨N, 2, none⟩) l0 (fun h => h)).trans h.2.2⟩
structure BB (N : Nat) (v : Val) (W : World) : Prop where
  z : Bx N zV W
  m : Bx (N + 1) v W
  fz : W.frozen? ⟨N, 0, none⟩ = false ∧ W.frozen? ⟨N, 1, none⟩ = false ∧ W.frozen? ⟨N, 2, none⟩ = false
  fm : W.frozen? ⟨N + 1, 0, none⟩ = false ∧ W.frozen? ⟨N + 1, 1, none⟩ = false ∧ W.frozen? ⟨N + 1, 2, none⟩ = false
theorem BB.no {N : Nat} {v : Val} {W W' : World} (h : BB N v W) (t : Tch (fun _ => False) W W') : BB N v W' :=
  have l0 : N < W.heap.size := cell_lt h.z.1
  have l1 : N + 1 < W.heap.size := cell_lt h.m.1
  ⟨h.z.no t, h.m.no t, ⟨(t.frozen (p := ⟨N, 0, none⟩) l0 (fun h => h)).trans h.fz.1, (t.frozen (p := ⟨N, 1, none⟩) l0 (fun h => h)).trans h.fz.2.1, (t.frozen (p := ⟨N, 2, none⟩) l0 (fun h => h)).trans h.fz.2.2⟩, ⟨(t.frozen (p := ⟨N + 1, 0, none⟩) l1 (fun h => h)).trans h.fm.1, (t.frozen (p := ⟨N + 1, 1, none⟩) l1 (fun h => h)).trans h.fm.2.1, (t.frozen (p := ⟨N + 1, 2, none⟩) l1 (fun h => h)).trans h.fm.2.2⟩⟩
theorem BB.set {N : Nat} {v : Val} {W : World} (h : BB N v W) (u : Val) : BB N u (((W.setCell ⟨N + 1, 0, none⟩ (.int .i64 u.k)).setCell ⟨N + 1, 1, none⟩ (.int .i64 u.n)).setCell ⟨N + 1, 2, none⟩ (.string u.s)) := by
  obtain ⟨x0, x1, x2⟩ := h.m
  obtain ⟨z0, z1, z2⟩ := h.z
  obtain ⟨f0, f1, f2⟩ := h.fz
  obtain ⟨g0, g1, g2⟩ := h.fm
  have t : Tch (fun i => i = N + 1) W _ := box_set_tch W (N + 1) (.int .i64 u.k) (.int .i64 u.n) (.string u.s)
  have l0 : N < W.heap.size := cell_lt z0
  have n0 : ¬ N = N + 1 := by omega
  refine ⟨⟨(t.cell (p := ⟨N, 0, none⟩) l0 n0).trans z0, (t.cell (p := ⟨N, 1, none⟩) l0 n0).trans z1, (t.cell (p := ⟨N, 2, none⟩) l0 n0).trans z2⟩, box_set W (N + 1) _ _ _ _ _ _ x0 x1 x2, ⟨(t.frozen (p := ⟨N, 0, none⟩) l0 n0).trans f0, (t.frozen (p := ⟨N, 1, none⟩) l0 n0).trans f1, (t.frozen (p := ⟨N, 2, none⟩) l0 n0).trans f2⟩, ?_⟩
  simp [g0, g1, g2]
theorem maxV_snoc : ∀ (l : List Val) (m x : Val), maxV m (l ++ [x]) = if 0 < cmpV x (maxV m l) then x else maxV m l
  | [], _, _ => rfl
  | _ :: l, _, x => maxV_snoc l _ x
theorem minV_snoc : ∀ (l : List Val) (m x : Val), minV m (l ++ [x]) = if cmpV x (minV m l) < 0 then x else minV m l
  | [], _, _ => rfl
  | _ :: l, _, x => minV_snoc l _ x
theorem maxV_any (v : Val) (l : List Val) (ao : Option Addr) (cp : Nat) (w : World) (h : SL w ao (rcl (v :: l))) (hl : l.length ≤ 1000000) :
    Calls Tryz.prog 158 #[.slice ao (l.length + 1 : Nat) cp, .func (.func 155) #[] #[]] w fun x w' => x = .returned (vV (maxV v l)) ∧ Tch (fun _ => False) w w' := by
  obtain ⟨g, o, rfl, c0, c1, c2⟩ := vrow_at h (k := 0) (by simp)
  simp only [List.getElem_cons_zero, Nat.zero_mul, Nat.add_zero] at c0 c1 c2
  have hgl := cell_lt c0
  obtain ⟨w0, hw0⟩ : ∃ w0, w0 = (w.alloc (.cells #[.int .i64 0, .int .i64 0, .string ⟨#[]⟩] 29)).alloc (.cells #[.int .i64 v.k, .int .i64 v.n, .string v.s] 29) := ⟨_, rfl⟩
  have hB0 : BB w.heap.size v w0 := by
    rw [hw0]
    refine ⟨⟨?_, ?_, ?_⟩, ⟨?_, ?_, ?_⟩, ⟨?_, ?_, ?_⟩, ⟨?_, ?_, ?_⟩⟩ <;> simp
  have t0 : Tch (fun _ => False) w w0 := by rw [hw0]; exact (Tch.alloc _ _ _).allocR _
  obtain ⟨N, hN⟩ : ∃ N, N = w.heap.size := ⟨_, rfl⟩
  rw [← hN] at hB0 hgl
  have HS : Hid (∀ W, Tch (fun i => i = N + 1) w0 W → SL W (some ⟨g, o, none⟩) (rcl (v :: l)) ∧ Tch (fun i => i = N + 1) w W) := fun W t => by
    have T : Tch (fun i => i = N + 1) w W := (t0.mono (fun _ _ h => h.elim)).trans' t
    refine ⟨h.tch T (fun g' o' e => ?_), T⟩
    simp only [Option.some.injEq, Addr.mk.injEq] at e
    obtain ⟨rfl, _⟩ := e
    show ¬ g = N + 1
    have : g < N := hgl
    omega
  obtain ⟨n, hn⟩ : ∃ n, n = l.length + 1 := ⟨_, rfl⟩
  have Hn : Hid _ := hn
  have hn1 : (1 : Int) ≤ (n : Int) := by omega
  have hn1' : ¬ (n : Int) < 1 := by omega
  have hn0 : (0 : Int) < (n : Int) := by omega
  have hn9 : n ≤ 1000001 := by omega
  rw [← hn]
  have d0 : ∀ ob, (w.alloc ob).cell? ⟨g, o, none⟩ = some (.int .i64 v.k) := fun ob => by rw [World.cell?_alloc_lt _ _ _ (by rw [← hN]; exact hgl)]; exact c0
  have d1 : ∀ ob, (w.alloc ob).cell? ⟨g, o + 1, none⟩ = some (.int .i64 v.n) := fun ob => by rw [World.cell?_alloc_lt _ _ _ (by rw [← hN]; exact hgl)]; exact c1
  have d2 : ∀ ob, (w.alloc ob).cell? ⟨g, o + 2, none⟩ = some (.string v.s) := fun ob => by rw [World.cell?_alloc_lt _ _ _ (by rw [← hN]; exact hgl)]; exact c2
  have Hcmp : Hid _ := fun a b W => compare_any a b W
  have HB0 : Hid (BB N v w0) := hB0
  have Hw0 : Hid _ := hw0
  subst hN
  clear h hn hB0 hw0 t0 c0 c1 c2
  go_enter Tryz.func158, Tryz.ntmps158
  go_wp2_with fail
  rw [← Hw0.out]
  clear d0 d1 d2 hgl
  go_loopw [6] (fun iv wr => ∃ (k : Nat) (m : Val), iv = .int .i64 k ∧ 1 ≤ k ∧ k ≤ n ∧ Tch (fun i => i = w.heap.size + 1) w0 wr ∧ Hid (BB w.heap.size m wr ∧ m = maxV v (l.take (k - 1)))) (fun iv _ => n - (RowKit.intOf iv).toNat)
  case atStart => exact ⟨1, v, rfl, by omega, by omega, Tch.refl _ _, HB0.out, rfl⟩
  case round =>
    obtain ⟨k, m, rfl, hk1, hk, hT, HM⟩ := hrel
    by_cases hlt : k < n
    · have hltI : (k : Int) < (n : Int) := by omega
      have hkl : k < (v :: l).length := by have := Hn.out; simp; omega
      obtain ⟨p, hp⟩ : ∃ p, p = (v :: l)[k] := ⟨_, rfl⟩
      have HP : Hid (l[k - 1]? = some p) := (show _ = _ from by
        obtain ⟨j, rfl⟩ : ∃ j, k = j + 1 := ⟨k - 1, by omega⟩
        rw [hp, List.getElem_cons_succ, Nat.add_sub_cancel]
        exact List.getElem?_eq_getElem _)
      have HC : Hid (∀ W, Tch (fun _ => False) wr W → Tch (fun _ => False) wr W ∧ (W.cell? ⟨g, o + k * 3, none⟩ = some (.int .i64 p.k) ∧ W.cell? ⟨g, o + k * 3 + 1, none⟩ = some (.int .i64 p.n) ∧ W.cell? ⟨g, o + k * 3 + 2, none⟩ = some (.string p.s)) ∧ (W.cell? ⟨w.heap.size + 1, 0, none⟩ = some (.int .i64 m.k) ∧ W.cell? ⟨w.heap.size + 1, 1, none⟩ = some (.int .i64 m.n) ∧ W.cell? ⟨w.heap.size + 1, 2, none⟩ = some (.string m.s)) ∧ W.frozen? ⟨w.heap.size + 1, 0, none⟩ = false ∧ W.frozen? ⟨w.heap.size + 1, 1, none⟩ = false ∧ W.frozen? ⟨w.heap.size + 1, 2, none⟩ = false) := fun W t => by
        obtain ⟨g', o', e', c⟩ := vrow_at ((HS.out _ hT).1.no t) hkl
        simp only [Option.some.injEq, Addr.mk.injEq, and_true] at e'
        obtain ⟨rfl, rfl⟩ := e'
        rw [← hp] at c
        have B := HM.out.1.no t
        exact ⟨t, c, B.m, B.fm⟩
      obtain ⟨E, hE⟩ : ∃ E, E = cmpV p m := ⟨_, rfl⟩
      have Hq : Hid (∀ W, Calls Tryz.prog 155 #[vA p.k p.n p.s, vA m.k m.n m.s] W fun x w' => x = .returned (.int .i64 E) ∧ Tch (fun _ => False) W w') := fun W => by rw [hE]; exact compare_any p m W
      have HE : Hid _ := hE
      have hT' : Hid _ := hT
      have HST : Hid _ := (HS.out _ hT).2
      clear hp hE hkl HS
      have hwr : wrap64 ((k : Int) + 1) = ((k + 1 : Nat) : Int) := by unfold wrap64; omega
      obtain ⟨_, ⟨c0, c1, c2⟩, ⟨m0, m1, m2⟩, f0, f1, f2⟩ := HC.out _ (Tch.refl _ _)
      by_cases hc : 0 < E
      · have Hc : Hid _ := hc
        go_wp2_with fail
        go_region_held3 (fun W => Tch (fun _ => False) wr W ∧ (W.cell? ⟨g, o + k * 3, none⟩ = some (.int .i64 p.k) ∧ W.cell? ⟨g, o + k * 3 + 1, none⟩ = some (.int .i64 p.n) ∧ W.cell? ⟨g, o + k * 3 + 2, none⟩ = some (.string p.s)) ∧ (W.cell? ⟨w.heap.size + 1, 0, none⟩ = some (.int .i64 m.k) ∧ W.cell? ⟨w.heap.size + 1, 1, none⟩ = some (.int .i64 m.n) ∧ W.cell? ⟨w.heap.size + 1, 2, none⟩ = some (.string m.s)) ∧ W.frozen? ⟨w.heap.size + 1, 0, none⟩ = false ∧ W.frozen? ⟨w.heap.size + 1, 1, none⟩ = false ∧ W.frozen? ⟨w.heap.size + 1, 2, none⟩ = false)
          ((refine HC.out _ ?_; first | assumption | exact (Tch.refl _ _).drew))
          ((go_at_call 155; refine (Hq.out _).mono ?_; rintro y v1 ⟨rfl, t1⟩; have V1 := Tch.trans' (show _ ∧ _ by assumption).1 t1))
        all_goals
          obtain ⟨_, ⟨c0, c1, c2⟩, ⟨m0, m1, m2⟩, f0, f1, f2⟩ := HC.out _ V1
          go_wp2_with fail
          go_roundw
          case rel =>
            refine ⟨k + 1, p, by first | trivial | rfl, by omega, by omega, ?_, ?_, ?_⟩
            · exact (hT'.out.trans' (V1.mono (fun _ _ h => h.elim))).trans' (box_set_tch v1 (w.heap.size + 1) _ _ _)
            · exact (HM.out.1.no V1).set p
            · obtain ⟨j, rfl⟩ : ∃ j, k = j + 1 := ⟨k - 1, by omega⟩
              have h1 := HP.out
              rw [Nat.add_sub_cancel] at h1 ⊢
              have h2 : m = maxV v (l.take j) := HM.out.2
              rw [List.take_add_one, h1, Option.toList_some, maxV_snoc, ← h2, ← HE.out, if_pos Hc.out]
          case measure => simp [RowKit.intOf]; omega
      · have Hc : Hid _ := hc
        go_wp2_with fail
        go_region_held3 (fun W => Tch (fun _ => False) wr W ∧ (W.cell? ⟨g, o + k * 3, none⟩ = some (.int .i64 p.k) ∧ W.cell? ⟨g, o + k * 3 + 1, none⟩ = some (.int .i64 p.n) ∧ W.cell? ⟨g, o + k * 3 + 2, none⟩ = some (.string p.s)) ∧ (W.cell? ⟨w.heap.size + 1, 0, none⟩ = some (.int .i64 m.k) ∧ W.cell? ⟨w.heap.size + 1, 1, none⟩ = some (.int .i64 m.n) ∧ W.cell? ⟨w.heap.size + 1, 2, none⟩ = some (.string m.s)) ∧ W.frozen? ⟨w.heap.size + 1, 0, none⟩ = false ∧ W.frozen? ⟨w.heap.size + 1, 1, none⟩ = false ∧ W.frozen? ⟨w.heap.size + 1, 2, none⟩ = false)
          ((refine HC.out _ ?_; first | assumption | exact (Tch.refl _ _).drew))
          ((go_at_call 155; refine (Hq.out _).mono ?_; rintro y v1 ⟨rfl, t1⟩; have V1 := Tch.trans' (show _ ∧ _ by assumption).1 t1))
        all_goals
          go_wp2_with fail
          go_roundw
          case rel =>
            refine ⟨k + 1, m, by first | trivial | rfl, by omega, by omega, hT'.out.trans' (V1.mono (fun _ _ h => h.elim)), HM.out.1.no V1, ?_⟩
            obtain ⟨j, rfl⟩ : ∃ j, k = j + 1 := ⟨k - 1, by omega⟩
            have h1 := HP.out
            rw [Nat.add_sub_cancel] at h1 ⊢
            have h2 : m = maxV v (l.take j) := HM.out.2
            rw [List.take_add_one, h1, Option.toList_some, maxV_snoc, ← h2, ← HE.out, if_neg Hc.out]
          case measure => simp [RowKit.intOf]; omega
    · have hltI : ¬ (k : Int) < (n : Int) := by omega
      have HV : Hid (m = maxV v l) := (show m = maxV v l from by
        rw [HM.out.2, List.take_of_length_le (by have := Hn.out; omega)])
      have T := (HS.out _ hT).2
      obtain ⟨m0, m1, m2⟩ := HM.out.1.m
      obtain ⟨z0, z1, z2⟩ := HM.out.1.z
      obtain ⟨f0, f1, f2⟩ := HM.out.1.fz
      obtain ⟨k0, k1, k2⟩ := box_set wr w.heap.size _ _ _ (.int .i64 m.k) (.int .i64 m.n) (.string m.s) z0 z1 z2
      have HK : Hid _ := (⟨k0, k1, k2⟩ : _ ∧ _ ∧ _)
      have T0 : Tch (fun _ => False) w wr := T.mono (fun i hi h => by omega)
      have HT : Hid _ := T0.trans (box_set_tch wr w.heap.size (.int .i64 m.k) (.int .i64 m.n) (.string m.s)) (fun i hi h => by omega)
      clear k0 k1 k2 T T0 HS hT
      go_wp2_with fail
      refine bodyPost_ret (res_v (j := 4) (by kernel_rfl) _ _ w.heap.size m ?_ HK.out.1 HK.out.2.1 HK.out.2.2) rfl ⟨by rw [HV.out], HT.out⟩
      rfl
theorem minV_any (v : Val) (l : List Val) (ao : Option Addr) (cp : Nat) (w : World) (h : SL w ao (rcl (v :: l))) (hl : l.length ≤ 1000000) :
    Calls Tryz.prog 159 #[.slice ao (l.length + 1 : Nat) cp, .func (.func 155) #[] #[]] w fun x w' => x = .returned (vV (minV v l)) ∧ Tch (fun _ => False) w w' := by
  obtain ⟨g, o, rfl, c0, c1, c2⟩ := vrow_at h (k := 0) (by simp)
  simp only [List.getElem_cons_zero, Nat.zero_mul, Nat.add_zero] at c0 c1 c2
  have hgl := cell_lt c0
  obtain ⟨w0, hw0⟩ : ∃ w0, w0 = (w.alloc (.cells #[.int .i64 0, .int .i64 0, .string ⟨#[]⟩] 29)).alloc (.cells #[.int .i64 v.k, .int .i64 v.n, .string v.s] 29) := ⟨_, rfl⟩
  have hB0 : BB w.heap.size v w0 := by
    rw [hw0]
    refine ⟨⟨?_, ?_, ?_⟩, ⟨?_, ?_, ?_⟩, ⟨?_, ?_, ?_⟩, ⟨?_, ?_, ?_⟩⟩ <;> simp
  have t0 : Tch (fun _ => False) w w0 := by rw [hw0]; exact (Tch.alloc _ _ _).allocR _
  obtain ⟨N, hN⟩ : ∃ N, N = w.heap.size := ⟨_, rfl⟩
  rw [← hN] at hB0 hgl
  have HS : Hid (∀ W, Tch (fun i => i = N + 1) w0 W → SL W (some ⟨g, o, none⟩) (rcl (v :: l)) ∧ Tch (fun i => i = N + 1) w W) := fun W t => by
    have T : Tch (fun i => i = N + 1) w W := (t0.mono (fun _ _ h => h.elim)).trans' t
    refine ⟨h.tch T (fun g' o' e => ?_), T⟩
    simp only [Option.some.injEq, Addr.mk.injEq] at e
    obtain ⟨rfl, _⟩ := e
    show ¬ g = N + 1
    have : g < N := hgl
    omega
  obtain ⟨n, hn⟩ : ∃ n, n = l.length + 1 := ⟨_, rfl⟩
  have Hn : Hid _ := hn
  have hn1 : (1 : Int) ≤ (n : Int) := by omega
  have hn1' : ¬ (n : Int) < 1 := by omega
  have hn0 : (0 : Int) < (n : Int) := by omega
  have hn9 : n ≤ 1000001 := by omega
  rw [← hn]
  have d0 : ∀ ob, (w.alloc ob).cell? ⟨g, o, none⟩ = some (.int .i64 v.k) := fun ob => by rw [World.cell?_alloc_lt _ _ _ (by rw [← hN]; exact hgl)]; exact c0
  have d1 : ∀ ob, (w.alloc ob).cell? ⟨g, o + 1, none⟩ = some (.int .i64 v.n) := fun ob => by rw [World.cell?_alloc_lt _ _ _ (by rw [← hN]; exact hgl)]; exact c1
  have d2 : ∀ ob, (w.alloc ob).cell? ⟨g, o + 2, none⟩ = some (.string v.s) := fun ob => by rw [World.cell?_alloc_lt _ _ _ (by rw [← hN]; exact hgl)]; exact c2
  have Hcmp : Hid _ := fun a b W => compare_any a b W
  have HB0 : Hid (BB N v w0) := hB0
  have Hw0 : Hid _ := hw0
  subst hN
  clear h hn hB0 hw0 t0 c0 c1 c2
  go_enter Tryz.func159, Tryz.ntmps159
  go_wp2_with fail
  rw [← Hw0.out]
  clear d0 d1 d2 hgl
  go_loopw [6] (fun iv wr => ∃ (k : Nat) (m : Val), iv = .int .i64 k ∧ 1 ≤ k ∧ k ≤ n ∧ Tch (fun i => i = w.heap.size + 1) w0 wr ∧ Hid (BB w.heap.size m wr ∧ m = minV v (l.take (k - 1)))) (fun iv _ => n - (RowKit.intOf iv).toNat)
  case atStart => exact ⟨1, v, rfl, by omega, by omega, Tch.refl _ _, HB0.out, rfl⟩
  case round =>
    obtain ⟨k, m, rfl, hk1, hk, hT, HM⟩ := hrel
    by_cases hlt : k < n
    · have hltI : (k : Int) < (n : Int) := by omega
      have hkl : k < (v :: l).length := by have := Hn.out; simp; omega
      obtain ⟨p, hp⟩ : ∃ p, p = (v :: l)[k] := ⟨_, rfl⟩
      have HP : Hid (l[k - 1]? = some p) := (show _ = _ from by
        obtain ⟨j, rfl⟩ : ∃ j, k = j + 1 := ⟨k - 1, by omega⟩
        rw [hp, List.getElem_cons_succ, Nat.add_sub_cancel]
        exact List.getElem?_eq_getElem _)
      have HC : Hid (∀ W, Tch (fun _ => False) wr W → Tch (fun _ => False) wr W ∧ (W.cell? ⟨g, o + k * 3, none⟩ = some (.int .i64 p.k) ∧ W.cell? ⟨g, o + k * 3 + 1, none⟩ = some (.int .i64 p.n) ∧ W.cell? ⟨g, o + k * 3 + 2, none⟩ = some (.string p.s)) ∧ (W.cell? ⟨w.heap.size + 1, 0, none⟩ = some (.int .i64 m.k) ∧ W.cell? ⟨w.heap.size + 1, 1, none⟩ = some (.int .i64 m.n) ∧ W.cell? ⟨w.heap.size + 1, 2, none⟩ = some (.string m.s)) ∧ W.frozen? ⟨w.heap.size + 1, 0, none⟩ = false ∧ W.frozen? ⟨w.heap.size + 1, 1, none⟩ = false ∧ W.frozen? ⟨w.heap.size + 1, 2, none⟩ = false) := fun W t => by
        obtain ⟨g', o', e', c⟩ := vrow_at ((HS.out _ hT).1.no t) hkl
        simp only [Option.some.injEq, Addr.mk.injEq, and_true] at e'
        obtain ⟨rfl, rfl⟩ := e'
        rw [← hp] at c
        have B := HM.out.1.no t
        exact ⟨t, c, B.m, B.fm⟩
      obtain ⟨E, hE⟩ : ∃ E, E = cmpV p m := ⟨_, rfl⟩
      have Hq : Hid (∀ W, Calls Tryz.prog 155 #[vA p.k p.n p.s, vA m.k m.n m.s] W fun x w' => x = .returned (.int .i64 E) ∧ Tch (fun _ => False) W w') := fun W => by rw [hE]; exact compare_any p m W
      have HE : Hid _ := hE
      have hT' : Hid _ := hT
      have HST : Hid _ := (HS.out _ hT).2
      clear hp hE hkl HS
      have hwr : wrap64 ((k : Int) + 1) = ((k + 1 : Nat) : Int) := by unfold wrap64; omega
      obtain ⟨_, ⟨c0, c1, c2⟩, ⟨m0, m1, m2⟩, f0, f1, f2⟩ := HC.out _ (Tch.refl _ _)
      by_cases hc : E < 0
      · have Hc : Hid _ := hc
        go_wp2_with fail
        go_region_held3 (fun W => Tch (fun _ => False) wr W ∧ (W.cell? ⟨g, o + k * 3, none⟩ = some (.int .i64 p.k) ∧ W.cell? ⟨g, o + k * 3 + 1, none⟩ = some (.int .i64 p.n) ∧ W.cell? ⟨g, o + k * 3 + 2, none⟩ = some (.string p.s)) ∧ (W.cell? ⟨w.heap.size + 1, 0, none⟩ = some (.int .i64 m.k) ∧ W.cell? ⟨w.heap.size + 1, 1, none⟩ = some (.int .i64 m.n) ∧ W.cell? ⟨w.heap.size + 1, 2, none⟩ = some (.string m.s)) ∧ W.frozen? ⟨w.heap.size + 1, 0, none⟩ = false ∧ W.frozen? ⟨w.heap.size + 1, 1, none⟩ = false ∧ W.frozen? ⟨w.heap.size + 1, 2, none⟩ = false)
          ((refine HC.out _ ?_; first | assumption | exact (Tch.refl _ _).drew))
          ((go_at_call 155; refine (Hq.out _).mono ?_; rintro y v1 ⟨rfl, t1⟩; have V1 := Tch.trans' (show _ ∧ _ by assumption).1 t1))
        all_goals
          obtain ⟨_, ⟨c0, c1, c2⟩, ⟨m0, m1, m2⟩, f0, f1, f2⟩ := HC.out _ V1
          go_wp2_with fail
          go_roundw
          case rel =>
            refine ⟨k + 1, p, by first | trivial | rfl, by omega, by omega, ?_, ?_, ?_⟩
            · exact (hT'.out.trans' (V1.mono (fun _ _ h => h.elim))).trans' (box_set_tch v1 (w.heap.size + 1) _ _ _)
            · exact (HM.out.1.no V1).set p
            · obtain ⟨j, rfl⟩ : ∃ j, k = j + 1 := ⟨k - 1, by omega⟩
              have h1 := HP.out
              rw [Nat.add_sub_cancel] at h1 ⊢
              have h2 : m = minV v (l.take j) := HM.out.2
              rw [List.take_add_one, h1, Option.toList_some, minV_snoc, ← h2, ← HE.out, if_pos Hc.out]
          case measure => simp [RowKit.intOf]; omega
      · have Hc : Hid _ := hc
        go_wp2_with fail
        go_region_held3 (fun W => Tch (fun _ => False) wr W ∧ (W.cell? ⟨g, o + k * 3, none⟩ = some (.int .i64 p.k) ∧ W.cell? ⟨g, o + k * 3 + 1, none⟩ = some (.int .i64 p.n) ∧ W.cell? ⟨g, o + k * 3 + 2, none⟩ = some (.string p.s)) ∧ (W.cell? ⟨w.heap.size + 1, 0, none⟩ = some (.int .i64 m.k) ∧ W.cell? ⟨w.heap.size + 1, 1, none⟩ = some (.int .i64 m.n) ∧ W.cell? ⟨w.heap.size + 1, 2, none⟩ = some (.string m.s)) ∧ W.frozen? ⟨w.heap.size + 1, 0, none⟩ = false ∧ W.frozen? ⟨w.heap.size + 1, 1, none⟩ = false ∧ W.frozen? ⟨w.heap.size + 1, 2, none⟩ = false)
          ((refine HC.out _ ?_; first | assumption | exact (Tch.refl _ _).drew))
          ((go_at_call 155; refine (Hq.out _).mono ?_; rintro y v1 ⟨rfl, t1⟩; have V1 := Tch.trans' (show _ ∧ _ by assumption).1 t1))
        all_goals
          go_wp2_with fail
          go_roundw
          case rel =>
            refine ⟨k + 1, m, by first | trivial | rfl, by omega, by omega, hT'.out.trans' (V1.mono (fun _ _ h => h.elim)), HM.out.1.no V1, ?_⟩
            obtain ⟨j, rfl⟩ : ∃ j, k = j + 1 := ⟨k - 1, by omega⟩
            have h1 := HP.out
            rw [Nat.add_sub_cancel] at h1 ⊢
            have h2 : m = minV v (l.take j) := HM.out.2
            rw [List.take_add_one, h1, Option.toList_some, minV_snoc, ← h2, ← HE.out, if_neg Hc.out]
          case measure => simp [RowKit.intOf]; omega
    · have hltI : ¬ (k : Int) < (n : Int) := by omega
      have HV : Hid (m = minV v l) := (show m = minV v l from by
        rw [HM.out.2, List.take_of_length_le (by have := Hn.out; omega)])
      have T := (HS.out _ hT).2
      obtain ⟨m0, m1, m2⟩ := HM.out.1.m
      obtain ⟨z0, z1, z2⟩ := HM.out.1.z
      obtain ⟨f0, f1, f2⟩ := HM.out.1.fz
      obtain ⟨k0, k1, k2⟩ := box_set wr w.heap.size _ _ _ (.int .i64 m.k) (.int .i64 m.n) (.string m.s) z0 z1 z2
      have HK : Hid _ := (⟨k0, k1, k2⟩ : _ ∧ _ ∧ _)
      have T0 : Tch (fun _ => False) w wr := T.mono (fun i hi h => by omega)
      have HT : Hid _ := T0.trans (box_set_tch wr w.heap.size (.int .i64 m.k) (.int .i64 m.n) (.string m.s)) (fun i hi h => by omega)
      clear k0 k1 k2 T T0 HS hT
      go_wp2_with fail
      refine bodyPost_ret (res_v (j := 4) (by kernel_rfl) _ _ w.heap.size m ?_ HK.out.1 HK.out.2.1 HK.out.2.2) rfl ⟨by rw [HV.out], HT.out⟩
      rfl
end Go.Proofs.YtmaekkhmiafnmaaGreatDoor
