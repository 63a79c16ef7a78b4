/- CodeAgain, walked: the whole. -/
import Derived.Test.YtdicnnlfnfcmeaaDoorAgain
namespace Go.Proofs.YtdicnnlfnfcmeaaDoor
open Go.RowKit

theorem doneE_ok {S : ByteArray} {a : Nat} : doneE 0 (S.size - a) = 0 ∨ doneE 0 (S.size - a) = 13 := by unfold doneE; rw [if_pos rfl]; split <;> simp
theorem doneE_bad {e : Int} {n : Nat} (h : e ≠ 0) : doneE e n = e := by unfold doneE; rw [if_neg h]
theorem sub_back {S : ByteArray} {a : Nat} (h : a ≤ S.size) : ((S.size : Nat) : Int) - ((S.size - a : Nat) : Int) = a := by omega
theorem add_back {S : ByteArray} {a : Nat} (h : a ≤ S.size) : (a : Int) + ((S.size - a : Nat) : Int) = (S.size : Nat) := by omega

theorem tdiv_rng {x : Int} (h1 : -9223372036854775808 ≤ x) (h2 : x ≤ 9223372036854775807) : -9223372036854775808 ≤ x.tdiv 5 ∧ x.tdiv 5 ≤ 9223372036854775807 := by
  rcases Int.le_total 0 x with h | h
  · rw [Int.tdiv_eq_ediv_of_nonneg h]; omega
  · have e : x.tdiv 5 = -((-x).tdiv 5) := by rw [Int.neg_tdiv]; omega
    rw [e, Int.tdiv_eq_ediv_of_nonneg (by omega)]; omega

set_option maxHeartbeats 16000000 in
set_option maxRecDepth 100000 in
theorem again_any (S : ByteArray) (b off len cap : Nat) (w : World) (hg : HE w) (hS : S.size + 4096 ≤ 140737488355328) (hks : Ints w b off len) (hb : b < w.heap.size) :
    Calls Tryd.prog 3 #[.string S, .slice (some ⟨b, off, none⟩) len cap] w fun x w' => x = .returned (.bool true) ∧ Tch (fun _ => False) w w' := by
  have hg0 : 0 < w.heap.size := cell_lt hg
  have HG : Hid (∀ W, Tch (fun i => w.heap.size ≤ i) w W → HE W) := fun W t => hg.tch t (by omega)
  have HK : Hid (∀ W, Tch (fun i => w.heap.size ≤ i) w W → Ints W b off len) := fun W t => hks.tch t (by omega)
  have hS48 : S.size ≤ 281474976710656 := by omega
  clear hks
  go_enter Tryd.func3, Tryd.ntmps3
  go_wp2_with fail
  refine (known_any _ hg).mono ?_
  rintro x w1 ⟨rfl, t1⟩
  have T1 := no_mono (S := fun i => w.heap.size ≤ i) t1
  have hN := t1.size
  clear t1 hg
  go_wp2_with fail
  refine (newReader_any _ _).mono ?_
  rintro x w2 ⟨rfl, r2, t2, z2⟩
  have T2 := T1.trans' (no_mono t2)
  obtain ⟨N, hNe⟩ : ∃ N, N = w1.heap.size := ⟨_, rfl⟩
  rw [← hNe] at r2 z2 hN ⊢
  clear hNe t2 T1
  go_wp2_with fail
  refine (newWriter_any _).mono ?_
  rintro x w3 ⟨rfl, h3, t3, z3⟩
  have T3 := T2.trans' (no_mono t3)
  have r3 := r2.tch t3 (fun h => h)
  rw [z2] at h3 ⊢
  have A3 : AG w3 N S 0 := ⟨r3, h3⟩
  clear r2 t3 T2 z2 z3 r3 h3
  go_wp2_with fail
  go_loopw [8] (fun i wr => ∃ k a : Nat, i = .int .i64 k ∧ k ≤ len ∧ a ≤ S.size ∧ AG wr N S a ∧ Tch (fun i => w.heap.size ≤ i) w wr) (fun i _ => len - (intOf i).toNat)
  case atStart => exact ⟨0, 0, rfl, Nat.zero_le _, Nat.zero_le _, A3, T3⟩
  case round =>
    obtain ⟨k, a, rfl, hk, ha, hA, hT⟩ := hrel
    clear A3 T3
    by_cases hlt : k < len
    · have hlt' : (k : Int) < len := by omega
      by_cases h200 : (k : Int) < 200
      · obtain ⟨x, hx, hx1, hx2⟩ := HK.out wr hT k hlt
        go_wp2_with fail
        refine (left_q N S a 0 _ hA.r).mono ?_
        rintro y w4 ⟨rfl, hw4⟩
        subst hw4
        go_wp2_with fail
        refine (pick_any x 5 _ hx1 hx2 (by omega) (by omega)).mono ?_
        rintro y w5 ⟨rfl, hw5⟩
        subst hw5
        obtain ⟨j, hj⟩ : ∃ j, j = pk x 5 := ⟨_, rfl⟩
        have hjr := pk_rng x 5 (by omega)
        rw [← hj] at hjr ⊢
        obtain ⟨hj0, hj5⟩ := hjr
        clear hj
        go_wp2_with fail
        · rcases hv : byteR S a 0 with ⟨v, a', e'⟩
          have hc := rbyte_any N S a 0 _ hA.r hS48
          rw [hv] at hc
          go_wp2_with fail
          refine hc.mono ?_
          rintro y w6 ⟨rfl, h6, t6⟩
          go_wp2_with fail
          refine (ag_w0 hA hS hv h6 t6).mono ?_
          rintro y w7 ⟨rfl, h7, t7⟩
          have T7 := (hT.trans' (eq_mono t6 hN)).trans' (t7.mono (fun i _ hi => Nat.le_trans hN hi))
          clear hA hT hc hv h6 t6 t7
          rcases h7 with ⟨a2, ha2, hA2⟩ | ⟨e2, he0, he13, hR2⟩
          · have hab := add_back ha2
            have ha2' : (a2 : Int) ≤ S.size := by omega
            go_wp2_with fail
            refine (rdone_q N S a2 0 _ hA2.r (HG.out _ T7)).mono ?_
            rintro y w8 ⟨rfl, t8⟩
            have hA8 := hA2.tch t8
            have T8 := T7.trans' (no_mono t8)
            have hd2 := wdone_any (N + 1) (S.data.toList.take a2) 0 _ hA8.w (HG.out _ T8)
            rw [take_extract] at hd2
            clear hA2 T7 t8
            rcases @doneE_ok S a2 with hd | hd
            all_goals
              rw [hd]
              clear hd
              go_wp2_with fail
              refine hd2.mono ?_
              rintro y w9 ⟨rfl, t9⟩
              have hA9 := hA8.tch t9
              have T9 := T8.trans' (no_mono t9)
              clear hA8 T8 t9 hd2
              go_wp2_with fail
              refine (left_q N S a2 0 _ hA9.r).mono ?_
              rintro y w10 ⟨rfl, hw10⟩
              subst hw10
              go_wp2
              go_roundw
              case rel => exact ⟨k + 1, a2, by go_num, by omega, ha2, hA9, T9⟩
              case measure => simp [intOf]; omega
          · have hab := sub_back ha
            have hn0 : (e2 != 0) = true := by simpa using he0
            have hn13 : (e2 != 13) = true := by simpa using he13
            go_wp2_with fail
            have hd2 := rdone_q N S a e2 _ hR2 (HG.out _ T7)
            rw [doneE_bad he0] at hd2
            refine hd2.mono ?_
            rintro y w8 ⟨rfl, t8⟩
            have hR8 := hR2.tch t8 (fun h => h)
            have T8 := ge_new (T7.trans' (no_mono t8))
            clear hR2 T7 t8 hd2 he0 he13
            go_wp2_with fail
            refine (left_q N S a e2 _ hR8).mono ?_
            rintro y w9 ⟨rfl, hw9⟩
            subst hw9
            go_wp2
            go_ret
            exact ⟨rfl, T8⟩
        · rcases hv : numR 9 127 S a 0 with ⟨v, a', e'⟩
          have hc := rvar_any N S a 0 _ hA.r hS48
          rw [hv] at hc
          go_wp2_with fail
          refine hc.mono ?_
          rintro y w6 ⟨rfl, h6, t6⟩
          go_wp2_with fail
          refine (ag_w1 hA hS hv h6 t6).mono ?_
          rintro y w7 ⟨rfl, h7, t7⟩
          have T7 := (hT.trans' (eq_mono t6 hN)).trans' (t7.mono (fun i _ hi => Nat.le_trans hN hi))
          clear hA hT hc hv h6 t6 t7
          rcases h7 with ⟨a2, ha2, hA2⟩ | ⟨e2, he0, he13, hR2⟩
          · have hab := add_back ha2
            have ha2' : (a2 : Int) ≤ S.size := by omega
            go_wp2_with fail
            refine (rdone_q N S a2 0 _ hA2.r (HG.out _ T7)).mono ?_
            rintro y w8 ⟨rfl, t8⟩
            have hA8 := hA2.tch t8
            have T8 := T7.trans' (no_mono t8)
            have hd2 := wdone_any (N + 1) (S.data.toList.take a2) 0 _ hA8.w (HG.out _ T8)
            rw [take_extract] at hd2
            clear hA2 T7 t8
            rcases @doneE_ok S a2 with hd | hd
            all_goals
              rw [hd]
              clear hd
              go_wp2_with fail
              refine hd2.mono ?_
              rintro y w9 ⟨rfl, t9⟩
              have hA9 := hA8.tch t9
              have T9 := T8.trans' (no_mono t9)
              clear hA8 T8 t9 hd2
              go_wp2_with fail
              refine (left_q N S a2 0 _ hA9.r).mono ?_
              rintro y w10 ⟨rfl, hw10⟩
              subst hw10
              go_wp2
              go_roundw
              case rel => exact ⟨k + 1, a2, by go_num, by omega, ha2, hA9, T9⟩
              case measure => simp [intOf]; omega
          · have hab := sub_back ha
            have hn0 : (e2 != 0) = true := by simpa using he0
            have hn13 : (e2 != 13) = true := by simpa using he13
            go_wp2_with fail
            have hd2 := rdone_q N S a e2 _ hR2 (HG.out _ T7)
            rw [doneE_bad he0] at hd2
            refine hd2.mono ?_
            rintro y w8 ⟨rfl, t8⟩
            have hR8 := hR2.tch t8 (fun h => h)
            have T8 := ge_new (T7.trans' (no_mono t8))
            clear hR2 T7 t8 hd2 he0 he13
            go_wp2_with fail
            refine (left_q N S a e2 _ hR8).mono ?_
            rintro y w9 ⟨rfl, hw9⟩
            subst hw9
            go_wp2
            go_ret
            exact ⟨rfl, T8⟩
        · rcases hv : numR 10 1 S a 0 with ⟨v, a', e'⟩
          have hc := rint_any N S a 0 _ hA.r hS48
          rw [hv] at hc
          go_wp2_with fail
          refine hc.mono ?_
          rintro y w6 ⟨rfl, h6, t6⟩
          go_wp2_with fail
          refine (ag_w2 hA hS hv h6 t6).mono ?_
          rintro y w7 ⟨rfl, h7, t7⟩
          have T7 := (hT.trans' (eq_mono t6 hN)).trans' (t7.mono (fun i _ hi => Nat.le_trans hN hi))
          clear hA hT hc hv h6 t6 t7
          rcases h7 with ⟨a2, ha2, hA2⟩ | ⟨e2, he0, he13, hR2⟩
          · have hab := add_back ha2
            have ha2' : (a2 : Int) ≤ S.size := by omega
            go_wp2_with fail
            refine (rdone_q N S a2 0 _ hA2.r (HG.out _ T7)).mono ?_
            rintro y w8 ⟨rfl, t8⟩
            have hA8 := hA2.tch t8
            have T8 := T7.trans' (no_mono t8)
            have hd2 := wdone_any (N + 1) (S.data.toList.take a2) 0 _ hA8.w (HG.out _ T8)
            rw [take_extract] at hd2
            clear hA2 T7 t8
            rcases @doneE_ok S a2 with hd | hd
            all_goals
              rw [hd]
              clear hd
              go_wp2_with fail
              refine hd2.mono ?_
              rintro y w9 ⟨rfl, t9⟩
              have hA9 := hA8.tch t9
              have T9 := T8.trans' (no_mono t9)
              clear hA8 T8 t9 hd2
              go_wp2_with fail
              refine (left_q N S a2 0 _ hA9.r).mono ?_
              rintro y w10 ⟨rfl, hw10⟩
              subst hw10
              go_wp2
              go_roundw
              case rel => exact ⟨k + 1, a2, by go_num, by omega, ha2, hA9, T9⟩
              case measure => simp [intOf]; omega
          · have hab := sub_back ha
            have hn0 : (e2 != 0) = true := by simpa using he0
            have hn13 : (e2 != 13) = true := by simpa using he13
            go_wp2_with fail
            have hd2 := rdone_q N S a e2 _ hR2 (HG.out _ T7)
            rw [doneE_bad he0] at hd2
            refine hd2.mono ?_
            rintro y w8 ⟨rfl, t8⟩
            have hR8 := hR2.tch t8 (fun h => h)
            have T8 := ge_new (T7.trans' (no_mono t8))
            clear hR2 T7 t8 hd2 he0 he13
            go_wp2_with fail
            refine (left_q N S a e2 _ hR8).mono ?_
            rintro y w9 ⟨rfl, hw9⟩
            subst hw9
            go_wp2
            go_ret
            exact ⟨rfl, T8⟩
        · refine (pick_any (x.tdiv 5) 300 _ (tdiv_rng hx1 hx2).1 (tdiv_rng hx1 hx2).2 (by omega) (by omega)).mono ?_
          rintro y w6 ⟨rfl, hw6⟩
          subst hw6
          obtain ⟨m, hm⟩ : ∃ m, m = pk (x.tdiv 5) 300 := ⟨_, rfl⟩
          have hmr := pk_rng (x.tdiv 5) 300 (by omega)
          rw [← hm] at hmr ⊢
          have hm300 : m ≤ 300 := by omega
          clear hm hmr
          rcases hv : textR m S a 0 with ⟨v, a', e'⟩
          have hc := rtext_any N S a 0 m _ hA.r hS48
          rw [hv] at hc
          go_wp2_with fail
          refine hc.mono ?_
          rintro y w6 ⟨rfl, h6, t6⟩
          go_wp2_with fail
          refine (ag_w3 hA hS hm300 hv h6 t6).mono ?_
          rintro y w7 ⟨rfl, h7, t7⟩
          have T7 := (hT.trans' (eq_mono t6 hN)).trans' (t7.mono (fun i _ hi => Nat.le_trans hN hi))
          clear hA hT hc hv h6 t6 t7
          rcases h7 with ⟨a2, ha2, hA2⟩ | ⟨e2, he0, he13, hR2⟩
          · have hab := add_back ha2
            have ha2' : (a2 : Int) ≤ S.size := by omega
            go_wp2_with fail
            refine (rdone_q N S a2 0 _ hA2.r (HG.out _ T7)).mono ?_
            rintro y w8 ⟨rfl, t8⟩
            have hA8 := hA2.tch t8
            have T8 := T7.trans' (no_mono t8)
            have hd2 := wdone_any (N + 1) (S.data.toList.take a2) 0 _ hA8.w (HG.out _ T8)
            rw [take_extract] at hd2
            clear hA2 T7 t8
            rcases @doneE_ok S a2 with hd | hd
            all_goals
              rw [hd]
              clear hd
              go_wp2_with fail
              refine hd2.mono ?_
              rintro y w9 ⟨rfl, t9⟩
              have hA9 := hA8.tch t9
              have T9 := T8.trans' (no_mono t9)
              clear hA8 T8 t9 hd2
              go_wp2_with fail
              refine (left_q N S a2 0 _ hA9.r).mono ?_
              rintro y w10 ⟨rfl, hw10⟩
              subst hw10
              go_wp2
              go_roundw
              case rel => exact ⟨k + 1, a2, by go_num, by omega, ha2, hA9, T9⟩
              case measure => simp [intOf]; omega
          · have hab := sub_back ha
            have hn0 : (e2 != 0) = true := by simpa using he0
            have hn13 : (e2 != 13) = true := by simpa using he13
            go_wp2_with fail
            have hd2 := rdone_q N S a e2 _ hR2 (HG.out _ T7)
            rw [doneE_bad he0] at hd2
            refine hd2.mono ?_
            rintro y w8 ⟨rfl, t8⟩
            have hR8 := hR2.tch t8 (fun h => h)
            have T8 := ge_new (T7.trans' (no_mono t8))
            clear hR2 T7 t8 hd2 he0 he13
            go_wp2_with fail
            refine (left_q N S a e2 _ hR8).mono ?_
            rintro y w9 ⟨rfl, hw9⟩
            subst hw9
            go_wp2
            go_ret
            exact ⟨rfl, T8⟩
        · refine (pick_any (x.tdiv 5) 20 _ (tdiv_rng hx1 hx2).1 (tdiv_rng hx1 hx2).2 (by omega) (by omega)).mono ?_
          rintro y w6 ⟨rfl, hw6⟩
          subst hw6
          obtain ⟨m, hm⟩ : ∃ m, m = pk (x.tdiv 5) 20 := ⟨_, rfl⟩
          rw [← hm]
          clear hm
          rcases hv : rawR m S a 0 with ⟨v, a', e'⟩
          have hc := rraw_any N S a 0 m _ hA.r hS48
          rw [hv] at hc
          go_wp2_with fail
          refine hc.mono ?_
          rintro y w6 ⟨rfl, h6, t6⟩
          go_wp2_with fail
          refine (ag_w4 hA hS hv h6 t6).mono ?_
          rintro y w7 ⟨rfl, h7, t7⟩
          have T7 := (hT.trans' (eq_mono t6 hN)).trans' (t7.mono (fun i _ hi => Nat.le_trans hN hi))
          clear hA hT hc hv h6 t6 t7
          rcases h7 with ⟨a2, ha2, hA2⟩ | ⟨e2, he0, he13, hR2⟩
          · have hab := add_back ha2
            have ha2' : (a2 : Int) ≤ S.size := by omega
            go_wp2_with fail
            refine (rdone_q N S a2 0 _ hA2.r (HG.out _ T7)).mono ?_
            rintro y w8 ⟨rfl, t8⟩
            have hA8 := hA2.tch t8
            have T8 := T7.trans' (no_mono t8)
            have hd2 := wdone_any (N + 1) (S.data.toList.take a2) 0 _ hA8.w (HG.out _ T8)
            rw [take_extract] at hd2
            clear hA2 T7 t8
            rcases @doneE_ok S a2 with hd | hd
            all_goals
              rw [hd]
              clear hd
              go_wp2_with fail
              refine hd2.mono ?_
              rintro y w9 ⟨rfl, t9⟩
              have hA9 := hA8.tch t9
              have T9 := T8.trans' (no_mono t9)
              clear hA8 T8 t9 hd2
              go_wp2_with fail
              refine (left_q N S a2 0 _ hA9.r).mono ?_
              rintro y w10 ⟨rfl, hw10⟩
              subst hw10
              go_wp2
              go_roundw
              case rel => exact ⟨k + 1, a2, by go_num, by omega, ha2, hA9, T9⟩
              case measure => simp [intOf]; omega
          · have hab := sub_back ha
            have hn0 : (e2 != 0) = true := by simpa using he0
            have hn13 : (e2 != 13) = true := by simpa using he13
            go_wp2_with fail
            have hd2 := rdone_q N S a e2 _ hR2 (HG.out _ T7)
            rw [doneE_bad he0] at hd2
            refine hd2.mono ?_
            rintro y w8 ⟨rfl, t8⟩
            have hR8 := hR2.tch t8 (fun h => h)
            have T8 := ge_new (T7.trans' (no_mono t8))
            clear hR2 T7 t8 hd2 he0 he13
            go_wp2_with fail
            refine (left_q N S a e2 _ hR8).mono ?_
            rintro y w9 ⟨rfl, hw9⟩
            subst hw9
            go_wp2
            go_ret
            exact ⟨rfl, T8⟩
      · go_wp2
        go_ret
        exact ⟨rfl, ge_new hT⟩
    · have hlt' : ¬ (k : Int) < len := by omega
      go_wp2
      go_ret
      exact ⟨rfl, ge_new hT⟩
end Go.Proofs.YtdicnnlfnfcmeaaDoor
