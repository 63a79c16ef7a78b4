/- CodeThrough, walked: the whole. -/
import Derived.Test.YtdicnnlfnfcmeaaDoorThrough2
namespace Go.Proofs.YtdicnnlfnfcmeaaDoor
open Go.RowKit Go.Deep

set_option maxHeartbeats 16000000 in
set_option maxRecDepth 100000 in
theorem through_any (f : Nat → Stp) (b off len cap : Nat) (w : World) (hg : HE w) (hops : OpsF w b off len f) (hb : b < w.heap.size) :
    Calls Tryd.prog 4 #[.slice (some ⟨b, off, none⟩) len cap] w fun x w' => x = .returned (.bool true) ∧ Tch (fun _ => False) w w' := by
  have hg0 : 0 < w.heap.size := cell_lt hg
  have HG : Hid (∀ W, Tch (fun i => w.heap.size ≤ i) w W → HE W) := fun W t => hg.tch t (by omega)
  have HO : Hid (∀ W, Tch (fun i => w.heap.size ≤ i) w W → OpsF W b off len f) := fun W t => hops.tch t (by omega)
  clear hops
  go_enter Tryd.func4, Tryd.ntmps4
  go_wp2_with fail
  refine (known_any _ hg).mono ?_
  rintro x w1 ⟨rfl, t1⟩
  have T1 := no_mono (S := fun i => w.heap.size ≤ i) t1
  have hN := t1.size
  clear t1 hg
  go_wp2_with fail
  refine (newWriter_any _).mono ?_
  rintro x w2 ⟨rfl, h2, t2, z2⟩
  have T2 := T1.trans' (no_mono t2)
  obtain ⟨N, hNe⟩ : ∃ N, N = w1.heap.size := ⟨_, rfl⟩
  rw [← hNe] at h2 z2 hN ⊢
  clear hNe t2 T1 z2
  go_wp2_with fail
  refine (laid_any f b off len cap N _ (HG.out _ T2) (HO.out _ T2) (by omega) (by omega) h2).mono ?_
  rintro x w3 ⟨rfl, h3, t3⟩
  have T3 := T2.trans' (t3.mono (fun i _ hi => Nat.le_trans hN hi))
  clear h2 t3 T2
  go_wp2_with fail
  refine (wdone_any N _ 0 _ h3 (HG.out _ T3)).mono ?_
  rintro x w4 ⟨rfl, t4⟩
  have T4 := T3.trans' (no_mono t4)
  obtain ⟨T, hTe⟩ : ∃ T : ByteArray, T = ⟨(encs f (min len 200)).toArray⟩ := ⟨_, rfl⟩
  rw [← hTe]
  have hTL : T.data.toList = encs f (min len 200) := by rw [hTe]
  have hTz : T.size ≤ 281474976710656 := by
    have h1 : T.data.toList.length = T.size := Array.length_toList
    have h2 := encs_len f (min len 200)
    rw [hTL] at h1
    omega
  clear h3 t4 T3 hTe
  go_wp2_with fail
  refine (newReader_any _ _).mono ?_
  rintro x w5 ⟨rfl, r5, t5, z5⟩
  have T5 := T4.trans' (no_mono t5)
  have hRge := T4.size
  obtain ⟨R, hRe⟩ : ∃ R, R = w4.heap.size := ⟨_, rfl⟩
  rw [← hRe] at r5 z5 hRge ⊢
  clear hRe t5 T4
  have HT : Hid (T.data.toList = encs f (min len 200)) := hTL
  clear hTL
  go_wp2_with fail
  go_loopw [5, 9] (fun ok i wr => ∃ k : Nat, ok = .bool true ∧ i = .int .i64 k ∧ k ≤ len ∧ k ≤ 200 ∧ RD wr R T (encs f k).length 0 ∧ Tch (fun i => w.heap.size ≤ i) w wr) (fun _ i _ => len - (intOf i).toNat)
  case atStart => exact ⟨0, rfl, rfl, Nat.zero_le _, Nat.zero_le _, r5, T5⟩
  case round =>
    obtain ⟨k, rfl, rfl, hk, hk2, hRd, hTc⟩ := hrel
    clear r5 T5 z5
    have hTL := HT.out
    have hRl : R < wr.heap.size := cell_lt hRd.st.c0
    by_cases hlt : k < len
    · have hlt' : (k : Int) < len := by omega
      by_cases h200 : (k : Int) < 200
      · obtain ⟨o, l, ⟨o0, o1, o2, o3, o4⟩, hn1, hn2, la, ln, lc, hl5⟩ := HO.out wr hTc k hlt
        subst hl5
        rcases hp : f k with ⟨kd, n, s⟩
        rw [hp] at o1 o2 o3 hn1 hn2
        simp only [] at o1 o2 o3 hn1 hn2
        have hkM : k < min len 200 := by omega
        go_wp2_with fail
        all_goals clear o0 o1 o2 o3 o4
        · have hk1 : kd = 1 := by simpa using ‹(kd == 1) = true›
          have HC : Hid (∀ W, Tch (fun _ => False) wr W → Calls Tryd.prog 11 #[.pointer (some ⟨R, 0, none⟩)] W fun x w' => x = .returned (.int .i64 (pk n 256)) ∧ RD w' R T (encs f (k + 1)).length 0 ∧ Tch (fun i => i = R) W w') := fun W t => rt1 hTL hkM hp hk1 hTz (hRd.tch t (fun h => h))
          clear hRd
          go_region_with (first
            | (go_at_call 11; refine (HC.out _ ?_).mono ?_; exact (Tch.alloc _ _ _).drew; rintro y w6 ⟨rfl, h6, t6⟩; have T6 := (hTc.trans' (no_mono (Tch.alloc (fun _ => False) _ _).drew)).trans' (eq_mono t6 hRge); have q2 := (t6.cell (p := ⟨wr.heap.size, 2, none⟩) (by simp) (by simp; omega)).trans (by simp; rfl); clear t6)
            | (go_at_call 9; refine (pick_any n _ _ hn1 hn2 (by omega) (by omega)).mono ?_; rintro y w7 ⟨rfl, rfl⟩)
            | (go_at_call 23; refine (bounded_any s _).mono ?_; rintro y w7 ⟨rfl, rfl⟩))
          all_goals
            clear HC
            go_wp2
            go_roundw
            case rel => exact ⟨k + 1, rfl, by go_num, by omega, by omega, h6, T6⟩
            case measure => simp [intOf]; omega
        · have hk1 : kd = 2 := by simpa using ‹(kd == 2) = true›
          have HC : Hid (∀ W, Tch (fun _ => False) wr W → Calls Tryd.prog 13 #[.pointer (some ⟨R, 0, none⟩)] W fun x w' => x = .returned (.int .i64 (pk n 4611686018427387904)) ∧ RD w' R T (encs f (k + 1)).length 0 ∧ Tch (fun i => i = R) W w') := fun W t => rt2 hTL hkM hp hk1 hTz (hRd.tch t (fun h => h))
          clear hRd
          go_region_with (first
            | (go_at_call 13; refine (HC.out _ ?_).mono ?_; exact (Tch.alloc _ _ _).drew; rintro y w6 ⟨rfl, h6, t6⟩; have T6 := (hTc.trans' (no_mono (Tch.alloc (fun _ => False) _ _).drew)).trans' (eq_mono t6 hRge); have q2 := (t6.cell (p := ⟨wr.heap.size, 2, none⟩) (by simp) (by simp; omega)).trans (by simp; rfl); clear t6)
            | (go_at_call 9; refine (pick_any n _ _ hn1 hn2 (by omega) (by omega)).mono ?_; rintro y w7 ⟨rfl, rfl⟩)
            | (go_at_call 23; refine (bounded_any s _).mono ?_; rintro y w7 ⟨rfl, rfl⟩))
          all_goals
            clear HC
            go_wp2
            go_roundw
            case rel => exact ⟨k + 1, rfl, by go_num, by omega, by omega, h6, T6⟩
            case measure => simp [intOf]; omega
        · have hk1 : kd = 3 := by simpa using ‹(kd == 3) = true›
          have HC : Hid (∀ W, Tch (fun _ => False) wr W → Calls Tryd.prog 15 #[.pointer (some ⟨R, 0, none⟩)] W fun x w' => x = .returned (.int .i64 n) ∧ RD w' R T (encs f (k + 1)).length 0 ∧ Tch (fun i => i = R) W w') := fun W t => rt3 hTL hkM hp hk1 hn1 hn2 hTz (hRd.tch t (fun h => h))
          clear hRd
          go_region_with (first
            | (go_at_call 15; refine (HC.out _ ?_).mono ?_; exact (Tch.alloc _ _ _).drew; rintro y w6 ⟨rfl, h6, t6⟩; have T6 := (hTc.trans' (no_mono (Tch.alloc (fun _ => False) _ _).drew)).trans' (eq_mono t6 hRge); have q2 := (t6.cell (p := ⟨wr.heap.size, 2, none⟩) (by simp) (by simp; omega)).trans (by simp; rfl); clear t6)
            | (go_at_call 9; refine (pick_any n _ _ hn1 hn2 (by omega) (by omega)).mono ?_; rintro y w7 ⟨rfl, rfl⟩)
            | (go_at_call 23; refine (bounded_any s _).mono ?_; rintro y w7 ⟨rfl, rfl⟩))
          all_goals
            clear HC
            go_wp2
            go_roundw
            case rel => exact ⟨k + 1, rfl, by go_num, by omega, by omega, h6, T6⟩
            case measure => simp [intOf]; omega
        · have hk1 : kd = 4 := by simpa using ‹(kd == 4) = true›
          have HC : Hid (∀ W, Tch (fun _ => False) wr W → Calls Tryd.prog 16 #[.pointer (some ⟨R, 0, none⟩), .int .i64 300] W fun x w' => x = .returned (.string (bnd s)) ∧ RD w' R T (encs f (k + 1)).length 0 ∧ Tch (fun i => i = R) W w') := fun W t => rt4 hTL hkM hp hk1 hTz (hRd.tch t (fun h => h))
          clear hRd
          go_region_with (first
            | (go_at_call 16; refine (HC.out _ ?_).mono ?_; exact (Tch.alloc _ _ _).drew; rintro y w6 ⟨rfl, h6, t6⟩; have T6 := (hTc.trans' (no_mono (Tch.alloc (fun _ => False) _ _).drew)).trans' (eq_mono t6 hRge); have q2 := (t6.cell (p := ⟨wr.heap.size, 3, none⟩) (by simp) (by simp; omega)).trans (by simp; rfl); clear t6)
            | (go_at_call 9; refine (pick_any n _ _ hn1 hn2 (by omega) (by omega)).mono ?_; rintro y w7 ⟨rfl, rfl⟩)
            | (go_at_call 23; refine (bounded_any s _).mono ?_; rintro y w7 ⟨rfl, rfl⟩))
          all_goals
            clear HC
            go_wp2
            go_roundw
            case rel => exact ⟨k + 1, rfl, by go_num, by omega, by omega, h6, T6⟩
            case measure => simp [intOf]; omega
        · have hk1 : kd = 5 := by simpa using ‹(kd == 5) = true›
          have HC : Hid (∀ W, Tch (fun _ => False) wr W → Calls Tryd.prog 19 #[.pointer (some ⟨R, 0, none⟩), .int .i64 (bnd s).size] W fun x w' => x = .returned (.string (bnd s)) ∧ RD w' R T (encs f (k + 1)).length 0 ∧ Tch (fun i => i = R) W w') := fun W t => rt5 hTL hkM hp hk1 hTz (hRd.tch t (fun h => h))
          clear hRd
          go_region_with (first
            | (go_at_call 19; refine (HC.out _ ?_).mono ?_; exact (Tch.alloc _ _ _).drew; rintro y w6 ⟨rfl, h6, t6⟩; have T6 := (hTc.trans' (no_mono (Tch.alloc (fun _ => False) _ _).drew)).trans' (eq_mono t6 hRge); have q2 := (t6.cell (p := ⟨wr.heap.size, 3, none⟩) (by simp) (by simp; omega)).trans (by simp; rfl); clear t6)
            | (go_at_call 9; refine (pick_any n _ _ hn1 hn2 (by omega) (by omega)).mono ?_; rintro y w7 ⟨rfl, rfl⟩)
            | (go_at_call 23; refine (bounded_any s _).mono ?_; rintro y w7 ⟨rfl, rfl⟩))
          all_goals
            clear HC
            go_wp2
            go_roundw
            case rel => exact ⟨k + 1, rfl, by go_num, by omega, by omega, h6, T6⟩
            case measure => simp [intOf]; omega
        · have he := enc_none hp (by simpa using ‹(kd == 1) = false›) (by simpa using ‹(kd == 2) = false›) (by simpa using ‹(kd == 3) = false›) (by simpa using ‹(kd == 4) = false›) (by simpa using ‹(kd == 5) = false›)
          have tA := Tch.alloc (fun _ => False) wr (.cells #[.bool o, .int .i64 kd, .int .i64 n, .string s, .slice la ln lc] 44)
          have hR2 := hRd.tch tA (fun h => h)
          rw [← he] at hR2
          go_roundw
          case rel => exact ⟨k + 1, rfl, by go_num, by omega, by omega, hR2, hTc.trans' (no_mono tA)⟩
          case measure => simp [intOf]; omega
      · have HM : Hid (min len 200 = k) := by show _ = _; omega
        have hTk : (encs f k).length = T.size := by rw [← HM.out, ← hTL]; exact Array.length_toList
        rw [hTk] at hRd
        have hd := rdone_q R T T.size 0 _ hRd (HG.out _ hTc)
        rw [show doneE 0 (T.size - T.size) = 0 by rw [Nat.sub_self]; rfl] at hd
        go_wp2_with fail
        refine hd.mono ?_
        rintro y w6 ⟨rfl, t6⟩
        have hR6 := hRd.tch t6 (fun h => h)
        have T6 := hTc.trans' (no_mono t6)
        have ho6 := HO.out _ T6
        have hl6 : b < w6.heap.size := by have := T6.size; omega
        clear hd hRd hTc t6 hTk
        by_cases hz : T.size = 0
        · have hem := empty_of_size hz
          go_wp2_with fail
          refine (left_q R T T.size 0 _ hR6).mono ?_
          rintro y w7 ⟨rfl, hw7⟩
          subst hw7
          have hz2 : ((T.size - T.size : Nat) : Int) = 0 := by omega
          go_wp2
          go_ret
          exact ⟨rfl, ge_new T6⟩
        · have hne := nonempty_of_size (r := T) (by omega)
          have hSh := short_of hTL (by omega)
          have hT1 : (T.extract 0 (T.size - 1)).size ≤ 281474976710656 := by rw [ByteArray.size_extract]; omega
          have hc := cut_any f b off len cap (T.extract 0 (T.size - 1)) w6 (HG.out _ T6) ho6 hl6 hSh hT1
          have hsl : ∀ W : World, (Instr.slice 9 (.string T) none (some (.int .i64 ((T.size : Int) - 1))) none).run Tryd.prog W = .ok (.string (T.extract 0 (T.size - 1))) W := fun W => by
            have h9 := run_slice_string_h (P := Tryd.prog) W 9 T Tryd.underlying9 .i64 ((T.size : Int) - 1) (by omega) (by omega)
            have e9 : ((T.size : Int) - 1).toNat = T.size - 1 := by omega
            rw [e9] at h9; exact h9
          go_wp2_with fail
          refine hc.mono ?_
          rintro y w7 ⟨rfl, t7⟩
          have hR7 := hR6.tch t7 (fun h => h)
          have T7 := T6.trans' (no_mono t7)
          clear hc hsl hR6 T6 t7 ho6
          go_wp2_with fail
          refine (left_q R T T.size 0 _ hR7).mono ?_
          rintro y w8 ⟨rfl, hw8⟩
          subst hw8
          have hz2 : ((T.size - T.size : Nat) : Int) = 0 := by omega
          go_wp2
          go_ret
          exact ⟨rfl, ge_new T7⟩
    · have hlt' : ¬ (k : Int) < len := by omega
      have HM : Hid (min len 200 = k) := by show _ = _; omega
      have hTk : (encs f k).length = T.size := by rw [← HM.out, ← hTL]; exact Array.length_toList
      rw [hTk] at hRd
      have hd := rdone_q R T T.size 0 _ hRd (HG.out _ hTc)
      rw [show doneE 0 (T.size - T.size) = 0 by rw [Nat.sub_self]; rfl] at hd
      go_wp2_with fail
      refine hd.mono ?_
      rintro y w6 ⟨rfl, t6⟩
      have hR6 := hRd.tch t6 (fun h => h)
      have T6 := hTc.trans' (no_mono t6)
      have ho6 := HO.out _ T6
      have hl6 : b < w6.heap.size := by have := T6.size; omega
      clear hd hRd hTc t6 hTk
      by_cases hz : T.size = 0
      · have hem := empty_of_size hz
        go_wp2_with fail
        refine (left_q R T T.size 0 _ hR6).mono ?_
        rintro y w7 ⟨rfl, hw7⟩
        subst hw7
        have hz2 : ((T.size - T.size : Nat) : Int) = 0 := by omega
        go_wp2
        go_ret
        exact ⟨rfl, ge_new T6⟩
      · have hne := nonempty_of_size (r := T) (by omega)
        have hSh := short_of hTL (by omega)
        have hT1 : (T.extract 0 (T.size - 1)).size ≤ 281474976710656 := by rw [ByteArray.size_extract]; omega
        have hc := cut_any f b off len cap (T.extract 0 (T.size - 1)) w6 (HG.out _ T6) ho6 hl6 hSh hT1
        have hsl : ∀ W : World, (Instr.slice 9 (.string T) none (some (.int .i64 ((T.size : Int) - 1))) none).run Tryd.prog W = .ok (.string (T.extract 0 (T.size - 1))) W := fun W => by
          have h9 := run_slice_string_h (P := Tryd.prog) W 9 T Tryd.underlying9 .i64 ((T.size : Int) - 1) (by omega) (by omega)
          have e9 : ((T.size : Int) - 1).toNat = T.size - 1 := by omega
          rw [e9] at h9; exact h9
        go_wp2_with fail
        refine hc.mono ?_
        rintro y w7 ⟨rfl, t7⟩
        have hR7 := hR6.tch t7 (fun h => h)
        have T7 := T6.trans' (no_mono t7)
        clear hc hsl hR6 T6 t7 ho6
        go_wp2_with fail
        refine (left_q R T T.size 0 _ hR7).mono ?_
        rintro y w8 ⟨rfl, hw8⟩
        subst hw8
        have hz2 : ((T.size - T.size : Nat) : Int) = 0 := by omega
        go_wp2
        go_ret
        exact ⟨rfl, ge_new T7⟩
end Go.Proofs.YtdicnnlfnfcmeaaDoor
