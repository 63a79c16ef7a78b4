/- Keys and back, by the code. -/
import Derived.Test.YtnjbkkccofjmgaaDoorVKey2
namespace Go.Proofs.YtnjbkkccofjmgaaDoor
open Go.RowKit

set_option maxHeartbeats 4000000 in
set_option maxRecDepth 100000 in
theorem unkey_any (S : ByteArray) (w : World) (hS : S.size ≤ 281474976710656) :
    Calls Tryd.prog 13 #[.string S] w fun x w' => x = .returned (.tuple #[vA (unk S).1.k (unk S).1.n (unk S).1.s, .int .i64 (unk S).2]) ∧ Tch (fun _ => False) w w' := by
  have HFin : Hid (∀ W, Tch (fun _ => False) (w.alloc (.cells #[.int .i64 0, .int .i64 0, .string ⟨#[]⟩] 23)) W → ∀ (k n : Int) (s : ByteArray) (e : Int) (tmps : Array Value), tmps[2]?.getD undef = .pointer (some ⟨w.heap.size, 0, none⟩) → tmps[3]?.getD undef = .int .i64 e →
      (results Tryd.f13 tmps).run Tryd.prog (((W.setCell ⟨w.heap.size, 0, none⟩ (.int .i64 k)).setCell ⟨w.heap.size, 1, none⟩ (.int .i64 n)).setCell ⟨w.heap.size, 2, none⟩ (.string s)) = .ok (.tuple #[vA k n s, .int .i64 e]) (((W.setCell ⟨w.heap.size, 0, none⟩ (.int .i64 k)).setCell ⟨w.heap.size, 1, none⟩ (.int .i64 n)).setCell ⟨w.heap.size, 2, none⟩ (.string s)) ∧ Tch (fun _ => False) w (((W.setCell ⟨w.heap.size, 0, none⟩ (.int .i64 k)).setCell ⟨w.heap.size, 1, none⟩ (.int .i64 n)).setCell ⟨w.heap.size, 2, none⟩ (.string s))) := fun W t k n s e tmps h2 h3 => by
    obtain ⟨c0, c1, c2⟩ := box_tch t
    obtain ⟨d0, d1, d2⟩ := box_set W w.heap.size _ _ _ (.int .i64 k) (.int .i64 n) (.string s) c0 c1 c2
    refine ⟨unkey_res tmps _ w.heap.size k n s e d0 d1 d2 h2 h3, ?_⟩
    exact (((Tch.alloc (fun _ => False) w _).trans' t).trans (box_set_tch W w.heap.size _ _ _) (fun i hi he => by omega))
  have HBx : Hid (∀ W, Tch (fun _ => False) (w.alloc (.cells #[.int .i64 0, .int .i64 0, .string ⟨#[]⟩] 23)) W → (W.cell? ⟨w.heap.size, 0, none⟩ = some (.int .i64 0) ∧ W.cell? ⟨w.heap.size, 1, none⟩ = some (.int .i64 0) ∧ W.cell? ⟨w.heap.size, 2, none⟩ = some (.string ⟨#[]⟩)) ∧ W.frozen? ⟨w.heap.size, 0, none⟩ = false ∧ W.frozen? ⟨w.heap.size, 1, none⟩ = false ∧ W.frozen? ⟨w.heap.size, 2, none⟩ = false) := fun W t =>
    ⟨box_tch t, (t.frozen (p := ⟨_, _, none⟩) (by simp) (fun h => h)).trans (by simp), (t.frozen (p := ⟨_, _, none⟩) (by simp) (fun h => h)).trans (by simp), (t.frozen (p := ⟨_, _, none⟩) (by simp) (fun h => h)).trans (by simp)⟩
  by_cases h0 : S.size = 0
  · have e : unk S = (⟨0, 0, ⟨#[]⟩⟩, 43) := by unfold unk; rw [size0 h0]
    rw [e]
    have hem := empty_of_size h0
    go_enter Tryd.func13, Tryd.ntmps13
    go_wp2_with fail
    obtain ⟨d0, d1, d2⟩ := box_cells w (.int .i64 0) (.int .i64 0) (.string ⟨#[]⟩) 23
    refine bodyPost_ret (unkey_res _ _ w.heap.size 0 0 ⟨#[]⟩ 43 d0 d1 d2 rfl rfl) rfl ⟨rfl, Tch.alloc _ _ _⟩
  · have hne := nonempty_of_size (r := S) (by omega)
    obtain ⟨m, r, hmr⟩ : ∃ m r, S.data.toList = m :: r := by
      cases h : S.data.toList with
      | nil => exact absurd (by have : S.data.toList.length = S.size := by simp
                                rw [h] at this; simpa using this.symm) h0
      | cons m r => exact ⟨m, r, rfl⟩
    obtain ⟨R, hR⟩ : ∃ R, R = S.extract 1 S.size := ⟨_, rfl⟩
    have HR : Hid (R.data.toList = r) := by
      show _ = _
      rw [hR, ByteArray.data_extract, Array.toList_extract, hmr]
      have : S.data.toList.length = S.size := by simp
      rw [hmr] at this
      simp at this
      simp [← this]
    have hrl : r.length = R.size := by rw [← HR.out]; simp
    have hm0 : S[0]'(by omega) = m := by
      have h1 : S.data.toList[0]? = some m := by rw [hmr]; rfl
      rw [Array.getElem?_toList, Array.getElem?_eq_getElem (by show 0 < S.size; omega)] at h1
      exact Option.some.inj h1
    have hRs : R.size ≤ S.size := by rw [hR]; simp
    have HU : Hid (unk S = if m.toNat = 1 ∧ r = [] then (⟨0, 0, ⟨#[]⟩⟩, 0)
      else if m.toNat = 2 ∧ r.length = 1 ∧ (r.headD 0).toNat ≤ 1 then (⟨3, (r.headD 0).toNat, ⟨#[]⟩⟩, 0)
      else if m.toNat = 3 ∧ r.length = 8 then (⟨1, (beV r : Int) - 9223372036854775808, ⟨#[]⟩⟩, 0)
      else if m.toNat = 4 ∧ r.length ≤ 200 then (⟨2, 0, ⟨r.toArray⟩⟩, 0)
      else if m.toNat = 4 then (⟨0, 0, ⟨#[]⟩⟩, 42)
      else (⟨0, 0, ⟨#[]⟩⟩, 43)) := by show _ = _; unfold unk; rw [hmr]
    have hsi : (0 : Int) < S.size := by omega
    go_enter Tryd.func13, Tryd.ntmps13
    go_wp2_with fail
    clear hmr
    go_quiet (fail)
    rw [← hR]
    obtain ⟨W0, hW0⟩ : ∃ W0, W0 = (w.alloc (.cells #[.int .i64 0, .int .i64 0, .string ⟨#[]⟩] 23)).drewN nq := ⟨_, rfl⟩
    have t0 : Tch (fun _ => False) (w.alloc (.cells #[.int .i64 0, .int .i64 0, .string ⟨#[]⟩] 23)) W0 := by rw [hW0]; exact (Tch.refl _ _).drewN nq
    rw [← hW0]
    obtain ⟨⟨c0, c1, c2⟩, f0, f1, f2⟩ := HBx.out W0 t0
    have hlw : w.heap.size < W0.heap.size := cell_lt c0
    clear hW0 hm0 hR hne hsi
    have hml := m.toNat_lt
    by_cases m1 : m.toNat = 1
    · have m1' : (m.toNat : Int) = 1 := by omega
      by_cases hr0 : R.size = 0
      · have HX : Hid (unk S = (⟨0, 0, ⟨#[]⟩⟩, 0)) := by
          show _ = _
          rw [HU.out, if_pos ⟨m1, List.length_eq_zero_iff.1 (by omega)⟩]
        have hem := empty_of_size hr0
        clear m1 hr0 hrl
        go_wp2_with fail
        have HF := HFin.out W0 t0 0 0 ⟨#[]⟩ 0
        refine bodyPost_ret (HF _ rfl rfl).1 rfl ⟨by rw [HX.out], (HF #[undef, undef, .pointer (some ⟨w.heap.size, 0, none⟩), .int .i64 0] rfl rfl).2⟩
      · have HX : Hid (unk S = (⟨0, 0, ⟨#[]⟩⟩, 43)) := by
          show _ = _
          rw [HU.out, if_neg (fun h => hr0 (by rw [← hrl, h.2]; rfl)), if_neg (by omega), if_neg (by omega), if_neg (by omega), if_neg (by omega)]
        have hem := nonempty_of_size (r := R) (by omega)
        clear m1 hr0 hrl
        go_wp2_with fail
        have HF := HFin.out W0 t0 0 0 ⟨#[]⟩ 43
        refine bodyPost_ret (HF _ rfl rfl).1 rfl ⟨by rw [HX.out], (HF #[undef, undef, .pointer (some ⟨w.heap.size, 0, none⟩), .int .i64 43] rfl rfl).2⟩
    · have m1' : ¬ (m.toNat : Int) = 1 := by omega
      by_cases m2 : m.toNat = 2
      · have m2' : (m.toNat : Int) = 2 := by omega
        by_cases hr1 : R.size = 1
        · obtain ⟨b, hrb⟩ : ∃ b, r = [b] := by
            rw [← hrl] at hr1
            exact List.length_eq_one_iff.1 hr1
          have hb0 : R[0]'(by omega) = b := by
            have h1 : R.data.toList[0]? = some b := by rw [HR.out, hrb]; rfl
            rw [Array.getElem?_toList, Array.getElem?_eq_getElem (by show 0 < R.size; omega)] at h1
            exact Option.some.inj h1
          have hr1' : (R.size : Int) = 1 := by omega
          have hbl := b.toNat_lt
          by_cases hb1 : b.toNat ≤ 1
          · have HX : Hid (unk S = (⟨3, b.toNat, ⟨#[]⟩⟩, 0)) := by
              show _ = _
              rw [HU.out, if_neg (by omega), hrb, if_pos ⟨m2, rfl, hb1⟩]; rfl
            have hb1' : (b.toNat : Int) ≤ 1 := by omega
            have hlr : 0 < R.size := by omega
            clear m1 m2 hrl hb1
            go_wp2_with fail
            have HF := HFin.out W0 t0 3 b.toNat ⟨#[]⟩ 0
            refine bodyPost_ret (HF _ rfl rfl).1 rfl ⟨by rw [HX.out], (HF #[undef, undef, .pointer (some ⟨w.heap.size, 0, none⟩), .int .i64 0] rfl rfl).2⟩
          · have HX : Hid (unk S = (⟨0, 0, ⟨#[]⟩⟩, 43)) := by
              show _ = _
              rw [HU.out, if_neg (by omega), hrb, if_neg (fun h => hb1 h.2.2), if_neg (by omega), if_neg (by omega), if_neg (by omega)]
            have hb1' : ¬ (b.toNat : Int) ≤ 1 := by omega
            have hlr : 0 < R.size := by omega
            clear m1 m2 hrl hb1
            go_wp2_with fail
            have HF := HFin.out W0 t0 0 0 ⟨#[]⟩ 43
            refine bodyPost_ret (HF _ rfl rfl).1 rfl ⟨by rw [HX.out], (HF #[undef, undef, .pointer (some ⟨w.heap.size, 0, none⟩), .int .i64 43] rfl rfl).2⟩
        · have HX : Hid (unk S = (⟨0, 0, ⟨#[]⟩⟩, 43)) := by
            show _ = _
            rw [HU.out, if_neg (by omega), if_neg (fun h => hr1 (by omega)), if_neg (by omega), if_neg (by omega), if_neg (by omega)]
          have hr1' : ¬ (R.size : Int) = 1 := by omega
          clear m1 m2 hrl hr1
          go_wp2_with fail
          have HF := HFin.out W0 t0 0 0 ⟨#[]⟩ 43
          refine bodyPost_ret (HF _ rfl rfl).1 rfl ⟨by rw [HX.out], (HF #[undef, undef, .pointer (some ⟨w.heap.size, 0, none⟩), .int .i64 43] rfl rfl).2⟩
      · have m2' : ¬ (m.toNat : Int) = 2 := by omega
        by_cases m3 : m.toNat = 3
        · have m3' : (m.toNat : Int) = 3 := by omega
          by_cases hr8 : R.size = 8
          · have HX : Hid (unk S = (⟨1, (beV R.data.toList : Int) - 9223372036854775808, ⟨#[]⟩⟩, 0)) := by
              show _ = _
              rw [HU.out, if_neg (by omega), if_neg (by omega), if_pos ⟨m3, by omega⟩, HR.out]
            have hr8' : (R.size : Int) = 8 := by omega
            have hik := intOfKey_any R W0 hr8
            obtain ⟨q, hq⟩ : ∃ q, q = (beV R.data.toList : Int) - 9223372036854775808 := ⟨_, rfl⟩
            rw [← hq] at hik HX
            clear m1 m2 m3 hrl hr8 hq
            go_wp2_with fail
            refine hik.mono ?_
            rintro x w1 ⟨rfl, rfl⟩
            clear hik
            go_wp2_with fail
            have HF := HFin.out w1 t0 1 q ⟨#[]⟩ 0
            refine bodyPost_ret (HF _ rfl rfl).1 rfl ⟨by rw [HX.out], (HF #[undef, undef, .pointer (some ⟨w.heap.size, 0, none⟩), .int .i64 0] rfl rfl).2⟩
          · have HX : Hid (unk S = (⟨0, 0, ⟨#[]⟩⟩, 43)) := by
              show _ = _
              rw [HU.out, if_neg (by omega), if_neg (by omega), if_neg (fun h => hr8 (by omega)), if_neg (by omega), if_neg (by omega)]
            have hr8' : ¬ (R.size : Int) = 8 := by omega
            clear m1 m2 m3 hrl hr8
            go_wp2_with fail
            have HF := HFin.out W0 t0 0 0 ⟨#[]⟩ 43
            refine bodyPost_ret (HF _ rfl rfl).1 rfl ⟨by rw [HX.out], (HF #[undef, undef, .pointer (some ⟨w.heap.size, 0, none⟩), .int .i64 43] rfl rfl).2⟩
        · have m3' : ¬ (m.toNat : Int) = 3 := by omega
          by_cases m4 : m.toNat = 4
          · have m4' : (m.toNat : Int) = 4 := by omega
            by_cases hr2 : R.size ≤ 200
            · have HX : Hid (unk S = (⟨2, 0, R⟩, 0)) := by
                show _ = _
                rw [HU.out, if_neg (by omega), if_neg (by omega), if_neg (by omega), if_pos ⟨m4, by omega⟩, ← HR.out]
              have hr2' : (R.size : Int) ≤ 200 := by omega
              have hcl := clone_any R W0 (by omega)
              clear m1 m2 m3 m4 hrl hr2
              go_wp2_with fail
              refine hcl.mono ?_
              rintro x w1 ⟨rfl, t1⟩
              have t2 := t0.trans' (Tch.of_below (S := fun _ => False) t1 (Nat.le_refl _))
              clear hcl c0 c1 c2 f0 f1 f2
              obtain ⟨⟨c0, c1, c2⟩, f0, f1, f2⟩ := HBx.out w1 t2
              go_wp2_with fail
              have HF := HFin.out w1 t2 2 0 R 0
              refine bodyPost_ret (HF _ rfl rfl).1 rfl ⟨by rw [HX.out], (HF #[undef, undef, .pointer (some ⟨w.heap.size, 0, none⟩), .int .i64 0] rfl rfl).2⟩
            · have HX : Hid (unk S = (⟨0, 0, ⟨#[]⟩⟩, 42)) := by
                show _ = _
                rw [HU.out, if_neg (by omega), if_neg (by omega), if_neg (by omega), if_neg (fun h => hr2 (by omega)), if_pos m4]
              have hr2' : ¬ (R.size : Int) ≤ 200 := by omega
              clear m1 m2 m3 m4 hrl hr2
              go_wp2_with fail
              have HF := HFin.out W0 t0 0 0 ⟨#[]⟩ 42
              refine bodyPost_ret (HF _ rfl rfl).1 rfl ⟨by rw [HX.out], (HF #[undef, undef, .pointer (some ⟨w.heap.size, 0, none⟩), .int .i64 42] rfl rfl).2⟩
          · have HX : Hid (unk S = (⟨0, 0, ⟨#[]⟩⟩, 43)) := by
              show _ = _
              rw [HU.out, if_neg (by omega), if_neg (by omega), if_neg (by omega), if_neg (by omega), if_neg (by omega)]
            have m4' : ¬ (m.toNat : Int) = 4 := by omega
            clear m1 m2 m3 m4 hrl
            go_wp2_with fail
            have HF := HFin.out W0 t0 0 0 ⟨#[]⟩ 43
            refine bodyPost_ret (HF _ rfl rfl).1 rfl ⟨by rw [HX.out], (HF #[undef, undef, .pointer (some ⟨w.heap.size, 0, none⟩), .int .i64 43] rfl rfl).2⟩
end Go.Proofs.YtnjbkkccofjmgaaDoor
