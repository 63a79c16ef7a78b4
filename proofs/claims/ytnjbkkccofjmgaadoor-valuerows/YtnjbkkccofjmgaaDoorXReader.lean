/- The document's Reader (confluenceref1), call by call. -/
import Derived.Test.YtnjbkkccofjmgaaDoorReader
namespace Go.Proofs.YtnjbkkccofjmgaaDoor
open Go.RowKit

structure XS (w : World) (b : Nat) (S : ByteArray) (a : Nat) (e : Int) : Prop where
  c0 : w.cell? ⟨b, 0, none⟩ = some (.string S)
  c1 : w.cell? ⟨b, 1, none⟩ = some (.int .i64 a)
  c2 : w.cell? ⟨b, 2, none⟩ = some (.int .i64 e)
  f1 : w.frozen? ⟨b, 1, none⟩ = false
  f2 : w.frozen? ⟨b, 2, none⟩ = false
  le : a ≤ S.size
theorem XS.tch {T : Nat → Prop} {w w' : World} {b : Nat} {S : ByteArray} {a : Nat} {e : Int} (h : XS w b S a e) (t : Tch T w w') (hb : ¬ T b) : XS w' b S a e := by
  have hl : b < w.heap.size := cell_lt h.c0
  exact ⟨(t.cell (p := ⟨b, 0, none⟩) hl hb).trans h.c0, (t.cell (p := ⟨b, 1, none⟩) hl hb).trans h.c1, (t.cell (p := ⟨b, 2, none⟩) hl hb).trans h.c2,
    (t.frozen (p := ⟨b, 1, none⟩) hl hb).trans h.f1, (t.frozen (p := ⟨b, 2, none⟩) hl hb).trans h.f2, h.le⟩
theorem XS.set2 {w : World} {b : Nat} {S : ByteArray} {a : Nat} {e : Int} (h : XS w b S a e) (c : Int) : XS (w.setCell ⟨b, 2, none⟩ (.int .i64 c)) b S a c := by
  refine ⟨?_, ?_, ?_, by simpa using h.f1, by simpa using h.f2, h.le⟩
  · rw [World.cell?_setCell_other (h := by simp)]; exact h.c0
  · rw [World.cell?_setCell_other (h := by simp)]; exact h.c1
  · rw [World.cell?_setCell_same (h := h.c2)]
theorem XS.set1 {w : World} {b : Nat} {S : ByteArray} {a : Nat} {e : Int} (h : XS w b S a e) (a' : Nat) (hle : a' ≤ S.size) : XS (w.setCell ⟨b, 1, none⟩ (.int .i64 a')) b S a' e := by
  refine ⟨?_, ?_, ?_, by simpa using h.f1, by simpa using h.f2, hle⟩
  · rw [World.cell?_setCell_other (h := by simp)]; exact h.c0
  · rw [World.cell?_setCell_same (h := h.c1)]
  · rw [World.cell?_setCell_other (h := by simp)]; exact h.c2

theorem xwrong_any (b : Nat) (S : ByteArray) (a : Nat) (c : Int) (w : World) (h : XS w b S a 0) :
    Calls Tryd.prog 76 #[.pointer (some ⟨b, 0, none⟩), .int .i64 c] w fun x w' => x = .returned (.tuple #[]) ∧ XS w' b S a c ∧ Tch (fun i => i = b) w w' := by
  have c2 := h.c2; have f2 := h.f2
  go_enter Tryd.func76, Tryd.ntmps76
  go_wp2
  go_end0
  exact ⟨rfl, h.set2 c, Tch.setCell _ _ _ _ rfl⟩

theorem xdone_any (b : Nat) (S : ByteArray) (a : Nat) (e : Int) (w : World) (h : XS w b S a e) :
    Calls Tryd.prog 55 #[.pointer (some ⟨b, 0, none⟩)] w fun x w' => x = .returned (.tuple #[.int .i64 (doneE e (S.size - a)), .int .i64 a]) ∧ Tch (fun _ => False) w w' := by
  have c0 := h.c0; have c1 := h.c1; have c2 := h.c2; have hle := h.le
  by_cases he : e = 0
  · subst he
    by_cases hr : a < S.size
    · have hr' : (a : Int) < S.size := by omega
      have HE : Hid (doneE 0 (S.size - a) = 13) := by show _ = _; unfold doneE; rw [if_pos rfl, if_neg (by omega)]
      go_enter Tryd.func55, Tryd.ntmps55
      go_wp2
      go_quiet (fail)
      go_wp2
      go_quiet (fail)
      go_wp2
      go_ret2
      exact ⟨by rw [HE.out]; rfl, ((Tch.refl _ _).drewN _).drewN _⟩
    · have hr' : ¬ (a : Int) < S.size := by omega
      have HE : Hid (doneE 0 (S.size - a) = 0) := by show _ = _; unfold doneE; rw [if_pos rfl, if_pos (by omega)]
      go_enter Tryd.func55, Tryd.ntmps55
      go_wp2
      go_quiet (fail)
      go_wp2
      go_quiet (fail)
      go_wp2
      go_ret2
      exact ⟨by rw [HE.out]; rfl, ((Tch.refl _ _).drewN _).drewN _⟩
  · have hn : (e != 0) = true := by simpa using he
    have HE : Hid (doneE e (S.size - a) = e) := by show _ = _; unfold doneE; rw [if_neg he]
    go_enter Tryd.func55, Tryd.ntmps55
    go_wp2
    go_quiet (fail)
    go_wp2
    go_ret2
    exact ⟨by rw [HE.out]; rfl, (Tch.refl _ _).drewN _⟩

theorem add_step {v b u k : Nat} (hu : u = 128 ^ k) (hfit : v + (b % 128) * 128 ^ k < 18446744073709551616) :
    IntKind.u64.wrap ((v : Int) + IntKind.u64.wrap ((b : Int) % 128 * u)) = ((v + (b % 128) * 128 ^ k : Nat) : Int) := by
  have e1 : ((b : Int) % 128 * u) = (((b % 128) * 128 ^ k : Nat) : Int) := by rw [hu]; simp
  rw [e1, IntKind.wrap_u64, IntKind.wrap_u64]
  omega
theorem unit_step {u k : Nat} (hu : u = 128 ^ k) (hk : k + 1 ≤ 9) : IntKind.u64.wrap ((u : Int) * 128) = ((128 ^ (k + 1) : Nat) : Int) := by
  have h2 := pow_le_of hk
  have h3 : (128 : Nat) ^ 9 = 9223372036854775808 := by decide
  have e1 : ((u : Int) * 128) = ((128 ^ (k + 1) : Nat) : Int) := by rw [hu, Nat.pow_succ]; simp
  rw [e1, IntKind.wrap_u64]
  omega
theorem xindex (S : ByteArray) (a k : Nat) (h : a + k < S.size) (hS : S.size ≤ 281474976710656) (w : World) :
    (Instr.index 9 (.string S) (.int .i64 (IntKind.i64.wrap ((a : Int) + k)))).run Tryd.prog w = .ok (.int .u8 S[a + k].toNat) w := by
  have e : IntKind.i64.wrap ((a : Int) + k) = ((a + k : Nat) : Int) := by rw [IntKind.wrap_i64]; omega
  rw [e, run_index_string (h := Tryd.underlying9), dif_pos (by omega)]
  simp only [Int.toNat_natCast]

set_option maxHeartbeats 1000000 in
set_option maxRecDepth 100000 in
theorem xnumber_any (b : Nat) (S : ByteArray) (a : Nat) (e : Int) (last top : Nat) (w : World) (h : XS w b S a e) (hS : S.size ≤ 281474976710656) (hl : last ≤ 10) (hl0 : 0 < last) (ht : top ≤ 127) (h10 : last = 10 → top ≤ 1) :
    Calls Tryd.prog 77 #[.pointer (some ⟨b, 0, none⟩), .int .i64 last, .int .i64 top] w fun x w' => (∃ n k : Nat, ∃ c : Int, dgs last top (S.data.toList.drop a) 0 0 = (n, k, c) ∧ x = .returned (.tuple #[.int .u64 n, .int .i64 k, .int .i64 c])) ∧ Tch (fun _ => False) w w' := by
  have hle := h.le
  go_enter Tryd.func77, Tryd.ntmps77
  go_wp2
  go_loopw [9, 10, 11] (fun n t i wr => ∃ k v u : Nat, a + k ≤ S.size ∧ k < last ∧ i = .int .i64 k ∧ n = .int .u64 v ∧ t = .int .u64 u ∧ Hid (u = 128 ^ k) ∧ v < 128 ^ k ∧ Hid (dgs last top (S.data.toList.drop (a + k)) k v = dgs last top (S.data.toList.drop a) 0 0) ∧ Tch (fun _ => False) w wr) (fun _ _ i _ => S.size - (intOf i).toNat)
  case atStart => exact ⟨0, 0, 1, by omega, hl0, rfl, rfl, rfl, rfl, by decide, rfl, Tch.refl _ _⟩
  case round =>
    obtain ⟨k, v, u, hk, hkl, rfl, rfl, rfl, HU, hv, HD, hT⟩ := hrel
    have h1 := h.tch hT (fun h => h)
    have c0 := h1.c0; have c1 := h1.c1
    by_cases hlt : a + k < S.size
    · have hlt' : (a : Int) + k < S.size := by omega
      obtain ⟨B, hB0⟩ : ∃ B : UInt8, B = S[a + k] := ⟨_, rfl⟩
      have hix := xindex S a k hlt hS
      rw [← hB0] at hix
      have HD2 := HD.out
      have hdc : S.data.toList.drop (a + k) = B :: S.data.toList.drop (a + k + 1) := by rw [hB0]; exact drop_cons S (a + k) hlt
      rw [hdc] at HD2
      have HE2 : Hid (dgs last top (B :: List.drop (a + k + 1) S.data.toList) k v = dgs last top (S.data.toList.drop a) 0 0) := HD2
      clear HD HD2 hdc hB0
      obtain ⟨B1, hB1⟩ : ∃ B1 : Nat, B1 = B.toNat := ⟨_, rfl⟩
      have hb255 : (B1 : Int) ≤ 255 := by have := B.toNat_lt; omega
      have HB : Hid (B.toNat = B1) := hB1.symm
      rw [← hB1] at hix
      clear hB1
      by_cases hA : k + 1 = last ∧ top < B1
      · obtain ⟨hA1, hA2⟩ := hA
        have hA3 : (last : Int) - 1 = k := by omega
        have hA4 : (top : Int) < B1 := by omega
        have HA2 : Hid (top < B.toNat) := by show _ < _; rw [HB.out]; exact hA2
        go_wp2
        go_quiet (fail)
        go_wp2
        go_quiet (fail)
        go_wp2
        go_ret3
        exact ⟨⟨0, 0, 10, by rw [← HE2.out, dgs_range hA1 HA2.out], rfl⟩, hT.drewN _⟩
      · have HA : Hid (¬ (k + 1 = last ∧ top < B.toNat)) := by show ¬ _; rw [HB.out]; exact hA
        have hfit := digit_fits hv hl hkl ht h10 HA.out
        rw [HB.out] at hfit
        have HO : Hid (IntKind.u64.wrap ((v : Int) + IntKind.u64.wrap ((B1 : Int) % 128 * u)) = ((v + (B1 % 128) * 128 ^ k : Nat) : Int)) := add_step HU.out hfit
        by_cases hB : 128 ≤ B1
        · have hB1 : (128 : Int) ≤ B1 := by omega
          have hB2 : ¬ ((k : Int) = last - 1) := by omega
          have HS : Hid (v + (B1 % 128) * 128 ^ k < 128 ^ (k + 1)) := step_lt hv
          have HN : Hid (dgs last top (List.drop (a + (k + 1)) S.data.toList) (k + 1) (v + B1 % 128 * 128 ^ k) = dgs last top (S.data.toList.drop a) 0 0) := by
            show _ = _
            rw [← HE2.out, dgs_more HA.out (by rw [HB.out]; exact hB), HB.out]; rfl
          have HV : Hid (IntKind.u64.wrap ((u : Int) * 128) = ((128 ^ (k + 1) : Nat) : Int)) := unit_step HU.out (by omega)
          clear hA hfit
          go_wp2
          go_quiet (fail)
          go_wp2
          go_quiet (fail)
          go_wp2
          go_roundw
          case rel =>
            exact ⟨k + 1, v + (B1 % 128) * 128 ^ k, 128 ^ (k + 1), by omega, by omega, by go_num, by rw [HO.out], by rw [HV.out], rfl, HS.out, HN, hT.drewN _⟩
          case measure => simp [intOf]; omega
        · have hB1 : (B1 : Int) < 128 := by omega
          clear hA hfit
          by_cases hz : B1 = 0 ∧ 0 < k
          · obtain ⟨rfl, hz2⟩ := hz
            have HR : Hid (dgs last top (S.data.toList.drop a) 0 0 = (0, 0, 14)) := by
              show _ = _
              rw [← HE2.out, dgs_form HA.out HB.out hz2]
            have hz4 : (0 : Int) < k := by omega
            by_cases hA1 : (last : Int) - 1 = k
            · have hA4 : ¬ (top : Int) < 0 := by omega
              go_wp2
              go_quiet (fail)
              go_wp2
              go_quiet (fail)
              go_wp2
              go_ret3
              exact ⟨⟨0, 0, 14, HR.out, rfl⟩, hT.drewN _⟩
            · have hA5 : ¬ (k : Int) = last - 1 := by omega
              clear hA1
              go_wp2
              go_quiet (fail)
              go_wp2
              go_quiet (fail)
              go_wp2
              go_ret3
              exact ⟨⟨0, 0, 14, HR.out, rfl⟩, hT.drewN _⟩
          · have HZ : Hid (dgs last top (S.data.toList.drop a) 0 0 = (v + (B1 % 128) * 128 ^ k, k + 1, 0)) := by
              have := HE2.out; rw [dgs_end HA.out (by rw [HB.out]; omega) (by rw [HB.out]; exact hz), HB.out] at this; exact this.symm
            have HA5 : Hid ((last : Int) - 1 = k → ¬ (top : Int) < B1) := by
              intro h1 h2; exact HA.out ⟨by omega, by rw [HB.out]; omega⟩
            by_cases hzz : B1 = 0
            · subst hzz
              obtain rfl : k = 0 := by omega
              have HZ1 : Hid (dgs last top (S.data.toList.drop a) 0 0 = (v, 1, 0)) := by have h9 := HZ.out; show _ = _; simpa using h9
              have hix0 : ∀ w : World, (Instr.index 9 (.string S) (.int .i64 (IntKind.i64.wrap (a : Int)))).run Tryd.prog w = .ok (.int .u8 0) w := by
                intro w; have := hix w; simpa using this
              clear hix
              by_cases hA1 : (last : Int) - 1 = 0
              · have hA4 : ¬ (top : Int) < 0 := HA5.out hA1
                clear HA hz HO
                go_wp2
                go_quiet (fail)
                go_wp2
                go_quiet (fail)
                go_wp2
                go_ret3
                exact ⟨⟨v, 1, 0, HZ1.out, rfl⟩, hT.drewN _⟩
              · have hA6 : ¬ (0 : Int) = last - 1 := by omega
                clear HA hz HO hA1
                go_wp2
                go_quiet (fail)
                go_wp2
                go_quiet (fail)
                go_wp2
                go_ret3
                exact ⟨⟨v, 1, 0, HZ1.out, rfl⟩, hT.drewN _⟩
            · have hz3 : ¬ (B1 : Int) = 0 := by omega
              by_cases hA1 : (last : Int) - 1 = k
              · have hA4 : ¬ (top : Int) < B1 := HA5.out hA1
                clear HA hz
                go_wp2
                go_quiet (fail)
                go_wp2
                go_quiet (fail)
                go_wp2
                go_ret3
                exact ⟨⟨_, _, _, HZ.out, by rw [HO.out]; rfl⟩, hT.drewN _⟩
              · have hA6 : ¬ (k : Int) = last - 1 := by omega
                clear HA hz hA1
                go_wp2
                go_quiet (fail)
                go_wp2
                go_quiet (fail)
                go_wp2
                go_ret3
                exact ⟨⟨_, _, _, HZ.out, by rw [HO.out]; rfl⟩, hT.drewN _⟩
    · have hlt' : ¬ (a : Int) + k < S.size := by omega
      have HR : Hid (dgs last top (S.data.toList.drop a) 0 0 = (0, 0, 11)) := by
        show _ = _
        rw [← HD.out, List.drop_of_length_le (by simp; omega)]; rfl
      go_wp2
      go_quiet (fail)
      go_wp2
      go_ret3
      exact ⟨⟨0, 0, 11, HR.out, rfl⟩, hT.drewN _⟩

end Go.Proofs.YtnjbkkccofjmgaaDoor
