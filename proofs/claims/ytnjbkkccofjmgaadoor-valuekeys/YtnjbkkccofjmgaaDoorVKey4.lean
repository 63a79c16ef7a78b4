/- Keys and back, by the document. -/
import Derived.Test.YtnjbkkccofjmgaaDoorVKey2
namespace Go.Proofs.YtnjbkkccofjmgaaDoor
open Go.RowKit

theorem toArr {S : ByteArray} {l : List UInt8} (h : S.data.toList = l) : (⟨l.toArray⟩ : ByteArray) = S := by
  rw [← h]
set_option maxHeartbeats 4000000 in
set_option maxRecDepth 100000 in
theorem runkey_any (S : ByteArray) (w : World) (hS : S.size ≤ 281474976710656) :
    Calls Tryd.prog 14 #[.string S] w fun x w' => x = .returned (.tuple #[vA (unk S).1.k (unk S).1.n (unk S).1.s, .int .i64 (unk S).2]) ∧ Tch (fun _ => False) w w' := by
  have HFin : Hid (∀ (x0 x1 x2 : Value) W, Tch (fun _ => False) ((w.alloc (.cells #[.int .i64 0, .int .i64 0, .string ⟨#[]⟩] 23)).alloc (.cells #[x0, x1, x2] 23)) W → ∀ (k n : Int) (s : ByteArray) (e : Int) (tmps : Array Value), tmps[2]?.getD undef = .pointer (some ⟨w.heap.size, 0, none⟩) → tmps[3]?.getD undef = .int .i64 e →
      (results Tryd.f14 tmps).run Tryd.prog (((W.setCell ⟨w.heap.size, 0, none⟩ (.int .i64 k)).setCell ⟨w.heap.size, 1, none⟩ (.int .i64 n)).setCell ⟨w.heap.size, 2, none⟩ (.string s)) = .ok (.tuple #[vA k n s, .int .i64 e]) (((W.setCell ⟨w.heap.size, 0, none⟩ (.int .i64 k)).setCell ⟨w.heap.size, 1, none⟩ (.int .i64 n)).setCell ⟨w.heap.size, 2, none⟩ (.string s)) ∧ Tch (fun _ => False) w (((W.setCell ⟨w.heap.size, 0, none⟩ (.int .i64 k)).setCell ⟨w.heap.size, 1, none⟩ (.int .i64 n)).setCell ⟨w.heap.size, 2, none⟩ (.string s))) := fun x0 x1 x2 W t k n s e tmps h2 h3 => by
    obtain ⟨⟨c0, c1, c2⟩, -⟩ := box_tch2 t
    obtain ⟨d0, d1, d2⟩ := box_set W w.heap.size _ _ _ (.int .i64 k) (.int .i64 n) (.string s) c0 c1 c2
    refine ⟨runkey_res tmps _ w.heap.size k n s e d0 d1 d2 h2 h3, ?_⟩
    refine ((((Tch.alloc (fun _ => False) w _).allocR _).trans' t).trans (box_set_tch W w.heap.size _ _ _) (fun i hi he => by omega))
  have HBx : Hid (∀ (x0 x1 x2 : Value) W, Tch (fun _ => False) ((w.alloc (.cells #[.int .i64 0, .int .i64 0, .string ⟨#[]⟩] 23)).alloc (.cells #[x0, x1, x2] 23)) W → ((W.cell? ⟨w.heap.size, 0, none⟩ = some (.int .i64 0) ∧ W.cell? ⟨w.heap.size, 1, none⟩ = some (.int .i64 0) ∧ W.cell? ⟨w.heap.size, 2, none⟩ = some (.string ⟨#[]⟩)) ∧ W.cell? ⟨w.heap.size + 1, 0, none⟩ = some x0 ∧ W.cell? ⟨w.heap.size + 1, 1, none⟩ = some x1 ∧ W.cell? ⟨w.heap.size + 1, 2, none⟩ = some x2) ∧ W.frozen? ⟨w.heap.size, 0, none⟩ = false ∧ W.frozen? ⟨w.heap.size, 1, none⟩ = false ∧ W.frozen? ⟨w.heap.size, 2, none⟩ = false) := fun x0 x1 x2 W t => by
    have e1 := fun j => t.frozen (p := ⟨w.heap.size, j, none⟩) (by simp; omega) (fun h => h)
    exact ⟨box_tch2 t, (e1 0).trans (by simp), (e1 1).trans (by simp), (e1 2).trans (by simp)⟩
  by_cases h0 : S.size = 0
  · have e : unk S = (⟨0, 0, ⟨#[]⟩⟩, 43) := by unfold unk; rw [size0 h0]
    rw [e]
    have hem := empty_of_size h0
    go_enter Tryd.func14, Tryd.ntmps14
    go_wp2_with fail
    obtain ⟨⟨d0, d1, d2⟩, -⟩ := box_tch2 (Tch.refl (fun _ => False) ((w.alloc (.cells #[.int .i64 0, .int .i64 0, .string ⟨#[]⟩] 23)).alloc (.cells #[.int .i64 0, .int .i64 0, .string ⟨#[]⟩] 23)))
    refine bodyPost_ret (runkey_res _ _ w.heap.size 0 0 ⟨#[]⟩ 43 d0 d1 d2 rfl rfl) rfl ⟨rfl, (Tch.alloc _ _ _).allocR _⟩
  · have hne := nonempty_of_size (r := S) (by omega)
    obtain ⟨m, r, hmr⟩ : ∃ m r, S.data.toList = m :: r := by
      cases h : S.data.toList with
      | nil => exact absurd (by have : S.data.toList.length = S.size := by simp
                                rw [h] at this; simpa using this.symm) h0
      | cons m r => exact ⟨m, r, rfl⟩
    have h0p : 0 < S.size := by omega
    have hm0 : S[0]'h0p = m := by
      have h1 : S.data.toList[0]? = some m := by rw [hmr]; rfl
      rw [Array.getElem?_toList, Array.getElem?_eq_getElem (by show 0 < S.size; omega)] at h1
      exact Option.some.inj h1
    have hrl : S.size = r.length + 1 := by
      have : S.data.toList.length = S.size := by simp
      rw [hmr] at this; simp at this; omega
    have HU : Hid (unk S = if m.toNat = 1 ∧ r = [] then (⟨0, 0, ⟨#[]⟩⟩, 0)
      else if m.toNat = 2 ∧ r.length = 1 ∧ (r.headD 0).toNat ≤ 1 then (⟨3, (r.headD 0).toNat, ⟨#[]⟩⟩, 0)
      else if m.toNat = 3 ∧ r.length = 8 then (⟨1, (beV r : Int) - 9223372036854775808, ⟨#[]⟩⟩, 0)
      else if m.toNat = 4 ∧ r.length ≤ 200 then (⟨2, 0, ⟨r.toArray⟩⟩, 0)
      else if m.toNat = 4 then (⟨0, 0, ⟨#[]⟩⟩, 42)
      else (⟨0, 0, ⟨#[]⟩⟩, 43)) := by show _ = _; unfold unk; rw [hmr]
    have HM : Hid (S.data.toList = m :: r) := hmr
    clear hmr
    have hsi : (0 : Int) < S.size := by omega
    have hml := m.toNat_lt
    by_cases m2 : m.toNat = 2 ∧ S.size = 2
    · obtain ⟨m2, s2⟩ := m2
      have m2' : (m.toNat : Int) = 2 := by omega
      have s2' : (S.size : Int) = 2 := by omega
      obtain ⟨b, hrb⟩ : ∃ b, r = [b] := List.length_eq_one_iff.1 (by omega)
      have hb0 : S[1]'(by omega) = b := by
        have h1 : S.data.toList[1]? = some b := by rw [HM.out, hrb]; rfl
        rw [Array.getElem?_toList, Array.getElem?_eq_getElem (by show 1 < S.size; omega)] at h1
        exact Option.some.inj h1
      have hs1 : (1 : Int) < S.size := by omega
      have hwb : wrap64 (b.toNat : Int) = b.toNat := by have := b.toNat_lt; unfold wrap64; omega
      have hbl := b.toNat_lt
      by_cases hb1 : b.toNat ≤ 1
      · have HX : Hid (unk S = (⟨3, b.toNat, ⟨#[]⟩⟩, 0)) := by
          show _ = _
          rw [HU.out, if_neg (by omega), hrb, if_pos ⟨m2, rfl, hb1⟩]; rfl
        have hkc : ∀ W, Calls Tryd.prog 12 #[vA 3 b.toNat ⟨#[]⟩] W fun x w' => x = .returned (.tuple #[.string S, .int .i64 0]) ∧ Tch (fun _ => False) W w' := fun W => by
          have h1 := rkey_any 3 b.toNat ⟨#[]⟩ W ⟨by simp, by simp; omega⟩
          have hf : frm ⟨3, b.toNat, ⟨#[]⟩⟩ := Or.inr (Or.inr (Or.inr ⟨rfl, rfl, by simp; omega⟩))
          have h2 : keyP ⟨3, b.toNat, ⟨#[]⟩⟩ = (key ⟨3, b.toNat, ⟨#[]⟩⟩, 0) := key_str (by unfold wrg; rw [if_pos hf]; rfl)
          have h3 : (⟨(key ⟨3, b.toNat, ⟨#[]⟩⟩).toArray⟩ : ByteArray) = S := toArr (by
            rw [HM.out, hrb]
            have : m = 2 := by apply UInt8.toNat.inj; rw [m2]; rfl
            simp [key, this])
          rw [h2] at h1
          simp only [h3] at h1
          exact h1
        go_enter Tryd.func14, Tryd.ntmps14
        go_wp2_with fail
        have hkc := hkc ((w.alloc (.cells #[.int .i64 0, .int .i64 0, .string ⟨#[]⟩] 23)).alloc (.cells #[.int .i64 3, .int .i64 b.toNat, .string ⟨#[]⟩] 23))
        refine hkc.mono ?_
        rintro x w2 ⟨rfl, t2⟩
        obtain ⟨⟨⟨c0, c1, c2⟩, c3, c4, c5⟩, f0, f1, f2⟩ := HBx.out _ _ _ w2 t2
        have HF := HFin.out _ _ _ w2 t2 3 b.toNat ⟨#[]⟩ 0
        clear hkc t2
        go_wp2_with fail
        refine bodyPost_ret (HF _ rfl rfl).1 rfl ⟨by rw [HX.out], (HF #[undef, undef, .pointer (some ⟨w.heap.size, 0, none⟩), .int .i64 0] rfl rfl).2⟩
      · have HX : Hid (unk S = (⟨0, 0, ⟨#[]⟩⟩, 43)) := by
          show _ = _
          rw [HU.out, if_neg (by omega), hrb, if_neg (fun h => hb1 h.2.2), if_neg (by omega), if_neg (by omega), if_neg (by omega)]
        have hkc : ∀ W, Calls Tryd.prog 12 #[vA 3 b.toNat ⟨#[]⟩] W fun x w' => x = .returned (.tuple #[.string ⟨#[]⟩, .int .i64 43]) ∧ Tch (fun _ => False) W w' := fun W => by
          have h1 := rkey_any 3 b.toNat ⟨#[]⟩ W ⟨by simp, by simp; omega⟩
          have hf : ¬ frm ⟨3, b.toNat, ⟨#[]⟩⟩ := by unfold frm; simp; omega
          have hw : wrg ⟨3, b.toNat, ⟨#[]⟩⟩ = 43 := by unfold wrg; rw [if_neg hf]
          have h2 : keyP ⟨3, b.toNat, ⟨#[]⟩⟩ = ([], 43) := by unfold keyP; rw [hw]; rfl
          rw [h2] at h1
          exact h1
        go_enter Tryd.func14, Tryd.ntmps14
        go_wp2_with fail
        have hkc := hkc ((w.alloc (.cells #[.int .i64 0, .int .i64 0, .string ⟨#[]⟩] 23)).alloc (.cells #[.int .i64 3, .int .i64 b.toNat, .string ⟨#[]⟩] 23))
        refine hkc.mono ?_
        rintro x w2 ⟨rfl, t2⟩
        obtain ⟨⟨⟨c0, c1, c2⟩, c3, c4, c5⟩, f0, f1, f2⟩ := HBx.out _ _ _ w2 t2
        have HF := HFin.out _ _ _ w2 t2 0 0 ⟨#[]⟩ 43
        clear hkc t2
        go_wp2_with fail
        refine bodyPost_ret (HF _ rfl rfl).1 rfl ⟨by rw [HX.out], (HF #[undef, undef, .pointer (some ⟨w.heap.size, 0, none⟩), .int .i64 43] rfl rfl).2⟩
    · have HZ : Hid (∀ W, Calls Tryd.prog 12 #[vA 0 0 ⟨#[]⟩] W fun x w' => x = .returned (.tuple #[.string ⟨#[1]⟩, .int .i64 0]) ∧ Tch (fun _ => False) W w') := fun W => rkey_any 0 0 ⟨#[]⟩ W ⟨by simp, by simp⟩
      have HZ1 : Hid (m.toNat = 1 ∧ r = [] → ∀ W, Calls Tryd.prog 12 #[vA 0 0 ⟨#[]⟩] W fun x w' => x = .returned (.tuple #[.string S, .int .i64 0]) ∧ Tch (fun _ => False) W w') := fun h W => by
        have e1 : (⟨#[1]⟩ : ByteArray) = S := toArr (l := [1]) (by
          rw [HM.out, h.2]
          have : m = 1 := by apply UInt8.toNat.inj; rw [h.1]; rfl
          rw [this])
        have := HZ.out W
        rw [e1] at this; exact this
      have HZ2 : Hid (¬ (m.toNat = 1 ∧ r = []) → ∃ K : ByteArray, (K.toList == S.toList) = false ∧ ∀ W, Calls Tryd.prog 12 #[vA 0 0 ⟨#[]⟩] W fun x w' => x = .returned (.tuple #[.string K, .int .i64 0]) ∧ Tch (fun _ => False) W w') := fun h => by
        refine ⟨⟨#[1]⟩, ?_, HZ.out⟩
        rw [beq_eq_false_iff_ne]
        intro e
        rw [ByteArray.toList_eq, ByteArray.toList_eq, HM.out] at e
        injection e with e1 e2
        exact h ⟨by rw [← e1]; rfl, e2.symm⟩
      by_cases n2 : m.toNat = 2
      · have q2 : (m.toNat : Int) = 2 := by omega
        have q3 : ¬ (S.size : Int) = 2 := by omega
        by_cases h1 : m.toNat = 1 ∧ r = []
        · have HX : Hid (unk S = (⟨0, 0, ⟨#[]⟩⟩, 0)) := by
            show _ = _
            rw [HU.out, if_pos h1]
          have hkc := HZ1.out h1 ((w.alloc (.cells #[.int .i64 0, .int .i64 0, .string ⟨#[]⟩] 23)).alloc (.cells #[.int .i64 0, .int .i64 0, .string ⟨#[]⟩] 23))
          clear h1
          go_enter Tryd.func14, Tryd.ntmps14
          go_wp2_with fail
        
          refine hkc.mono ?_
          rintro x w2 ⟨rfl, t2⟩
          obtain ⟨⟨⟨c0, c1, c2⟩, c3, c4, c5⟩, f0, f1, f2⟩ := HBx.out _ _ _ w2 t2
          have HF := HFin.out _ _ _ w2 t2 0 0 ⟨#[]⟩ 0
          clear hkc t2
          go_wp2_with fail
          refine bodyPost_ret (HF _ rfl rfl).1 rfl ⟨by rw [HX.out], (HF #[undef, undef, .pointer (some ⟨w.heap.size, 0, none⟩), .int .i64 0] rfl rfl).2⟩
        · have HX : Hid (unk S = (⟨0, 0, ⟨#[]⟩⟩, 43)) := by
            show _ = _
            rw [HU.out, if_neg h1, if_neg (by omega), if_neg (by omega), if_neg (by omega), if_neg (by omega)]
          obtain ⟨K, hK, hkc0⟩ := HZ2.out h1
          have hkc := hkc0 ((w.alloc (.cells #[.int .i64 0, .int .i64 0, .string ⟨#[]⟩] 23)).alloc (.cells #[.int .i64 0, .int .i64 0, .string ⟨#[]⟩] 23))
          clear h1 hkc0
          go_enter Tryd.func14, Tryd.ntmps14
          go_wp2_with fail
        
          refine hkc.mono ?_
          rintro x w2 ⟨rfl, t2⟩
          obtain ⟨⟨⟨c0, c1, c2⟩, c3, c4, c5⟩, f0, f1, f2⟩ := HBx.out _ _ _ w2 t2
          have HF := HFin.out _ _ _ w2 t2 0 0 ⟨#[]⟩ 43
          clear hkc t2
          go_wp2_with fail
          refine bodyPost_ret (HF _ rfl rfl).1 rfl ⟨by rw [HX.out], (HF #[undef, undef, .pointer (some ⟨w.heap.size, 0, none⟩), .int .i64 43] rfl rfl).2⟩
        
      · have q2 : ¬ (m.toNat : Int) = 2 := by omega
        by_cases n3 : m.toNat = 3
        · have q3 : (m.toNat : Int) = 3 := by omega
          by_cases s9 : S.size = 9
          · have q4 : (S.size : Int) = 9 := by omega
            have hV : beV r < 18446744073709551616 := beV_lt 8 _ (by omega)
            have HX : Hid (unk S = (⟨1, (beV r : Int) - 9223372036854775808, ⟨#[]⟩⟩, 0)) := by
              show _ = _
              rw [HU.out, if_neg (by omega), if_neg (by omega), if_pos ⟨n3, by omega⟩]
            have hkc0 : ∀ W, Calls Tryd.prog 12 #[vA 1 ((beV r : Int) - 9223372036854775808) ⟨#[]⟩] W fun x w' => x = .returned (.tuple #[.string S, .int .i64 0]) ∧ Tch (fun _ => False) W w' := fun W => by
              have h1 := rkey_any 1 ((beV r : Int) - 9223372036854775808) ⟨#[]⟩ W ⟨by simp, by simp; omega⟩
              have hf : frm ⟨1, (beV r : Int) - 9223372036854775808, ⟨#[]⟩⟩ := Or.inr (Or.inl ⟨rfl, rfl⟩)
              have h2 : keyP ⟨1, (beV r : Int) - 9223372036854775808, ⟨#[]⟩⟩ = (key ⟨1, (beV r : Int) - 9223372036854775808, ⟨#[]⟩⟩, 0) := key_str (by unfold wrg; rw [if_pos hf]; rfl)
              have h3 : (⟨(key ⟨1, (beV r : Int) - 9223372036854775808, ⟨#[]⟩⟩).toArray⟩ : ByteArray) = S := toArr (by
                rw [HM.out]
                have e1 : m = 3 := by apply UInt8.toNat.inj; rw [n3]; rfl
                have e2 : ((beV r : Int) - 9223372036854775808 + 9223372036854775808).toNat = beV r := by omega
                have e3 : be8 (beV r) = r := beN_beV 8 r (by omega)
                have e4 : key ⟨1, (beV r : Int) - 9223372036854775808, ⟨#[]⟩⟩ = 3 :: be8 ((beV r : Int) - 9223372036854775808 + 9223372036854775808).toNat := by unfold key; simp
                rw [e4, e2, e3, e1])
              rw [h2] at h1
              simp only [h3] at h1
              exact h1
            have HS1 : Hid (∀ k, (hk : 1 + k < S.size) → r[k]? = some (S[1 + k])) := fun k hk => by
              have h1 : S.data.toList[1 + k]? = r[k]? := by rw [HM.out, Nat.add_comm]; rfl
              rw [← h1, Array.getElem?_toList, Array.getElem?_eq_getElem (show 1 + k < S.data.size from hk)]; rfl
            have hrl8 : Hid (r.length = 8) := by show _ = _; omega
            have q5 : ((S.size : Int) == 9) = true := by simpa using q4
            obtain ⟨W0, hW0⟩ : ∃ W0, W0 = (w.alloc (.cells #[.int .i64 0, .int .i64 0, .string ⟨#[]⟩] 23)).alloc (.cells #[.int .i64 0, .int .i64 0, .string ⟨#[]⟩] 23) := ⟨_, rfl⟩
            clear hrl s9
            go_enter Tryd.func14, Tryd.ntmps14
            go_wp2_with fail
            rw [← hW0]
            go_loopw [5, 6] (fun n i wr => ∃ k u : Nat, i = .int .i64 ((k : Int) + 1) ∧ n = .int .u64 u ∧ k ≤ 8 ∧ Hid (u = beV (r.take k)) ∧ wr = W0) (fun _ i _ => 9 - (intOf i).toNat)
            case atStart => exact ⟨0, 0, rfl, rfl, by omega, rfl, rfl⟩
            case round =>
              obtain ⟨k, u, rfl, rfl, hk, HB, rfl⟩ := hrel
              by_cases hlt : (k : Int) + 1 < 9
              · have hkl : 1 + k < S.size := by omega
                have hul : u < 256 ^ k := by rw [HB.out]; exact beV_lt k _ (by simp [hrl8.out]; omega)
                have hu7 : u < 72057594037927936 := Nat.lt_of_lt_of_le hul (Nat.le_trans (Nat.pow_le_pow_right (by decide) (by omega : k ≤ 7)) (by decide))
                have HN : Hid (beV (r.take (k + 1)) = u * 256 + (S[1 + k]).toNat) := by
                  show _ = _
                  have e := HS1.out k hkl
                  rw [List.take_add_one, e, Option.toList_some, beV_snoc, ← HB.out]
                have HN2 : Hid (IntKind.u64.wrap (256 * (u : Int) + IntKind.u64.wrap (S[k + 1].toNat : Int)) = ((u * 256 + (S[1 + k]).toNat : Nat) : Int)) := by
                  show _ = _
                  have e : S[k + 1] = S[1 + k] := by congr 1; omega
                  have hb := S[1 + k].toNat_lt
                  rw [e, IntKind.wrap_u64, IntKind.wrap_u64]; omega
                clear hul
                go_wp2_with fail
                refine ⟨⟨k + 1, u * 256 + (S[1 + k]).toNat, by simp, by rw [← HN2.out], by omega, HN.out.symm, hW0.symm⟩, by simp [intOf]; omega⟩
              · obtain rfl : k = 8 := by omega
                have HU2 : Hid (u = beV r) := by
                  show _ = _
                  rw [HB.out, List.take_of_length_le (by rw [hrl8.out]; exact Nat.le_refl _)]
                obtain ⟨q, hq⟩ : ∃ q, q = (beV r : Int) - 9223372036854775808 := ⟨_, rfl⟩
                have hcv : IntKind.i64.wrap (IntKind.u64.wrap ((u : Int) - 9223372036854775808)) = q := by
                  have := HU2.out
                  rw [hq, IntKind.wrap_i64, IntKind.wrap_u64]; omega
                rw [← hq] at hkc0 HX
                clear hq
                subst hW0
                go_wp2_with fail
                have hkc := hkc0 ((w.alloc (.cells #[.int .i64 0, .int .i64 0, .string ⟨#[]⟩] 23)).alloc (.cells #[.int .i64 1, .int .i64 q, .string ⟨#[]⟩] 23))
                refine hkc.mono ?_
                rintro x w2 ⟨rfl, t2⟩
                obtain ⟨⟨⟨c0, c1, c2⟩, c3, c4, c5⟩, f0, f1, f2⟩ := HBx.out _ _ _ w2 t2
                have HF := HFin.out _ _ _ w2 t2 1 q ⟨#[]⟩ 0
                clear hkc t2 hkc0
                go_wp2_with fail
                refine bodyPost_ret (HF _ rfl rfl).1 rfl ⟨by rw [HX.out], (HF #[undef, undef, .pointer (some ⟨w.heap.size, 0, none⟩), .int .i64 0] rfl rfl).2⟩
          · have q4 : ¬ (S.size : Int) = 9 := by omega
            by_cases h1 : m.toNat = 1 ∧ r = []
            · have HX : Hid (unk S = (⟨0, 0, ⟨#[]⟩⟩, 0)) := by
                show _ = _
                rw [HU.out, if_pos h1]
              have hkc := HZ1.out h1 ((w.alloc (.cells #[.int .i64 0, .int .i64 0, .string ⟨#[]⟩] 23)).alloc (.cells #[.int .i64 0, .int .i64 0, .string ⟨#[]⟩] 23))
              clear h1
              go_enter Tryd.func14, Tryd.ntmps14
              go_wp2_with fail
            
              refine hkc.mono ?_
              rintro x w2 ⟨rfl, t2⟩
              obtain ⟨⟨⟨c0, c1, c2⟩, c3, c4, c5⟩, f0, f1, f2⟩ := HBx.out _ _ _ w2 t2
              have HF := HFin.out _ _ _ w2 t2 0 0 ⟨#[]⟩ 0
              clear hkc t2
              go_wp2_with fail
              refine bodyPost_ret (HF _ rfl rfl).1 rfl ⟨by rw [HX.out], (HF #[undef, undef, .pointer (some ⟨w.heap.size, 0, none⟩), .int .i64 0] rfl rfl).2⟩
            · have HX : Hid (unk S = (⟨0, 0, ⟨#[]⟩⟩, 43)) := by
                show _ = _
                rw [HU.out, if_neg h1, if_neg (by omega), if_neg (by omega), if_neg (by omega), if_neg (by omega)]
              obtain ⟨K, hK, hkc0⟩ := HZ2.out h1
              have hkc := hkc0 ((w.alloc (.cells #[.int .i64 0, .int .i64 0, .string ⟨#[]⟩] 23)).alloc (.cells #[.int .i64 0, .int .i64 0, .string ⟨#[]⟩] 23))
              clear h1 hkc0
              go_enter Tryd.func14, Tryd.ntmps14
              go_wp2_with fail
            
              refine hkc.mono ?_
              rintro x w2 ⟨rfl, t2⟩
              obtain ⟨⟨⟨c0, c1, c2⟩, c3, c4, c5⟩, f0, f1, f2⟩ := HBx.out _ _ _ w2 t2
              have HF := HFin.out _ _ _ w2 t2 0 0 ⟨#[]⟩ 43
              clear hkc t2
              go_wp2_with fail
              refine bodyPost_ret (HF _ rfl rfl).1 rfl ⟨by rw [HX.out], (HF #[undef, undef, .pointer (some ⟨w.heap.size, 0, none⟩), .int .i64 43] rfl rfl).2⟩
            
        · have q3 : ¬ (m.toNat : Int) = 3 := by omega
          by_cases n4 : m.toNat = 4
          · have q4 : (m.toNat : Int) = 4 := by omega
            obtain ⟨R, hR⟩ : ∃ R, R = S.extract 1 S.size := ⟨_, rfl⟩
            have hRr : R.data.toList = r := by
              rw [hR, ByteArray.data_extract, Array.toList_extract, HM.out]
              simp [hrl]
            have hRz : R.size = r.length := by rw [← hRr]; simp
            have hs1 : (1 : Int) ≤ S.size := by omega
            by_cases r2 : r.length ≤ 200
            · have HX : Hid (unk S = (⟨2, 0, R⟩, 0)) := by
                show _ = _
                rw [HU.out, if_neg (by omega), if_neg (by omega), if_neg (by omega), if_pos ⟨n4, r2⟩, toArr hRr]
              have q5 : ¬ (200 : Int) < R.size := by omega
              have hkc0 : ∀ W, Calls Tryd.prog 12 #[vA 2 0 R] W fun x w' => x = .returned (.tuple #[.string S, .int .i64 0]) ∧ Tch (fun _ => False) W w' := fun W => by
                have h1 := rkey_any 2 0 R W ⟨by simp, by simp⟩
                have hf : frm ⟨2, 0, R⟩ := Or.inr (Or.inr (Or.inl ⟨rfl, rfl⟩))
                have h2 : keyP ⟨2, 0, R⟩ = (key ⟨2, 0, R⟩, 0) := key_str (by unfold wrg; rw [if_pos hf, if_pos (by show R.size ≤ 200; omega)])
                have h3 : (⟨(key ⟨2, 0, R⟩).toArray⟩ : ByteArray) = S := toArr (by
                  rw [HM.out]
                  have : m = 4 := by apply UInt8.toNat.inj; rw [n4]; rfl
                  simp [key, this, hRr])
                rw [h2] at h1
                simp only [h3] at h1
                exact h1
              have hkc := hkc0 ((w.alloc (.cells #[.int .i64 0, .int .i64 0, .string ⟨#[]⟩] 23)).alloc (.cells #[.int .i64 2, .int .i64 0, .string R] 23))
              have q6 : ¬ (200 : Int) < ((S.size - 1 : Nat) : Int) := by omega
              have q7 : ¬ (200 : Int) < (S.size : Int) - 1 := by omega
              rw [hR] at q5 hkc HX
              clear hkc0 hRr hRz r2 hrl hR
              go_enter Tryd.func14, Tryd.ntmps14
              go_wp2_with fail
              refine hkc.mono ?_
              rintro x w2 ⟨rfl, t2⟩
              obtain ⟨⟨⟨c0, c1, c2⟩, c3, c4, c5⟩, f0, f1, f2⟩ := HBx.out _ _ _ w2 t2
              have HF := HFin.out _ _ _ w2 t2 2 0 (S.extract 1 S.size) 0
              clear hkc t2
              go_wp2_with fail
              refine bodyPost_ret (HF _ rfl rfl).1 rfl ⟨by rw [HX.out], (HF #[undef, undef, .pointer (some ⟨w.heap.size, 0, none⟩), .int .i64 0] rfl rfl).2⟩
            · have HX : Hid (unk S = (⟨0, 0, ⟨#[]⟩⟩, 42)) := by
                show _ = _
                rw [HU.out, if_neg (by omega), if_neg (by omega), if_neg (by omega), if_neg (fun h => r2 h.2), if_pos n4]
              have q5 : (200 : Int) < R.size := by omega
              have q6 : (200 : Int) < ((S.size - 1 : Nat) : Int) := by omega
              have q7 : (200 : Int) < (S.size : Int) - 1 := by omega
              rw [hR] at q5
              clear hRr hRz r2 hrl hR
              go_enter Tryd.func14, Tryd.ntmps14
              go_wp2_with fail
              obtain ⟨⟨d0, d1, d2⟩, -⟩ := box_tch2 (Tch.refl (fun _ => False) ((w.alloc (.cells #[.int .i64 0, .int .i64 0, .string ⟨#[]⟩] 23)).alloc (.cells #[.int .i64 2, .int .i64 0, .string (S.extract 1 S.size)] 23)))
              refine bodyPost_ret (runkey_res _ _ w.heap.size 0 0 ⟨#[]⟩ 42 d0 d1 d2 rfl rfl) rfl ⟨by rw [HX.out], (Tch.alloc _ _ _).allocR _⟩
          · have q4 : ¬ (m.toNat : Int) = 4 := by omega
            by_cases h1 : m.toNat = 1 ∧ r = []
            · have HX : Hid (unk S = (⟨0, 0, ⟨#[]⟩⟩, 0)) := by
                show _ = _
                rw [HU.out, if_pos h1]
              have hkc := HZ1.out h1 ((w.alloc (.cells #[.int .i64 0, .int .i64 0, .string ⟨#[]⟩] 23)).alloc (.cells #[.int .i64 0, .int .i64 0, .string ⟨#[]⟩] 23))
              clear h1
              go_enter Tryd.func14, Tryd.ntmps14
              go_wp2_with fail
            
              refine hkc.mono ?_
              rintro x w2 ⟨rfl, t2⟩
              obtain ⟨⟨⟨c0, c1, c2⟩, c3, c4, c5⟩, f0, f1, f2⟩ := HBx.out _ _ _ w2 t2
              have HF := HFin.out _ _ _ w2 t2 0 0 ⟨#[]⟩ 0
              clear hkc t2
              go_wp2_with fail
              refine bodyPost_ret (HF _ rfl rfl).1 rfl ⟨by rw [HX.out], (HF #[undef, undef, .pointer (some ⟨w.heap.size, 0, none⟩), .int .i64 0] rfl rfl).2⟩
            · have HX : Hid (unk S = (⟨0, 0, ⟨#[]⟩⟩, 43)) := by
                show _ = _
                rw [HU.out, if_neg h1, if_neg (by omega), if_neg (by omega), if_neg (by omega), if_neg (by omega)]
              obtain ⟨K, hK, hkc0⟩ := HZ2.out h1
              have hkc := hkc0 ((w.alloc (.cells #[.int .i64 0, .int .i64 0, .string ⟨#[]⟩] 23)).alloc (.cells #[.int .i64 0, .int .i64 0, .string ⟨#[]⟩] 23))
              clear h1 hkc0
              go_enter Tryd.func14, Tryd.ntmps14
              go_wp2_with fail
            
              refine hkc.mono ?_
              rintro x w2 ⟨rfl, t2⟩
              obtain ⟨⟨⟨c0, c1, c2⟩, c3, c4, c5⟩, f0, f1, f2⟩ := HBx.out _ _ _ w2 t2
              have HF := HFin.out _ _ _ w2 t2 0 0 ⟨#[]⟩ 43
              clear hkc t2
              go_wp2_with fail
              refine bodyPost_ret (HF _ rfl rfl).1 rfl ⟨by rw [HX.out], (HF #[undef, undef, .pointer (some ⟨w.heap.size, 0, none⟩), .int .i64 43] rfl rfl).2⟩
            
end Go.Proofs.YtnjbkkccofjmgaaDoor
