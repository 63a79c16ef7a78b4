import Derived.Test.YtjiblajnfnmjnaaGreatDoorKT
import Derived.Test.YtjiblajnfnmjnaaGreatDoorRV5
import Derived.Test.YtjiblajnfnmjnaaGreatDoorCTab
set_option maxHeartbeats 8000000
set_option maxRecDepth 100000
namespace Go.Proofs.YtjiblajnfnmjnaaGreatDoor.C
open Go.RowKit
theorem rxid_any (n : Int) (w : World) : Calls Tryz.prog 77 #[.int .i64 n] w fun x w' => x = .returned (.bool (decide (rtN n))) ∧ w' = w := by
  go_enter Tryz.func77, Tryz.ntmps77
  go_wp2
  all_goals (go_ret; refine ⟨vret_bool (bd ?_), rfl⟩; unfold rtN; simp; omega)
theorem rnext_any (n : Int) (w : World) : Calls Tryz.prog 79 #[.int .i64 n] w fun x w' => x = .returned (.bool (decide (rtNx n))) ∧ w' = w := by
  go_enter Tryz.func79, Tryz.ntmps79
  go_wp2
  all_goals (go_ret; refine ⟨vret_bool (bd ?_), rfl⟩; unfold rtNx; simp; omega)
theorem rfields_1 (w : World) : Calls Tryz.prog 44 #[.int .i64 1] w fun x w' => x = .returned (.string (wordC (cls 1))) ∧ w' = w := by
  go_enter Tryz.func44, Tryz.ntmps44
  go_wp2
  go_ret
  exact ⟨rfl, rfl⟩
theorem rfields_2 (w : World) : Calls Tryz.prog 44 #[.int .i64 2] w fun x w' => x = .returned (.string (wordC (cls 2))) ∧ w' = w := by
  go_enter Tryz.func44, Tryz.ntmps44
  go_wp2
  go_ret
  exact ⟨rfl, rfl⟩
theorem rfields_3 (w : World) : Calls Tryz.prog 44 #[.int .i64 3] w fun x w' => x = .returned (.string (wordC (cls 3))) ∧ w' = w := by
  go_enter Tryz.func44, Tryz.ntmps44
  go_wp2
  go_ret
  exact ⟨rfl, rfl⟩
theorem rfields_4 (w : World) : Calls Tryz.prog 44 #[.int .i64 4] w fun x w' => x = .returned (.string (wordC (cls 4))) ∧ w' = w := by
  go_enter Tryz.func44, Tryz.ntmps44
  go_wp2
  go_ret
  exact ⟨rfl, rfl⟩
theorem rfields_5 (w : World) : Calls Tryz.prog 44 #[.int .i64 5] w fun x w' => x = .returned (.string (wordC (cls 5))) ∧ w' = w := by
  go_enter Tryz.func44, Tryz.ntmps44
  go_wp2
  go_ret
  exact ⟨rfl, rfl⟩
theorem rfields_6 (w : World) : Calls Tryz.prog 44 #[.int .i64 6] w fun x w' => x = .returned (.string (wordC (cls 6))) ∧ w' = w := by
  go_enter Tryz.func44, Tryz.ntmps44
  go_wp2
  go_ret
  exact ⟨rfl, rfl⟩
theorem rfields_7 (w : World) : Calls Tryz.prog 44 #[.int .i64 7] w fun x w' => x = .returned (.string (wordC (cls 7))) ∧ w' = w := by
  go_enter Tryz.func44, Tryz.ntmps44
  go_wp2
  go_ret
  exact ⟨rfl, rfl⟩
theorem rfields_8 (w : World) : Calls Tryz.prog 44 #[.int .i64 8] w fun x w' => x = .returned (.string (wordC (cls 8))) ∧ w' = w := by
  go_enter Tryz.func44, Tryz.ntmps44
  go_wp2
  go_ret
  exact ⟨rfl, rfl⟩
theorem rfields_9 (w : World) : Calls Tryz.prog 44 #[.int .i64 9] w fun x w' => x = .returned (.string (wordC (cls 9))) ∧ w' = w := by
  go_enter Tryz.func44, Tryz.ntmps44
  go_wp2
  go_ret
  exact ⟨rfl, rfl⟩
theorem rfields_10 (w : World) : Calls Tryz.prog 44 #[.int .i64 10] w fun x w' => x = .returned (.string (wordC (cls 10))) ∧ w' = w := by
  go_enter Tryz.func44, Tryz.ntmps44
  go_wp2
  go_ret
  exact ⟨rfl, rfl⟩
theorem rfields_11 (w : World) : Calls Tryz.prog 44 #[.int .i64 11] w fun x w' => x = .returned (.string (wordC (cls 11))) ∧ w' = w := by
  go_enter Tryz.func44, Tryz.ntmps44
  go_wp2
  go_ret
  exact ⟨rfl, rfl⟩
theorem rfields_12 (w : World) : Calls Tryz.prog 44 #[.int .i64 12] w fun x w' => x = .returned (.string (wordC (cls 12))) ∧ w' = w := by
  go_enter Tryz.func44, Tryz.ntmps44
  go_wp2
  go_ret
  exact ⟨rfl, rfl⟩
theorem rfields_13 (w : World) : Calls Tryz.prog 44 #[.int .i64 13] w fun x w' => x = .returned (.string (wordC (cls 13))) ∧ w' = w := by
  go_enter Tryz.func44, Tryz.ntmps44
  go_wp2
  go_ret
  exact ⟨rfl, rfl⟩
theorem rfields_14 (w : World) : Calls Tryz.prog 44 #[.int .i64 14] w fun x w' => x = .returned (.string (wordC (cls 14))) ∧ w' = w := by
  go_enter Tryz.func44, Tryz.ntmps44
  go_wp2
  go_ret
  exact ⟨rfl, rfl⟩
theorem rfields_15 (w : World) : Calls Tryz.prog 44 #[.int .i64 15] w fun x w' => x = .returned (.string (wordC (cls 15))) ∧ w' = w := by
  go_enter Tryz.func44, Tryz.ntmps44
  go_wp2
  go_ret
  exact ⟨rfl, rfl⟩
theorem rfields_no (k : Int) (w : World) (hk : ¬ (1 ≤ k ∧ k ≤ 15)) : Calls Tryz.prog 44 #[.int .i64 k] w fun x w' => x = .returned (.string ⟨#[]⟩) ∧ w' = w := by
  have e1 : (k == 1) = false := int_ne (by omega)
  have e2 : (k == 2) = false := int_ne (by omega)
  have e3 : (k == 3) = false := int_ne (by omega)
  have e4 : (k == 4) = false := int_ne (by omega)
  have e5 : (k == 5) = false := int_ne (by omega)
  have e6 : (k == 6) = false := int_ne (by omega)
  have e7 : (k == 7) = false := int_ne (by omega)
  have e8 : (k == 8) = false := int_ne (by omega)
  have e9 : (k == 9) = false := int_ne (by omega)
  have e10 : (k == 10) = false := int_ne (by omega)
  have e11 : (k == 11) = false := int_ne (by omega)
  have e12 : (k == 12) = false := int_ne (by omega)
  have e13 : (k == 13) = false := int_ne (by omega)
  have e14 : (k == 14) = false := int_ne (by omega)
  have e15 : (k == 15) = false := int_ne (by omega)
  clear hk
  go_enter Tryz.func44, Tryz.ntmps44
  go_wp2
  go_ret
  exact ⟨rfl, rfl⟩
theorem rfields_any (k : Int) (w : World) : Calls Tryz.prog 44 #[.int .i64 k] w fun x w' => x = .returned (.string (wordC (cls k))) ∧ w' = w := by
  by_cases hk : 1 ≤ k ∧ k ≤ 15
  · have h15 : k = 1 ∨ k = 2 ∨ k = 3 ∨ k = 4 ∨ k = 5 ∨ k = 6 ∨ k = 7 ∨ k = 8 ∨ k = 9 ∨ k = 10 ∨ k = 11 ∨ k = 12 ∨ k = 13 ∨ k = 14 ∨ k = 15 := by omega
    rcases h15 with rfl | rfl | rfl | rfl | rfl | rfl | rfl | rfl | rfl | rfl | rfl | rfl | rfl | rfl | rfl
    · exact rfields_1 w
    · exact rfields_2 w
    · exact rfields_3 w
    · exact rfields_4 w
    · exact rfields_5 w
    · exact rfields_6 w
    · exact rfields_7 w
    · exact rfields_8 w
    · exact rfields_9 w
    · exact rfields_10 w
    · exact rfields_11 w
    · exact rfields_12 w
    · exact rfields_13 w
    · exact rfields_14 w
    · exact rfields_15 w
  · rw [cls_no _ hk]; exact rfields_no k w hk
theorem cv_byte (n : Nat) (hn : n < 256) (w : World) : (convert 115 9 (.slice (some ⟨w.heap.size, 0, none⟩) 1 1)).run Tryz.prog (w.alloc (.cells #[.int .u8 (n : Int)] 5)) = .ok (.string ⟨#[UInt8.ofNat n]⟩) (w.alloc (.cells #[.int .u8 (n : Int)] 5)) := by
  have := run_convert_bytes_back (P := Tryz.prog) (w.alloc (.cells #[.int .u8 (n : Int)] 5)) 115 9 5 ⟨w.heap.size, 0, none⟩ 1 [UInt8.ofNat n] Tryz.underlying115 Tryz.underlying5 Tryz.underlying9 (fun j hj => by
    have e : j = 0 := by simpa using hj
    subst e
    rw [add_plain, blk_cell (alloc_new _ _)]
    simp [Nat.mod_eq_of_lt hn])
  exact this
theorem cv_any (n : Int) (w : World) : (convert 115 9 (.slice (some ⟨w.heap.size, 0, none⟩) 1 1)).run Tryz.prog (w.alloc (.cells #[.int .u8 (n % 256)] 5)) = .ok (.string ⟨#[UInt8.ofNat (n % 256).toNat]⟩) (w.alloc (.cells #[.int .u8 (n % 256)] 5)) := by
  have := cv_byte (n % 256).toNat (by omega) w
  rw [show (((n % 256).toNat : Nat) : Int) = n % 256 by omega] at this
  exact this
theorem rnumber6 (n : Int) (h0 : 0 ≤ n) (h1 : n ≤ 255) (w : World) : Calls Tryz.prog 45 #[.int .i64 n] w fun x w' => (∃ b, x = .returned (.string b) ∧ bl b = bytesL [n]) ∧ Tch (fun _ => False) w w' := by
  have hcv := cv_any n w
  have HB : Hid (bl ⟨#[UInt8.ofNat (n % 256).toNat]⟩ = bytesL [n]) := by
    show bl _ = _
    rw [show n % 256 = n by omega]; rfl
  clear h0 h1
  go_enter Tryz.func45, Tryz.ntmps45
  go_wp2
  go_ret
  exact ⟨⟨_, rfl, HB.out⟩, Tch.alloc _ _ _⟩
theorem rdig6 (n : Int) (hn : -9223372036854775808 ≤ n ∧ n ≤ 9223372036854775807) (w : World) : Calls Tryz.prog 78 #[.int .i64 n] w fun x w' => x = .returned (.string (bB (dgI n))) ∧ Tch (fun _ => False) w w' := by
  have HCV := cv_any
  have HCV : Hid _ := HCV
  go_enter Tryz.func78, Tryz.ntmps78
  go_wp2_with fail
  go_loopw [3, 0] (fun s i wr => ∃ (S : ByteArray) (m : Int), s = .string S ∧ i = .int .i64 m ∧ S.size ≤ 9 ∧ Hid ((0 ≤ n → 0 ≤ m ∧ Dg n.toNat S m.toNat) ∧ (n < 0 → m = n ∧ S = ⟨#[]⟩)) ∧ Hid (-9223372036854775808 ≤ m ∧ m ≤ 9223372036854775807) ∧ Tch (fun _ => False) w wr) (fun _ i _ => (intOf i).toNat)
  case atStart => exact ⟨⟨#[]⟩, n, rfl, rfl, Nat.zero_le _, ⟨fun h => ⟨h, Dg.start (by omega)⟩, fun _ => ⟨rfl, rfl⟩⟩, hn, Tch.refl _ _⟩
  case round =>
    obtain ⟨S, m, rfl, rfl, hS, HD, HM, hT⟩ := hrel
    have hm := HM.out
    by_cases hlt : 127 < m
    · have h0 : 0 ≤ n := by
        refine Classical.byContradiction fun h => ?_
        have := (HD.out.2 (by omega)).1
        omega
      have hd := (HD.out.1 h0).2.more (by omega)
      have hcv := cv_byte (128 + m.toNat % 128) (by omega) wr
      rw [show ((128 + m.toNat % 128 : Nat) : Int) = 128 + m % 128 by omega] at hcv
      rw [show UInt8.ofNat (128 + m.toNat % 128) = UInt8.ofNat (m.toNat % 128 + 128) by rw [Nat.add_comm]] at hcv
      have HF : Hid (Dg n.toNat (S ++ ⟨#[UInt8.ofNat (m.toNat % 128 + 128)]⟩) (m.toNat / 128)) := hd
      obtain ⟨q, hq⟩ : ∃ q : Nat, q = m.toNat / 128 := ⟨_, rfl⟩
      have e3 : m.tdiv 128 = (q : Int) := by
        rw [hq, Int.tdiv_eq_ediv_of_nonneg (by omega)]; omega
      have e4 : IntKind.i64.wrap (m.tdiv 128) = (q : Int) := by rw [e3]; exact wrap_of (by omega) (by omega)
      have e5 : wrap64 (m.tdiv 128) = (q : Int) := by rw [e3]; unfold wrap64; omega
      rw [← hq] at HF
      obtain ⟨bb, hbb⟩ : ∃ bb, bb = UInt8.ofNat (m.toNat % 128 + 128) := ⟨_, rfl⟩
      rw [← hbb] at HF hcv
      have HQ : Hid (q = m.toNat / 128) := hq
      have H0 : Hid (0 ≤ n) := h0
      clear hd h0 hm hq e3 hbb
      go_wp2_with fail
      go_roundw
      case rel =>
        have h3 := HQ.out
        have h4 := HF.out.sz
        have hm := HM.out
        refine ⟨_, _, rfl, rfl, h4, ⟨fun _ => ⟨by omega, ?_⟩, fun h => absurd H0.out (by omega)⟩, by show _ ∧ _; omega, hT.allocR _⟩
        rw [Int.toNat_natCast]
        exact HF.out
      case measure =>
        have h3 := HQ.out
        simp only [intOf, Int.toNat_natCast]
        omega
    · have hcv := HCV.out m wr
      have HB : Hid (S ++ ⟨#[UInt8.ofNat (m % 256).toNat]⟩ = bB (dgI n)) := by
        show _ = _
        apply bB_of
        unfold dgI
        split
        · rename_i h
          obtain ⟨h1, h2⟩ := HD.out.1 h
          have := h2.done (by omega)
          rw [show (m % 256).toNat = m.toNat by omega]
          exact this
        · obtain ⟨h1, h2⟩ := HD.out.2 (by omega)
          rw [h1, h2]; rfl
      clear hm
      go_wp2_with fail
      go_ret
      exact ⟨by rw [← HB.out]; rfl, hT.allocR _⟩
theorem rtext_ok (s : ByteArray) (hs : s.size ≤ 140737488351232) (w : World) : Calls Tryz.prog 81 #[.string s] w fun x w' => x = .returned (.string (bB (textL s))) ∧ Tch (fun _ => False) w w' := by
  have q := rdig6 (s.size : Int) (by omega) w
  obtain ⟨b, hb⟩ : ∃ b, b = bB (dgI (s.size : Int)) := ⟨_, rfl⟩
  have hz : b.size ≤ 10 := by rw [hb, size_bB]; exact dgI_len _
  have HB : Hid (b ++ s = bB (textL s)) := by
    show _ = _
    apply bB_of
    rw [bl_app, hb, bl_bB, dgI_pos (by omega), textL_bl, Int.toNat_natCast]
  rw [← hb] at q
  clear hb
  go_enter Tryz.func81, Tryz.ntmps81
  go_wp2_with fail
  refine q.mono ?_
  rintro x w1 ⟨rfl, t1⟩
  clear q
  go_wp2_with fail
  go_ret
  exact ⟨by rw [← HB.out]; rfl, t1⟩
theorem rdig_ok (n : Int) (h0 : 0 ≤ n) (hn : n ≤ 9223372036854775807) (w : World) : Calls Tryz.prog 78 #[.int .i64 n] w fun x w' => x = .returned (.string (bB (dg n.toNat))) ∧ Tch (fun _ => False) w w' := by
  have := rdig6 n (by omega) w
  rw [dgI_pos h0] at this
  exact this
theorem rnum_ok (n : Int) (h0 : 0 ≤ n) (h1 : n ≤ 255) (w : World) : Calls Tryz.prog 45 #[.int .i64 n] w fun x w' => x = .returned (.string (bB (bytesL [n]))) ∧ Tch (fun _ => False) w w' :=
  (rnumber6 n h0 h1 w).mono fun _ _ ⟨⟨_, h1, h2⟩, t⟩ => ⟨by rw [h1, bB_of h2], t⟩
def hasB (wd : ByteArray) (c : Nat) : Bool := (bl wd).any (fun x => x.toNat == c)
theorem has6 (wd : ByteArray) (hw : wd.size ≤ 100) (c : Nat) (_hc : c < 256) (w : World) : Calls Tryz.prog 75 #[.string wd, .int .u8 (c : Int)] w fun x w' => x = .returned (.bool (hasB wd c)) ∧ w' = w := by
  obtain ⟨d, hd⟩ : ∃ d, d = hasB wd c := ⟨_, rfl⟩
  have HD : Hid (d = hasB wd c) := hd
  rw [← hd]
  clear hd
  go_enter Tryz.func75, Tryz.ntmps75
  go_wp2_with fail
  go_loopw [5] (fun i wr => ∃ k : Nat, i = .int .i64 k ∧ k ≤ wd.size ∧ wr = w ∧ Hid (∀ j (h : j < wd.size), j < k → wd[j].toNat ≠ c)) (fun i _ => wd.size - (intOf i).toNat)
  case atStart => exact ⟨0, rfl, by omega, rfl, fun _ _ h => by omega⟩
  case round =>
    obtain ⟨k, rfl, hk, rfl, hall⟩ := hrel
    by_cases hlt : k < wd.size
    · have hlt' : (k : Int) < wd.size := by omega
      by_cases he : wd[k].toNat = c
      · have he' : ((wd[k].toNat : Nat) : Int) = (c : Int) := by omega
        have HR : Hid (d = true) := by
          show d = true
          rw [HD.out]
          unfold hasB
          rw [List.any_eq_true]
          exact ⟨wd[k], Array.getElem_mem_toList _, by simpa using he⟩
        clear he
        go_wp2_with fail
        go_ret
        exact ⟨by rw [HR.out]; rfl, rfl⟩
      · have he' : ¬ ((wd[k].toNat : Nat) : Int) = (c : Int) := by omega
        have HN : Hid (∀ j (h : j < wd.size), j < k + 1 → wd[j].toNat ≠ c) := fun j hj hjk => by
          rcases Nat.lt_or_ge j k with h1 | h1
          · exact hall.out j hj h1
          · obtain rfl : j = k := by omega
            exact he
        clear he
        go_wp2_with fail
        go_roundw
        case rel => exact ⟨k + 1, by go_num, by omega, by first | rfl | trivial, HN⟩
        case measure => simp [intOf]; omega
    · have hlt' : ¬ (k : Int) < wd.size := by omega
      have HR : Hid (d = false) := by
        show d = false
        rw [HD.out]
        unfold hasB
        rw [List.any_eq_false]
        intro x hx
        obtain ⟨j, hj, rfl⟩ := List.getElem_of_mem hx
        rw [bl_size] at hj
        have := hall.out j hj (by omega)
        rw [show (bl wd)[j] = wd[j] from rfl]
        simpa using this
      go_wp2_with fail
      go_ret
      exact ⟨by rw [HR.out]; rfl, rfl⟩
def bareT (t : Tbl) : Prop := t.id = 0 ∧ t.ver = 0 ∧ t.nm.size = 0 ∧ t.cols.length = 0 ∧ t.key = 0
theorem bare_eq {t : Tbl} : bareT t ↔ t = tb0 := by
  constructor
  · rintro ⟨h1, h2, h3, h4, h5⟩
    obtain ⟨id, ver, nm, cols, key⟩ := t
    simp only at h1 h2 h3 h4 h5
    subst h1 h2 h5
    obtain rfl := List.length_eq_zero_iff.1 h4
    obtain rfl := emp_eq h3
    rfl
  · rintro rfl
    exact ⟨rfl, rfl, rfl, rfl, rfl⟩
theorem bare6 (t : Tbl) (ao : Option Addr) (c : Nat) (w : World) : Calls Tryz.prog 76 #[tA t.id t.ver t.nm (.slice ao t.cols.length c) t.key] w fun x w' => EqT (t = tb0) w x w' := by
  have HB : Hid (t = tb0 ↔ bareT t) := bare_eq.symm
  unfold bareT at HB
  obtain ⟨n, hn⟩ : ∃ n, n = t.cols.length := ⟨_, rfl⟩
  rw [← hn] at HB ⊢
  obtain ⟨z, hz⟩ : ∃ z, z = t.nm.size := ⟨_, rfl⟩
  rw [← hz] at HB
  clear hn
  by_cases h3 : t.nm.size = 0
  · have e3 := emp_eq h3
    rw [e3]
    have HS : Hid (z = 0) := hz.trans h3
    clear h3 e3 hz
    go_enter Tryz.func76, Tryz.ntmps76
    go_wp2
    all_goals
      go_ret
      refine ⟨_, rfl, ?_, Tch.alloc _ _ _⟩
      rw [HB.out]
      have := HS.out
      first | omega | (simp; omega) | (simp; done)
  · have h3' := nonempty_of_size (r := t.nm) (by omega)
    have HS : Hid (¬ z = 0) := fun e => h3 (hz.symm.trans e)
    clear h3 hz
    go_enter Tryz.func76, Tryz.ntmps76
    go_wp2
    all_goals
      go_ret
      refine ⟨_, rfl, ?_, Tch.alloc _ _ _⟩
      rw [HB.out]
      have := HS.out
      first | omega | (simp; omega) | (simp; done)
end Go.Proofs.YtjiblajnfnmjnaaGreatDoor.C
namespace Go.Proofs.YtjiblajnfnmjnaaGreatDoor.C
open Go.RowKit Go Go.Sort
theorem rtable_no (t : Tbl) (ao : Option Addr) (c : Nat) (w : World) (h : SL w ao (ccl t.cols)) (hn : rightE t ≠ 0) : Calls Tryz.prog 83 #[tA t.id t.ver t.nm (.slice ao t.cols.length c) t.key] w fun x w' => x = .returned (.tuple #[.string ⟨#[]⟩, .bool false]) ∧ Tch (fun _ => False) w w' := by
  have HQ : Hid (∀ W, Tch (fun _ => False) w W → Calls Tryz.prog 111 #[tA t.id t.ver t.nm (.slice ao t.cols.length c) t.key] W fun x w' => x = .returned (.int .i64 (rightE t)) ∧ Tch (fun _ => False) W w') := fun W tw => rright_any t ao c W (h.no tw)
  obtain ⟨e, he⟩ : ∃ e, e = rightE t := ⟨_, rfl⟩
  rw [← he] at HQ hn
  have hb : (e != 0) = true := by simpa using hn
  obtain ⟨n, hnn⟩ : ∃ n, n = t.cols.length := ⟨_, rfl⟩
  rw [← hnn] at HQ ⊢
  clear h he hn hnn
  go_enter Tryz.func83, Tryz.ntmps83
  go_wp2_with fail
  refine (HQ.out _ (Tch.alloc _ _ _)).mono ?_
  rintro x w1 ⟨rfl, t1⟩
  go_wp2_with fail
  go_ret2
  exact ⟨rfl, (Tch.alloc _ _ _).trans' t1⟩
theorem bl_add4 (a b c d : List UInt8) : bl (bB a ++ bB b ++ bB c ++ bB d) = a ++ (b ++ (c ++ d)) := by
  simp only [bl_app, bl_bB, List.append_assoc]
theorem rtable_ok (t : Tbl) (ao : Option Addr) (c : Nat) (w : World) (h : SL w ao (ccl t.cols)) (hr : rightE t = 0) : Calls Tryz.prog 83 #[tA t.id t.ver t.nm (.slice ao t.cols.length c) t.key] w fun x w' => x = .returned (.tuple #[.string (bB (tabL t)), .bool true]) ∧ Tch (fun _ => False) w w' := by
  have hrt := right_rt hr
  have HQ : Hid (∀ W, Tch (fun _ => False) w W → Calls Tryz.prog 111 #[tA t.id t.ver t.nm (.slice ao t.cols.length c) t.key] W fun x w' => x = .returned (.int .i64 0) ∧ Tch (fun _ => False) W w') := fun W tw => by
    have := rright_any t ao c W (h.no tw)
    rw [hr] at this
    exact this
  obtain ⟨n, hnn⟩ : ∃ n, n = t.cols.length := ⟨_, rfl⟩
  have i1 := hrt.id
  have i2 := hrt.ver
  have i3 := nm_size hrt.nm
  have i4 := hrt.len
  have i5 := hrt.key
  rw [← hnn] at i4 i5
  have HN : Hid (n = t.cols.length) := hnn
  have HRT : Hid (RT t) := hrt
  have HSL : Hid (∀ W, Tch (fun _ => False) w W → SL W ao (ccl t.cols)) := fun W tw => h.no tw
  have HD1 : Hid (∀ W, Calls Tryz.prog 78 #[.int .i64 t.id] W fun x w' => x = .returned (.string (bB (dg t.id.toNat))) ∧ Tch (fun _ => False) W w') := fun W => rdig_ok t.id (by omega) (by omega) W
  have HD2 : Hid (∀ W, Calls Tryz.prog 78 #[.int .i64 t.ver] W fun x w' => x = .returned (.string (bB (dg t.ver.toNat))) ∧ Tch (fun _ => False) W w') := fun W => rdig_ok t.ver (by omega) (by omega) W
  have HTX : Hid (∀ W, Calls Tryz.prog 81 #[.string t.nm] W fun x w' => x = .returned (.string (bB (textL t.nm))) ∧ Tch (fun _ => False) W w') := fun W => rtext_ok t.nm (by omega) W
  have HNM : Hid (∀ W, Calls Tryz.prog 45 #[.int .i64 (n : Int)] W fun x w' => x = .returned (.string (bB (bytesL [(n : Int)]))) ∧ Tch (fun _ => False) W w') := fun W => rnum_ok n (by omega) (by omega) W
  have HKY : Hid (∀ W, Calls Tryz.prog 45 #[.int .i64 t.key] W fun x w' => x = .returned (.string (bB (bytesL [t.key]))) ∧ Tch (fun _ => False) W w') := fun W => rnum_ok t.key (by omega) (by omega) W
  have HN0 : Hid (∀ b : Bool, ∀ W, Calls Tryz.prog 45 #[.int .i64 (nb b)] W fun x w' => x = .returned (.string (bB (bytesL [nb b]))) ∧ Tch (fun _ => False) W w') := fun b W => rnum_ok (nb b) (nb_rng b).1 (nb_rng b).2 W
  have HBT : Hid (bB (tabL t) = bB (dg t.id.toNat ++ (dg t.ver.toNat ++ (textL t.nm ++ (bytesL [(n : Int)] ++ (colsL t.cols ++ bytesL [t.key])))))) := by show _ = _; rw [HN.out]; rfl
  obtain ⟨D1, hD1⟩ : ∃ D1, D1 = bB (dg t.id.toNat) := ⟨_, rfl⟩
  obtain ⟨D2, hD2⟩ : ∃ D2, D2 = bB (dg t.ver.toNat) := ⟨_, rfl⟩
  obtain ⟨TX, hTX⟩ : ∃ TX, TX = bB (textL t.nm) := ⟨_, rfl⟩
  obtain ⟨NM, hNM⟩ : ∃ NM, NM = bB (bytesL [(n : Int)]) := ⟨_, rfl⟩
  obtain ⟨KY, hKY⟩ : ∃ KY, KY = bB (bytesL [t.key]) := ⟨_, rfl⟩
  obtain ⟨HEAD, hHEAD⟩ : ∃ HEAD, HEAD = dg t.id.toNat ++ (dg t.ver.toNat ++ (textL t.nm ++ bytesL [(n : Int)])) := ⟨_, rfl⟩
  have s1 : D1.size ≤ 10 := by rw [hD1, size_bB]; exact dg_len _
  have s2 : D2.size ≤ 10 := by rw [hD2, size_bB]; exact dg_len _
  have s3 : TX.size ≤ 26 := by rw [hTX, size_bB, textL_bl, List.length_append, bl_size]; have := dg_len t.nm.size; omega
  have s4 : NM.size ≤ 1 := by rw [hNM, size_bB]; exact Nat.le_refl 1
  have s5 : KY.size ≤ 1 := by rw [hKY, size_bB]; exact Nat.le_refl 1
  have HH : Hid (bl (D1 ++ D2 ++ TX ++ NM) = HEAD ∧ HEAD.length ≤ 47) := by
    have e : bl (D1 ++ D2 ++ TX ++ NM) = HEAD := by rw [hD1, hD2, hTX, hNM, hHEAD]; exact bl_add4 _ _ _ _
    refine ⟨e, ?_⟩
    rw [← e, bl_size, size_app, size_app, size_app]; omega
  have HEND : Hid (∀ S, bl S = HEAD ++ colsL t.cols → S ++ KY = bB (tabL t)) := fun S hS => by
    rw [HBT.out]
    apply bB_of
    rw [bl_app, hS, hKY, bl_bB, hHEAD]
    simp only [List.append_assoc]
  rw [← hD1] at HD1
  rw [← hD2] at HD2
  rw [← hTX] at HTX
  rw [← hNM] at HNM
  rw [← hKY] at HKY
  obtain ⟨w0, hw0⟩ : ∃ w0, w0 = w.alloc (.cells #[.int .i64 t.id, .int .i64 t.ver, .string t.nm, .slice ao n c, .int .i64 t.key] 29) := ⟨_, rfl⟩
  have T0 : Tch (fun _ => False) w w0 := by rw [hw0]; exact Tch.alloc _ _ _
  obtain ⟨N, hNn⟩ : ∃ N, N = w.heap.size := ⟨_, rfl⟩
  have HB : Hid (∀ W, Tch (fun _ => False) w0 W → W.cell? ⟨N, 0, none⟩ = some (.int .i64 t.id) ∧ W.cell? ⟨N, 1, none⟩ = some (.int .i64 t.ver) ∧ W.cell? ⟨N, 2, none⟩ = some (.string t.nm) ∧ W.cell? ⟨N, 3, none⟩ = some (.slice ao n c) ∧ W.cell? ⟨N, 4, none⟩ = some (.int .i64 t.key)) := fun W tw => by
    rw [hw0] at tw; rw [hNn]; exact box5 tw
  have HT0 : Hid (Tch (fun _ => False) w w0) := T0
  have HW0 : Hid (w0 = w.alloc (.cells #[.int .i64 t.id, .int .i64 t.ver, .string t.nm, .slice ao n c, .int .i64 t.key] 29)) := hw0
  have HNN : Hid (N = w.heap.size) := hNn
  rw [← hnn]
  rw [← hnn] at HQ
  have q := HQ.out w0 T0
  rw [hw0] at q
  clear h hr hrt i1 i2 i3 i5 hD1 hD2 hTX hNM hKY hHEAD HBT HQ hw0 T0 hNn hnn
  go_enter Tryz.func83, Tryz.ntmps83
  go_wp2_with fail
  refine q.mono ?_
  rintro x w1 ⟨rfl, t1⟩
  rw [← HW0.out] at t1
  have T1 := HT0.out.trans' t1
  have HT1 : Hid (Tch (fun _ => False) w w1) := T1
  obtain ⟨b0, b1, b2, b3, b4⟩ := HB.out w1 t1
  have HU1 : Hid (Tch (fun _ => False) w0 w1) := t1
  rw [HNN.out] at b0 b1 b2 b3 b4
  have k0 := cell_regrown b0
  have k1 := cell_regrown b1
  have k2 := cell_regrown b2
  have k3 := cell_regrown b3
  have c1 := fun (d : Nat) (os : Array Obj) => regrown_calls (w := w1) (fun W _ => HD1.out W) d os
  have c2 := fun (d : Nat) (os : Array Obj) => regrown_calls (w := w1) (fun W _ => HD2.out W) d os
  have c3 := fun (d : Nat) (os : Array Obj) => regrown_calls (w := w1) (fun W _ => HTX.out W) d os
  have c4 := fun (d : Nat) (os : Array Obj) => regrown_calls (w := w1) (fun W _ => HNM.out W) d os
  clear q t1 T1
  go_wp2_with fail
  refine wp_region_quiet_below (by kernel_rfl) (by kernel_rfl) ?_
  quiet_step (fail)
  quiet_step (fail)
  quiet_step ((go_at_call 78; exact c1 _ _))
  quiet_step (fail)
  quiet_step (fail)
  quiet_step ((go_at_call 78; exact c2 _ _))
  quiet_step ((rw [if_neg (by omega)]; exact ⟨rfl, rfl⟩))
  quiet_step (fail)
  quiet_step (fail)
  quiet_step ((go_at_call 81; exact c3 _ _))
  quiet_step ((rw [if_neg (by omega)]; exact ⟨rfl, rfl⟩))
  quiet_step (fail)
  quiet_step (fail)
  quiet_step (fail)
  quiet_step ((go_at_call 45; exact c4 _ _))
  quiet_step ((rw [if_neg (by omega)]; exact ⟨rfl, rfl⟩))
  quiet_step (fail)
  refine wpQuiet_nil ?_
  rintro w2 ⟨p, rfl⟩
  have HE : Hid (Tch (fun _ => False) w0 (grow (redrawn w1 p.d) p.os)) := HU1.out.trans' (Tch.regrown w1 p.d p.os)
  obtain ⟨W2, hW2⟩ : ∃ W2, W2 = grow (redrawn w1 p.d) p.os := ⟨_, rfl⟩
  rw [← hW2] at HE ⊢
  clear hW2 k0 k1 k2 k3 b0 b1 b2 b3 b4 c1 c2 c3 c4 HU1 HT1 s1 s2 s3 s4 HD1 HD2 HTX HNM
  obtain ⟨S0, hS0⟩ : ∃ S0, S0 = D1 ++ D2 ++ TX ++ NM := ⟨_, rfl⟩
  rw [← hS0] at HH ⊢
  clear hS0
  go_wp2_with fail
  go_loopw [5, 6] (fun s i wr => ∃ (S : ByteArray) (k : Nat), s = .string S ∧ i = .int .i64 k ∧ k ≤ n ∧ Hid (bl S = HEAD ++ colsL (t.cols.take k)) ∧ S.size ≤ 47 + 28 * k ∧ Hid (Tch (fun _ => False) w0 wr)) (fun _ i _ => n - (intOf i).toNat)
  case atStart => exact ⟨S0, 0, rfl, rfl, Nat.zero_le _, by show bl S0 = _; rw [HH.out.1]; simp [colsL], by rw [← bl_size, HH.out.1]; have := HH.out.2; omega, HE⟩
  case round =>
    obtain ⟨S, k, rfl, rfl, hk, HS, hsz, HT⟩ := hrel
    have hT := HT.out
    obtain ⟨b0, b1, b2, b3, b4⟩ := HB.out wr hT
    have hNl := cell_lt b0
    rw [HNN.out] at b0 b1 b2 b3 b4 hNl
    by_cases hlt : (k : Int) < n
    · have hkc : k < t.cols.length := by have := HN.out; omega
      obtain ⟨g, o, rfl, ha⟩ := (HSL.out wr (HT0.out.trans' hT)).col hkc
      obtain ⟨a0, a1, a2⟩ := ha.col k hkc
      obtain ⟨x, hx⟩ : ∃ x, x = t.cols[k] := ⟨_, rfl⟩
      rw [← hx] at a0 a1 a2
      have hcx := HRT.out.cols x (by rw [hx]; exact List.getElem_mem hkc)
      have hxs := nm_size hcx.1
      have hkd := kd_rng hcx.2
      have HCL : Hid (colsL (t.cols.take (k + 1)) = colsL (t.cols.take k) ++ (textL x.nm ++ (bytesL [x.k] ++ bytesL [nb x.nl]))) := by
        show _ = _
        rw [(List.take_append_getElem hkc).symm, hx]
        unfold colsL
        rw [List.flatMap_append]
        simp [colL, bytesL]
      obtain ⟨TN, hTN⟩ : ∃ TN, TN = bB (textL x.nm) := ⟨_, rfl⟩
      obtain ⟨KN, hKN⟩ : ∃ KN, KN = bB (bytesL [x.k]) := ⟨_, rfl⟩
      obtain ⟨BN, hBN⟩ : ∃ BN, BN = bB (bytesL [nb x.nl]) := ⟨_, rfl⟩
      have q3 := HN0.out x.nl
      have q1 := fun W => rtext_ok x.nm (by omega) W
      have q2 := fun W => rnum_ok x.k (by omega) (by omega) W
      rw [← hTN] at q1
      rw [← hKN] at q2
      rw [← hBN] at q3
      have z1 : TN.size ≤ 26 := by rw [hTN, size_bB, textL_bl, List.length_append, bl_size]; have := dg_len x.nm.size; omega
      have z2 : KN.size ≤ 1 := by rw [hKN, size_bB]; exact Nat.le_refl 1
      have z3 : BN.size ≤ 1 := by rw [hBN, size_bB]; exact Nat.le_refl 1
      have HST : Hid (bl (S ++ TN ++ KN ++ BN) = HEAD ++ colsL (t.cols.take (k + 1)) ∧ (S ++ TN ++ KN ++ BN).size ≤ 47 + 28 * (k + 1)) := by
        refine ⟨?_, by simp only [size_app]; omega⟩
        rw [HCL.out, bl_app, bl_app, bl_app, HS.out, hTN, hKN, hBN, bl_bB, bl_bB, bl_bB]
        simp only [List.append_assoc]
      obtain ⟨wb, hwb⟩ : ∃ wb, wb = wr.alloc (.cells #[.string x.nm, .int .i64 x.k, .bool x.nl] 43) := ⟨_, rfl⟩
      have tb : Tch (fun _ => False) wr wb := by rw [hwb]; exact Tch.alloc _ _ _
      have HTB : Hid (Tch (fun _ => False) w0 wb) := hT.trans' tb
      have g0 : wb.cell? ⟨wr.heap.size, 0, none⟩ = some (.string x.nm) := by rw [hwb]; simp
      have g1 : wb.cell? ⟨wr.heap.size, 1, none⟩ = some (.int .i64 x.k) := by rw [hwb]; simp
      have g2 : wb.cell? ⟨wr.heap.size, 2, none⟩ = some (.bool x.nl) := by rw [hwb]; simp
      have k0 := cell_regrown g0
      have k1 := cell_regrown g1
      have k2 := cell_regrown g2
      have c1 := fun (d : Nat) (os : Array Obj) => regrown_calls (w := wb) (fun W _ => q1 W) d os
      have c2 := fun (d : Nat) (os : Array Obj) => regrown_calls (w := wb) (fun W _ => q2 W) d os
      have HQ3 : Hid _ := q3
      have HWB : Hid (wb = wr.alloc (.cells #[.string x.nm, .int .i64 x.k, .bool x.nl] 43)) := hwb
      have HXN : Hid (t.cols[k] = x) := hx.symm
      clear hx ha hcx hxs hkd HCL hTN hKN hBN q1 q2 q3 hwb tb hT b0 b1 b2 b4 hNl HS
      go_wp2_with fail
      rw [← HWB.out]
      refine wp_region_quiet_below (by kernel_rfl) (by kernel_rfl) ?_
      quiet_step (fail)
      quiet_step (fail)
      quiet_step (fail)
      quiet_step ((go_at_call 81; exact c1 _ _))
      quiet_step ((rw [if_neg (by omega)]; exact ⟨rfl, rfl⟩))
      quiet_step (fail)
      quiet_step (fail)
      quiet_step ((go_at_call 45; exact c2 _ _))
      quiet_step ((rw [if_neg (by omega)]; exact ⟨rfl, rfl⟩))
      quiet_step (fail)
      refine wpQuiet_nil ?_
      rintro w3 ⟨p, rfl⟩
      have HE3 : Hid (Tch (fun _ => False) w0 (grow (redrawn wb p.d) p.os)) := HTB.out.trans' (Tch.regrown wb p.d p.os)
      have m2 := k2 p.d p.os
      obtain ⟨W3, hW3⟩ : ∃ W3, W3 = grow (redrawn wb p.d) p.os := ⟨_, rfl⟩
      rw [← hW3] at HE3 m2 ⊢
      clear hW3 k0 k1 k2 g0 g1 g2 c1 c2 a0 a1 a2 b3
      obtain ⟨bn, hbn⟩ : ∃ bn, bn = x.nl := ⟨_, rfl⟩
      rw [← hbn] at m2 HQ3
      have y1 : (S ++ TN ++ KN).size ≤ 1000 := by simp only [size_app]; omega
      clear hbn
      cases bn
      all_goals
        have q3 := HQ3.out W3
        simp only [nb] at q3
        go_wp2_with fail
        refine q3.mono ?_
        rintro x w4 ⟨rfl, t4⟩
        have HE4 : Hid (Tch (fun _ => False) w0 w4) := HE3.out.trans' t4
        clear q3 t4
        go_wp2_with fail
        go_roundw
        case rel => exact ⟨_, k + 1, rfl, by go_num, by omega, HST.out.1, HST.out.2, HE4⟩
        case measure => simp [intOf]; omega
    · have HEQ : Hid (S ++ KY = bB (tabL t)) := HEND.out S (by rw [HS.out, List.take_of_length_le]; have := HN.out; omega)
      have q5 := HKY.out wr
      clear HS b0 b1 b2 hNl
      go_wp2_with fail
      refine q5.mono ?_
      rintro x w4 ⟨rfl, t4⟩
      clear q5
      go_wp2_with fail
      go_ret2
      exact ⟨by rw [← HEQ.out]; rfl, (HT0.out.trans' hT).trans' t4⟩
end Go.Proofs.YtjiblajnfnmjnaaGreatDoor.C
namespace Go.Proofs.YtjiblajnfnmjnaaGreatDoor.C
open Go.RowKit Go Go.Sort Go.Lib
theorem told_nat (u : Nat) (hu : u ≤ 9223372036854775807) : ∀ w : World, Calls Tryz.prog 50 #[.int .i64 (u : Int)] w fun x w' => x = .returned (.string ⟨(decDigits u).toArray⟩) ∧ Tch (fun _ => False) w w' := by
  induction u using Nat.strongRecOn with
  | ind u ih =>
    intro w
    by_cases h10 : u < 10
    · have h1 : (u : Int) < 10 := by omega
      have HS : Hid ((⟨#[48, 49, 50, 51, 52, 53, 54, 55, 56, 57]⟩ : ByteArray).extract u (u + 1) = ⟨(decDigits u).toArray⟩) := dig_slice u h10
      clear ih h10
      go_enter Tryz.func50, Tryz.ntmps50
      go_wp2
      go_ret
      exact ⟨by rw [← HS.out]; rfl, Tch.refl _ _⟩
    · have q1 := fun W => ih (u / 10) (by omega) (by omega) W
      have h1 : ¬ (u : Int) < 10 := by omega
      have e1 : ((u / 10 : Nat) : Int) = (u : Int) / 10 := by omega
      obtain ⟨d, hd⟩ : ∃ d, d = u % 10 := ⟨_, rfl⟩
      have hd10 : d < 10 := by omega
      have e2 : (u : Int).tmod 10 = (d : Int) := by rw [Int.tmod_eq_emod_of_nonneg (by omega)]; omega
      have e3 : (u : Int) % 10 = (d : Int) := by omega
      obtain ⟨a, ha⟩ : ∃ a, a = decDigits (u / 10) := ⟨_, rfl⟩
      obtain ⟨b, hb⟩ : ∃ b : ByteArray, b = (⟨#[48, 49, 50, 51, 52, 53, 54, 55, 56, 57]⟩ : ByteArray).extract d (d + 1) := ⟨_, rfl⟩
      have HR : Hid ((⟨a.toArray⟩ : ByteArray) ++ b = ⟨(decDigits u).toArray⟩) := by
        show _ = _
        rw [hb, dig_slice d hd10, str_app, ha, dd_rec h10, decDigits_one hd10, hd]
      have hla : (⟨a.toArray⟩ : ByteArray).size ≤ 22 := by
        show a.toArray.size ≤ 22
        rw [List.size_toArray, ha]
        exact Nat.le_trans (dec_len _ (by omega)) (by omega)
      have hlb : b.size ≤ 22 := by rw [hb, dig_slice d hd10]; show (decDigits d).toArray.size ≤ 22; rw [List.size_toArray]; exact Nat.le_trans (dec_len _ (by omega)) (by omega)
      obtain ⟨A, hA⟩ : ∃ A : ByteArray, A = ⟨a.toArray⟩ := ⟨_, rfl⟩
      rw [← ha, e1, ← hA] at q1
      rw [← hA] at HR hla
      have c1 := fun (dd : Nat) (os : Array Obj) => regrown_calls (w := w) (fun W _ => q1 W) dd os
      have HBb : Hid _ := hb
      have hw1 : IntKind.i64.wrap ((u : Int) / 10) = (u : Int) / 10 := wrap_of (by omega) (by omega)
      have hw2 : IntKind.i64.wrap ((d : Int) + 1) = (d : Int) + 1 := wrap_of (by omega) (by omega)
      have hw3 : IntKind.i64.wrap (d : Int) = (d : Int) := wrap_of (by omega) (by omega)
      clear ih ha hd h10 e1 hA q1 hb
      go_enter Tryz.func50, Tryz.ntmps50
      go_wp2_with fail
      refine wp_region_quiet_below (by kernel_rfl) (by kernel_rfl) ?_
      quiet_step (fail)
      quiet_step (fail)
      quiet_step ((go_at_call 50; exact c1 _ _))
      quiet_step (fail)
      quiet_step (fail)
      quiet_step (fail)
      quiet_step (fail)
      quiet_step (fail)
      quiet_step ((rw [if_pos (by omega), if_pos (by omega)]; exact ⟨rfl, congrArg Value.string HBb.out.symm⟩))
      quiet_step ((rw [if_neg (by omega)]; exact ⟨rfl, rfl⟩))
      quiet_step (fail)
      refine wpQuiet_nil ?_
      rintro w1 ⟨p, rfl⟩
      have HE : Hid (Tch (fun _ => False) w (grow (redrawn w p.d) p.os)) := Tch.regrown w p.d p.os
      obtain ⟨W1, hW1⟩ : ∃ W1, W1 = grow (redrawn w p.d) p.os := ⟨_, rfl⟩
      rw [← hW1] at HE ⊢
      clear hW1 c1
      go_wp2_with fail
      go_ret
      exact ⟨by rw [← HR.out]; rfl, HE.out⟩
theorem told6 (n : Int) (h0 : 0 ≤ n) (hn : n ≤ 9223372036854775807) (w : World) : Calls Tryz.prog 50 #[.int .i64 n] w fun x w' => x = .returned (.string (itoB n)) ∧ Tch (fun _ => False) w w' := by
  have := told_nat n.toNat (by omega) w
  rw [show ((n.toNat : Nat) : Int) = n by omega] at this
  have e : itoB n = ⟨(decDigits n.toNat).toArray⟩ := by unfold itoB itoa; rw [if_neg (by omega)]
  rw [e]
  exact this
end Go.Proofs.YtjiblajnfnmjnaaGreatDoor.C
namespace Go.Proofs.YtjiblajnfnmjnaaGreatDoor.C
open Go.RowKit Go Go.Sort
theorem joinC_snoc (xs : List ByteArray) (x : ByteArray) : joinC (xs ++ [x]) = joinC xs ++ ((if xs.length = 0 then [] else [44, 32]) ++ bl x) := by
  unfold joinC
  cases xs with
  | nil => simp [Lib.join_one, Lib.join_nil, bl]
  | cons y ys =>
    rw [List.cons_append, List.map_cons, List.map_cons, Lib.join_cons, Lib.join_cons, List.map_append]
    unfold Lib.joinTail
    simp [sepC, bl]
theorem rrowOf6 (vs : List Val) (ao : Option Addr) (c : Nat) (w : World) (h : SL w ao (vcl vs)) (hi : ∀ v ∈ vs, v.i64) (hl : vs.length ≤ 8) :
    Calls Tryz.prog 52 #[.slice ao vs.length c] w fun x w' => x = .returned (.string (brk (vs.map prB))) ∧ Tch (fun _ => False) w w' := by
  obtain ⟨n, hn⟩ : ∃ n, n = vs.length := ⟨_, rfl⟩
  rw [← hn] at hl ⊢
  have HN : Hid (n = vs.length) := hn
  have HS : Hid (∀ W, Tch (fun _ => False) w W → SL W ao (vcl vs)) := fun W t => h.no t
  have HI : Hid (∀ v ∈ vs, v.i64) := hi
  have HEND : Hid (∀ S, bl S = 40 :: joinC (vs.map prB) → S ++ ⟨#[41]⟩ = brk (vs.map prB)) := fun S hS => by
    apply bl_eq
    unfold brk
    rw [bl_app, hS, bl_app, bl_app, bl_mk]
    rfl
  clear h hn hi
  go_enter Tryz.func52, Tryz.ntmps52
  go_wp2_with fail
  go_loopw [3, 4] (fun s i wr => ∃ (S : ByteArray) (k : Nat), s = .string S ∧ i = .int .i64 k ∧ k ≤ n ∧ Hid (bl S = 40 :: joinC ((vs.take k).map prB)) ∧ S.size ≤ 1 + 702 * k ∧ Hid (Tch (fun _ => False) w wr)) (fun _ i _ => n - (intOf i).toNat)
  case atStart => exact ⟨⟨#[40]⟩, 0, rfl, rfl, Nat.zero_le _, by show bl _ = _; simp [joinC, Lib.join_nil, bl], Nat.le_refl 1, Tch.refl _ _⟩
  case round =>
    obtain ⟨S, k, rfl, rfl, hk, HB, hsz, HT⟩ := hrel
    by_cases hlt : (k : Int) < n
    · have hkv : k < vs.length := by have := HN.out; omega
      obtain ⟨g, o, rfl, ha⟩ := (HS.out wr HT.out).val hkv
      obtain ⟨c0, c1, c2⟩ := ha.val k hkv
      obtain ⟨v, hv⟩ : ∃ v, v = vs[k] := ⟨_, rfl⟩
      rw [← hv] at c0 c1 c2
      have hvi := HI.out v (by rw [hv]; exact List.getElem_mem hkv)
      have hpz := prB_size v hvi.2
      have q := rprint_any v hvi.2 wr
      obtain ⟨PV, hPV⟩ : ∃ PV, PV = prB v := ⟨_, rfl⟩
      rw [← hPV] at q hpz
      have hlen : ((vs.take k).map prB).length = k := by rw [List.length_map, List.length_take]; omega
      have HJ : Hid (joinC ((vs.take (k + 1)).map prB) = joinC ((vs.take k).map prB) ++ ((if k = 0 then [] else [44, 32]) ++ bl PV)) := by
        show _ = _
        rw [(List.take_append_getElem hkv).symm, List.map_append, ← hv, List.map_cons, List.map_nil, joinC_snoc, hlen, hPV]
      clear ha hv hvi hPV hlen
      by_cases hk0 : k = 0
      · have hk0' : ¬ 0 < (k : Int) := by omega
        have HJ2 : Hid (bl (S ++ PV) = 40 :: joinC ((vs.take (k + 1)).map prB)) := by
          show bl _ = _
          rw [bl_app, HB.out, HJ.out, if_pos hk0]; rfl
        clear HJ HB hk0
        go_wp2_with fail
        refine q.mono ?_
        rintro x w1 ⟨rfl, t1⟩
        have HT1 : Hid (Tch (fun _ => False) w w1) := HT.out.trans' t1
        clear q t1 c0 c1 c2
        go_wp2_with fail
        go_roundw
        case rel => exact ⟨_, k + 1, rfl, by go_num, by omega, HJ2, by rw [size_app]; omega, HT1⟩
        case measure => simp [intOf]; omega
      · have hk0' : 0 < (k : Int) := by omega
        have HJ2 : Hid (bl (S ++ ⟨#[44, 32]⟩ ++ PV) = 40 :: joinC ((vs.take (k + 1)).map prB)) := by
          show bl _ = _
          rw [bl_app, bl_app, HB.out, HJ.out, if_neg hk0]
          simp [bl]
        have hz2 : (S ++ ⟨#[44, 32]⟩).size ≤ 6000 := by rw [size_app]; show S.size + 2 ≤ 6000; omega
        have HZ : Hid ((S ++ ⟨#[44, 32]⟩ ++ PV).size ≤ 1 + 702 * (k + 1)) := by show _ ≤ _; rw [size_app, size_app]; show S.size + 2 + PV.size ≤ _; omega
        clear HJ HB hk0
        go_wp2_with fail
        refine q.mono ?_
        rintro x w1 ⟨rfl, t1⟩
        have HT1 : Hid (Tch (fun _ => False) w w1) := HT.out.trans' t1
        clear q t1 c0 c1 c2
        go_wp2_with fail
        go_roundw
        case rel => exact ⟨_, k + 1, rfl, by go_num, by omega, HJ2, HZ.out, HT1⟩
        case measure => simp [intOf]; omega
    · have HF : Hid (S ++ ⟨#[41]⟩ = brk (vs.map prB)) := HEND.out S (by rw [HB.out, List.take_of_length_le]; have := HN.out; omega)
      clear HB
      go_wp2_with fail
      go_ret
      exact ⟨by rw [← HF.out]; rfl, HT.out⟩
end Go.Proofs.YtjiblajnfnmjnaaGreatDoor.C
