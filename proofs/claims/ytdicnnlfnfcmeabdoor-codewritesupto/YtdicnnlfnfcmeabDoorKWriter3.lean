/- Byte, of both Writers. -/
import Derived.Test.YtdicnnlfnfcmeabDoorKWriter2
import Derived.Test.YtdicnnlfnfcmeabDoorWRef2
namespace Go.Proofs.YtdicnnlfnfcmeabDoor
open Go.RowKit Go.Sort

set_option maxHeartbeats 1000000 in
set_option maxRecDepth 100000 in
theorem kbyte_any (b : Nat) (bs : List UInt8) (e : Int) (l : List Int) (g cap : Nat) (w : World) (h : WS w b bs e) (hlen : bs.length + l.length ≤ 140737488355328) (hgb : g ≠ b) (hgr : rowOf w b ≠ some g)
    (hcells : ∀ j (hj : j < l.length), w.cell? ⟨g, j, none⟩ = some (.int .i64 l[j])) :
    Calls Tryd.prog 16 #[.pointer (some ⟨b, 0, none⟩), .slice (some ⟨g, 0, none⟩) l.length cap] w fun x w' => x = .returned (.tuple #[]) ∧ WS w' b (upd bs e (bytesL l) (bytesC l)).1 (upd bs e (bytesL l) (bytesC l)).2 ∧ WK b w w' := by
  have HG : Hid (∀ W, WK b w W → ∀ j (hj : j < l.length), W.cell? ⟨g, j, none⟩ = some (.int .i64 l[j])) := fun W t j hj => (t.tch.cell (p := ⟨g, j, none⟩) (cell_lt (hcells j hj)) (by rintro (h1 | h1); exact hgb h1; exact hgr h1)).trans (hcells j hj)
  clear hcells hgb hgr
  go_enter Tryd.func16, Tryd.ntmps16
  go_wp2
  go_loopw [8] (fun i wr => ∃ k : Nat, i = .int .i64 k ∧ k ≤ l.length ∧ Hid ((l.take k).all byteOk = true) ∧ WS wr b (laidOn bs (bytesL (l.take k)) e) e ∧ WK b w wr) (fun i _ => l.length - (intOf i).toNat)
  case atStart => exact ⟨0, rfl, Nat.zero_le _, rfl, by simp only [List.take_zero, bytesL, List.map_nil, laidOn_nil]; exact h, WK.refl _ _⟩
  case round =>
    obtain ⟨k, rfl, hk, HA, hW, hT⟩ := hrel
    have hlt := hW.lt
    by_cases hkl : k < l.length
    · have hkl' : (k : Int) < l.length := by omega
      have hc := HG.out wr hT k hkl
      obtain ⟨x, hx⟩ : ∃ x, x = l[k] := ⟨_, rfl⟩
      rw [← hx] at hc
      have HX : Hid (x = l[k]) := hx
      clear hx
      by_cases hb : byteOk x = true
      · have hb' : 0 ≤ x ∧ x ≤ 255 := by simpa [byteOk] using hb
        obtain ⟨hb0, hb1⟩ := hb'
        clear hb
        have HT1 : Hid (((UInt8.ofNat x.toNat).toNat : Int) = x) := by show _ = _; simp; omega
        have hle := laidOn_len bs (bytesL (l.take k)) e
        have hbl : (bytesL (l.take k)).length = k := by simp [bytesL]; omega
        have HTK : Hid (l.take (k + 1) = l.take k ++ [x]) := by show _ = _; rw [List.take_succ_eq_append_getElem hkl, HX.out]
        have HC : Hid (laidOn (laidOn bs (bytesL (l.take k)) e) [UInt8.ofNat x.toNat] e = laidOn bs (bytesL (l.take (k + 1))) e) := by
          show _ = _
          rw [laidOn_cat, HTK.out]; simp [bytesL]
        have HA2 : Hid ((l.take (k + 1)).all byteOk = true) := by
          show _ = _
          rw [HTK.out, List.all_append, HA.out]; simp [byteOk]; omega
        have HX2 : Hid (∀ W : World, WS W b (laidOn bs (bytesL (l.take k)) e) e → ∀ g, W.cell? ⟨g, 0, none⟩ = some (.int .u8 x) → Calls Tryd.prog 42 #[.pointer (some ⟨b, 0, none⟩), .slice (some ⟨g, 0, none⟩) 1 1] W fun x w' => x = .returned (.tuple #[]) ∧ WS w' b (laidOn bs (bytesL (l.take (k + 1))) e) e ∧ WK b W w') := fun W hW g hg => by
          have := klay_any b (laidOn bs (bytesL (l.take k)) e) [UInt8.ofNat x.toNat] e ⟨g, 0, none⟩ 1 1 W hW rfl (one_cell (by rw [HT1.out]; exact hg)) (by simp; omega)
          rw [HC.out] at this; exact this
        clear hle hbl
        go_wp2_with (go_at_call 42; refine (HX2.out _ (hW.tch (Tch.alloc (fun _ => False) _ _) (fun _ _ _ h => h)) _ ?_).mono ?_; simp; rintro x w1 ⟨rfl, h1, t1⟩)
        go_roundw
        case rel => exact ⟨k + 1, by go_num, by omega, HA2, h1, wk_trans hT (wk_alloc hlt t1)⟩
        case measure => simp [intOf]; omega
      · have HC : Hid (bytesC l = 10) := by
          show _ = _
          unfold bytesC
          rw [if_neg]
          intro hall
          rw [List.all_eq_true] at hall
          exact hb (hall x (by rw [HX.out]; exact List.getElem_mem hkl))
        have HF : Hid ((failB (laidOn bs (bytesL (l.take k)) e) e, failE e 10) = upd bs e (bytesL l) (bytesC l)) := by
          show _ = _
          rw [HC.out, upd_fail _ _ _ _ (by omega)]
          unfold failB laidOn
          by_cases he : e = 0 <;> simp [he]
        have hf := kfail_any b (laidOn bs (bytesL (l.take k)) e) e 10 wr hW (by omega)
        have hb' : ¬ (0 ≤ x ∧ x ≤ 255) := by simpa [byteOk] using hb
        clear hb
        by_cases hx0 : x < 0
        · go_wp2_with (go_at_call 41; refine hf.mono ?_; rintro x w1 ⟨rfl, h1, t1⟩)
          refine bodyPost_ret (results_none rfl _ _ _) rfl ?_
          rw [← HF.out]
          exact ⟨rfl, h1, wk_trans hT t1⟩
        · have hx1 : 255 < x := by omega
          go_wp2_with (go_at_call 41; refine hf.mono ?_; rintro x w1 ⟨rfl, h1, t1⟩)
          refine bodyPost_ret (results_none rfl _ _ _) rfl ?_
          rw [← HF.out]
          exact ⟨rfl, h1, wk_trans hT t1⟩
    · have hkl' : ¬ (k : Int) < l.length := by omega
      have HU : Hid (upd bs e (bytesL l) (bytesC l) = (laidOn bs (bytesL (l.take k)) e, e)) := by
        show _ = _
        have hk2 : l.take k = l := List.take_of_length_le (by omega)
        have h1 := HA.out
        rw [hk2] at h1 ⊢
        unfold bytesC; rw [if_pos h1]; exact upd_lay _ _ _
      go_wp2
      go_end0
      rw [HU.out]
      exact ⟨rfl, hW, hT⟩
/-- No numbers. -/
theorem kbyte_nil (b : Nat) (w : World) :
    Calls Tryd.prog 16 #[.pointer (some ⟨b, 0, none⟩), .slice none 0 0] w fun x w' => x = .returned (.tuple #[]) ∧ w' = w := by
  go_enter Tryd.func16, Tryd.ntmps16
  go_wp2
  go_loopw [8] (fun i wr => i = .int .i64 0 ∧ wr = w) (fun _ _ => 0)
  case atStart => exact ⟨rfl, rfl⟩
  case round =>
    obtain ⟨rfl, rfl⟩ := hrel
    go_wp2
    go_end0
    exact ⟨rfl, rfl⟩
theorem xwbyte_nil (b : Nat) (w : World) :
    Calls Tryd.prog 25 #[.pointer (some ⟨b, 0, none⟩), .slice none 0 0] w fun x w' => x = .returned (.tuple #[]) ∧ w' = w := by
  go_enter Tryd.func25, Tryd.ntmps25
  go_wp2
  go_loopw [4] (fun i wr => i = .int .i64 0 ∧ wr = w) (fun _ _ => 0)
  case atStart => exact ⟨rfl, rfl⟩
  case round =>
    obtain ⟨rfl, rfl⟩ := hrel
    go_wp2
    go_loopw [5] (fun i wr' => i = .int .i64 0 ∧ wr' = wr) (fun _ _ => 0)
    case atStart => exact ⟨rfl, rfl⟩
    case round =>
      obtain ⟨rfl, rfl⟩ := hrel
      go_wp2
      go_end0
      exact ⟨rfl, rfl⟩

set_option maxHeartbeats 1000000 in
set_option maxRecDepth 100000 in
theorem xwbyte_any (b : Nat) (s : ByteArray) (e : Int) (l : List Int) (ad : Addr) (g o c : Nat) (w : World) (h : XW w b s e) (had : l ≠ [] → ad = ⟨g, o, none⟩) (hgb : l ≠ [] → g ≠ b) (hlen : s.size + l.length ≤ 140737488355328)
    (hcells : ∀ j (hj : j < l.length), w.cell? ⟨g, o + j, none⟩ = some (.int .i64 l[j])) :
    Calls Tryd.prog 25 #[.pointer (some ⟨b, 0, none⟩), .slice (some ad) l.length c] w fun x w' => x = .returned (.tuple #[]) ∧ XW w' b (xs s (bytesL l) (bytesC l)) (failE e (bytesC l)) ∧ Tch (fun i => i = b) w w' := by
  have HG : Hid (∀ W, Tch (fun i => i = b) w W → ∀ j (hj : j < l.length), W.cell? ⟨g, o + j, none⟩ = some (.int .i64 l[j])) := fun W t j hj => (t.cell (p := ⟨g, o + j, none⟩) (cell_lt (hcells j hj)) (hgb (by rintro rfl; simp at hj))).trans (hcells j hj)
  have HD : Hid (l ≠ [] → ad = ⟨g, o, none⟩) := had
  clear hcells hgb had
  have HW : Hid (XW w b s e) := h
  clear h
  go_enter Tryd.func25, Tryd.ntmps25
  go_wp2
  go_loopw [4] (fun i wr => ∃ k : Nat, i = .int .i64 k ∧ k ≤ l.length ∧ Hid ((l.take k).all byteOk = true) ∧ w = wr) (fun i _ => l.length - (intOf i).toNat)
  case atStart => exact ⟨0, rfl, Nat.zero_le _, rfl, rfl⟩
  case round =>
    obtain ⟨k, rfl, hk, HA, rfl⟩ := hrel
    by_cases hkl : k < l.length
    · have hkl' : (k : Int) < l.length := by omega
      have hda := HD.out (by rintro rfl; simp at hkl)
      clear HD
      subst hda
      have hc := HG.out w (Tch.refl _ _) k hkl
      obtain ⟨x, hx⟩ : ∃ x, x = l[k] := ⟨_, rfl⟩
      rw [← hx] at hc
      have HX : Hid (x = l[k]) := hx
      clear hx
      by_cases hb : byteOk x = true
      · have hb' : 0 ≤ x ∧ x ≤ 255 := by simpa [byteOk] using hb
        obtain ⟨hb0, hb1⟩ := hb'
        clear hb
        have HTK : Hid (l.take (k + 1) = l.take k ++ [x]) := by show _ = _; rw [List.take_succ_eq_append_getElem hkl, HX.out]
        have HA2 : Hid ((l.take (k + 1)).all byteOk = true) := by
          show _ = _
          rw [HTK.out, List.all_append, HA.out]; simp [byteOk]; omega
        go_wp2
        go_roundw
        case rel => exact ⟨k + 1, by go_num, by omega, HA2, by first | rfl | trivial⟩
        case measure => simp [intOf]; omega
      · have HC : Hid (bytesC l = 10) := by
          show _ = _
          unfold bytesC
          rw [if_neg]
          intro hall
          rw [List.all_eq_true] at hall
          exact hb (hall x (by rw [HX.out]; exact List.getElem_mem hkl))
        have hf := xwwrong_any b s e 10 w HW.out
        have hb' : ¬ (0 ≤ x ∧ x ≤ 255) := by simpa [byteOk] using hb
        clear hb
        by_cases hx0 : x < 0
        · go_wp2_with (go_at_call 51; refine hf.mono ?_; rintro x w1 ⟨rfl, h1, t1⟩)
          refine bodyPost_ret (results_none rfl _ _ _) rfl ?_
          rw [HC.out, xs_bad _ _ (by omega)]
          exact ⟨rfl, h1, t1⟩
        · have hx1 : 255 < x := by omega
          go_wp2_with (go_at_call 51; refine hf.mono ?_; rintro x w1 ⟨rfl, h1, t1⟩)
          refine bodyPost_ret (results_none rfl _ _ _) rfl ?_
          rw [HC.out, xs_bad _ _ (by omega)]
          exact ⟨rfl, h1, t1⟩
    · have hkl' : ¬ (k : Int) < l.length := by omega
      have HA3 : Hid (l.all byteOk = true) := by
        have h1 := HA.out
        rwa [List.take_of_length_le (by omega)] at h1
      have HC : Hid (bytesC l = 0) := by show _ = _; unfold bytesC; rw [if_pos HA3.out]
      have HF : Hid (xs s (bytesL l) (bytesC l) = s ++ ⟨(bytesL l).toArray⟩ ∧ failE e (bytesC l) = e) := by
        refine ⟨?_, ?_⟩
        · rw [HC.out, xs_ok]
        · rw [HC.out, failE_zero]
      clear hk HA HC
      go_wp2
      go_loopw [5] (fun i wr' => ∃ k : Nat, i = .int .i64 k ∧ k ≤ l.length ∧ Hid (XW wr' b (s ++ ⟨(bytesL (l.take k)).toArray⟩) e) ∧ Tch (fun i => i = b) w wr') (fun i _ => l.length - (intOf i).toNat)
      case atStart =>
        refine ⟨0, rfl, Nat.zero_le _, ?_, Tch.refl _ _⟩
        have e0 : s ++ (⟨(bytesL (l.take 0)).toArray⟩ : ByteArray) = s := by apply ByteArray.ext; simp [bytesL]
        show XW _ _ _ _
        rw [e0]; exact HW.out
      case round =>
        obtain ⟨k, rfl, hk, HX, hT⟩ := hrel
        obtain ⟨P, hP⟩ : ∃ P : ByteArray, P = s ++ ⟨(bytesL (l.take k)).toArray⟩ := ⟨_, rfl⟩
        have hps : P.size ≤ s.size + l.length := by rw [hP, ByteArray.size_append, size_list (bytesL (l.take k)), show (bytesL (l.take k)).length = min k l.length by simp [bytesL]]; omega
        rw [← hP] at HX
        by_cases hkl2 : k < l.length
        · have hkl' : (k : Int) < l.length := by omega
          have hda := HD.out (by rintro rfl; simp at hkl2)
          clear HD
          subst hda
          have hc := HG.out wr hT k hkl2
          obtain ⟨x, hx⟩ : ∃ x, x = l[k] := ⟨_, rfl⟩
          rw [← hx] at hc
          have hb : byteOk x = true := List.all_eq_true.1 HA3.out x (by rw [hx]; exact List.getElem_mem hkl2)
          have hb' : 0 ≤ x ∧ x ≤ 255 := by simpa [byteOk] using hb
          have HTK : Hid (P ++ ⟨#[UInt8.ofNat x.toNat]⟩ = s ++ ⟨(bytesL (l.take (k + 1))).toArray⟩) := by
            show _ = _
            rw [hP, ByteArray.append_assoc]
            congr 1
            rw [List.take_succ_eq_append_getElem hkl2, ← hx]
            apply ByteArray.ext
            simp [bytesL]
          have ho := fun (W : World) => xone_any x.toNat W (by omega)
          obtain ⟨B, hB⟩ : ∃ B : ByteArray, B = ⟨#[UInt8.ofNat x.toNat]⟩ := ⟨_, rfl⟩
          have hbs : B.size = 1 := by rw [hB]; rfl
          rw [← hB] at HTK ho
          rw [show ((x.toNat : Nat) : Int) = x by omega] at ho
          clear hB hP hx hb hb'
          have n1 : ¬ 9223372036854775807 < P.size + B.size := by omega
          have k0 := cell_regrown HX.out.c0
          have kc := cell_regrown hc
          have cO : ∀ d os, Calls Tryd.prog 52 #[.int .i64 x] (grow (redrawn wr d) os) fun e w'' => e = .returned (.string B) ∧ ∃ p : Regrown, w'' = grow (redrawn wr p.d) p.os := fun d os => Calls.tch_regrown_of (ho _)
          have HX2 : Hid (∀ p : Regrown, XW (grow (redrawn wr p.d) p.os) b P e) := fun p => HX.out.tch (tch_regrown wr p) (fun h => h)
          have hl63 : l.length ≤ 140737488355328 := by omega
          clear ho hbs hps hlen hc
          go_wp2
          refine wp_region_below_tail 13 (by kernel_rfl) (by kernel_rfl) ?_
          simp only [List.take_succ_cons, List.take_zero, List.drop_succ_cons, List.drop_zero]
          repeat (quiet_step ((go_at_call 52; exact cO _ _)))
          refine wpQuiet_nil ?_
          rintro w1 ⟨p, rfl⟩
          have hX1 := HX2.out p
          have T1 := tch_regrown wr p
          obtain ⟨W, hW⟩ : ∃ W, W = grow (redrawn wr p.d) p.os := ⟨_, rfl⟩
          rw [← hW] at hX1 T1 ⊢
          clear hW cO HX2 k0 kc
          have d0 := hX1.c0; have g0 := hX1.f0
          go_wp2
          go_roundw
          case rel =>
            refine ⟨k + 1, by go_num, by omega, ?_, hT.trans' (hX1.stored T1 _).2⟩
            show XW _ _ _ _
            rw [← HTK.out]
            exact (hX1.stored T1 _).1
          case measure => simp [intOf]; omega
        · have hkl' : ¬ (k : Int) < l.length := by omega
          have HP : Hid (P = s ++ ⟨(bytesL l).toArray⟩) := by show _ = _; rw [hP, List.take_of_length_le (by omega)]
          clear hP
          go_wp2
          go_end0
          rw [HF.out.1, HF.out.2, ← HP.out]
          exact ⟨rfl, HX.out, hT⟩
end Go.Proofs.YtdicnnlfnfcmeabDoor
