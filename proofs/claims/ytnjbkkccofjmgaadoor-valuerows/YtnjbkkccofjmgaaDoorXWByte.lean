/- The document's Writer: Byte; its Reader made. -/
import Derived.Test.YtnjbkkccofjmgaaDoorWRef2
import Derived.Test.YtnjbkkccofjmgaaDoorXRead2
import Derived.Test.YtnjbkkccofjmgaaDoorVEnc
namespace Go.Proofs.YtnjbkkccofjmgaaDoor
open Go.RowKit Go.Sort

set_option maxHeartbeats 1000000 in
set_option maxRecDepth 100000 in
theorem xwbyte_any (b : Nat) (s : ByteArray) (e : Int) (l : List Int) (ad : Addr) (g o c : Nat) (w : World) (h : XW w b s e) (had : l ≠ [] → ad = ⟨g, o, none⟩) (hgb : l ≠ [] → g ≠ b) (hlen : s.size + l.length ≤ 140737488355328)
    (hcells : ∀ j (hj : j < l.length), w.cell? ⟨g, o + j, none⟩ = some (.int .i64 l[j])) :
    Calls Tryd.prog 43 #[.pointer (some ⟨b, 0, none⟩), .slice (some ad) l.length c] w fun x w' => x = .returned (.tuple #[]) ∧ XW w' b (xs s (bytesL l) (bytesC l)) (failE e (bytesC l)) ∧ Tch (fun i => i = b) w w' := by
  have HG : Hid (∀ W, Tch (fun i => i = b) w W → ∀ j (hj : j < l.length), W.cell? ⟨g, o + j, none⟩ = some (.int .i64 l[j])) := fun W t j hj => (t.cell (p := ⟨g, o + j, none⟩) (cell_lt (hcells j hj)) (hgb (by rintro rfl; simp at hj))).trans (hcells j hj)
  have HD : Hid (l ≠ [] → ad = ⟨g, o, none⟩) := had
  clear hcells hgb had
  have HW : Hid (XW w b s e) := h
  clear h
  go_enter Tryd.func43, Tryd.ntmps43
  go_wp2
  go_loopw [4] (fun i wr => ∃ k : Nat, i = .int .i64 k ∧ k ≤ l.length ∧ Hid ((l.take k).all byteOk = true) ∧ w = wr) (fun i _ => l.length - (intOf i).toNat)
  case atStart => exact ⟨0, rfl, Nat.zero_le _, rfl, rfl⟩
  case round =>
    obtain ⟨k, rfl, hk, HA, rfl⟩ := hrel
    by_cases hkl : k < l.length
    · have hkl' : (k : Int) < l.length := by omega
      have hda := HD.out (by rintro rfl; simp at hkl)
      clear HD
      subst hda
      have hc := HG.out w (Tch.refl _ _) k hkl
      obtain ⟨x, hx⟩ : ∃ x, x = l[k] := ⟨_, rfl⟩
      rw [← hx] at hc
      have HX : Hid (x = l[k]) := hx
      clear hx
      by_cases hb : byteOk x = true
      · have hb' : 0 ≤ x ∧ x ≤ 255 := by simpa [byteOk] using hb
        obtain ⟨hb0, hb1⟩ := hb'
        clear hb
        have HTK : Hid (l.take (k + 1) = l.take k ++ [x]) := by show _ = _; rw [List.take_succ_eq_append_getElem hkl, HX.out]
        have HA2 : Hid ((l.take (k + 1)).all byteOk = true) := by
          show _ = _
          rw [HTK.out, List.all_append, HA.out]; simp [byteOk]; omega
        go_wp2
        go_roundw
        case rel => exact ⟨k + 1, by go_num, by omega, HA2, by first | rfl | trivial⟩
        case measure => simp [intOf]; omega
      · have HC : Hid (bytesC l = 10) := by
          show _ = _
          unfold bytesC
          rw [if_neg]
          intro hall
          rw [List.all_eq_true] at hall
          exact hb (hall x (by rw [HX.out]; exact List.getElem_mem hkl))
        have hf := xwwrong_any b s e 10 w HW.out
        have hb' : ¬ (0 ≤ x ∧ x ≤ 255) := by simpa [byteOk] using hb
        clear hb
        by_cases hx0 : x < 0
        · go_wp2_with (go_at_call 68; refine hf.mono ?_; rintro x w1 ⟨rfl, h1, t1⟩)
          refine bodyPost_ret (results_none rfl _ _ _) rfl ?_
          rw [HC.out, xs_bad _ _ (by omega)]
          exact ⟨rfl, h1, t1⟩
        · have hx1 : 255 < x := by omega
          go_wp2_with (go_at_call 68; refine hf.mono ?_; rintro x w1 ⟨rfl, h1, t1⟩)
          refine bodyPost_ret (results_none rfl _ _ _) rfl ?_
          rw [HC.out, xs_bad _ _ (by omega)]
          exact ⟨rfl, h1, t1⟩
    · have hkl' : ¬ (k : Int) < l.length := by omega
      have HA3 : Hid (l.all byteOk = true) := by
        have h1 := HA.out
        rwa [List.take_of_length_le (by omega)] at h1
      have HC : Hid (bytesC l = 0) := by show _ = _; unfold bytesC; rw [if_pos HA3.out]
      have HF : Hid (xs s (bytesL l) (bytesC l) = s ++ ⟨(bytesL l).toArray⟩ ∧ failE e (bytesC l) = e) := by
        refine ⟨?_, ?_⟩
        · rw [HC.out, xs_ok]
        · rw [HC.out, failE_zero]
      clear hk HA HC
      go_wp2
      go_loopw [5] (fun i wr' => ∃ k : Nat, i = .int .i64 k ∧ k ≤ l.length ∧ Hid (XW wr' b (s ++ ⟨(bytesL (l.take k)).toArray⟩) e) ∧ Tch (fun i => i = b) w wr') (fun i _ => l.length - (intOf i).toNat)
      case atStart =>
        refine ⟨0, rfl, Nat.zero_le _, ?_, Tch.refl _ _⟩
        have e0 : s ++ (⟨(bytesL (l.take 0)).toArray⟩ : ByteArray) = s := by apply ByteArray.ext; simp [bytesL]
        show XW _ _ _ _
        rw [e0]; exact HW.out
      case round =>
        obtain ⟨k, rfl, hk, HX, hT⟩ := hrel
        obtain ⟨P, hP⟩ : ∃ P : ByteArray, P = s ++ ⟨(bytesL (l.take k)).toArray⟩ := ⟨_, rfl⟩
        have hps : P.size ≤ s.size + l.length := by rw [hP, ByteArray.size_append, size_list (bytesL (l.take k)), show (bytesL (l.take k)).length = min k l.length by simp [bytesL]]; omega
        rw [← hP] at HX
        by_cases hkl2 : k < l.length
        · have hkl' : (k : Int) < l.length := by omega
          have hda := HD.out (by rintro rfl; simp at hkl2)
          clear HD
          subst hda
          have hc := HG.out wr hT k hkl2
          obtain ⟨x, hx⟩ : ∃ x, x = l[k] := ⟨_, rfl⟩
          rw [← hx] at hc
          have hb : byteOk x = true := List.all_eq_true.1 HA3.out x (by rw [hx]; exact List.getElem_mem hkl2)
          have hb' : 0 ≤ x ∧ x ≤ 255 := by simpa [byteOk] using hb
          have HTK : Hid (P ++ ⟨#[UInt8.ofNat x.toNat]⟩ = s ++ ⟨(bytesL (l.take (k + 1))).toArray⟩) := by
            show _ = _
            rw [hP, ByteArray.append_assoc]
            congr 1
            rw [List.take_succ_eq_append_getElem hkl2, ← hx]
            apply ByteArray.ext
            simp [bytesL]
          have ho := fun (W : World) => xone_any x.toNat W (by omega)
          obtain ⟨B, hB⟩ : ∃ B : ByteArray, B = ⟨#[UInt8.ofNat x.toNat]⟩ := ⟨_, rfl⟩
          have hbs : B.size = 1 := by rw [hB]; rfl
          rw [← hB] at HTK ho
          rw [show ((x.toNat : Nat) : Int) = x by omega] at ho
          clear hB hP hx hb hb'
          have n1 : ¬ 9223372036854775807 < P.size + B.size := by omega
          have k0 := cell_regrown HX.out.c0
          have kc := cell_regrown hc
          have cO : ∀ d os, Calls Tryd.prog 69 #[.int .i64 x] (grow (redrawn wr d) os) fun e w'' => e = .returned (.string B) ∧ ∃ p : Regrown, w'' = grow (redrawn wr p.d) p.os := fun d os => Calls.tch_regrown_of (ho _)
          have HX2 : Hid (∀ p : Regrown, XW (grow (redrawn wr p.d) p.os) b P e) := fun p => HX.out.tch (tch_regrown wr p) (fun h => h)
          have hl63 : l.length ≤ 140737488355328 := by omega
          clear ho hbs hps hlen hc
          go_wp2
          refine wp_region_below_tail 13 (by kernel_rfl) (by kernel_rfl) ?_
          simp only [List.take_succ_cons, List.take_zero, List.drop_succ_cons, List.drop_zero]
          repeat (quiet_step ((go_at_call 69; exact cO _ _)))
          refine wpQuiet_nil ?_
          rintro w1 ⟨p, rfl⟩
          have hX1 := HX2.out p
          have T1 := tch_regrown wr p
          obtain ⟨W, hW⟩ : ∃ W, W = grow (redrawn wr p.d) p.os := ⟨_, rfl⟩
          rw [← hW] at hX1 T1 ⊢
          clear hW cO HX2 k0 kc
          have d0 := hX1.c0; have g0 := hX1.f0
          go_wp2
          go_roundw
          case rel =>
            refine ⟨k + 1, by go_num, by omega, ?_, hT.trans' (hX1.stored T1 _).2⟩
            show XW _ _ _ _
            rw [← HTK.out]
            exact (hX1.stored T1 _).1
          case measure => simp [intOf]; omega
        · have hkl' : ¬ (k : Int) < l.length := by omega
          have HP : Hid (P = s ++ ⟨(bytesL l).toArray⟩) := by show _ = _; rw [hP, List.take_of_length_le (by omega)]
          clear hP
          go_wp2
          go_end0
          rw [HF.out.1, HF.out.2, ← HP.out]
          exact ⟨rfl, HX.out, hT⟩

theorem xnewReader_any (s : ByteArray) (w : World) :
    Calls Tryd.prog 51 #[.string s] w fun x w' => x = .returned (.pointer (some ⟨w.heap.size, 0, none⟩)) ∧ XS w' w.heap.size s 0 0 ∧ Tch (fun _ => False) w w' ∧ w'.heap.size = w.heap.size + 1 := by
  go_enter Tryd.func51, Tryd.ntmps51
  go_wp2
  go_ret
  exact ⟨rfl, ⟨by simp, by simp, by simp, by simp, by simp, Nat.zero_le _⟩, Tch.alloc _ _ _, by simp⟩
def bsA (l : List UInt8) : ByteArray := ⟨l.toArray⟩
theorem bsA_size (l : List UInt8) : (bsA l).size = l.length := size_list l
theorem bsA_app (a b : List UInt8) : bsA a ++ bsA b = bsA (a ++ b) := app_list a b
theorem bytesL_one (n : Int) (h0 : 0 ≤ n) (h1 : n ≤ 255) : bytesL [n] = [UInt8.ofNat n.toNat] ∧ bytesC [n] = 0 := by
  have hb : byteOk n = true := by simp [byteOk]; omega
  refine ⟨by simp [bytesL], ?_⟩
  unfold bytesC; simp [hb]
theorem xwbyte1 (b : Nat) (bs : List UInt8) (n : Int) (z : Nat) (w : World) (h : XW w b (bsA bs) 0) (hz : w.heap.size = z) (h0 : 0 ≤ n) (h1 : n ≤ 255) (hlen : bs.length + 1 ≤ 140737488355328) :
    Calls Tryd.prog 43 #[.pointer (some ⟨b, 0, none⟩), .slice (some ⟨z, 0, none⟩) 1 1] (w.alloc (.cells #[.int .i64 n] 3)) fun x w' => x = .returned (.tuple #[]) ∧ XW w' b (bsA (bs ++ [UInt8.ofNat n.toNat])) 0 ∧ Tch (fun i => i = b) (w.alloc (.cells #[.int .i64 n] 3)) w' := by
  subst hz
  have hb : b < w.heap.size := cell_lt h.c0
  have := xwbyte_any b (bsA bs) 0 [n] ⟨w.heap.size, 0, none⟩ w.heap.size 0 1 _ (h.tch (Tch.alloc (fun _ => False) w (.cells #[.int .i64 n] 3)) (fun h => h)) (fun _ => rfl) (fun _ => by omega) (by rw [bsA_size]; simpa using hlen) (fun j hj => by
    obtain rfl : j = 0 := by simp at hj; omega
    simp)
  refine this.mono ?_
  rintro x w' ⟨rfl, h2, t⟩
  obtain ⟨e1, e2⟩ := bytesL_one n h0 h1
  rw [e1, e2, xs_ok, failE_zero] at h2
  refine ⟨rfl, ?_, t⟩
  rw [← bsA_app]; exact h2
theorem xwint1 (b : Nat) (bs : List UInt8) (n : Int) (w : World) (h : XW w b (bsA bs) 0) (h1 : -9223372036854775808 ≤ n) (h2 : n ≤ 9223372036854775807) (hlen : bs.length + 10 ≤ 140737488355328) :
    Calls Tryd.prog 44 #[.pointer (some ⟨b, 0, none⟩), .int .i64 n] w fun x w' => x = .returned (.tuple #[]) ∧ XW w' b (bsA (bs ++ dg (fol n))) 0 ∧ Tch (fun i => i = b) w w' := by
  refine (xwint_any b (bsA bs) 0 n w h h1 h2 (by rw [bsA_size]; exact hlen)).mono ?_
  rintro x w' ⟨rfl, h3, t⟩
  refine ⟨rfl, ?_, t⟩
  rw [← bsA_app]; exact h3
theorem xwtext1 (b : Nat) (bs : List UInt8) (s : ByteArray) (w : World) (h : XW w b (bsA bs) 0) (hs : s.size ≤ 200) (hlen : bs.length + 10 + s.size ≤ 140737488355328) :
    Calls Tryd.prog 45 #[.pointer (some ⟨b, 0, none⟩), .string s, .int .i64 200] w fun x w' => x = .returned (.tuple #[]) ∧ XW w' b (bsA (bs ++ textL s)) 0 ∧ Tch (fun i => i = b) w w' := by
  refine (xwtext_any b (bsA bs) 0 s 200 w h (by rw [bsA_size]; exact hlen)).mono ?_
  rintro x w' ⟨rfl, h3, t⟩
  have e : textC s 200 = 0 := by unfold textC; rw [if_neg (by omega), if_neg (by omega)]
  rw [e, xs_ok, failE_zero] at h3
  refine ⟨rfl, ?_, t⟩
  rw [← bsA_app]; exact h3
end Go.Proofs.YtnjbkkccofjmgaaDoor
