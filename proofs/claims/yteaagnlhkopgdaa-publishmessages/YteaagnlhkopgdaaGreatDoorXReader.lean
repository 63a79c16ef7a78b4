import Derived.Test.YteaagnlhkopgdaaGreatDoorPlainAgain
import Derived.Test.YteaagnlhkopgdaaGreatDoorWriter
import Derived.Deep.RegionWith
import Derived.Test.YteaagnlhkopgdaaGreatDoorOrdv
set_option maxHeartbeats 1000000
set_option maxRecDepth 100000
namespace Go.Proofs.YteaagnlhkopgdaaGreatDoor
open Go.RowKit
structure XW (w : World) (b : Nat) (s : ByteArray) (e : Int) : Prop where
  c0 : w.cell? ⟨b, 0, none⟩ = some (.string s)
  c1 : w.cell? ⟨b, 1, none⟩ = some (.int .i64 e)
  f0 : w.frozen? ⟨b, 0, none⟩ = false
  f1 : w.frozen? ⟨b, 1, none⟩ = false
theorem XW.tch {T : Nat → Prop} {w w' : World} {b : Nat} {s : ByteArray} {e : Int} (h : XW w b s e) (t : Tch T w w') (hb : ¬ T b) : XW w' b s e := by
  have hl : b < w.heap.size := cell_lt h.c0
  exact ⟨(t.cell (p := ⟨b, 0, none⟩) hl hb).trans h.c0, (t.cell (p := ⟨b, 1, none⟩) hl hb).trans h.c1, (t.frozen (p := ⟨b, 0, none⟩) hl hb).trans h.f0, (t.frozen (p := ⟨b, 1, none⟩) hl hb).trans h.f1⟩
theorem XW.set0 {w : World} {b : Nat} {s : ByteArray} {e : Int} (h : XW w b s e) (s' : ByteArray) : XW (w.setCell ⟨b, 0, none⟩ (.string s')) b s' e := by
  refine ⟨?_, ?_, by simpa using h.f0, by simpa using h.f1⟩
  · rw [World.cell?_setCell_same (h := h.c0)]
  · rw [World.cell?_setCell_other (h := by simp)]; exact h.c1
theorem XW.set1 {w : World} {b : Nat} {s : ByteArray} {e : Int} (h : XW w b s e) (c : Int) : XW (w.setCell ⟨b, 1, none⟩ (.int .i64 c)) b s c := by
  refine ⟨?_, ?_, by simpa using h.f0, by simpa using h.f1⟩
  · rw [World.cell?_setCell_other (h := by simp)]; exact h.c0
  · rw [World.cell?_setCell_same (h := h.c1)]
theorem xnewWriter_any (w : World) :
    Calls Tryz.prog 59 #[] w fun x w' => x = .returned (.pointer (some ⟨w.heap.size, 0, none⟩)) ∧ XW w' w.heap.size ⟨#[]⟩ 0 ∧ Tch (fun _ => False) w w' ∧ w'.heap.size = w.heap.size + 1 := by
  go_enter Tryz.func59, Tryz.ntmps59
  go_wp2
  go_ret
  exact ⟨rfl, ⟨by simp, by simp, by simp, by simp⟩, Tch.alloc _ _ _, by simp⟩
theorem xwwrong_any (b : Nat) (s : ByteArray) (e c : Int) (w : World) (h : XW w b s e) :
    Calls Tryz.prog 70 #[.pointer (some ⟨b, 0, none⟩), .int .i64 c] w fun x w' => x = .returned (.tuple #[]) ∧ XW w' b s (failE e c) ∧ Tch (fun i => i = b) w w' := by
  have c1 := h.c1; have f1 := h.f1
  by_cases he : e = 0
  · subst he
    have HF : Hid (failE 0 c = c) := rfl
    go_enter Tryz.func70, Tryz.ntmps70
    go_wp2
    go_end0
    rw [HF.out]
    exact ⟨rfl, h.set1 c, Tch.setCell _ _ _ _ rfl⟩
  · have hn : (e == 0) = false := by simpa using he
    have HF : Hid (failE e c = e) := by show _ = _; unfold failE; rw [if_neg he]
    have HW : Hid (XW w b s e) := h
    go_enter Tryz.func70, Tryz.ntmps70
    go_wp2
    go_end0
    rw [HF.out]
    exact ⟨rfl, HW.out, Tch.refl _ _⟩
theorem xwdone_any (b : Nat) (s : ByteArray) (e : Int) (w : World) (h : XW w b s e) :
    Calls Tryz.prog 64 #[.pointer (some ⟨b, 0, none⟩)] w fun x w' => x = .returned (.tuple #[.string (if e = 0 then s else ⟨#[]⟩), .int .i64 e]) ∧ Tch (fun _ => False) w w' := by
  have c0 := h.c0; have c1 := h.c1
  by_cases he : e = 0
  · subst he
    rw [if_pos rfl]
    go_enter Tryz.func64, Tryz.ntmps64
    go_wp2
    first | (go_ret2; exact ⟨rfl, Tch.refl _ _⟩) | (go_quiet (fail); go_wp2; go_ret2; exact ⟨rfl, (Tch.refl _ _).drewN _⟩)
  · have hn : (e != 0) = true := by simpa using he
    rw [if_neg he]
    go_enter Tryz.func64, Tryz.ntmps64
    go_wp2
    first | (go_ret2; exact ⟨rfl, Tch.refl _ _⟩) | (go_quiet (fail); go_wp2; go_ret2; exact ⟨rfl, (Tch.refl _ _).drewN _⟩)
theorem xone_any (n : Nat) (w : World) (h1 : n ≤ 255) :
    Calls Tryz.prog 71 #[.int .i64 n] w fun x w' => x = .returned (.string ⟨#[UInt8.ofNat n]⟩) ∧ Tch (fun _ => False) w w' := by
  have hb : (n : Int) ≤ 255 := by omega
  have hcv : (convert 46 9 (.slice (some ⟨w.heap.size, 0, none⟩) 1 1)).run Tryz.prog (w.alloc (.cells #[.int .u8 (n : Int)] 5)) = .ok (.string ⟨#[UInt8.ofNat n]⟩) (w.alloc (.cells #[.int .u8 (n : Int)] 5)) := by
    have := run_convert_bytes_back (P := Tryz.prog) (w.alloc (.cells #[.int .u8 (n : Int)] 5)) 46 9 5 ⟨w.heap.size, 0, none⟩ 1 [UInt8.ofNat n] Tryz.underlying46 Tryz.underlying5 Tryz.underlying9 (fun j hj => by
      rcases j with _ | j
      · have e : ((UInt8.ofNat n).toNat : Int) = n := by simp; omega
        simp only [List.getElem_cons_zero]
        rw [e]; simp [Addr.add]
      · simp at hj)
    simpa using this
  go_enter Tryz.func71, Tryz.ntmps71
  go_wp2
  go_ret
  exact ⟨rfl, Tch.alloc _ _ _⟩
theorem app_list (a b : List UInt8) : (⟨a.toArray⟩ : ByteArray) ++ ⟨b.toArray⟩ = ⟨(a ++ b).toArray⟩ := by
  apply ByteArray.ext
  simp
theorem size_list (a : List UInt8) : (⟨a.toArray⟩ : ByteArray).size = a.length := by show a.toArray.size = _; simp
theorem xdigits_any (n : Nat) (w : World) (hn : n < 18446744073709551616) :
    Calls Tryz.prog 73 #[.int .u64 n] w fun x w' => x = .returned (.string ⟨(dg n).toArray⟩) ∧ Tch (fun _ => False) w w' := by
  go_enter Tryz.func73, Tryz.ntmps73
  go_wp2
  go_loopw [0, 3] (fun v sv wr => ∃ (m f : Nat) (pre : List UInt8), v = .int .u64 m ∧ sv = .string ⟨pre.toArray⟩ ∧ (m : Int) ≤ 18446744073709551615 ∧ f < 10 ∧ m < 128 ^ (f + 1) ∧ Hid (pre.length + (f + 1) ≤ 10) ∧ Hid (pre ++ dgf (f + 1) m = dg n) ∧ Tch (fun _ => False) w wr) (fun v _ _ => (intOf v).toNat)
  case atStart => exact ⟨n, 9, [], rfl, rfl, by omega, by omega, Nat.lt_of_lt_of_le hn (by decide), by show _ ≤ _; simp, rfl, Tch.refl _ _⟩
  case round =>
    obtain ⟨m, f, pre, rfl, rfl, hmn, hf, hm, HL, HP, hT⟩ := hrel
    obtain ⟨P, hP⟩ : ∃ P : ByteArray, P = ⟨pre.toArray⟩ := ⟨_, rfl⟩
    have hps : P.size ≤ 10 := by rw [hP, size_list]; have := HL.out; omega
    have HPe : Hid (P = ⟨pre.toArray⟩) := hP
    rw [← hP]
    clear hP
    by_cases hlt128 : m < 128
    · have hl : ¬ (128 : Int) ≤ m := by omega
      have HC : Hid (P ++ ⟨#[UInt8.ofNat m]⟩ = ⟨(dg n).toArray⟩) := by
        show _ = _
        rw [HPe.out, ← HP.out, dgf_last hlt128, ← app_list]
      have hmi : (m : Int) ≤ 255 := by omega
      have ho := fun (W : World) => xone_any m W (by omega)
      go_wp2_with fail
      refine (ho _).mono ?_
      rintro x w1 ⟨rfl, t1⟩
      have hsz : P.size + (⟨#[UInt8.ofNat m]⟩ : ByteArray).size ≤ 9223372036854775807 := by show P.size + 1 ≤ _; omega
      have hadd := fun (W : World) => run_string_add_sum (P := Tryz.prog) W P ⟨#[UInt8.ofNat m]⟩ hsz
      go_wp2
      go_ret
      exact ⟨ret_str HC.out, hT.trans' t1⟩
    · have hl : (128 : Int) ≤ m := by omega
      obtain ⟨f, rfl⟩ : ∃ f', f = f' + 1 := by
        rcases f with _ | f
        · simp at hm; omega
        · exact ⟨f, rfl⟩
      have HM : Hid (m / 128 < 128 ^ (f + 1)) := by
        show _ < _
        rw [Nat.pow_succ] at hm
        exact Nat.div_lt_of_lt_mul (by rw [Nat.mul_comm]; exact hm)
      have HA : Hid ((128 : Int) + (m : Int) % 128 = ((m % 128 + 128 : Nat) : Int)) := by show _ = _; omega
      have ho := fun (W : World) => xone_any (m % 128 + 128) W (by omega)
      rw [← HA.out] at ho
      have HP2 : Hid ((pre ++ [UInt8.ofNat (m % 128 + 128)]) ++ dgf (f + 1) (m / 128) = dg n) := by
        show _ = _
        rw [← HP.out, dgf_more hlt128]; simp
      obtain ⟨B, hB⟩ : ∃ B, B = UInt8.ofNat (m % 128 + 128) := ⟨_, rfl⟩
      rw [← hB] at ho HP2
      clear hB HA
      have HC : Hid (P ++ ⟨#[B]⟩ = ⟨(pre ++ [B]).toArray⟩) := by
        show _ = _
        rw [HPe.out, ← app_list]
      go_wp2_with fail
      refine (ho _).mono ?_
      rintro x w1 ⟨rfl, t1⟩
      have hsz : P.size + (⟨#[B]⟩ : ByteArray).size ≤ 9223372036854775807 := by show P.size + 1 ≤ _; omega
      have hadd := fun (W : World) => run_string_add_sum (P := Tryz.prog) W P ⟨#[B]⟩ hsz
      go_wp2
      go_roundw
      case rel => exact ⟨m / 128, f, _, by go_num, by rw [HC.out], by omega, by omega, HM.out, by have := HL.out; show _ ≤ _; simp; omega, HP2, hT.trans' t1⟩
      case measure => simp [intOf]; omega
end Go.Proofs.YteaagnlhkopgdaaGreatDoor
namespace Go.Proofs.YteaagnlhkopgdaaGreatDoor
open Go.RowKit Go.Sort
theorem tch_regrown (w : World) (p : Regrown) : Tch (fun _ => False) w (grow (redrawn w p.d) p.os) := Tch.of_below (below_regrown w p.d p.os) (Nat.le_refl _)
theorem Calls.tch_regrown_of {P : Program} {f : FuncId} {args : Array Value} {w : World} {d : Nat} {os : Array Obj} {v : Value}
    (h : Calls P f args (grow (redrawn w d) os) fun e w' => e = .returned v ∧ Tch (fun _ => False) (grow (redrawn w d) os) w') : Calls P f args (grow (redrawn w d) os) fun e w'' => e = .returned v ∧ ∃ p : Regrown, w'' = grow (redrawn w p.d) p.os :=
  Calls.regrown_of (h.mono fun _ _ ⟨he, t⟩ => ⟨he, t.below (Nat.le_refl _) (fun _ _ h => h)⟩)
def xs (s : ByteArray) (L : List UInt8) (C : Int) : ByteArray := if C = 0 then s ++ ⟨L.toArray⟩ else s
theorem xs_ok (s : ByteArray) (L : List UInt8) : xs s L 0 = s ++ ⟨L.toArray⟩ := if_pos rfl
theorem xs_bad (s : ByteArray) (L : List UInt8) {C : Int} (h : C ≠ 0) : xs s L C = s := if_neg h
theorem failE_zero (e : Int) : failE e 0 = e := by unfold failE; split <;> simp_all
theorem XW.stored {W w : World} {b : Nat} {s : ByteArray} {e : Int} (h : XW W b s e) (t : Tch (fun _ => False) w W) (s' : ByteArray) : XW (W.setCell ⟨b, 0, none⟩ (.string s')) b s' e ∧ Tch (fun i => i = b) w (W.setCell ⟨b, 0, none⟩ (.string s')) :=
  ⟨h.set0 s', (t.mono (fun _ _ h => h.elim)).setCellR _ _ rfl⟩
theorem xwint_any (b : Nat) (s : ByteArray) (e n : Int) (w : World) (h : XW w b s e) (h1 : -9223372036854775808 ≤ n) (h2 : n ≤ 9223372036854775807) (hsz : s.size + 10 ≤ 140737488355328) :
    Calls Tryz.prog 62 #[.pointer (some ⟨b, 0, none⟩), .int .i64 n] w fun x w' => x = .returned (.tuple #[]) ∧ XW w' b (s ++ ⟨(dg (fol n)).toArray⟩) e ∧ Tch (fun i => i = b) w w' := by
  have hd := fun (W : World) => xdigits_any (fol n) W (fol_lt n h1 h2)
  obtain ⟨D, hD⟩ : ∃ D : ByteArray, D = ⟨(dg (fol n)).toArray⟩ := ⟨_, rfl⟩
  rw [← hD] at hd ⊢
  have hds : D.size ≤ 10 := by rw [hD, size_list]; exact dgf_len 10 (fol n)
  clear hD
  have n1 : ¬ 9223372036854775807 < s.size + D.size := by omega
  have k0 := cell_regrown h.c0
  have cD : ∀ d os, Calls Tryz.prog 73 #[.int .u64 (fol n)] (grow (redrawn w d) os) fun e w'' => e = .returned (.string D) ∧ ∃ p : Regrown, w'' = grow (redrawn w p.d) p.os := fun d os => Calls.tch_regrown_of (hd _)
  have HX : Hid (∀ p : Regrown, XW (grow (redrawn w p.d) p.os) b s e) := fun p => h.tch (tch_regrown w p) (fun h => h)
  clear h hds hsz hd
  by_cases h0 : 0 ≤ n
  · have HU : Hid (2 * n = (fol n : Nat)) := by show _ = _; unfold fol; rw [if_pos h0]; omega
    have hw1 : IntKind.u64.wrap n = n := by rw [IntKind.wrap_u64]; omega
    have hw2 : IntKind.u64.wrap (2 * n) = (fol n : Nat) := by rw [IntKind.wrap_u64, ← HU.out]; omega
    go_enter Tryz.func62, Tryz.ntmps62
    go_wp2
    refine wp_region_below_tail 12 (by kernel_rfl) (by kernel_rfl) ?_
    simp only [List.take_succ_cons, List.take_zero, List.drop_succ_cons, List.drop_zero]
    repeat (quiet_step ((go_at_call 73; exact cD _ _)))
    refine wpQuiet_nil ?_
    rintro w1 ⟨p, rfl⟩
    have hX1 := HX.out p
    have T1 := tch_regrown w p
    obtain ⟨W, hW⟩ : ∃ W, W = grow (redrawn w p.d) p.os := ⟨_, rfl⟩
    rw [← hW] at hX1 T1 ⊢
    clear hW cD HX k0
    have d0 := hX1.c0; have g0 := hX1.f0
    go_wp2
    first | refine bodyPost_ret (results_none rfl _ _ _) rfl ?_ | go_end0
    exact ⟨rfl, hX1.stored T1 _⟩
  · have HU : Hid (2 * (-(n + 1)) + 1 = (fol n : Nat)) := by show _ = _; unfold fol; rw [if_neg h0]; omega
    have hw0 : IntKind.i64.wrap (n + 1) = n + 1 := by rw [IntKind.wrap_i64]; omega
    have hw9 : IntKind.i64.wrap (-(n + 1)) = -(n + 1) := by rw [IntKind.wrap_i64]; omega
    have hw1 : IntKind.u64.wrap (-(n + 1)) = -(n + 1) := by rw [IntKind.wrap_u64]; omega
    have hw2 : IntKind.u64.wrap (2 * -(n + 1)) = 2 * -(n + 1) := by rw [IntKind.wrap_u64]; omega
    have hw3 : IntKind.u64.wrap (2 * -(n + 1) + 1) = (fol n : Nat) := by rw [IntKind.wrap_u64, ← HU.out]; omega
    go_enter Tryz.func62, Tryz.ntmps62
    go_wp2
    refine wp_region_below_tail 15 (by kernel_rfl) (by kernel_rfl) ?_
    simp only [List.take_succ_cons, List.take_zero, List.drop_succ_cons, List.drop_zero]
    repeat (quiet_step ((go_at_call 73; exact cD _ _)))
    refine wpQuiet_nil ?_
    rintro w1 ⟨p, rfl⟩
    have hX1 := HX.out p
    have T1 := tch_regrown w p
    obtain ⟨W, hW⟩ : ∃ W, W = grow (redrawn w p.d) p.os := ⟨_, rfl⟩
    rw [← hW] at hX1 T1 ⊢
    clear hW cD HX k0
    have d0 := hX1.c0; have g0 := hX1.f0
    go_wp2
    first | refine bodyPost_ret (results_none rfl _ _ _) rfl ?_ | go_end0
    exact ⟨rfl, hX1.stored T1 _⟩
theorem xwtext_any (b : Nat) (s : ByteArray) (e : Int) (t : ByteArray) (most : Int) (w : World) (h : XW w b s e) (hsz : s.size + 10 + t.size ≤ 140737488355328) :
    Calls Tryz.prog 63 #[.pointer (some ⟨b, 0, none⟩), .string t, .int .i64 most] w fun x w' => x = .returned (.tuple #[]) ∧ XW w' b (xs s (textL t) (textC t most)) (failE e (textC t most)) ∧ Tch (fun i => i = b) w w' := by
  by_cases h0 : most < 0
  · have hw := xwwrong_any b s e 1 w h
    have HV : Hid (textC t most = 1) := by show _ = _; unfold textC; rw [if_pos h0]
    rw [HV.out, xs_bad _ _ (by omega)]
    go_enter Tryz.func63, Tryz.ntmps63
    go_wp2_with fail
    refine hw.mono ?_
    rintro x w1 ⟨rfl, h1, t1⟩
    go_wp2
    first | refine bodyPost_ret (results_none rfl _ _ _) rfl ?_ | go_end0
    exact ⟨rfl, h1, t1⟩
  · by_cases h12 : most < t.size
    · have hw := xwwrong_any b s e 12 w h
      have HV : Hid (textC t most = 12) := by show _ = _; unfold textC; rw [if_neg h0, if_pos h12]
      rw [HV.out, xs_bad _ _ (by omega)]
      go_enter Tryz.func63, Tryz.ntmps63
      go_wp2_with fail
      refine hw.mono ?_
      rintro x w1 ⟨rfl, h1, t1⟩
      go_wp2
      first | refine bodyPost_ret (results_none rfl _ _ _) rfl ?_ | go_end0
      exact ⟨rfl, h1, t1⟩
    · have hd := fun (W : World) => xdigits_any t.size W (by omega)
      have HV : Hid (textC t most = 0) := by show _ = _; unfold textC; rw [if_neg h0, if_neg h12]
      rw [HV.out, xs_ok, failE_zero]
      obtain ⟨D, hD⟩ : ∃ D : ByteArray, D = ⟨(dg t.size).toArray⟩ := ⟨_, rfl⟩
      have HE2 : Hid (s ++ ⟨(textL t).toArray⟩ = s ++ D ++ t) := by
        show _ = _
        rw [hD, ByteArray.append_assoc]
        congr 1
      rw [HE2.out]
      rw [← hD] at hd
      have hds : D.size ≤ 10 := by rw [hD, size_list]; exact dgf_len 10 t.size
      clear hD HE2
      have n1 : ¬ 9223372036854775807 < s.size + D.size := by omega
      have n2 : ¬ 9223372036854775807 < s.size + D.size + t.size := by omega
      have hwr : IntKind.u64.wrap (t.size : Int) = t.size := by rw [IntKind.wrap_u64]; omega
      have k0 := cell_regrown h.c0
      have cD : ∀ d os, Calls Tryz.prog 73 #[.int .u64 t.size] (grow (redrawn w d) os) fun e w'' => e = .returned (.string D) ∧ ∃ p : Regrown, w'' = grow (redrawn w p.d) p.os := fun d os => Calls.tch_regrown_of (hd _)
      have HX : Hid (∀ p : Regrown, XW (grow (redrawn w p.d) p.os) b s e) := fun p => h.tch (tch_regrown w p) (fun h => h)
      clear h hds hsz hd
      go_enter Tryz.func63, Tryz.ntmps63
      go_wp2
      refine wp_region_below_tail 14 (by kernel_rfl) (by kernel_rfl) ?_
      simp only [List.take_succ_cons, List.take_zero, List.drop_succ_cons, List.drop_zero]
      repeat (quiet_step ((go_at_call 73; exact cD _ _)))
      refine wpQuiet_nil ?_
      rintro w1 ⟨p, rfl⟩
      have hX1 := HX.out p
      have T1 := tch_regrown w p
      obtain ⟨W, hW⟩ : ∃ W, W = grow (redrawn w p.d) p.os := ⟨_, rfl⟩
      rw [← hW] at hX1 T1 ⊢
      clear hW cD HX k0
      have d0 := hX1.c0; have g0 := hX1.f0
      go_wp2
      first | refine bodyPost_ret (results_none rfl _ _ _) rfl ?_ | go_end0
      exact ⟨rfl, hX1.stored T1 _⟩
end Go.Proofs.YteaagnlhkopgdaaGreatDoor
namespace Go.Proofs.YteaagnlhkopgdaaGreatDoor
open Go.RowKit
structure XS (w : World) (b : Nat) (S : ByteArray) (a : Nat) (e : Int) : Prop where
  c0 : w.cell? ⟨b, 0, none⟩ = some (.string S)
  c1 : w.cell? ⟨b, 1, none⟩ = some (.int .i64 a)
  c2 : w.cell? ⟨b, 2, none⟩ = some (.int .i64 e)
  f1 : w.frozen? ⟨b, 1, none⟩ = false
  f2 : w.frozen? ⟨b, 2, none⟩ = false
  le : a ≤ S.size
theorem XS.tch {T : Nat → Prop} {w w' : World} {b : Nat} {S : ByteArray} {a : Nat} {e : Int} (h : XS w b S a e) (t : Tch T w w') (hb : ¬ T b) : XS w' b S a e := by
  have hl : b < w.heap.size := cell_lt h.c0
  exact ⟨(t.cell (p := ⟨b, 0, none⟩) hl hb).trans h.c0, (t.cell (p := ⟨b, 1, none⟩) hl hb).trans h.c1, (t.cell (p := ⟨b, 2, none⟩) hl hb).trans h.c2,
    (t.frozen (p := ⟨b, 1, none⟩) hl hb).trans h.f1, (t.frozen (p := ⟨b, 2, none⟩) hl hb).trans h.f2, h.le⟩
theorem XS.set2 {w : World} {b : Nat} {S : ByteArray} {a : Nat} {e : Int} (h : XS w b S a e) (c : Int) : XS (w.setCell ⟨b, 2, none⟩ (.int .i64 c)) b S a c := by
  refine ⟨?_, ?_, ?_, by simpa using h.f1, by simpa using h.f2, h.le⟩
  · rw [World.cell?_setCell_other (h := by simp)]; exact h.c0
  · rw [World.cell?_setCell_other (h := by simp)]; exact h.c1
  · rw [World.cell?_setCell_same (h := h.c2)]
theorem XS.set1 {w : World} {b : Nat} {S : ByteArray} {a : Nat} {e : Int} (h : XS w b S a e) (a' : Nat) (hle : a' ≤ S.size) : XS (w.setCell ⟨b, 1, none⟩ (.int .i64 a')) b S a' e := by
  refine ⟨?_, ?_, ?_, by simpa using h.f1, by simpa using h.f2, hle⟩
  · rw [World.cell?_setCell_other (h := by simp)]; exact h.c0
  · rw [World.cell?_setCell_same (h := h.c1)]
  · rw [World.cell?_setCell_other (h := by simp)]; exact h.c2
theorem xwrong_any (b : Nat) (S : ByteArray) (a : Nat) (c : Int) (w : World) (h : XS w b S a 0) :
    Calls Tryz.prog 83 #[.pointer (some ⟨b, 0, none⟩), .int .i64 c] w fun x w' => x = .returned (.tuple #[]) ∧ XS w' b S a c ∧ Tch (fun i => i = b) w w' := by
  have c2 := h.c2; have f2 := h.f2
  go_enter Tryz.func83, Tryz.ntmps83
  go_wp2
  go_end0
  exact ⟨rfl, h.set2 c, Tch.setCell _ _ _ _ rfl⟩
theorem xdone_any (b : Nat) (S : ByteArray) (a : Nat) (e : Int) (w : World) (h : XS w b S a e) :
    Calls Tryz.prog 78 #[.pointer (some ⟨b, 0, none⟩)] w fun x w' => x = .returned (.tuple #[.int .i64 (doneE e (S.size - a)), .int .i64 a]) ∧ Tch (fun _ => False) w w' := by
  have c0 := h.c0; have c1 := h.c1; have c2 := h.c2; have hle := h.le
  by_cases he : e = 0
  · subst he
    by_cases hr : a < S.size
    · have hr' : (a : Int) < S.size := by omega
      have HE : Hid (doneE 0 (S.size - a) = 13) := by show _ = _; unfold doneE; rw [if_pos rfl, if_neg (by omega)]
      go_enter Tryz.func78, Tryz.ntmps78
      go_wp2
      go_quiet (fail)
      go_wp2
      go_quiet (fail)
      go_wp2
      go_ret2
      exact ⟨by rw [HE.out]; rfl, ((Tch.refl _ _).drewN _).drewN _⟩
    · have hr' : ¬ (a : Int) < S.size := by omega
      have HE : Hid (doneE 0 (S.size - a) = 0) := by show _ = _; unfold doneE; rw [if_pos rfl, if_pos (by omega)]
      go_enter Tryz.func78, Tryz.ntmps78
      go_wp2
      go_quiet (fail)
      go_wp2
      go_quiet (fail)
      go_wp2
      go_ret2
      exact ⟨by rw [HE.out]; rfl, ((Tch.refl _ _).drewN _).drewN _⟩
  · have hn : (e != 0) = true := by simpa using he
    have HE : Hid (doneE e (S.size - a) = e) := by show _ = _; unfold doneE; rw [if_neg he]
    go_enter Tryz.func78, Tryz.ntmps78
    go_wp2
    go_quiet (fail)
    go_wp2
    go_ret2
    exact ⟨by rw [HE.out]; rfl, (Tch.refl _ _).drewN _⟩
theorem add_step {v b u k : Nat} (hu : u = 128 ^ k) (hfit : v + (b % 128) * 128 ^ k < 18446744073709551616) :
    IntKind.u64.wrap ((v : Int) + IntKind.u64.wrap ((b : Int) % 128 * u)) = ((v + (b % 128) * 128 ^ k : Nat) : Int) := by
  have e1 : ((b : Int) % 128 * u) = (((b % 128) * 128 ^ k : Nat) : Int) := by rw [hu]; simp
  rw [e1, IntKind.wrap_u64, IntKind.wrap_u64]
  omega
theorem unit_step {u k : Nat} (hu : u = 128 ^ k) (hk : k + 1 ≤ 9) : IntKind.u64.wrap ((u : Int) * 128) = ((128 ^ (k + 1) : Nat) : Int) := by
  have h2 := pow_le_of hk
  have h3 : (128 : Nat) ^ 9 = 9223372036854775808 := by decide
  have e1 : ((u : Int) * 128) = ((128 ^ (k + 1) : Nat) : Int) := by rw [hu, Nat.pow_succ]; simp
  rw [e1, IntKind.wrap_u64]
  omega
theorem xindex (S : ByteArray) (a k : Nat) (h : a + k < S.size) (hS : S.size ≤ 281474976710656) (w : World) :
    (Instr.index 9 (.string S) (.int .i64 (IntKind.i64.wrap ((a : Int) + k)))).run Tryz.prog w = .ok (.int .u8 S[a + k].toNat) w := by
  have e : IntKind.i64.wrap ((a : Int) + k) = ((a + k : Nat) : Int) := by rw [IntKind.wrap_i64]; omega
  rw [e, run_index_string (h := Tryz.underlying9), dif_pos (by omega)]
  simp only [Int.toNat_natCast]
theorem xnumber_any (b : Nat) (S : ByteArray) (a : Nat) (e : Int) (last top : Nat) (w : World) (h : XS w b S a e) (hS : S.size ≤ 281474976710656) (hl : last ≤ 10) (hl0 : 0 < last) (ht : top ≤ 127) (h10 : last = 10 → top ≤ 1) :
    Calls Tryz.prog 84 #[.pointer (some ⟨b, 0, none⟩), .int .i64 last, .int .i64 top] w fun x w' => (∃ n k : Nat, ∃ c : Int, dgs last top (S.data.toList.drop a) 0 0 = (n, k, c) ∧ x = .returned (.tuple #[.int .u64 n, .int .i64 k, .int .i64 c])) ∧ Tch (fun _ => False) w w' := by
  have hle := h.le
  go_enter Tryz.func84, Tryz.ntmps84
  go_wp2
  go_loopw [9, 10, 11] (fun n t i wr => ∃ k v u : Nat, a + k ≤ S.size ∧ k < last ∧ i = .int .i64 k ∧ n = .int .u64 v ∧ t = .int .u64 u ∧ Hid (u = 128 ^ k) ∧ v < 128 ^ k ∧ Hid (dgs last top (S.data.toList.drop (a + k)) k v = dgs last top (S.data.toList.drop a) 0 0) ∧ Tch (fun _ => False) w wr) (fun _ _ i _ => S.size - (intOf i).toNat)
  case atStart => exact ⟨0, 0, 1, by omega, hl0, rfl, rfl, rfl, rfl, by decide, rfl, Tch.refl _ _⟩
  case round =>
    obtain ⟨k, v, u, hk, hkl, rfl, rfl, rfl, HU, hv, HD, hT⟩ := hrel
    have h1 := h.tch hT (fun h => h)
    have c0 := h1.c0; have c1 := h1.c1
    by_cases hlt : a + k < S.size
    · have hlt' : (a : Int) + k < S.size := by omega
      obtain ⟨B, hB0⟩ : ∃ B : UInt8, B = S[a + k] := ⟨_, rfl⟩
      have hix := xindex S a k hlt hS
      rw [← hB0] at hix
      have HD2 := HD.out
      have hdc : S.data.toList.drop (a + k) = B :: S.data.toList.drop (a + k + 1) := by rw [hB0]; exact drop_cons S (a + k) hlt
      rw [hdc] at HD2
      have HE2 : Hid (dgs last top (B :: List.drop (a + k + 1) S.data.toList) k v = dgs last top (S.data.toList.drop a) 0 0) := HD2
      clear HD HD2 hdc hB0
      obtain ⟨B1, hB1⟩ : ∃ B1 : Nat, B1 = B.toNat := ⟨_, rfl⟩
      have hb255 : (B1 : Int) ≤ 255 := by have := B.toNat_lt; omega
      have HB : Hid (B.toNat = B1) := hB1.symm
      rw [← hB1] at hix
      clear hB1
      by_cases hA : k + 1 = last ∧ top < B1
      · obtain ⟨hA1, hA2⟩ := hA
        have hA3 : (last : Int) - 1 = k := by omega
        have hA4 : (top : Int) < B1 := by omega
        have HA2 : Hid (top < B.toNat) := by show _ < _; rw [HB.out]; exact hA2
        go_wp2
        go_quiet (fail)
        go_wp2
        go_quiet (fail)
        go_wp2
        go_ret3
        exact ⟨⟨0, 0, 10, by rw [← HE2.out, dgs_range hA1 HA2.out], rfl⟩, hT.drewN _⟩
      · have HA : Hid (¬ (k + 1 = last ∧ top < B.toNat)) := by show ¬ _; rw [HB.out]; exact hA
        have hfit := digit_fits hv hl hkl ht h10 HA.out
        rw [HB.out] at hfit
        have HO : Hid (IntKind.u64.wrap ((v : Int) + IntKind.u64.wrap ((B1 : Int) % 128 * u)) = ((v + (B1 % 128) * 128 ^ k : Nat) : Int)) := add_step HU.out hfit
        by_cases hB : 128 ≤ B1
        · have hB1 : (128 : Int) ≤ B1 := by omega
          have hB2 : ¬ ((k : Int) = last - 1) := by omega
          have HS : Hid (v + (B1 % 128) * 128 ^ k < 128 ^ (k + 1)) := step_lt hv
          have HN : Hid (dgs last top (List.drop (a + (k + 1)) S.data.toList) (k + 1) (v + B1 % 128 * 128 ^ k) = dgs last top (S.data.toList.drop a) 0 0) := by
            show _ = _
            rw [← HE2.out, dgs_more HA.out (by rw [HB.out]; exact hB), HB.out]; rfl
          have HV : Hid (IntKind.u64.wrap ((u : Int) * 128) = ((128 ^ (k + 1) : Nat) : Int)) := unit_step HU.out (by omega)
          clear hA hfit
          go_wp2
          go_quiet (fail)
          go_wp2
          go_quiet (fail)
          go_wp2
          go_roundw
          case rel =>
            exact ⟨k + 1, v + (B1 % 128) * 128 ^ k, 128 ^ (k + 1), by omega, by omega, by go_num, by rw [HO.out], by rw [HV.out], rfl, HS.out, HN, hT.drewN _⟩
          case measure => simp [intOf]; omega
        · have hB1 : (B1 : Int) < 128 := by omega
          clear hA hfit
          by_cases hz : B1 = 0 ∧ 0 < k
          · obtain ⟨rfl, hz2⟩ := hz
            have HR : Hid (dgs last top (S.data.toList.drop a) 0 0 = (0, 0, 14)) := by
              show _ = _
              rw [← HE2.out, dgs_form HA.out HB.out hz2]
            have hz4 : (0 : Int) < k := by omega
            by_cases hA1 : (last : Int) - 1 = k
            · have hA4 : ¬ (top : Int) < 0 := by omega
              go_wp2
              go_quiet (fail)
              go_wp2
              go_quiet (fail)
              go_wp2
              go_ret3
              exact ⟨⟨0, 0, 14, HR.out, rfl⟩, hT.drewN _⟩
            · have hA5 : ¬ (k : Int) = last - 1 := by omega
              clear hA1
              go_wp2
              go_quiet (fail)
              go_wp2
              go_quiet (fail)
              go_wp2
              go_ret3
              exact ⟨⟨0, 0, 14, HR.out, rfl⟩, hT.drewN _⟩
          · have HZ : Hid (dgs last top (S.data.toList.drop a) 0 0 = (v + (B1 % 128) * 128 ^ k, k + 1, 0)) := by
              have := HE2.out; rw [dgs_end HA.out (by rw [HB.out]; omega) (by rw [HB.out]; exact hz), HB.out] at this; exact this.symm
            have HA5 : Hid ((last : Int) - 1 = k → ¬ (top : Int) < B1) := by
              intro h1 h2; exact HA.out ⟨by omega, by rw [HB.out]; omega⟩
            by_cases hzz : B1 = 0
            · subst hzz
              obtain rfl : k = 0 := by omega
              have HZ1 : Hid (dgs last top (S.data.toList.drop a) 0 0 = (v, 1, 0)) := by have h9 := HZ.out; show _ = _; simpa using h9
              have hix0 : ∀ w : World, (Instr.index 9 (.string S) (.int .i64 (IntKind.i64.wrap (a : Int)))).run Tryz.prog w = .ok (.int .u8 0) w := by
                intro w; have := hix w; simpa using this
              clear hix
              by_cases hA1 : (last : Int) - 1 = 0
              · have hA4 : ¬ (top : Int) < 0 := HA5.out hA1
                clear HA hz HO
                go_wp2
                go_quiet (fail)
                go_wp2
                go_quiet (fail)
                go_wp2
                go_ret3
                exact ⟨⟨v, 1, 0, HZ1.out, rfl⟩, hT.drewN _⟩
              · have hA6 : ¬ (0 : Int) = last - 1 := by omega
                clear HA hz HO hA1
                go_wp2
                go_quiet (fail)
                go_wp2
                go_quiet (fail)
                go_wp2
                go_ret3
                exact ⟨⟨v, 1, 0, HZ1.out, rfl⟩, hT.drewN _⟩
            · have hz3 : ¬ (B1 : Int) = 0 := by omega
              by_cases hA1 : (last : Int) - 1 = k
              · have hA4 : ¬ (top : Int) < B1 := HA5.out hA1
                clear HA hz
                go_wp2
                go_quiet (fail)
                go_wp2
                go_quiet (fail)
                go_wp2
                go_ret3
                exact ⟨⟨_, _, _, HZ.out, by rw [HO.out]; rfl⟩, hT.drewN _⟩
              · have hA6 : ¬ (k : Int) = last - 1 := by omega
                clear HA hz hA1
                go_wp2
                go_quiet (fail)
                go_wp2
                go_quiet (fail)
                go_wp2
                go_ret3
                exact ⟨⟨_, _, _, HZ.out, by rw [HO.out]; rfl⟩, hT.drewN _⟩
    · have hlt' : ¬ (a : Int) + k < S.size := by omega
      have HR : Hid (dgs last top (S.data.toList.drop a) 0 0 = (0, 0, 11)) := by
        show _ = _
        rw [← HD.out, List.drop_of_length_le (by simp; omega)]; rfl
      go_wp2
      go_quiet (fail)
      go_wp2
      go_ret3
      exact ⟨⟨0, 0, 11, HR.out, rfl⟩, hT.drewN _⟩
end Go.Proofs.YteaagnlhkopgdaaGreatDoor
