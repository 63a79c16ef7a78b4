/- The document's Writer: Var, Int, Text, Byte. -/
import Derived.Test.YtnjbkkccofjmgaaDoorWRef
namespace Go.Proofs.YtnjbkkccofjmgaaDoor
open Go.RowKit Go.Sort

theorem tch_regrown (w : World) (p : Regrown) : Tch (fun _ => False) w (grow (redrawn w p.d) p.os) := Tch.of_below (below_regrown w p.d p.os) (Nat.le_refl _)
theorem Calls.tch_regrown_of {P : Program} {f : FuncId} {args : Array Value} {w : World} {d : Nat} {os : Array Obj} {v : Value}
    (h : Calls P f args (grow (redrawn w d) os) fun e w' => e = .returned v ∧ Tch (fun _ => False) (grow (redrawn w d) os) w') : Calls P f args (grow (redrawn w d) os) fun e w'' => e = .returned v ∧ ∃ p : Regrown, w'' = grow (redrawn w p.d) p.os :=
  Calls.regrown_of (h.mono fun _ _ ⟨he, t⟩ => ⟨he, t.below (Nat.le_refl _) (fun _ _ h => h)⟩)

/-- The document's text behind a call that lays L, or (C is not 0) tells C. -/
def xs (s : ByteArray) (L : List UInt8) (C : Int) : ByteArray := if C = 0 then s ++ ⟨L.toArray⟩ else s
theorem xs_ok (s : ByteArray) (L : List UInt8) : xs s L 0 = s ++ ⟨L.toArray⟩ := if_pos rfl
theorem xs_bad (s : ByteArray) (L : List UInt8) {C : Int} (h : C ≠ 0) : xs s L C = s := if_neg h
theorem failE_zero (e : Int) : failE e 0 = e := by unfold failE; split <;> simp_all

/-- The tail 'w.S = ..', in each world of the class. -/
theorem XW.stored {W w : World} {b : Nat} {s : ByteArray} {e : Int} (h : XW W b s e) (t : Tch (fun _ => False) w W) (s' : ByteArray) : XW (W.setCell ⟨b, 0, none⟩ (.string s')) b s' e ∧ Tch (fun i => i = b) w (W.setCell ⟨b, 0, none⟩ (.string s')) :=
  ⟨h.set0 s', (t.mono (fun _ _ h => h.elim)).setCellR _ _ rfl⟩

set_option maxHeartbeats 1000000 in
set_option maxRecDepth 100000 in
theorem xwint_any (b : Nat) (s : ByteArray) (e n : Int) (w : World) (h : XW w b s e) (h1 : -9223372036854775808 ≤ n) (h2 : n ≤ 9223372036854775807) (hsz : s.size + 10 ≤ 140737488355328) :
    Calls Tryd.prog 44 #[.pointer (some ⟨b, 0, none⟩), .int .i64 n] w fun x w' => x = .returned (.tuple #[]) ∧ XW w' b (s ++ ⟨(dg (fol n)).toArray⟩) e ∧ Tch (fun i => i = b) w w' := by
  have hd := fun (W : World) => xdigits_any (fol n) W (fol_lt n h1 h2)
  obtain ⟨D, hD⟩ : ∃ D : ByteArray, D = ⟨(dg (fol n)).toArray⟩ := ⟨_, rfl⟩
  rw [← hD] at hd ⊢
  have hds : D.size ≤ 10 := by rw [hD, size_list]; exact dgf_len 10 (fol n)
  clear hD
  have n1 : ¬ 9223372036854775807 < s.size + D.size := by omega
  have k0 := cell_regrown h.c0
  have cD : ∀ d os, Calls Tryd.prog 70 #[.int .u64 (fol n)] (grow (redrawn w d) os) fun e w'' => e = .returned (.string D) ∧ ∃ p : Regrown, w'' = grow (redrawn w p.d) p.os := fun d os => Calls.tch_regrown_of (hd _)
  have HX : Hid (∀ p : Regrown, XW (grow (redrawn w p.d) p.os) b s e) := fun p => h.tch (tch_regrown w p) (fun h => h)
  clear h hds hsz hd
  by_cases h0 : 0 ≤ n
  · have HU : Hid (2 * n = (fol n : Nat)) := by show _ = _; unfold fol; rw [if_pos h0]; omega
    have hw1 : IntKind.u64.wrap n = n := by rw [IntKind.wrap_u64]; omega
    have hw2 : IntKind.u64.wrap (2 * n) = (fol n : Nat) := by rw [IntKind.wrap_u64, ← HU.out]; omega
    go_enter Tryd.func44, Tryd.ntmps44
    go_wp2
    refine wp_region_below_tail 12 (by kernel_rfl) (by kernel_rfl) ?_
    simp only [List.take_succ_cons, List.take_zero, List.drop_succ_cons, List.drop_zero]
    repeat (quiet_step ((go_at_call 70; exact cD _ _)))
    refine wpQuiet_nil ?_
    rintro w1 ⟨p, rfl⟩
    have hX1 := HX.out p
    have T1 := tch_regrown w p
    obtain ⟨W, hW⟩ : ∃ W, W = grow (redrawn w p.d) p.os := ⟨_, rfl⟩
    rw [← hW] at hX1 T1 ⊢
    clear hW cD HX k0
    have d0 := hX1.c0; have g0 := hX1.f0
    go_wp2
    first | refine bodyPost_ret (results_none rfl _ _ _) rfl ?_ | go_end0
    exact ⟨rfl, hX1.stored T1 _⟩
  · have HU : Hid (2 * (-(n + 1)) + 1 = (fol n : Nat)) := by show _ = _; unfold fol; rw [if_neg h0]; omega
    have hw0 : IntKind.i64.wrap (n + 1) = n + 1 := by rw [IntKind.wrap_i64]; omega
    have hw9 : IntKind.i64.wrap (-(n + 1)) = -(n + 1) := by rw [IntKind.wrap_i64]; omega
    have hw1 : IntKind.u64.wrap (-(n + 1)) = -(n + 1) := by rw [IntKind.wrap_u64]; omega
    have hw2 : IntKind.u64.wrap (2 * -(n + 1)) = 2 * -(n + 1) := by rw [IntKind.wrap_u64]; omega
    have hw3 : IntKind.u64.wrap (2 * -(n + 1) + 1) = (fol n : Nat) := by rw [IntKind.wrap_u64, ← HU.out]; omega
    go_enter Tryd.func44, Tryd.ntmps44
    go_wp2
    refine wp_region_below_tail 15 (by kernel_rfl) (by kernel_rfl) ?_
    simp only [List.take_succ_cons, List.take_zero, List.drop_succ_cons, List.drop_zero]
    repeat (quiet_step ((go_at_call 70; exact cD _ _)))
    refine wpQuiet_nil ?_
    rintro w1 ⟨p, rfl⟩
    have hX1 := HX.out p
    have T1 := tch_regrown w p
    obtain ⟨W, hW⟩ : ∃ W, W = grow (redrawn w p.d) p.os := ⟨_, rfl⟩
    rw [← hW] at hX1 T1 ⊢
    clear hW cD HX k0
    have d0 := hX1.c0; have g0 := hX1.f0
    go_wp2
    first | refine bodyPost_ret (results_none rfl _ _ _) rfl ?_ | go_end0
    exact ⟨rfl, hX1.stored T1 _⟩

set_option maxHeartbeats 1000000 in
set_option maxRecDepth 100000 in
theorem xwtext_any (b : Nat) (s : ByteArray) (e : Int) (t : ByteArray) (most : Int) (w : World) (h : XW w b s e) (hsz : s.size + 10 + t.size ≤ 140737488355328) :
    Calls Tryd.prog 45 #[.pointer (some ⟨b, 0, none⟩), .string t, .int .i64 most] w fun x w' => x = .returned (.tuple #[]) ∧ XW w' b (xs s (textL t) (textC t most)) (failE e (textC t most)) ∧ Tch (fun i => i = b) w w' := by
  by_cases h0 : most < 0
  · have hw := xwwrong_any b s e 1 w h
    have HV : Hid (textC t most = 1) := by show _ = _; unfold textC; rw [if_pos h0]
    rw [HV.out, xs_bad _ _ (by omega)]
    go_enter Tryd.func45, Tryd.ntmps45
    go_wp2_with fail
    refine hw.mono ?_
    rintro x w1 ⟨rfl, h1, t1⟩
    go_wp2
    first | refine bodyPost_ret (results_none rfl _ _ _) rfl ?_ | go_end0
    exact ⟨rfl, h1, t1⟩
  · by_cases h12 : most < t.size
    · have hw := xwwrong_any b s e 12 w h
      have HV : Hid (textC t most = 12) := by show _ = _; unfold textC; rw [if_neg h0, if_pos h12]
      rw [HV.out, xs_bad _ _ (by omega)]
      go_enter Tryd.func45, Tryd.ntmps45
      go_wp2_with fail
      refine hw.mono ?_
      rintro x w1 ⟨rfl, h1, t1⟩
      go_wp2
      first | refine bodyPost_ret (results_none rfl _ _ _) rfl ?_ | go_end0
      exact ⟨rfl, h1, t1⟩
    · have hd := fun (W : World) => xdigits_any t.size W (by omega)
      have HV : Hid (textC t most = 0) := by show _ = _; unfold textC; rw [if_neg h0, if_neg h12]
      rw [HV.out, xs_ok, failE_zero]
      obtain ⟨D, hD⟩ : ∃ D : ByteArray, D = ⟨(dg t.size).toArray⟩ := ⟨_, rfl⟩
      have HE2 : Hid (s ++ ⟨(textL t).toArray⟩ = s ++ D ++ t) := by
        show _ = _
        rw [hD, ByteArray.append_assoc]
        congr 1
      rw [HE2.out]
      rw [← hD] at hd
      have hds : D.size ≤ 10 := by rw [hD, size_list]; exact dgf_len 10 t.size
      clear hD HE2
      have n1 : ¬ 9223372036854775807 < s.size + D.size := by omega
      have n2 : ¬ 9223372036854775807 < s.size + D.size + t.size := by omega
      have hwr : IntKind.u64.wrap (t.size : Int) = t.size := by rw [IntKind.wrap_u64]; omega
      have k0 := cell_regrown h.c0
      have cD : ∀ d os, Calls Tryd.prog 70 #[.int .u64 t.size] (grow (redrawn w d) os) fun e w'' => e = .returned (.string D) ∧ ∃ p : Regrown, w'' = grow (redrawn w p.d) p.os := fun d os => Calls.tch_regrown_of (hd _)
      have HX : Hid (∀ p : Regrown, XW (grow (redrawn w p.d) p.os) b s e) := fun p => h.tch (tch_regrown w p) (fun h => h)
      clear h hds hsz hd
      go_enter Tryd.func45, Tryd.ntmps45
      go_wp2
      refine wp_region_below_tail 14 (by kernel_rfl) (by kernel_rfl) ?_
      simp only [List.take_succ_cons, List.take_zero, List.drop_succ_cons, List.drop_zero]
      repeat (quiet_step ((go_at_call 70; exact cD _ _)))
      refine wpQuiet_nil ?_
      rintro w1 ⟨p, rfl⟩
      have hX1 := HX.out p
      have T1 := tch_regrown w p
      obtain ⟨W, hW⟩ : ∃ W, W = grow (redrawn w p.d) p.os := ⟨_, rfl⟩
      rw [← hW] at hX1 T1 ⊢
      clear hW cD HX k0
      have d0 := hX1.c0; have g0 := hX1.f0
      go_wp2
      first | refine bodyPost_ret (results_none rfl _ _ _) rfl ?_ | go_end0
      exact ⟨rfl, hX1.stored T1 _⟩

end Go.Proofs.YtnjbkkccofjmgaaDoor
