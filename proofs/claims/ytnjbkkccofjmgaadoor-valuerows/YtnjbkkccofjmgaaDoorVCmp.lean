/- The order of values, by the code and by the document. -/
import Derived.Test.YtnjbkkccofjmgaaDoorVSame
import Derived.Test.YtnjbkkccofjmgaaDoorQTail
import Derived.Lib.Bytealg
namespace Go.Proofs.YtnjbkkccofjmgaaDoor
open Go.RowKit

theorem isNaN_any (a : Int) (w : World) : Calls Tryd.prog 66 #[.int .i64 a] w fun x w' => x = .returned (.bool false) ∧ w' = w := by
  go_enter Tryd.func66, Tryd.ntmps66
  go_wp2
  go_ret
  exact ⟨by simp, rfl⟩
set_option maxHeartbeats 1000000 in
theorem cmpint_any (a b : Int) (w : World) : Calls Tryd.prog 37 #[.int .i64 a, .int .i64 b] w fun x w' => x = .returned (.int .i64 (Lib.compareInt a b)) ∧ w' = w := by
  have HC : Hid ((a < b → Lib.compareInt a b = -1) ∧ (b < a → Lib.compareInt a b = 1) ∧ (a = b → Lib.compareInt a b = 0)) := by
    refine ⟨fun h => ?_, fun h => ?_, fun h => ?_⟩ <;> unfold Lib.compareInt <;> (repeat' split) <;> omega
  rcases (by omega : a < b ∨ b < a ∨ a = b) with h | h | h
  · rw [HC.out.1 h]
    go_enter Tryd.func37, Tryd.ntmps37
    go_wp2_with (go_at_call 66; refine (isNaN_any _ _).mono ?_; rintro x w1 ⟨rfl, rfl⟩)
    go_ret
    exact ⟨rfl, rfl⟩
  · rw [HC.out.2.1 h]
    have h' : ¬ a < b := by omega
    go_enter Tryd.func37, Tryd.ntmps37
    go_wp2_with (go_at_call 66; refine (isNaN_any _ _).mono ?_; rintro x w1 ⟨rfl, rfl⟩)
    go_ret
    exact ⟨rfl, rfl⟩
  · rw [HC.out.2.2 h]
    clear HC
    subst h
    go_enter Tryd.func37, Tryd.ntmps37
    go_wp2_with (go_at_call 66; refine (isNaN_any _ _).mono ?_; rintro x w1 ⟨rfl, rfl⟩)
    go_ret
    exact ⟨rfl, rfl⟩
set_option maxRecDepth 100000 in
theorem cmpstr0_any (a b : ByteArray) (w : World) : Calls Tryd.prog 67 #[.string a, .string b] w fun x w' => x = .returned (.int .i64 (Lib.compareBytes a.data.toList b.data.toList)) ∧ w' = w := by
  go_enter Tryd.func67, Tryd.ntmps67
  go_wp2
  rw [run_callFunc_extern Tryd.func84 (by kernel_rfl) (by kernel_rfl) (by kernel_rfl) (e := Extern.BytealgCompare.compare) (by kernel_rfl), Lib.run_compareString]
  simp only [Result.andThen]
  rw [Oper.upon_value]
  go_wp2
  go_ret
  exact ⟨rfl, rfl⟩
theorem cmpstr_any (a b : ByteArray) (w : World) : Calls Tryd.prog 38 #[.string a, .string b] w fun x w' => x = .returned (.int .i64 (Lib.compareBytes a.data.toList b.data.toList)) ∧ w' = w := by
  go_enter Tryd.func38, Tryd.ntmps38
  go_wp2_with (go_at_call 67; refine (cmpstr0_any _ _ _).mono ?_; rintro x w1 ⟨rfl, rfl⟩)
  go_ret
  exact ⟨rfl, rfl⟩
theorem rank_any (k : Int) (w : World) : Calls Tryd.prog 65 #[.int .i64 k] w fun x w' => x = .returned (.int .i64 (rk k)) ∧ w' = w := by
  go_enter Tryd.func65, Tryd.ntmps65
  go_wp2
  all_goals (go_ret; refine ⟨?_, rfl⟩; simp_all [rk])
/-- The order of two kinds. -/
def cmpK (a b : Int) : Int := if Lib.compareInt (rk a) (rk b) = 0 then Lib.compareInt a b else Lib.compareInt (rk a) (rk b)
theorem compareKinds_any (a b : Int) (w : World) : Calls Tryd.prog 36 #[.int .i64 a, .int .i64 b] w fun x w' => x = .returned (.int .i64 (cmpK a b)) ∧ w' = w := by
  by_cases h : Lib.compareInt (rk a) (rk b) = 0
  · have e : cmpK a b = Lib.compareInt a b := by unfold cmpK; rw [if_pos h]
    rw [e]
    go_enter Tryd.func36, Tryd.ntmps36
    go_wp2_with (first
      | (go_at_call 65; refine (rank_any _ _).mono ?_; rintro x w1 ⟨rfl, rfl⟩)
      | (go_at_call 37; refine (cmpint_any _ _ _).mono ?_; rintro x w1 ⟨rfl, rfl⟩))
    all_goals (go_ret; exact ⟨rfl, rfl⟩)
  · have e : cmpK a b = Lib.compareInt (rk a) (rk b) := by unfold cmpK; rw [if_neg h]
    rw [e]
    go_enter Tryd.func36, Tryd.ntmps36
    go_wp2_with (first
      | (go_at_call 65; refine (rank_any _ _).mono ?_; rintro x w1 ⟨rfl, rfl⟩)
      | (go_at_call 37; refine (cmpint_any _ _ _).mono ?_; rintro x w1 ⟨rfl, rfl⟩))
    all_goals (go_ret; exact ⟨rfl, rfl⟩)
theorem cmpInt0 {a b : Int} : Lib.compareInt a b = 0 ↔ a = b := by
  unfold Lib.compareInt; (repeat' split) <;> omega
theorem cmpV_k {a b : Val} (h : a.k ≠ b.k) : cmpV a b = cmpK a.k b.k := by
  unfold cmpV cmpK
  by_cases h1 : rk a.k = rk b.k
  · rw [if_neg (by simpa using h1), if_pos h, if_pos (cmpInt0.2 h1)]
  · rw [if_pos h1, if_neg (fun e => h1 (cmpInt0.1 e))]
theorem cmpV_n {a b : Val} (h : a.k = b.k) (h2 : a.n ≠ b.n) : cmpV a b = Lib.compareInt a.n b.n := by
  unfold cmpV; rw [if_neg (by rw [h]; simp), if_neg (by simpa using h), if_pos h2]
theorem cmpV_s {a b : Val} (h : a.k = b.k) (h2 : a.n = b.n) : cmpV a b = Lib.compareBytes a.s.data.toList b.s.data.toList := by
  unfold cmpV; rw [if_neg (by rw [h]; simp), if_neg (by simpa using h), if_neg (by simpa using h2)]

set_option maxHeartbeats 2000000 in
set_option maxRecDepth 100000 in
theorem compare_any (a b : Val) (w : World) :
    Calls Tryd.prog 16 #[vA a.k a.n a.s, vA b.k b.n b.s] w fun x w' => x = .returned (.int .i64 (cmpV a b)) ∧ Tch (fun _ => False) w w' := by
  have T0 : Tch (fun _ => False) w ((w.alloc (.cells #[.int .i64 a.k, .int .i64 a.n, .string a.s] 23)).alloc (.cells #[.int .i64 b.k, .int .i64 b.n, .string b.s] 23)) := (Tch.alloc _ _ _).allocR _
  obtain ⟨d, hd1, hd⟩ := eql_val a b
  cases d with
  | true =>
    have hab := hd1.1 rfl
    have e : cmpV a b = 0 := by rw [hab]; exact cmpV_refl b
    rw [e]
    clear e hab hd1
    go_enter Tryd.func16, Tryd.ntmps16
    go_wp2_with fail
    go_ret
    exact ⟨rfl, T0⟩
  | false =>
    have hab : a ≠ b := fun h => by have := hd1.2 h; simp at this
    clear hd1
    by_cases hk : a.k = b.k
    · by_cases hn : a.n = b.n
      · have e := cmpV_s hk hn
        rw [e]
        clear e hab
        have hk' : (a.k != b.k) = false := by simpa using hk
        have hn' : (a.n != b.n) = false := by simpa using hn
        clear hk hn
        go_enter Tryd.func16, Tryd.ntmps16
        go_wp2_with fail
        refine (cmpstr_any _ _ _).mono ?_
        rintro x w1 ⟨rfl, rfl⟩
        go_wp2_with fail
        go_ret
        exact ⟨rfl, T0⟩
      · have e := cmpV_n hk hn
        rw [e]
        clear e hab
        have hk' : (a.k != b.k) = false := by simpa using hk
        have hn' : (a.n != b.n) = true := by simpa using hn
        clear hk hn
        go_enter Tryd.func16, Tryd.ntmps16
        go_wp2_with fail
        refine (cmpint_any _ _ _).mono ?_
        rintro x w1 ⟨rfl, rfl⟩
        go_wp2_with fail
        go_ret
        exact ⟨rfl, T0⟩
    · have e := cmpV_k hk
      rw [e]
      clear e hab
      have hk' : (a.k != b.k) = true := by simpa using hk
      clear hk
      go_enter Tryd.func16, Tryd.ntmps16
      go_wp2_with fail
      refine (compareKinds_any _ _ _).mono ?_
      rintro x w1 ⟨rfl, rfl⟩
      go_wp2_with fail
      go_ret
      exact ⟨rfl, T0⟩
end Go.Proofs.YtnjbkkccofjmgaaDoor
