import Derived.Test.YtmaekkhmiafnmaaGreatDoorVLd
import Derived.Test.YtmaekkhmiafnmaaGreatDoorVLit
import Derived.Lib.Bytealg
set_option maxHeartbeats 2000000
set_option maxRecDepth 100000
namespace Go.Proofs.YtmaekkhmiafnmaaGreatDoor
open Go.RowKit Go Go.Lib
theorem str_of {l : List UInt8} {s : ByteArray} : (⟨l.toArray⟩ : ByteArray) = s ↔ l = s.data.toList := by
  constructor
  · rintro rfl; rfl
  · intro h; rw [h]
theorem str_ne {x y : ByteArray} (h : x ≠ y) : (x.toList == y.toList) = false := by
  rw [beq_eq_false_iff_ne, ne_eq]
  rw [ByteArray.toList_eq, ByteArray.toList_eq]
  exact fun h' => h (ByteArray.ext (Array.ext' h'))
theorem getl (s : ByteArray) (k : Nat) (hk : k < s.size) : s.data.toList[k]? = some s[k] := by
  rw [Array.getElem?_toList, Array.getElem?_eq_getElem hk]; rfl
theorem llen (s : ByteArray) : s.data.toList.length = s.size := by rw [Array.length_toList]; rfl
end Go.Proofs.YtmaekkhmiafnmaaGreatDoor
namespace Go.Proofs.YtmaekkhmiafnmaaGreatDoor
open Go.RowKit
theorem isNaN_any (a : Int) (w : World) : Calls Tryz.prog 207 #[.int .i64 a] w fun x w' => x = .returned (.bool false) ∧ w' = w := by
  go_enter Tryz.func207, Tryz.ntmps207
  go_wp2
  go_ret
  exact ⟨by simp, rfl⟩
theorem cmpint_any (a b : Int) (w : World) : Calls Tryz.prog 187 #[.int .i64 a, .int .i64 b] w fun x w' => x = .returned (.int .i64 (Lib.compareInt a b)) ∧ w' = w := by
  have HC : Hid ((a < b → Lib.compareInt a b = -1) ∧ (b < a → Lib.compareInt a b = 1) ∧ (a = b → Lib.compareInt a b = 0)) := by
    refine ⟨fun h => ?_, fun h => ?_, fun h => ?_⟩ <;> unfold Lib.compareInt <;> (repeat' split) <;> omega
  rcases (by omega : a < b ∨ b < a ∨ a = b) with h | h | h
  · rw [HC.out.1 h]
    go_enter Tryz.func187, Tryz.ntmps187
    go_wp2_with (go_at_call 207; refine (isNaN_any _ _).mono ?_; rintro x w1 ⟨rfl, rfl⟩)
    go_ret
    exact ⟨rfl, rfl⟩
  · rw [HC.out.2.1 h]
    have h' : ¬ a < b := by omega
    go_enter Tryz.func187, Tryz.ntmps187
    go_wp2_with (go_at_call 207; refine (isNaN_any _ _).mono ?_; rintro x w1 ⟨rfl, rfl⟩)
    go_ret
    exact ⟨rfl, rfl⟩
  · rw [HC.out.2.2 h]
    clear HC
    subst h
    go_enter Tryz.func187, Tryz.ntmps187
    go_wp2_with (go_at_call 207; refine (isNaN_any _ _).mono ?_; rintro x w1 ⟨rfl, rfl⟩)
    go_ret
    exact ⟨rfl, rfl⟩
theorem cmpstr0_any (a b : ByteArray) (w : World) : Calls Tryz.prog 208 #[.string a, .string b] w fun x w' => x = .returned (.int .i64 (Lib.compareBytes a.data.toList b.data.toList)) ∧ w' = w := by
  go_enter Tryz.func208, Tryz.ntmps208
  go_wp2
  rw [run_callFunc_extern Tryz.func226 (by kernel_rfl) (by kernel_rfl) (by kernel_rfl) (e := Extern.BytealgCompare.compare) (by kernel_rfl), Lib.run_compareString]
  simp only [Result.andThen]
  rw [Oper.upon_value]
  go_wp2
  go_ret
  exact ⟨rfl, rfl⟩
theorem cmpstr_any (a b : ByteArray) (w : World) : Calls Tryz.prog 188 #[.string a, .string b] w fun x w' => x = .returned (.int .i64 (Lib.compareBytes a.data.toList b.data.toList)) ∧ w' = w := by
  go_enter Tryz.func188, Tryz.ntmps188
  go_wp2_with (go_at_call 208; refine (cmpstr0_any _ _ _).mono ?_; rintro x w1 ⟨rfl, rfl⟩)
  go_ret
  exact ⟨rfl, rfl⟩
theorem rank_any (k : Int) (w : World) : Calls Tryz.prog 206 #[.int .i64 k] w fun x w' => x = .returned (.int .i64 (rk k)) ∧ w' = w := by
  go_enter Tryz.func206, Tryz.ntmps206
  go_wp2
  all_goals (go_ret; refine ⟨?_, rfl⟩; simp_all [rk])
def cmpK (a b : Int) : Int := if Lib.compareInt (rk a) (rk b) = 0 then Lib.compareInt a b else Lib.compareInt (rk a) (rk b)
theorem compareKinds_any (a b : Int) (w : World) : Calls Tryz.prog 186 #[.int .i64 a, .int .i64 b] w fun x w' => x = .returned (.int .i64 (cmpK a b)) ∧ w' = w := by
  by_cases h : Lib.compareInt (rk a) (rk b) = 0
  · have e : cmpK a b = Lib.compareInt a b := by unfold cmpK; rw [if_pos h]
    rw [e]
    go_enter Tryz.func186, Tryz.ntmps186
    go_wp2_with (first
      | (go_at_call 206; refine (rank_any _ _).mono ?_; rintro x w1 ⟨rfl, rfl⟩)
      | (go_at_call 187; refine (cmpint_any _ _ _).mono ?_; rintro x w1 ⟨rfl, rfl⟩))
    all_goals (go_ret; exact ⟨rfl, rfl⟩)
  · have e : cmpK a b = Lib.compareInt (rk a) (rk b) := by unfold cmpK; rw [if_neg h]
    rw [e]
    go_enter Tryz.func186, Tryz.ntmps186
    go_wp2_with (first
      | (go_at_call 206; refine (rank_any _ _).mono ?_; rintro x w1 ⟨rfl, rfl⟩)
      | (go_at_call 187; refine (cmpint_any _ _ _).mono ?_; rintro x w1 ⟨rfl, rfl⟩))
    all_goals (go_ret; exact ⟨rfl, rfl⟩)
theorem cmpInt0 {a b : Int} : Lib.compareInt a b = 0 ↔ a = b := by
  unfold Lib.compareInt; (repeat' split) <;> omega
theorem cmpV_k {a b : Val} (h : a.k ≠ b.k) : cmpV a b = cmpK a.k b.k := by
  unfold cmpV cmpK
  by_cases h1 : rk a.k = rk b.k
  · rw [if_neg (by simpa using h1), if_pos h, if_pos (cmpInt0.2 h1)]
  · rw [if_pos h1, if_neg (fun e => h1 (cmpInt0.1 e))]
theorem cmpV_n {a b : Val} (h : a.k = b.k) (h2 : a.n ≠ b.n) : cmpV a b = Lib.compareInt a.n b.n := by
  unfold cmpV; rw [if_neg (by rw [h]; simp), if_neg (by simpa using h), if_pos h2]
theorem cmpV_s {a b : Val} (h : a.k = b.k) (h2 : a.n = b.n) : cmpV a b = Lib.compareBytes a.s.data.toList b.s.data.toList := by
  unfold cmpV; rw [if_neg (by rw [h]; simp), if_neg (by simpa using h), if_neg (by simpa using h2)]
theorem compare_any (a b : Val) (w : World) :
    Calls Tryz.prog 155 #[vA a.k a.n a.s, vA b.k b.n b.s] w fun x w' => x = .returned (.int .i64 (cmpV a b)) ∧ Tch (fun _ => False) w w' := by
  have T0 : Tch (fun _ => False) w ((w.alloc (.cells #[.int .i64 a.k, .int .i64 a.n, .string a.s] 29)).alloc (.cells #[.int .i64 b.k, .int .i64 b.n, .string b.s] 29)) := (Tch.alloc _ _ _).allocR _
  obtain ⟨d, hd1, hd⟩ := eql_val a b
  cases d with
  | true =>
    have hab := hd1.1 rfl
    have e : cmpV a b = 0 := by rw [hab]; exact cmpV_refl b
    rw [e]
    clear e hab hd1
    go_enter Tryz.func155, Tryz.ntmps155
    go_wp2_with fail
    go_ret
    exact ⟨rfl, T0⟩
  | false =>
    have hab : a ≠ b := fun h => by have := hd1.2 h; simp at this
    clear hd1
    by_cases hk : a.k = b.k
    · by_cases hn : a.n = b.n
      · have e := cmpV_s hk hn
        rw [e]
        clear e hab
        have hk' : (a.k != b.k) = false := by simpa using hk
        have hn' : (a.n != b.n) = false := by simpa using hn
        clear hk hn
        go_enter Tryz.func155, Tryz.ntmps155
        go_wp2_with fail
        refine (cmpstr_any _ _ _).mono ?_
        rintro x w1 ⟨rfl, rfl⟩
        go_wp2_with fail
        go_ret
        exact ⟨rfl, T0⟩
      · have e := cmpV_n hk hn
        rw [e]
        clear e hab
        have hk' : (a.k != b.k) = false := by simpa using hk
        have hn' : (a.n != b.n) = true := by simpa using hn
        clear hk hn
        go_enter Tryz.func155, Tryz.ntmps155
        go_wp2_with fail
        refine (cmpint_any _ _ _).mono ?_
        rintro x w1 ⟨rfl, rfl⟩
        go_wp2_with fail
        go_ret
        exact ⟨rfl, T0⟩
    · have e := cmpV_k hk
      rw [e]
      clear e hab
      have hk' : (a.k != b.k) = true := by simpa using hk
      clear hk
      go_enter Tryz.func155, Tryz.ntmps155
      go_wp2_with fail
      refine (compareKinds_any _ _ _).mono ?_
      rintro x w1 ⟨rfl, rfl⟩
      go_wp2_with fail
      go_ret
      exact ⟨rfl, T0⟩
end Go.Proofs.YtmaekkhmiafnmaaGreatDoor
namespace Go.Proofs.YtmaekkhmiafnmaaGreatDoor
open Go.RowKit
def cutS (s : ByteArray) : ByteArray := if 200 < s.size then s.extract 0 200 else s
theorem i64_and1 (n : Int) : bits .and .i64 n 1 = n % 2 := by
  have h127 : (BitVec.ofInt 64 1).toNat = 2 ^ 1 - 1 := by decide
  have key : (BitVec.ofInt 64 n &&& BitVec.ofInt 64 1).toNat = (n % ((2 ^ 64 : Nat) : Int)).toNat % 2 ^ 1 := by
    rw [BitVec.toNat_and, BitVec.toNat_ofInt, h127, Nat.and_two_pow_sub_one_eq_mod]
  show IntKind.i64.wrap ((BitVec.ofInt 64 n &&& BitVec.ofInt 64 1).toNat : Nat) = n % 2
  rw [key, IntKind.wrap_i64]
  omega
end Go.Proofs.YtmaekkhmiafnmaaGreatDoor
namespace Go.Proofs.YtmaekkhmiafnmaaGreatDoor
open Go.RowKit
def rcl (l : List Val) : List Value := l.flatMap fun v => [.int .i64 v.k, .int .i64 v.n, .string v.s]
theorem rcl_len : ∀ l : List Val, (rcl l).length = l.length * 3
  | [] => rfl
  | v :: l => by
    have := rcl_len l
    have e : rcl (v :: l) = [.int .i64 v.k, .int .i64 v.n, .string v.s] ++ rcl l := rfl
    rw [e, List.length_append, this, List.length_cons]; simp; omega
theorem rcl_snoc (l : List Val) (v : Val) : rcl (l ++ [v]) = rcl l ++ [.int .i64 v.k, .int .i64 v.n, .string v.s] := by simp [rcl]
theorem rcl_get : ∀ (l : List Val) (j : Nat) (hj : j < l.length), (rcl l)[j * 3]? = some (.int .i64 l[j].k) ∧ (rcl l)[j * 3 + 1]? = some (.int .i64 l[j].n) ∧ (rcl l)[j * 3 + 2]? = some (.string l[j].s)
  | v :: l, 0, _ => ⟨rfl, rfl, rfl⟩
  | v :: l, j + 1, hj => by
    have e : rcl (v :: l) = [.int .i64 v.k, .int .i64 v.n, .string v.s] ++ rcl l := rfl
    have ih := rcl_get l j (by simpa using hj)
    rw [e, show (j + 1) * 3 = 3 + j * 3 by omega]
    rw [List.getElem?_append_right (by simp), List.getElem?_append_right (by simp; omega), List.getElem?_append_right (by simp; omega)]
    simp only [List.length_cons, List.length_nil, List.getElem_cons_succ]
    rw [show 3 + j * 3 - (0 + 1 + 1 + 1) = j * 3 by omega, show 3 + j * 3 + 1 - (0 + 1 + 1 + 1) = j * 3 + 1 by omega, show 3 + j * 3 + 2 - (0 + 1 + 1 + 1) = j * 3 + 2 by omega]
    exact ih
theorem row_slice {w : World} {base : Nat} {t : TypeId} {sz n : Nat} {v : Value} {xs : List Value} (h : w.ownsRow base t sz v n xs) : ∃ ao c, v = .slice ao n c := by
  rcases h.2 with ⟨rfl, rfl⟩ | ⟨g, cap, cur, rfl, hg, _⟩
  · exact ⟨_, _, rfl⟩
  · exact ⟨_, _, rfl⟩
theorem row_ge {w : World} {base : Nat} {t : TypeId} {sz n : Nat} {v : Value} {xs : List Value} (h : w.ownsRow base t sz v n xs) {k : Nat} (hk : v.ownBlock = some k) : base ≤ k := by
  rcases h.2 with ⟨rfl, _⟩ | ⟨g, cap, cur, rfl, hg, _⟩
  · cases hk
  · simp [Value.ownBlock] at hk; omega
end Go.Proofs.YtmaekkhmiafnmaaGreatDoor
