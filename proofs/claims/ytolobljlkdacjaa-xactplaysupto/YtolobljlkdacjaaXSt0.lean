import Derived.Test.YtolobljlkdacjaaXPw
/- A step of a side: nothing. -/
namespace Go.Proofs.Ytolobljlkdacjaa
open Go.RowKit Go

set_option maxHeartbeats 1000000 in
set_option maxRecDepth 100000 in
theorem step_none (w : World) (o : Nat → Nat) (β sb : Nat) (m : Mg) (mb rb : Nat) (kv rv hv wv : Value) (ks : List (Int × Int × Value)) (A : List Value) (h : List Nat) (s : SK w o β sb m m mb rb kv rv hv wv ks A) (h4 : RowO w o (β + 4) wv h) (h5 : RowO w o (β + 5) hv h) (hh : h.length ≤ 2147483648) (n : Nat) (hA : A.length ≤ n) (oN oM : Int) (oT : Bool) (mn mx : Int) (sl : Value) (b1 : -9223372036854775808 ≤ oN) (b2 : oN ≤ 9223372036854775807) (oK : Int) (hk : ∀ j : Int, 1 ≤ j → j ≤ 16 → oK ≠ j) :
    Calls Try.prog 7 #[.pointer (some ⟨sb, 0, none⟩), .agg #[.int .i64 oK, .int .i64 oN, .int .i64 oM, .bool oT, .int .i64 mn, .int .i64 mx, sl]] w fun x w' => x = .returned (.bool true) ∧ ∃ o', Sd w' o' β sb (m) ks n ∧ Ev (KS β) w o w' o' := by
  have _u := b1
  have _u2 := b2
  clear _u _u2
  have HF : Hid (∃ o', Sd (w.alloc (.cells #[.int .i64 oK, .int .i64 oN, .int .i64 oM, .bool oT, .int .i64 mn, .int .i64 mx, sl] 38)) o' β sb m ks n ∧ Ev (KS β) w o (w.alloc (.cells #[.int .i64 oK, .int .i64 oN, .int .i64 oM, .bool oT, .int .i64 mn, .int .i64 mx, sl] 38)) o') :=
    PE.out ⟨_, PW.begin s h4 h5 _⟩ hh hA
  have k1 : (oK == 1) = false := beq_eq_false_iff_ne.2 (hk 1 (by omega) (by omega))
  have k2 : (oK == 2) = false := beq_eq_false_iff_ne.2 (hk 2 (by omega) (by omega))
  have k3 : (oK == 3) = false := beq_eq_false_iff_ne.2 (hk 3 (by omega) (by omega))
  have k4 : (oK == 4) = false := beq_eq_false_iff_ne.2 (hk 4 (by omega) (by omega))
  have k5 : (oK == 5) = false := beq_eq_false_iff_ne.2 (hk 5 (by omega) (by omega))
  have k6 : (oK == 6) = false := beq_eq_false_iff_ne.2 (hk 6 (by omega) (by omega))
  have k7 : (oK == 7) = false := beq_eq_false_iff_ne.2 (hk 7 (by omega) (by omega))
  have k8 : (oK == 8) = false := beq_eq_false_iff_ne.2 (hk 8 (by omega) (by omega))
  have k9 : (oK == 9) = false := beq_eq_false_iff_ne.2 (hk 9 (by omega) (by omega))
  have k10 : (oK == 10) = false := beq_eq_false_iff_ne.2 (hk 10 (by omega) (by omega))
  have k11 : (oK == 11) = false := beq_eq_false_iff_ne.2 (hk 11 (by omega) (by omega))
  have k12 : (oK == 12) = false := beq_eq_false_iff_ne.2 (hk 12 (by omega) (by omega))
  have k13 : (oK == 13) = false := beq_eq_false_iff_ne.2 (hk 13 (by omega) (by omega))
  have k14 : (oK == 14) = false := beq_eq_false_iff_ne.2 (hk 14 (by omega) (by omega))
  have k15 : (oK == 15) = false := beq_eq_false_iff_ne.2 (hk 15 (by omega) (by omega))
  have k16 : (oK == 16) = false := beq_eq_false_iff_ne.2 (hk 16 (by omega) (by omega))
  clear hk s h4 h5 hh hA b1 b2
  go_enter Try.func7, Try.ntmps7
  go_wp2_with fail
  go_ret
  exact ⟨rfl, HF.out⟩
end Go.Proofs.Ytolobljlkdacjaa
