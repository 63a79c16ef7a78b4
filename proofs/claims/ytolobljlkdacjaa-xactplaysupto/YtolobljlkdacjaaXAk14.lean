import Derived.Test.YtolobljlkdacjaaXSeeS
/- A step of a side: Sees. -/
namespace Go.Proofs.Ytolobljlkdacjaa
open Go.RowKit Go

set_option maxHeartbeats 1000000 in
set_option maxRecDepth 100000 in
theorem ask_14 (w : World) (o : Nat → Nat) (β sb : Nat) (m : Mg) (mb rb : Nat) (kv rv hv wv : Value) (ks : List (Int × Int × Value)) (A : List Value) (h : List Nat) (s : SK w o β sb m m mb rb kv rv hv wv ks A) (h4 : RowO w o (β + 4) wv h) (h5 : RowO w o (β + 5) hv h) (hh : h.length ≤ 2147483648) (n : Nat) (hA : A.length ≤ n) (oN oM : Int) (oT : Bool) (mn mx : Int) (lo : Option Addr) (lc : Nat) (l : List Int) (hl : l.length ≤ 549755813888) (hI : IR w lo l) (hlo : lo = none → lc = 0) (b1 : -9223372036854775808 ≤ oN) (b2 : oN ≤ 9223372036854775807) (b3 : -9223372036854775808 ≤ oM) (b4 : oM ≤ 9223372036854775807) :
    Calls Try.prog 30 #[.pointer (some ⟨sb, 0, none⟩), .agg #[.int .i64 14, .int .i64 oN, .int .i64 oM, .bool oT, .int .i64 mn, .int .i64 mx, .slice lo l.length lc]] w fun x w' => x = .returned (.bool true) ∧ ∃ o' ks', Sd w' o' β sb m ks' (n + 40) ∧ Ev (KS β) w o w' o' ∧ ks'.length ≤ ks.length + 1 := by
  obtain ⟨N, hN⟩ : ∃ N, N = w.heap.size := ⟨_, rfl⟩
  obtain ⟨nl, hnl⟩ : ∃ nl, nl = l.length := ⟨_, rfl⟩
  obtain ⟨w0, hw0⟩ : ∃ w0, w0 = w.alloc (.cells #[.int .i64 14, .int .i64 oN, .int .i64 oM, .bool oT, .int .i64 mn, .int .i64 mx, .slice lo l.length lc] 38) := ⟨_, rfl⟩
  obtain ⟨o0, p0⟩ : ∃ o0, PW w o β sb N #[.int .i64 14, .int .i64 oN, .int .i64 oM, .bool oT, .int .i64 mn, .int .i64 mx, .slice lo l.length lc] mb rb kv rv hv wv ks A h w0 o0 m m := by rw [hw0, hN]; exact ⟨_, PW.begin s h4 h5 _⟩
  have q : Calls Try.prog 60 #[.pointer (some ⟨sb, 0, none⟩), .agg #[.int .i64 mn, .int .i64 mx, .slice lo nl lc], .int .i64 oN, .int .i64 oM] w0 fun y w' => y = .returned (.bool true) ∧ ∃ o' ks', Sd w' o' β sb m ks' (n + 40) ∧ Ev (KS β) w o w' o' ∧ ks'.length ≤ ks.length + 1 := by
    rw [hnl]
    refine (seeS_any w0 sb mb rb m p0.c0 p0.c1 _ _ p0.s.mf p0.s.rf mn mx l lo lc hl (hI.no (by rw [hw0]; exact Tch.alloc _ _ _)) hlo oN oM b3 b4 b1 b2).mono ?_
    rintro y w' ⟨rfl, t⟩
    exact ⟨rfl, (p0.no t).done hh (by omega)⟩
  rw [← hnl] at hw0 p0 ⊢
  have k0 : w0.cell? ⟨N, 0, none⟩ = some (.int .i64 14) := by rw [p0.bxc]; rfl
  have k1 : w0.cell? ⟨N, 1, none⟩ = some (.int .i64 oN) := by rw [p0.bxc]; rfl
  have k2 : w0.cell? ⟨N, 2, none⟩ = some (.int .i64 oM) := by rw [p0.bxc]; rfl
  have k4 : w0.cell? ⟨N, 4, none⟩ = some (.int .i64 mn) := by rw [p0.bxc]; rfl
  have k5 : w0.cell? ⟨N, 5, none⟩ = some (.int .i64 mx) := by rw [p0.bxc]; rfl
  have k6 : w0.cell? ⟨N, 6, none⟩ = some (.slice lo nl lc) := by rw [p0.bxc]; rfl
  have Hw0 : Hid _ := hw0
  rw [hw0, hN] at k0 k1 k2 k4 k5 k6
  clear s h4 h5 hh hA b1 b2 b3 b4 hl hI hlo hnl hN hw0 p0
  go_enter Try.func30, Try.ntmps30
  go_wp2_with fail
  have hw0 := Hw0.out
  rw [← hw0]
  clear hw0
  refine q.mono ?_
  rintro x w1 ⟨rfl, hf⟩
  have HF : Hid _ := hf
  clear q hf k0 k1 k2 k4 k5 k6
  go_wp2_with fail
  go_ret
  exact ⟨rfl, HF.out⟩
end Go.Proofs.Ytolobljlkdacjaa
