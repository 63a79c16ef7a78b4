import Derived.Test.YtolobljlkdacjaaXPw
/- A step of a side: Begin. -/
namespace Go.Proofs.Ytolobljlkdacjaa
open Go.RowKit Go

set_option maxHeartbeats 1000000 in
set_option maxRecDepth 100000 in
theorem step_1 (w : World) (o : Nat → Nat) (β sb : Nat) (m : Mg) (mb rb : Nat) (kv rv hv wv : Value) (ks : List (Int × Int × Value)) (A : List Value) (h : List Nat) (s : SK w o β sb m m mb rb kv rv hv wv ks A) (h4 : RowO w o (β + 4) wv h) (h5 : RowO w o (β + 5) hv h) (hh : h.length ≤ 2147483648) (n : Nat) (hA : A.length ≤ n) (oN oM : Int) (oT : Bool) (mn mx : Int) (sl : Value) (b1 : -9223372036854775808 ≤ oN) (b2 : oN ≤ 9223372036854775807) :
    Calls Try.prog 7 #[.pointer (some ⟨sb, 0, none⟩), .agg #[.int .i64 1, .int .i64 oN, .int .i64 oM, .bool oT, .int .i64 mn, .int .i64 mx, sl]] w fun x w' => x = .returned (.bool true) ∧ ∃ o', Sd w' o' β sb (beginM m) ks n ∧ Ev (KS β) w o w' o' := by
  have _u := b1
  have _u2 := b2
  clear _u _u2
  obtain ⟨N, hN⟩ : ∃ N, N = w.heap.size := ⟨_, rfl⟩
  obtain ⟨bx, hbx⟩ : ∃ bx : Array Value, bx = #[.int .i64 1, .int .i64 oN, .int .i64 oM, .bool oT, .int .i64 mn, .int .i64 mx, sl] := ⟨_, rfl⟩
  obtain ⟨w0, hw0⟩ : ∃ w0, w0 = w.alloc (.cells #[.int .i64 1, .int .i64 oN, .int .i64 oM, .bool oT, .int .i64 mn, .int .i64 mx, sl] 38) := ⟨_, rfl⟩
  obtain ⟨P, hP⟩ : ∃ P : World → Mg → Mg → Prop, P = PE w o β sb N bx mb rb kv rv hv wv ks A h := ⟨_, rfl⟩
  have hP0 : P w0 m m := by rw [hP, hw0, hN, hbx]; exact ⟨_, PW.begin s h4 h5 _⟩
  have hc : ∀ W mc md, P W mc md → W.cell? ⟨sb, 0, none⟩ = some (.pointer (some ⟨mb, 0, none⟩)) ∧ W.cell? ⟨sb, 1, none⟩ = some (.pointer (some ⟨rb, 0, none⟩)) ∧ W.cell? ⟨N, 0, none⟩ = some (.int .i64 1) ∧ W.cell? ⟨N, 1, none⟩ = some (.int .i64 oN) := fun W mc md hW => by
    rw [hP] at hW
    obtain ⟨o', p⟩ := hW
    exact ⟨p.c0, p.c1, by rw [p.bxc, hbx]; rfl, by rw [p.bxc, hbx]; rfl⟩
  have hdr : ∀ W mc md q, P W mc md → P (W.drewN q) mc md := fun W mc md q hW => by
    rw [hP] at hW ⊢
    exact hW.dr q
  have HOut : Hid (∀ W m', P W m' m' → ∃ o', Sd W o' β sb m' ks n ∧ Ev (KS β) w o W o') := fun W m' hW => by
    rw [hP] at hW
    exact hW.out hh hA
  have hq1 : ∀ W md, P W m md → Calls Try.prog 14 #[.pointer (some ⟨mb, 0, none⟩)] W fun x W' => x = .returned (.tuple #[.int .i64 (beginA m).1, .int .i64 (beginA m).2]) ∧ P W' (beginM m) md := fun W md hW => by
    rw [hP] at hW ⊢
    obtain ⟨o', p⟩ := hW
    exact (begin_x mb _ W _ p.s.mf).mono (fun x W' ⟨e, h1, h2⟩ => ⟨e, _, p.code h1 h2⟩)
  have hq2 : ∀ W mc, P W mc m → Calls Try.prog 15 #[.pointer (some ⟨rb, 0, none⟩)] W fun x W' => x = .returned (.tuple #[.int .i64 (beginA m).1, .int .i64 (beginA m).2]) ∧ P W' mc (beginM m) := fun W mc hW => by
    rw [hP] at hW ⊢
    obtain ⟨o', p⟩ := hW
    exact (rbegin_f rb _ W _ p.s.rf).mono (fun x W' ⟨e, h1, h2⟩ => ⟨e, _, p.doc h1 h2⟩)
  obtain ⟨a1, ha1⟩ : ∃ a1 : Nat, a1 = (beginA m).1 := ⟨_, rfl⟩
  obtain ⟨a2, ha2⟩ : ∃ a2 : Nat, a2 = (beginA m).2 := ⟨_, rfl⟩
  obtain ⟨m2, hm2⟩ : ∃ m2, m2 = beginM m := ⟨_, rfl⟩
  rw [← ha1, ← ha2, ← hm2] at hq1 hq2
  rw [← hm2]
  have Hc : Hid _ := hc
  have Hq2 : Hid _ := hq2
  obtain ⟨k0, k1, k2, -⟩ := hc w0 _ _ hP0
  have q1 := hq1 w0 m hP0
  have Hw0 : Hid _ := hw0
  have HN : Hid (N = w.heap.size) := hN
  rw [hw0] at k0 k1 k2
  rw [hN] at k2
  clear hP hP0 hc hdr hq1 hq2 s h4 h5 hh hA b1 b2 hbx hw0 hN ha1 ha2 hm2
  go_enter Try.func7, Try.ntmps7
  go_wp2_with fail
  have hw0 := Hw0.out
  rw [← hw0]
  clear hw0 k0 k1 k2
  refine q1.mono ?_
  rintro x w1 ⟨rfl, hp1⟩
  obtain ⟨-, k1, -⟩ := Hc.out w1 _ _ hp1
  have q2 := Hq2.out w1 _ hp1
  clear q1 hp1
  go_wp2_with fail
  refine q2.mono ?_
  rintro x w2 ⟨rfl, hp2⟩
  have HF : Hid _ := HOut.out w2 m2 hp2
  clear q2 hp2 k1
  go_wp2_with fail
  go_ret
  exact ⟨rfl, HF.out⟩
end Go.Proofs.Ytolobljlkdacjaa
