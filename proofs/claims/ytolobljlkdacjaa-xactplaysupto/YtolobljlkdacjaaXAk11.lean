import Derived.Test.YtolobljlkdacjaaXAkL
/- A step of a side: Open. -/
namespace Go.Proofs.Ytolobljlkdacjaa
open Go.RowKit Go

set_option maxHeartbeats 1000000 in
set_option maxRecDepth 100000 in
theorem ask_11 (w : World) (o : Nat → Nat) (β sb : Nat) (m : Mg) (mb rb : Nat) (kv rv hv wv : Value) (ks : List (Int × Int × Value)) (A : List Value) (h : List Nat) (s : SK w o β sb m m mb rb kv rv hv wv ks A) (h4 : RowO w o (β + 4) wv h) (h5 : RowO w o (β + 5) hv h) (hh : h.length ≤ 2147483648) (n : Nat) (hA : A.length ≤ n) (oN oM : Int) (oT : Bool) (mn mx : Int) (sl : Value) (b1 : -9223372036854775808 ≤ oN) (b2 : oN ≤ 9223372036854775807) (hn9 : n ≤ 99999000) :
    Calls Try.prog 30 #[.pointer (some ⟨sb, 0, none⟩), .agg #[.int .i64 11, .int .i64 oN, .int .i64 oM, .bool oT, .int .i64 mn, .int .i64 mx, sl]] w fun x w' => x = .returned (.bool true) ∧ ∃ o' ks', Sd w' o' β sb m ks' (n + 40) ∧ Ev (KS β) w o w' o' ∧ ks'.length ≤ ks.length + 1 := by
  have _u : -9223372036854775808 ≤ oN ∧ oN ≤ 9223372036854775807 := ⟨b1, b2⟩
  clear _u
  obtain ⟨N, hN⟩ : ∃ N, N = w.heap.size := ⟨_, rfl⟩
  obtain ⟨bx, hbx⟩ : ∃ bx : Array Value, bx = #[.int .i64 11, .int .i64 oN, .int .i64 oM, .bool oT, .int .i64 mn, .int .i64 mx, sl] := ⟨_, rfl⟩
  obtain ⟨w0, hw0⟩ : ∃ w0, w0 = w.alloc (.cells #[.int .i64 11, .int .i64 oN, .int .i64 oM, .bool oT, .int .i64 mn, .int .i64 mx, sl] 38) := ⟨_, rfl⟩
  obtain ⟨P, hP⟩ : ∃ P : World → Mg → Mg → Prop, P = PE w o β sb N bx mb rb kv rv hv wv ks A h := ⟨_, rfl⟩
  have hP0 : P w0 m m := by rw [hP, hw0, hN, hbx]; exact ⟨_, PW.begin s h4 h5 _⟩
  have hc : ∀ W mc md, P W mc md → W.cell? ⟨sb, 0, none⟩ = some (.pointer (some ⟨mb, 0, none⟩)) ∧ W.cell? ⟨sb, 1, none⟩ = some (.pointer (some ⟨rb, 0, none⟩)) ∧ W.cell? ⟨N, 0, none⟩ = some (.int .i64 11) ∧ W.cell? ⟨N, 1, none⟩ = some (.int .i64 oN) := fun W mc md hW => by
    rw [hP] at hW
    obtain ⟨o', p⟩ := hW
    exact ⟨p.c0, p.c1, by rw [p.bxc, hbx]; rfl, by rw [p.bxc, hbx]; rfl⟩
  have hdr : ∀ W mc md q, P W mc md → P (W.drewN q) mc md := fun W mc md q hW => by
    rw [hP] at hW ⊢
    exact hW.dr q
  have HOut : Hid (∀ W m', P W m' m' → ∃ o', Sd W o' β sb m' ks n ∧ Ev (KS β) w o W o') := fun W m' hW => by
    rw [hP] at hW
    exact hW.out hh hA
  obtain ⟨P1, hP1⟩ : ∃ P1 : World → Value → Prop, P1 = fun W v1 => ∃ o', PW w o β sb N bx mb rb kv rv hv wv ks A h W o' m m ∧ RowO W o' (β + 7) v1 (m.on) := ⟨_, rfl⟩
  obtain ⟨P2, hP2⟩ : ∃ P2 : World → Value → Value → Prop, P2 = fun W v1 v2 => ∃ o', PW w o β sb N bx mb rb kv rv hv wv ks A h W o' m m ∧ RowO W o' (β + 7) v1 (m.on) ∧ RowO W o' (β + 8) v2 (m.on) := ⟨_, rfl⟩
  obtain ⟨P3, hP3⟩ : ∃ P3 : World → Value → Value → Value → Prop, P3 = fun W v1 v2 v3 => ∃ o', PW w o β sb N bx mb rb kv rv hv wv ks A h W o' m m ∧ RowO W o' (β + 7) v1 (m.on) ∧ RowO W o' (β + 8) v2 (m.on) ∧ RowO W o' (β + 9) v3 (m.on) := ⟨_, rfl⟩
  have hq1 : ∀ W, P W m m → Calls Try.prog 56 #[.pointer (some ⟨mb, 0, none⟩)] W fun x W' => ∃ v1, x = .returned (v1) ∧ P1 W' v1 := fun W hW => by
    rw [hP] at hW
    rw [hP1]
    obtain ⟨o', p⟩ := hW
    refine (open_x mb _ W _ p.s.mf).mono ?_
    rintro x W' ⟨⟨v1, rfl, hr⟩, t⟩
    obtain ⟨p1, r1, -⟩ := p.list (k := 7) (by omega) t hr
    exact ⟨v1, rfl, _, p1, r1⟩
  have hq2 : ∀ W v1, P1 W v1 → Calls Try.prog 56 #[.pointer (some ⟨mb, 0, none⟩)] W fun x W' => ∃ v2, x = .returned (v2) ∧ P2 W' v1 v2 := fun W v1 hW => by
    rw [hP1] at hW
    rw [hP2]
    obtain ⟨o', p, r1⟩ := hW
    refine (open_x mb _ W _ p.s.mf).mono ?_
    rintro x W' ⟨⟨v2, rfl, hr⟩, t⟩
    obtain ⟨p1, r2, e⟩ := p.list (k := 8) (by omega) t hr
    exact ⟨v2, rfl, _, p1, r1.ev e (by omega), r2⟩
  have hq3 : ∀ W v1 v2, P2 W v1 v2 → Calls Try.prog 57 #[.pointer (some ⟨rb, 0, none⟩)] W fun x W' => ∃ v3, x = .returned (v3) ∧ P3 W' v1 v2 v3 := fun W v1 v2 hW => by
    rw [hP2] at hW
    rw [hP3]
    obtain ⟨o', p, r1, r2⟩ := hW
    refine (ropen_x rb _ W _ p.s.rf).mono ?_
    rintro x W' ⟨⟨v3, rfl, hr⟩, t⟩
    obtain ⟨p1, r3, e⟩ := p.list (k := 9) (by omega) t hr
    exact ⟨v3, rfl, _, p1, r1.ev e (by omega), r2.ev e (by omega), r3⟩
  have hq4 : ∀ W v1 v2 v3, P3 W v1 v2 v3 → Calls Try.prog 55 #[.pointer (some ⟨sb, 0, none⟩), v1, v2, v3] W fun x w' => x = .returned (.bool true) ∧ ∃ o' ks', Sd w' o' β sb m ks' (n + 40) ∧ Ev (KS β) w o w' o' ∧ ks'.length ≤ ks.length + 1 := fun W v1 v2 v3 hW => by
    rw [hP3] at hW
    obtain ⟨o', p, r1, r2, r3⟩ := hW
    have hl : (m.on).length ≤ 2147483648 := on_le p.wf
    refine (p.twice r1 r2 r3 hl hh (by omega)).mono ?_
    rintro x w' ⟨rfl, o'', rv', wv', A', p', -, hA', -⟩
    exact ⟨rfl, p'.done hl (by omega)⟩
  have hc1 : ∀ W v1, P1 W v1 → W.cell? ⟨sb, 0, none⟩ = some (.pointer (some ⟨mb, 0, none⟩)) ∧ W.cell? ⟨N, 1, none⟩ = some (.int .i64 oN) := fun W v1 hW => by
    rw [hP1] at hW
    obtain ⟨o', p, -⟩ := hW
    exact ⟨p.c0, by rw [p.bxc, hbx]; rfl⟩
  have hc2 : ∀ W v1 v2, P2 W v1 v2 → W.cell? ⟨sb, 1, none⟩ = some (.pointer (some ⟨rb, 0, none⟩)) ∧ W.cell? ⟨N, 1, none⟩ = some (.int .i64 oN) := fun W v1 v2 hW => by
    rw [hP2] at hW
    obtain ⟨o', p, -⟩ := hW
    exact ⟨p.c1, by rw [p.bxc, hbx]; rfl⟩
  have hs1 : ∀ W v1, P1 W v1 → ∃ a c, v1 = .slice a (m.on).length c := fun W v1 hW => by
    rw [hP1] at hW
    obtain ⟨o', -, r1⟩ := hW
    exact r1.slice
  have hs2 : ∀ W v1 v2, P2 W v1 v2 → ∃ a c, v2 = .slice a (m.on).length c := fun W v1 v2 hW => by
    rw [hP2] at hW
    obtain ⟨o', -, -, r1⟩ := hW
    exact r1.slice
  have hs3 : ∀ W v1 v2 v3, P3 W v1 v2 v3 → ∃ a c, v3 = .slice a (m.on).length c := fun W v1 v2 v3 hW => by
    rw [hP3] at hW
    obtain ⟨o', -, -, -, r1⟩ := hW
    exact r1.slice
  obtain ⟨k0, -, k2, -⟩ := hc w0 _ _ hP0
  have q1 := hq1 w0 hP0
  have Hq : Hid _ := And.intro hq2 (And.intro hq3 (And.intro hq4 (And.intro hc1 (And.intro hc2 (And.intro hs1 (And.intro hs2 hs3))))))
  obtain ⟨ln, hln⟩ : ∃ ln, ln = m.on.length := ⟨_, rfl⟩
  rw [← hln] at Hq
  have Hw0 : Hid _ := hw0
  rw [hw0] at k0 k2
  rw [hN] at k2
  clear hP hP0 hc hdr HOut s h4 h5 hh hA b1 b2 hbx hw0 hN hq1 hq2 hq3 hq4 hc1 hc2 hs1 hs2 hs3 hP1 hP2 hP3 hn9 hln
  go_enter Try.func30, Try.ntmps30
  go_wp2_with fail
  have hw0 := Hw0.out
  rw [← hw0]
  clear hw0 k0 k2
  refine q1.mono ?_
  rintro x w1 ⟨v1, rfl, hp1⟩
  have q2 := Hq.out.1 w1 v1 hp1
  obtain ⟨k0, -⟩ := Hq.out.2.2.2.1 w1 v1 hp1
  obtain ⟨x1, y1, rfl⟩ := Hq.out.2.2.2.2.2.1 w1 v1 hp1
  clear q1 hp1
  go_wp2_with fail
  refine q2.mono ?_
  rintro x w2 ⟨v2, rfl, hp2⟩
  have q3 := Hq.out.2.1 w2 _ v2 hp2
  obtain ⟨k1, -⟩ := Hq.out.2.2.2.2.1 w2 _ v2 hp2
  obtain ⟨x2, y2, rfl⟩ := Hq.out.2.2.2.2.2.2.1 w2 _ v2 hp2
  clear q2 hp2 k0
  go_wp2_with fail
  refine q3.mono ?_
  rintro x w3 ⟨v3, rfl, hp3⟩
  have q4 := Hq.out.2.2.1 w3 _ _ v3 hp3
  obtain ⟨x3, y3, rfl⟩ := Hq.out.2.2.2.2.2.2.2 w3 _ _ v3 hp3
  clear q3 hp3 k1 Hq
  go_wp2_with fail
  refine q4.mono ?_
  rintro x w4 ⟨rfl, hf⟩
  have HF : Hid _ := hf
  clear q4 hf
  go_wp2_with fail
  go_ret
  exact ⟨rfl, HF.out⟩
end Go.Proofs.Ytolobljlkdacjaa
