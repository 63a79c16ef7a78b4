import Derived.Test.YtolobljlkdacjaaXAkL
/- A step of a side: Parts. -/
namespace Go.Proofs.Ytolobljlkdacjaa
open Go.RowKit Go

set_option maxHeartbeats 1000000 in
set_option maxRecDepth 100000 in
theorem ask_10 (w : World) (o : Nat → Nat) (β sb : Nat) (m : Mg) (mb rb : Nat) (kv rv hv wv : Value) (ks : List (Int × Int × Value)) (A : List Value) (h : List Nat) (s : SK w o β sb m m mb rb kv rv hv wv ks A) (h4 : RowO w o (β + 4) wv h) (h5 : RowO w o (β + 5) hv h) (hh : h.length ≤ 2147483648) (n : Nat) (hA : A.length ≤ n) (oN oM : Int) (oT : Bool) (mn mx : Int) (sl : Value) (b1 : -9223372036854775808 ≤ oN) (b2 : oN ≤ 9223372036854775807) (hn9 : n ≤ 99999000) :
    Calls Try.prog 30 #[.pointer (some ⟨sb, 0, none⟩), .agg #[.int .i64 10, .int .i64 oN, .int .i64 oM, .bool oT, .int .i64 mn, .int .i64 mx, sl]] w fun x w' => x = .returned (.bool true) ∧ ∃ o' ks', Sd w' o' β sb m ks' (n + 40) ∧ Ev (KS β) w o w' o' ∧ ks'.length ≤ ks.length + 1 := by
  obtain ⟨N, hN⟩ : ∃ N, N = w.heap.size := ⟨_, rfl⟩
  obtain ⟨bx, hbx⟩ : ∃ bx : Array Value, bx = #[.int .i64 10, .int .i64 oN, .int .i64 oM, .bool oT, .int .i64 mn, .int .i64 mx, sl] := ⟨_, rfl⟩
  obtain ⟨w0, hw0⟩ : ∃ w0, w0 = w.alloc (.cells #[.int .i64 10, .int .i64 oN, .int .i64 oM, .bool oT, .int .i64 mn, .int .i64 mx, sl] 38) := ⟨_, rfl⟩
  obtain ⟨P, hP⟩ : ∃ P : World → Mg → Mg → Prop, P = PE w o β sb N bx mb rb kv rv hv wv ks A h := ⟨_, rfl⟩
  have hP0 : P w0 m m := by rw [hP, hw0, hN, hbx]; exact ⟨_, PW.begin s h4 h5 _⟩
  have hc : ∀ W mc md, P W mc md → W.cell? ⟨sb, 0, none⟩ = some (.pointer (some ⟨mb, 0, none⟩)) ∧ W.cell? ⟨sb, 1, none⟩ = some (.pointer (some ⟨rb, 0, none⟩)) ∧ W.cell? ⟨N, 0, none⟩ = some (.int .i64 10) ∧ W.cell? ⟨N, 1, none⟩ = some (.int .i64 oN) := fun W mc md hW => by
    rw [hP] at hW
    obtain ⟨o', p⟩ := hW
    exact ⟨p.c0, p.c1, by rw [p.bxc, hbx]; rfl, by rw [p.bxc, hbx]; rfl⟩
  have hdr : ∀ W mc md q, P W mc md → P (W.drewN q) mc md := fun W mc md q hW => by
    rw [hP] at hW ⊢
    exact hW.dr q
  have HOut : Hid (∀ W m', P W m' m' → ∃ o', Sd W o' β sb m' ks n ∧ Ev (KS β) w o W o') := fun W m' hW => by
    rw [hP] at hW
    exact hW.out hh hA
  obtain ⟨P1, hP1⟩ : ∃ P1 : World → Value → Prop, P1 = fun W v1 => ∃ o', PW w o β sb N bx mb rb kv rv hv wv ks A h W o' m m ∧ RowO W o' (β + 7) v1 (partsL m oN) := ⟨_, rfl⟩
  obtain ⟨P2, hP2⟩ : ∃ P2 : World → Value → Value → Prop, P2 = fun W v1 v2 => ∃ o', PW w o β sb N bx mb rb kv rv hv wv ks A h W o' m m ∧ RowO W o' (β + 7) v1 (partsL m oN) ∧ RowO W o' (β + 8) v2 (partsL m oN) := ⟨_, rfl⟩
  obtain ⟨P3, hP3⟩ : ∃ P3 : World → Value → Value → Value → Prop, P3 = fun W v1 v2 v3 => ∃ o', PW w o β sb N bx mb rb kv rv hv wv ks A h W o' m m ∧ RowO W o' (β + 7) v1 (partsL m oN) ∧ RowO W o' (β + 8) v2 (partsL m oN) ∧ RowO W o' (β + 9) v3 (partsL m oN) := ⟨_, rfl⟩
  have hq1 : ∀ W, P W m m → Calls Try.prog 53 #[.pointer (some ⟨mb, 0, none⟩), .int .i64 oN] W fun x W' => ∃ v1, x = .returned (.tuple #[v1, .int .i64 (partsE m oN)]) ∧ P1 W' v1 := fun W hW => by
    rw [hP] at hW
    rw [hP1]
    obtain ⟨o', p⟩ := hW
    refine (parts_x mb _ W _ p.s.mf oN b1 b2).mono ?_
    rintro x W' ⟨⟨v1, rfl, hr⟩, t⟩
    obtain ⟨p1, r1, -⟩ := p.list (k := 7) (by omega) t hr
    exact ⟨v1, rfl, _, p1, r1⟩
  have hq2 : ∀ W v1, P1 W v1 → Calls Try.prog 53 #[.pointer (some ⟨mb, 0, none⟩), .int .i64 oN] W fun x W' => ∃ v2, x = .returned (.tuple #[v2, .int .i64 (partsE m oN)]) ∧ P2 W' v1 v2 := fun W v1 hW => by
    rw [hP1] at hW
    rw [hP2]
    obtain ⟨o', p, r1⟩ := hW
    refine (parts_x mb _ W _ p.s.mf oN b1 b2).mono ?_
    rintro x W' ⟨⟨v2, rfl, hr⟩, t⟩
    obtain ⟨p1, r2, e⟩ := p.list (k := 8) (by omega) t hr
    exact ⟨v2, rfl, _, p1, r1.ev e (by omega), r2⟩
  have hq3 : ∀ W v1 v2, P2 W v1 v2 → Calls Try.prog 54 #[.pointer (some ⟨rb, 0, none⟩), .int .i64 oN] W fun x W' => ∃ v3, x = .returned (.tuple #[v3, .int .i64 (partsE m oN)]) ∧ P3 W' v1 v2 v3 := fun W v1 v2 hW => by
    rw [hP2] at hW
    rw [hP3]
    obtain ⟨o', p, r1, r2⟩ := hW
    refine (rparts_x rb _ W _ p.s.rf oN).mono ?_
    rintro x W' ⟨⟨v3, rfl, hr⟩, t⟩
    obtain ⟨p1, r3, e⟩ := p.list (k := 9) (by omega) t hr
    exact ⟨v3, rfl, _, p1, r1.ev e (by omega), r2.ev e (by omega), r3⟩
  have hq4 : ∀ W v1 v2 v3, P3 W v1 v2 v3 → Calls Try.prog 55 #[.pointer (some ⟨sb, 0, none⟩), v1, v2, v3] W fun x w' => x = .returned (.bool true) ∧ ∃ o' ks', Sd w' o' β sb m ks' (n + 40) ∧ Ev (KS β) w o w' o' ∧ ks'.length ≤ ks.length + 1 := fun W v1 v2 v3 hW => by
    rw [hP3] at hW
    obtain ⟨o', p, r1, r2, r3⟩ := hW
    have hl : (partsL m oN).length ≤ 2147483648 := parts_len p.wf oN
    refine (p.twice r1 r2 r3 hl hh (by omega)).mono ?_
    rintro x w' ⟨rfl, o'', rv', wv', A', p', -, hA', -⟩
    exact ⟨rfl, p'.done hl (by omega)⟩
  have hc1 : ∀ W v1, P1 W v1 → W.cell? ⟨sb, 0, none⟩ = some (.pointer (some ⟨mb, 0, none⟩)) ∧ W.cell? ⟨sb, 1, none⟩ = some (.pointer (some ⟨rb, 0, none⟩)) ∧ W.cell? ⟨N, 1, none⟩ = some (.int .i64 oN) := fun W v1 hW => by
    rw [hP1] at hW
    obtain ⟨o', p, -⟩ := hW
    exact ⟨p.c0, p.c1, by rw [p.bxc, hbx]; rfl⟩
  have hc2 : ∀ W v1 v2, P2 W v1 v2 → W.cell? ⟨sb, 0, none⟩ = some (.pointer (some ⟨mb, 0, none⟩)) ∧ W.cell? ⟨sb, 1, none⟩ = some (.pointer (some ⟨rb, 0, none⟩)) ∧ W.cell? ⟨N, 1, none⟩ = some (.int .i64 oN) := fun W v1 v2 hW => by
    rw [hP2] at hW
    obtain ⟨o', p, -⟩ := hW
    exact ⟨p.c0, p.c1, by rw [p.bxc, hbx]; rfl⟩
  have hs1 : ∀ W v1, P1 W v1 → ∃ a c, v1 = .slice a (partsL m oN).length c := fun W v1 hW => by
    rw [hP1] at hW
    obtain ⟨o', -, r1⟩ := hW
    exact r1.slice
  have hs2 : ∀ W v1 v2, P2 W v1 v2 → ∃ a c, v2 = .slice a (partsL m oN).length c := fun W v1 v2 hW => by
    rw [hP2] at hW
    obtain ⟨o', -, -, r1⟩ := hW
    exact r1.slice
  have hs3 : ∀ W v1 v2 v3, P3 W v1 v2 v3 → ∃ a c, v3 = .slice a (partsL m oN).length c := fun W v1 v2 v3 hW => by
    rw [hP3] at hW
    obtain ⟨o', -, -, -, r1⟩ := hW
    exact r1.slice
  have hc3 : ∀ W v1 v2 v3, P3 W v1 v2 v3 → W.cell? ⟨sb, 0, none⟩ = some (.pointer (some ⟨mb, 0, none⟩)) ∧ W.cell? ⟨sb, 1, none⟩ = some (.pointer (some ⟨rb, 0, none⟩)) ∧ W.cell? ⟨N, 1, none⟩ = some (.int .i64 oN) := fun W v1 v2 v3 hW => by
    rw [hP3] at hW
    obtain ⟨o', p, -⟩ := hW
    exact ⟨p.c0, p.c1, by rw [p.bxc, hbx]; rfl⟩
  have hd1 : ∀ W v1, P1 W v1 → P1 W.drew v1 := fun W v1 hW => by
    rw [hP1] at hW ⊢
    obtain ⟨o', p, r1⟩ := hW
    have e := Ev.drew (K := fun _ => False) W o' 1
    exact ⟨o', p.ev1 e (fun _ hk => hk.elim) id id id (p.s.ev e ⟨id, id, id, id, id⟩), r1.ev e id⟩
  have hd2 : ∀ W v1 v2, P2 W v1 v2 → P2 W.drew v1 v2 := fun W v1 v2 hW => by
    rw [hP2] at hW ⊢
    obtain ⟨o', p, r1, r2⟩ := hW
    have e := Ev.drew (K := fun _ => False) W o' 1
    exact ⟨o', p.ev1 e (fun _ hk => hk.elim) id id id (p.s.ev e ⟨id, id, id, id, id⟩), r1.ev e id, r2.ev e id⟩
  obtain ⟨ln, hln⟩ : ∃ ln, ln = (partsL m oN).length := ⟨_, rfl⟩
  obtain ⟨pe, hpe⟩ : ∃ pe, pe = partsE m oN := ⟨_, rfl⟩
  rw [← hln] at hs1 hs2 hs3
  rw [← hpe] at hq1 hq2 hq3
  have Hc : Hid _ := hc
  have Hdr : Hid _ := hdr
  have HPA : Hid _ := hP0
  have Hq1 : Hid _ := hq1
  have Hq2 : Hid _ := hq2
  have Hq3 : Hid _ := hq3
  have Hq4 : Hid _ := hq4
  have Hc1 : Hid _ := hc1
  have Hc2 : Hid _ := hc2
  have Hc3 : Hid _ := hc3
  have Hd1 : Hid _ := hd1
  have Hd2 : Hid _ := hd2
  have Hs1 : Hid _ := hs1
  have Hs2 : Hid _ := hs2
  have Hs3 : Hid _ := hs3
  obtain ⟨-, -, k0, -⟩ := hc w0 _ _ hP0
  have Hw0 : Hid _ := hw0
  have HN : Hid (N = w.heap.size) := hN
  clear hP hP0 hc hdr HOut s h4 h5 hh hA b1 b2 hbx hw0 hN hq1 hq2 hq3 hq4 hc1 hc2 hc3 hd1 hd2 hs1 hs2 hs3 hP1 hP2 hP3 hn9 hln hpe
  obtain ⟨CA, hCA⟩ : ∃ C : List Value → World → Prop, C = fun s W => match s with
    | [] => P W m m
    | [y] => ∃ v, y = .tuple #[v, .int .i64 pe] ∧ P1 W v
    | _ => False := ⟨_, rfl⟩
  have hK : ∀ s W, CA s W → W.cell? ⟨sb, 0, none⟩ = some (.pointer (some ⟨mb, 0, none⟩)) ∧ W.cell? ⟨sb, 1, none⟩ = some (.pointer (some ⟨rb, 0, none⟩)) ∧ W.cell? ⟨N, 1, none⟩ = some (.int .i64 oN) := fun s W hW => by
    rw [hCA] at hW
    match s, hW with
    | [], hW => exact ⟨(Hc.out W _ _ hW).1, (Hc.out W _ _ hW).2.1, (Hc.out W _ _ hW).2.2.2⟩
    | [_], ⟨v, _, hW⟩ => exact Hc1.out W v hW
  have h0' : CA [] w0.drew := by rw [hCA]; exact Hdr.out w0 _ _ 1 HPA.out
  have t1 : ∀ W, CA [] W → Calls Try.prog 53 #[.pointer (some ⟨mb, 0, none⟩), .int .i64 oN] W fun x W' => ∃ y, x = .returned y ∧ CA [y] W' := fun W hW => by
    rw [hCA] at hW ⊢
    exact (Hq1.out W hW).mono (fun x W' ⟨v, e, h1⟩ => ⟨_, e, v, rfl, h1⟩)
  have e1 : Hid (∀ y W, CA [y] W → ∃ a c, y = .tuple #[.slice a ln c, .int .i64 pe]) := fun y W hW => by
    rw [hCA] at hW
    obtain ⟨v, e, h1⟩ := hW
    obtain ⟨a, c, e2⟩ := Hs1.out W v h1
    exact ⟨a, c, by rw [e, e2]⟩
  have HE : Hid (∀ a c W, CA [.tuple #[.slice a ln c, .int .i64 pe]] W → P1 W (.slice a ln c)) := fun a c W hW => by
    rw [hCA] at hW
    obtain ⟨v, e, h1⟩ := hW
    have e2 : v = .slice a ln c := by simpa using e.symm
    rw [← e2]; exact h1
  clear hCA
  go_enter Try.func30, Try.ntmps30
  go_wp2_with fail
  have hw0 := Hw0.out
  rw [← HN.out, ← hw0]
  clear hw0 k0
  refine wp_region_barv [6] CA (by kernel_rfl) (by kernel_rfl) (by kernel_rfl) h0' ?_
  clear h0'
  refine barv_read (by go_simp) (by rfl) ?_
  apply Exists.intro
  refine ⟨fun s' W hW b K Q hK' => ?_, fun K hK' => ?_⟩
  · obtain ⟨q0, q1, q2⟩ := hK _ W hW
    go_simp
    exact hK' W hW
  go_simp
  refine hK' _ ?_
  clear hK' K
  refine barv_read (by go_simp) (by rfl) ?_
  apply Exists.intro
  refine ⟨fun s' W hW b K Q hK' => ?_, fun K hK' => ?_⟩
  · obtain ⟨q0, q1, q2⟩ := hK _ W hW
    go_simp
    exact hK' W hW
  go_simp
  refine hK' _ ?_
  clear hK' K
  refine barv_read (by go_simp) (by rfl) ?_
  apply Exists.intro
  refine ⟨fun s' W hW b K Q hK' => ?_, fun K hK' => ?_⟩
  · obtain ⟨q0, q1, q2⟩ := hK _ W hW
    go_simp
    exact hK' W hW
  go_simp
  refine hK' _ ?_
  clear hK' K
  refine barv_read (by go_simp) (by rfl) ?_
  apply Exists.intro
  refine ⟨fun s' W hW b K Q hK' => ?_, fun K hK' => ?_⟩
  · obtain ⟨q0, q1, q2⟩ := hK _ W hW
    go_simp
    exact hK' W hW
  go_simp
  refine hK' _ ?_
  clear hK' K
  refine barv_read (by go_simp) (by rfl) ?_
  apply Exists.intro
  refine ⟨fun s' W hW b K Q hK' => ?_, fun K hK' => ?_⟩
  · obtain ⟨q0, q1, q2⟩ := hK _ W hW
    go_simp
    exact hK' W hW
  go_simp
  refine hK' _ ?_
  clear hK' K
  refine barv_read (by go_simp) (by rfl) ?_
  apply Exists.intro
  refine ⟨fun s' W hW b K Q hK' => ?_, fun K hK' => ?_⟩
  · obtain ⟨q0, q1, q2⟩ := hK _ W hW
    go_simp
    exact hK' W hW
  go_simp
  refine hK' _ ?_
  clear hK' K
  refine barv_turn (by go_simp) (by rfl) (fun W hW b K Q hK' => ?_) (fun u hu K hK' => ?_)
  · go_simp
    go_at_call 53
    refine (t1 W hW).mono ?_
    rintro x w' ⟨y, rfl, h1⟩
    exact hK' y w' h1
  obtain ⟨x1, y1, rfl⟩ : ∃ a c, u = .tuple #[.slice a ln c, .int .i64 pe] := by
    obtain ⟨W', hW'⟩ := hu
    exact e1.out u W' hW'
  clear hu t1 e1
  go_simp
  refine hK' _ ?_
  clear hK' K
  refine barv_read (by go_simp) (by rfl) ?_
  apply Exists.intro
  refine ⟨fun s' W hW b K Q hK' => ?_, fun K hK' => ?_⟩
  · obtain ⟨q0, q1, q2⟩ := hK _ W hW
    go_simp
    exact hK' W hW
  go_simp
  refine hK' _ ?_
  clear hK' K
  refine barv_read (by go_simp) (by rfl) ?_
  apply Exists.intro
  refine ⟨fun s' W hW b K Q hK' => ?_, fun K hK' => ?_⟩
  · obtain ⟨q0, q1, q2⟩ := hK _ W hW
    go_simp
    exact hK' W hW
  go_simp
  refine hK' _ ?_
  clear hK' K
  refine barv_read (by go_simp) (by rfl) ?_
  apply Exists.intro
  refine ⟨fun s' W hW b K Q hK' => ?_, fun K hK' => ?_⟩
  · obtain ⟨q0, q1, q2⟩ := hK _ W hW
    go_simp
    exact hK' W hW
  go_simp
  refine hK' _ ?_
  clear hK' K
  refine barv_read (by go_simp) (by rfl) ?_
  apply Exists.intro
  refine ⟨fun s' W hW b K Q hK' => ?_, fun K hK' => ?_⟩
  · obtain ⟨q0, q1, q2⟩ := hK _ W hW
    go_simp
    exact hK' W hW
  go_simp
  refine hK' _ ?_
  clear hK' K
  refine barv_read (by go_simp) (by rfl) ?_
  apply Exists.intro
  refine ⟨fun s' W hW b K Q hK' => ?_, fun K hK' => ?_⟩
  · obtain ⟨q0, q1, q2⟩ := hK _ W hW
    go_simp
    exact hK' W hW
  go_simp
  refine hK' _ ?_
  clear hK' K
  refine barv_nil ?_
  intro w5 hw5
  have HPB : Hid (P1 w5 (.slice x1 ln y1)) := HE.out _ _ w5 hw5
  clear hK hw5 HE HPA CA
  obtain ⟨CB, hCB⟩ : ∃ C : List Value → World → Prop, C = fun s W => match s with
    | [] => P1 W (.slice x1 ln y1)
    | [y] => ∃ v, y = .tuple #[v, .int .i64 pe] ∧ P2 W (.slice x1 ln y1) v
    | _ => False := ⟨_, rfl⟩
  have hK : ∀ s W, CB s W → W.cell? ⟨sb, 0, none⟩ = some (.pointer (some ⟨mb, 0, none⟩)) ∧ W.cell? ⟨sb, 1, none⟩ = some (.pointer (some ⟨rb, 0, none⟩)) ∧ W.cell? ⟨N, 1, none⟩ = some (.int .i64 oN) := fun s W hW => by
    rw [hCB] at hW
    match s, hW with
    | [], hW => exact Hc1.out W _ hW
    | [_], ⟨v, _, hW⟩ => exact Hc2.out W _ v hW
  have h0' : CB [] w5.drew := by rw [hCB]; exact Hd1.out w5 _ HPB.out
  have t1 : ∀ W, CB [] W → Calls Try.prog 53 #[.pointer (some ⟨mb, 0, none⟩), .int .i64 oN] W fun x W' => ∃ y, x = .returned y ∧ CB [y] W' := fun W hW => by
    rw [hCB] at hW ⊢
    exact (Hq2.out W _ hW).mono (fun x W' ⟨v, e, h1⟩ => ⟨_, e, v, rfl, h1⟩)
  have e1 : Hid (∀ y W, CB [y] W → ∃ a c, y = .tuple #[.slice a ln c, .int .i64 pe]) := fun y W hW => by
    rw [hCB] at hW
    obtain ⟨v, e, h1⟩ := hW
    obtain ⟨a, c, e2⟩ := Hs2.out W _ v h1
    exact ⟨a, c, by rw [e, e2]⟩
  have HE : Hid (∀ a c W, CB [.tuple #[.slice a ln c, .int .i64 pe]] W → P2 W (.slice x1 ln y1) (.slice a ln c)) := fun a c W hW => by
    rw [hCB] at hW
    obtain ⟨v, e, h1⟩ := hW
    have e2 : v = .slice a ln c := by simpa using e.symm
    rw [← e2]; exact h1
  clear hCB
  go_wp2_with fail
  refine wp_region_barv [6] CB (by kernel_rfl) (by kernel_rfl) (by kernel_rfl) h0' ?_
  clear h0'
  refine barv_read (by go_simp) (by rfl) ?_
  apply Exists.intro
  refine ⟨fun s' W hW b K Q hK' => ?_, fun K hK' => ?_⟩
  · obtain ⟨q0, q1, q2⟩ := hK _ W hW
    go_simp
    exact hK' W hW
  go_simp
  refine hK' _ ?_
  clear hK' K
  refine barv_read (by go_simp) (by rfl) ?_
  apply Exists.intro
  refine ⟨fun s' W hW b K Q hK' => ?_, fun K hK' => ?_⟩
  · obtain ⟨q0, q1, q2⟩ := hK _ W hW
    go_simp
    exact hK' W hW
  go_simp
  refine hK' _ ?_
  clear hK' K
  refine barv_read (by go_simp) (by rfl) ?_
  apply Exists.intro
  refine ⟨fun s' W hW b K Q hK' => ?_, fun K hK' => ?_⟩
  · obtain ⟨q0, q1, q2⟩ := hK _ W hW
    go_simp
    exact hK' W hW
  go_simp
  refine hK' _ ?_
  clear hK' K
  refine barv_read (by go_simp) (by rfl) ?_
  apply Exists.intro
  refine ⟨fun s' W hW b K Q hK' => ?_, fun K hK' => ?_⟩
  · obtain ⟨q0, q1, q2⟩ := hK _ W hW
    go_simp
    exact hK' W hW
  go_simp
  refine hK' _ ?_
  clear hK' K
  refine barv_read (by go_simp) (by rfl) ?_
  apply Exists.intro
  refine ⟨fun s' W hW b K Q hK' => ?_, fun K hK' => ?_⟩
  · obtain ⟨q0, q1, q2⟩ := hK _ W hW
    go_simp
    exact hK' W hW
  go_simp
  refine hK' _ ?_
  clear hK' K
  refine barv_read (by go_simp) (by rfl) ?_
  apply Exists.intro
  refine ⟨fun s' W hW b K Q hK' => ?_, fun K hK' => ?_⟩
  · obtain ⟨q0, q1, q2⟩ := hK _ W hW
    go_simp
    exact hK' W hW
  go_simp
  refine hK' _ ?_
  clear hK' K
  refine barv_turn (by go_simp) (by rfl) (fun W hW b K Q hK' => ?_) (fun u hu K hK' => ?_)
  · go_simp
    go_at_call 53
    refine (t1 W hW).mono ?_
    rintro x w' ⟨y, rfl, h1⟩
    exact hK' y w' h1
  obtain ⟨x2, y2, rfl⟩ : ∃ a c, u = .tuple #[.slice a ln c, .int .i64 pe] := by
    obtain ⟨W', hW'⟩ := hu
    exact e1.out u W' hW'
  clear hu t1 e1
  go_simp
  refine hK' _ ?_
  clear hK' K
  refine barv_read (by go_simp) (by rfl) ?_
  apply Exists.intro
  refine ⟨fun s' W hW b K Q hK' => ?_, fun K hK' => ?_⟩
  · obtain ⟨q0, q1, q2⟩ := hK _ W hW
    go_simp
    exact hK' W hW
  go_simp
  refine hK' _ ?_
  clear hK' K
  refine barv_read (by go_simp) (by rfl) ?_
  apply Exists.intro
  refine ⟨fun s' W hW b K Q hK' => ?_, fun K hK' => ?_⟩
  · obtain ⟨q0, q1, q2⟩ := hK _ W hW
    go_simp
    exact hK' W hW
  go_simp
  refine hK' _ ?_
  clear hK' K
  refine barv_read (by go_simp) (by rfl) ?_
  apply Exists.intro
  refine ⟨fun s' W hW b K Q hK' => ?_, fun K hK' => ?_⟩
  · obtain ⟨q0, q1, q2⟩ := hK _ W hW
    go_simp
    exact hK' W hW
  go_simp
  refine hK' _ ?_
  clear hK' K
  refine barv_read (by go_simp) (by rfl) ?_
  apply Exists.intro
  refine ⟨fun s' W hW b K Q hK' => ?_, fun K hK' => ?_⟩
  · obtain ⟨q0, q1, q2⟩ := hK _ W hW
    go_simp
    exact hK' W hW
  go_simp
  refine hK' _ ?_
  clear hK' K
  refine barv_read (by go_simp) (by rfl) ?_
  apply Exists.intro
  refine ⟨fun s' W hW b K Q hK' => ?_, fun K hK' => ?_⟩
  · obtain ⟨q0, q1, q2⟩ := hK _ W hW
    go_simp
    exact hK' W hW
  go_simp
  refine hK' _ ?_
  clear hK' K
  refine barv_nil ?_
  intro w6 hw6
  have HPD : Hid (P2 w6 (.slice x1 ln y1) (.slice x2 ln y2)) := HE.out _ _ w6 hw6
  clear hK hw6 HE HPB CB
  obtain ⟨CD, hCD⟩ : ∃ C : List Value → World → Prop, C = fun s W => match s with
    | [] => P2 W (.slice x1 ln y1) (.slice x2 ln y2)
    | [y] => ∃ v, y = .tuple #[v, .int .i64 pe] ∧ P3 W (.slice x1 ln y1) (.slice x2 ln y2) v
    | _ => False := ⟨_, rfl⟩
  have hK : ∀ s W, CD s W → W.cell? ⟨sb, 0, none⟩ = some (.pointer (some ⟨mb, 0, none⟩)) ∧ W.cell? ⟨sb, 1, none⟩ = some (.pointer (some ⟨rb, 0, none⟩)) ∧ W.cell? ⟨N, 1, none⟩ = some (.int .i64 oN) := fun s W hW => by
    rw [hCD] at hW
    match s, hW with
    | [], hW => exact Hc2.out W _ _ hW
    | [_], ⟨v, _, hW⟩ => exact Hc3.out W _ _ v hW
  have h0' : CD [] w6.drew := by rw [hCD]; exact Hd2.out w6 _ _ HPD.out
  have t1 : ∀ W, CD [] W → Calls Try.prog 54 #[.pointer (some ⟨rb, 0, none⟩), .int .i64 oN] W fun x W' => ∃ y, x = .returned y ∧ CD [y] W' := fun W hW => by
    rw [hCD] at hW ⊢
    exact (Hq3.out W _ _ hW).mono (fun x W' ⟨v, e, h1⟩ => ⟨_, e, v, rfl, h1⟩)
  have e1 : Hid (∀ y W, CD [y] W → ∃ a c, y = .tuple #[.slice a ln c, .int .i64 pe]) := fun y W hW => by
    rw [hCD] at hW
    obtain ⟨v, e, h1⟩ := hW
    obtain ⟨a, c, e2⟩ := Hs3.out W _ _ v h1
    exact ⟨a, c, by rw [e, e2]⟩
  have HE : Hid (∀ a c W, CD [.tuple #[.slice a ln c, .int .i64 pe]] W → P3 W (.slice x1 ln y1) (.slice x2 ln y2) (.slice a ln c)) := fun a c W hW => by
    rw [hCD] at hW
    obtain ⟨v, e, h1⟩ := hW
    have e2 : v = .slice a ln c := by simpa using e.symm
    rw [← e2]; exact h1
  clear hCD
  go_wp2_with fail
  refine wp_region_barv [6] CD (by kernel_rfl) (by kernel_rfl) (by kernel_rfl) h0' ?_
  clear h0'
  refine barv_read (by go_simp) (by rfl) ?_
  apply Exists.intro
  refine ⟨fun s' W hW b K Q hK' => ?_, fun K hK' => ?_⟩
  · obtain ⟨q0, q1, q2⟩ := hK _ W hW
    go_simp
    exact hK' W hW
  go_simp
  refine hK' _ ?_
  clear hK' K
  refine barv_read (by go_simp) (by rfl) ?_
  apply Exists.intro
  refine ⟨fun s' W hW b K Q hK' => ?_, fun K hK' => ?_⟩
  · obtain ⟨q0, q1, q2⟩ := hK _ W hW
    go_simp
    exact hK' W hW
  go_simp
  refine hK' _ ?_
  clear hK' K
  refine barv_read (by go_simp) (by rfl) ?_
  apply Exists.intro
  refine ⟨fun s' W hW b K Q hK' => ?_, fun K hK' => ?_⟩
  · obtain ⟨q0, q1, q2⟩ := hK _ W hW
    go_simp
    exact hK' W hW
  go_simp
  refine hK' _ ?_
  clear hK' K
  refine barv_read (by go_simp) (by rfl) ?_
  apply Exists.intro
  refine ⟨fun s' W hW b K Q hK' => ?_, fun K hK' => ?_⟩
  · obtain ⟨q0, q1, q2⟩ := hK _ W hW
    go_simp
    exact hK' W hW
  go_simp
  refine hK' _ ?_
  clear hK' K
  refine barv_read (by go_simp) (by rfl) ?_
  apply Exists.intro
  refine ⟨fun s' W hW b K Q hK' => ?_, fun K hK' => ?_⟩
  · obtain ⟨q0, q1, q2⟩ := hK _ W hW
    go_simp
    exact hK' W hW
  go_simp
  refine hK' _ ?_
  clear hK' K
  refine barv_read (by go_simp) (by rfl) ?_
  apply Exists.intro
  refine ⟨fun s' W hW b K Q hK' => ?_, fun K hK' => ?_⟩
  · obtain ⟨q0, q1, q2⟩ := hK _ W hW
    go_simp
    exact hK' W hW
  go_simp
  refine hK' _ ?_
  clear hK' K
  refine barv_turn (by go_simp) (by rfl) (fun W hW b K Q hK' => ?_) (fun u hu K hK' => ?_)
  · go_simp
    go_at_call 54
    refine (t1 W hW).mono ?_
    rintro x w' ⟨y, rfl, h1⟩
    exact hK' y w' h1
  obtain ⟨x3, y3, rfl⟩ : ∃ a c, u = .tuple #[.slice a ln c, .int .i64 pe] := by
    obtain ⟨W', hW'⟩ := hu
    exact e1.out u W' hW'
  clear hu t1 e1
  go_simp
  refine hK' _ ?_
  clear hK' K
  refine barv_read (by go_simp) (by rfl) ?_
  apply Exists.intro
  refine ⟨fun s' W hW b K Q hK' => ?_, fun K hK' => ?_⟩
  · obtain ⟨q0, q1, q2⟩ := hK _ W hW
    go_simp
    exact hK' W hW
  go_simp
  refine hK' _ ?_
  clear hK' K
  refine barv_read (by go_simp) (by rfl) ?_
  apply Exists.intro
  refine ⟨fun s' W hW b K Q hK' => ?_, fun K hK' => ?_⟩
  · obtain ⟨q0, q1, q2⟩ := hK _ W hW
    go_simp
    exact hK' W hW
  go_simp
  refine hK' _ ?_
  clear hK' K
  refine barv_read (by go_simp) (by rfl) ?_
  apply Exists.intro
  refine ⟨fun s' W hW b K Q hK' => ?_, fun K hK' => ?_⟩
  · obtain ⟨q0, q1, q2⟩ := hK _ W hW
    go_simp
    exact hK' W hW
  go_simp
  refine hK' _ ?_
  clear hK' K
  refine barv_read (by go_simp) (by rfl) ?_
  apply Exists.intro
  refine ⟨fun s' W hW b K Q hK' => ?_, fun K hK' => ?_⟩
  · obtain ⟨q0, q1, q2⟩ := hK _ W hW
    go_simp
    exact hK' W hW
  go_simp
  refine hK' _ ?_
  clear hK' K
  refine barv_read (by go_simp) (by rfl) ?_
  apply Exists.intro
  refine ⟨fun s' W hW b K Q hK' => ?_, fun K hK' => ?_⟩
  · obtain ⟨q0, q1, q2⟩ := hK _ W hW
    go_simp
    exact hK' W hW
  go_simp
  refine hK' _ ?_
  clear hK' K
  refine barv_nil ?_
  intro w7 hw7
  have q4 := Hq4.out w7 _ _ _ (HE.out _ _ w7 hw7)
  clear hK hw7 HE HPD CD
  go_wp2_with fail
  refine q4.mono ?_
  rintro x w8 ⟨rfl, hf⟩
  have HF : Hid _ := hf
  clear q4 hf
  go_wp2_with fail
  go_ret
  exact ⟨rfl, HF.out⟩
end Go.Proofs.Ytolobljlkdacjaa
