import Derived.Test.YtolobljlkdacjaaXPw
/- A step of a side: Abort. -/
namespace Go.Proofs.Ytolobljlkdacjaa
open Go.RowKit Go

set_option maxHeartbeats 1000000 in
set_option maxRecDepth 100000 in
theorem step_7 (w : World) (o : Nat → Nat) (β sb : Nat) (m : Mg) (mb rb : Nat) (kv rv hv wv : Value) (ks : List (Int × Int × Value)) (A : List Value) (h : List Nat) (s : SK w o β sb m m mb rb kv rv hv wv ks A) (h4 : RowO w o (β + 4) wv h) (h5 : RowO w o (β + 5) hv h) (hh : h.length ≤ 2147483648) (n : Nat) (hA : A.length ≤ n) (oN oM : Int) (oT : Bool) (mn mx : Int) (sl : Value) (b1 : -9223372036854775808 ≤ oN) (b2 : oN ≤ 9223372036854775807) :
    Calls Try.prog 7 #[.pointer (some ⟨sb, 0, none⟩), .agg #[.int .i64 7, .int .i64 oN, .int .i64 oM, .bool oT, .int .i64 mn, .int .i64 mx, sl]] w fun x w' => x = .returned (.bool true) ∧ ∃ o', Sd w' o' β sb (turnM m oN 4 (fun t => m.fin t.x 4)) ks n ∧ Ev (KS β) w o w' o' := by
  have _u : -9223372036854775808 ≤ oN ∧ oN ≤ 9223372036854775807 := ⟨b1, b2⟩
  clear _u
  obtain ⟨N, hN⟩ : ∃ N, N = w.heap.size := ⟨_, rfl⟩
  obtain ⟨bx, hbx⟩ : ∃ bx : Array Value, bx = #[.int .i64 7, .int .i64 oN, .int .i64 oM, .bool oT, .int .i64 mn, .int .i64 mx, sl] := ⟨_, rfl⟩
  obtain ⟨w0, hw0⟩ : ∃ w0, w0 = w.alloc (.cells #[.int .i64 7, .int .i64 oN, .int .i64 oM, .bool oT, .int .i64 mn, .int .i64 mx, sl] 38) := ⟨_, rfl⟩
  obtain ⟨P, hP⟩ : ∃ P : World → Mg → Mg → Prop, P = PE w o β sb N bx mb rb kv rv hv wv ks A h := ⟨_, rfl⟩
  have hP0 : P w0 m m := by rw [hP, hw0, hN, hbx]; exact ⟨_, PW.begin s h4 h5 _⟩
  have hc : ∀ W mc md, P W mc md → W.cell? ⟨sb, 0, none⟩ = some (.pointer (some ⟨mb, 0, none⟩)) ∧ W.cell? ⟨sb, 1, none⟩ = some (.pointer (some ⟨rb, 0, none⟩)) ∧ W.cell? ⟨N, 0, none⟩ = some (.int .i64 7) ∧ W.cell? ⟨N, 1, none⟩ = some (.int .i64 oN) := fun W mc md hW => by
    rw [hP] at hW
    obtain ⟨o', p⟩ := hW
    exact ⟨p.c0, p.c1, by rw [p.bxc, hbx]; rfl, by rw [p.bxc, hbx]; rfl⟩
  have hdr : ∀ W mc md q, P W mc md → P (W.drewN q) mc md := fun W mc md q hW => by
    rw [hP] at hW ⊢
    exact hW.dr q
  have HOut : Hid (∀ W m', P W m' m' → ∃ o', Sd W o' β sb m' ks n ∧ Ev (KS β) w o W o') := fun W m' hW => by
    rw [hP] at hW
    exact hW.out hh hA
  have hq1 : ∀ W md, P W m md → Calls Try.prog 26 #[.pointer (some ⟨mb, 0, none⟩), .int .i64 oN] W fun x W' => x = .returned (Value.int .i64 (turnA m oN 4 : Nat)) ∧ P W' (turnM m oN 4 (fun t => m.fin t.x 4)) md := fun W md hW => by
    rw [hP] at hW ⊢
    obtain ⟨o', p⟩ := hW
    exact (abort_x mb _ W _ p.s.mf oN b1 b2).mono (fun x W' ⟨e, h1, h2⟩ => ⟨e, _, p.code h1 h2⟩)
  have hq2 : ∀ W mc, P W mc m → Calls Try.prog 27 #[.pointer (some ⟨rb, 0, none⟩), .int .i64 oN] W fun x W' => x = .returned (Value.int .i64 (turnA m oN 4 : Nat)) ∧ P W' mc (turnM m oN 4 (fun t => m.fin t.x 4)) := fun W mc hW => by
    rw [hP] at hW ⊢
    obtain ⟨o', p⟩ := hW
    exact (rabort_f rb _ W _ p.s.rf oN).mono (fun x W' ⟨e, h1, h2⟩ => ⟨e, _, p.doc h1 h2⟩)
  obtain ⟨an, han⟩ : ∃ an : Nat, an = turnA m oN 4 := ⟨_, rfl⟩
  obtain ⟨m2, hm2⟩ : ∃ m2, m2 = turnM m oN 4 (fun t => m.fin t.x 4) := ⟨_, rfl⟩
  rw [← han, ← hm2] at hq1 hq2
  rw [← hm2]
  obtain ⟨C, hC⟩ : ∃ C : List Value → World → Prop, C = fun s W => match s with
    | [] => P W m m
    | [y] => y = .int .i64 an ∧ P W m2 m
    | [y, z] => y = .int .i64 an ∧ z = .int .i64 an ∧ P W m2 m2
    | _ => False := ⟨_, rfl⟩
  have hK : ∀ s W, C s W → W.cell? ⟨sb, 0, none⟩ = some (.pointer (some ⟨mb, 0, none⟩)) ∧ W.cell? ⟨sb, 1, none⟩ = some (.pointer (some ⟨rb, 0, none⟩)) ∧ W.cell? ⟨N, 0, none⟩ = some (.int .i64 7) ∧ W.cell? ⟨N, 1, none⟩ = some (.int .i64 oN) := fun s W hW => by
    rw [hC] at hW
    match s, hW with
    | [], hW => exact hc W _ _ hW
    | [_], hW => exact hc W _ _ hW.2
    | [_, _], hW => exact hc W _ _ hW.2.2
  have h0' : C [] w0.drew := by rw [hC]; exact hdr w0 m m 1 hP0
  have t1 : ∀ W, C [] W → Calls Try.prog 26 #[.pointer (some ⟨mb, 0, none⟩), .int .i64 oN] W fun x W' => ∃ y, x = .returned y ∧ C [y] W' := fun W hW => by
    rw [hC] at hW ⊢
    exact (hq1 W m hW).mono (fun x W' ⟨e, h1⟩ => ⟨_, e, rfl, h1⟩)
  have t2 : ∀ y W, C [y] W → Calls Try.prog 27 #[.pointer (some ⟨rb, 0, none⟩), .int .i64 oN] W fun x W' => ∃ z, x = .returned z ∧ C [y, z] W' := fun y W hW => by
    rw [hC] at hW ⊢
    exact (hq2 W m2 hW.2).mono (fun x W' ⟨e, h1⟩ => ⟨_, e, hW.1, rfl, h1⟩)
  have e1 : Hid (∀ y W, C [y] W → y = .int .i64 an) := fun y W hW => by rw [hC] at hW; exact hW.1
  have e2 : Hid (∀ y z W, C [y, z] W → z = .int .i64 an) := fun y z W hW => by rw [hC] at hW; exact hW.2.1
  have HE : Hid (∀ y z W, C [y, z] W → ∃ o', Sd W o' β sb m2 ks n ∧ Ev (KS β) w o W o') := fun y z W hW => by rw [hC] at hW; exact HOut.out W m2 hW.2.2
  obtain ⟨-, -, k0, -⟩ := hc w0 _ _ hP0
  have Hw0 : Hid _ := hw0
  have HN : Hid (N = w.heap.size) := hN
  clear hC hP hP0 hc hdr HOut hq1 hq2 s h4 h5 hh hA b1 b2 hbx hw0 hN han hm2
  go_enter Try.func7, Try.ntmps7
  go_wp2_with fail
  have hw0 := Hw0.out
  rw [← HN.out, ← hw0]
  clear hw0 k0
  refine wp_region_ordv [6, 13] C 14 [0, 1, 2, 3, 4, 5, 7, 8, 9, 10, 11, 12, 6, 13] (by kernel_rfl) (by kernel_rfl) h0' ?_
  clear h0'
  refine ordv_read rfl (by go_simp) (by rfl) ?_
  apply Exists.intro
  refine ⟨fun s' W hW b K Q hK' => ?_, fun K hK' => ?_⟩
  · obtain ⟨q0, q1, q2, q3⟩ := hK _ W hW
    go_simp
    exact hK' W hW
  go_simp
  refine hK' _ ?_
  clear hK' K
  refine ordv_read rfl (by go_simp) (by rfl) ?_
  apply Exists.intro
  refine ⟨fun s' W hW b K Q hK' => ?_, fun K hK' => ?_⟩
  · obtain ⟨q0, q1, q2, q3⟩ := hK _ W hW
    go_simp
    exact hK' W hW
  go_simp
  refine hK' _ ?_
  clear hK' K
  refine ordv_read rfl (by go_simp) (by rfl) ?_
  apply Exists.intro
  refine ⟨fun s' W hW b K Q hK' => ?_, fun K hK' => ?_⟩
  · obtain ⟨q0, q1, q2, q3⟩ := hK _ W hW
    go_simp
    exact hK' W hW
  go_simp
  refine hK' _ ?_
  clear hK' K
  refine ordv_read rfl (by go_simp) (by rfl) ?_
  apply Exists.intro
  refine ⟨fun s' W hW b K Q hK' => ?_, fun K hK' => ?_⟩
  · obtain ⟨q0, q1, q2, q3⟩ := hK _ W hW
    go_simp
    exact hK' W hW
  go_simp
  refine hK' _ ?_
  clear hK' K
  refine ordv_read rfl (by go_simp) (by rfl) ?_
  apply Exists.intro
  refine ⟨fun s' W hW b K Q hK' => ?_, fun K hK' => ?_⟩
  · obtain ⟨q0, q1, q2, q3⟩ := hK _ W hW
    go_simp
    exact hK' W hW
  go_simp
  refine hK' _ ?_
  clear hK' K
  refine ordv_read rfl (by go_simp) (by rfl) ?_
  apply Exists.intro
  refine ⟨fun s' W hW b K Q hK' => ?_, fun K hK' => ?_⟩
  · obtain ⟨q0, q1, q2, q3⟩ := hK _ W hW
    go_simp
    exact hK' W hW
  go_simp
  refine hK' _ ?_
  clear hK' K
  refine ordv_read rfl (by go_simp) (by rfl) ?_
  apply Exists.intro
  refine ⟨fun s' W hW b K Q hK' => ?_, fun K hK' => ?_⟩
  · obtain ⟨q0, q1, q2, q3⟩ := hK _ W hW
    go_simp
    exact hK' W hW
  go_simp
  refine hK' _ ?_
  clear hK' K
  refine ordv_read rfl (by go_simp) (by rfl) ?_
  apply Exists.intro
  refine ⟨fun s' W hW b K Q hK' => ?_, fun K hK' => ?_⟩
  · obtain ⟨q0, q1, q2, q3⟩ := hK _ W hW
    go_simp
    exact hK' W hW
  go_simp
  refine hK' _ ?_
  clear hK' K
  refine ordv_read rfl (by go_simp) (by rfl) ?_
  apply Exists.intro
  refine ⟨fun s' W hW b K Q hK' => ?_, fun K hK' => ?_⟩
  · obtain ⟨q0, q1, q2, q3⟩ := hK _ W hW
    go_simp
    exact hK' W hW
  go_simp
  refine hK' _ ?_
  clear hK' K
  refine ordv_read rfl (by go_simp) (by rfl) ?_
  apply Exists.intro
  refine ⟨fun s' W hW b K Q hK' => ?_, fun K hK' => ?_⟩
  · obtain ⟨q0, q1, q2, q3⟩ := hK _ W hW
    go_simp
    exact hK' W hW
  go_simp
  refine hK' _ ?_
  clear hK' K
  refine ordv_read rfl (by go_simp) (by rfl) ?_
  apply Exists.intro
  refine ⟨fun s' W hW b K Q hK' => ?_, fun K hK' => ?_⟩
  · obtain ⟨q0, q1, q2, q3⟩ := hK _ W hW
    go_simp
    exact hK' W hW
  go_simp
  refine hK' _ ?_
  clear hK' K
  refine ordv_read rfl (by go_simp) (by rfl) ?_
  apply Exists.intro
  refine ⟨fun s' W hW b K Q hK' => ?_, fun K hK' => ?_⟩
  · obtain ⟨q0, q1, q2, q3⟩ := hK _ W hW
    go_simp
    exact hK' W hW
  go_simp
  refine hK' _ ?_
  clear hK' K
  refine ordv_turn rfl (by go_simp) (by rfl) (fun W hW b K Q hK' => ?_) (fun u hu K hK' => ?_)
  · go_simp
    go_at_call 26
    refine (t1 W hW).mono ?_
    rintro x w' ⟨y, rfl, h1⟩
    exact hK' y w' h1
  obtain rfl : u = .int .i64 an := by
    obtain ⟨W', hW'⟩ := hu
    exact e1.out u W' hW'
  clear hu t1
  go_simp
  refine hK' _ ?_
  clear hK' K
  refine ordv_turn rfl (by go_simp) (by rfl) (fun W hW b K Q hK' => ?_) (fun u hu K hK' => ?_)
  · go_simp
    go_at_call 27
    refine (t2 _ W hW).mono ?_
    rintro x w' ⟨y, rfl, h1⟩
    exact hK' y w' h1
  obtain rfl : u = .int .i64 an := by
    obtain ⟨W', hW'⟩ := hu
    exact e2.out _ u W' hW'
  clear hu t2 e1 e2
  go_simp
  refine hK' _ ?_
  clear hK' K
  refine ordv_nil ?_
  intro w5 hw5
  have HF : Hid _ := HE.out _ _ w5 hw5
  clear hK hw5 HE
  go_wp2_with fail
  go_ret
  exact ⟨rfl, HF.out⟩
end Go.Proofs.Ytolobljlkdacjaa
