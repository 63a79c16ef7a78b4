import Derived.Test.YtolobljlkdacjaaXPw
/- A step of a side: Part. -/
namespace Go.Proofs.Ytolobljlkdacjaa
open Go.RowKit Go

set_option maxHeartbeats 1000000 in
set_option maxRecDepth 100000 in
theorem step_2 (w : World) (o : Nat → Nat) (β sb : Nat) (m : Mg) (mb rb : Nat) (kv rv hv wv : Value) (ks : List (Int × Int × Value)) (A : List Value) (h : List Nat) (s : SK w o β sb m m mb rb kv rv hv wv ks A) (h4 : RowO w o (β + 4) wv h) (h5 : RowO w o (β + 5) hv h) (hh : h.length ≤ 2147483648) (n : Nat) (hA : A.length ≤ n) (oN oM : Int) (oT : Bool) (mn mx : Int) (sl : Value) (b1 : -9223372036854775808 ≤ oN) (b2 : oN ≤ 9223372036854775807) :
    Calls Try.prog 7 #[.pointer (some ⟨sb, 0, none⟩), .agg #[.int .i64 2, .int .i64 oN, .int .i64 oM, .bool oT, .int .i64 mn, .int .i64 mx, sl]] w fun x w' => x = .returned (.bool true) ∧ ∃ o', Sd w' o' β sb (partM m oN) ks n ∧ Ev (KS β) w o w' o' := by
  obtain ⟨N, hN⟩ : ∃ N, N = w.heap.size := ⟨_, rfl⟩
  obtain ⟨bx, hbx⟩ : ∃ bx : Array Value, bx = #[.int .i64 2, .int .i64 oN, .int .i64 oM, .bool oT, .int .i64 mn, .int .i64 mx, sl] := ⟨_, rfl⟩
  obtain ⟨w0, hw0⟩ : ∃ w0, w0 = w.alloc (.cells #[.int .i64 2, .int .i64 oN, .int .i64 oM, .bool oT, .int .i64 mn, .int .i64 mx, sl] 38) := ⟨_, rfl⟩
  obtain ⟨P, hP⟩ : ∃ P : World → Mg → Mg → Prop, P = PE w o β sb N bx mb rb kv rv hv wv ks A h := ⟨_, rfl⟩
  have hP0 : P w0 m m := by rw [hP, hw0, hN, hbx]; exact ⟨_, PW.begin s h4 h5 _⟩
  have hc : ∀ W mc md, P W mc md → W.cell? ⟨sb, 0, none⟩ = some (.pointer (some ⟨mb, 0, none⟩)) ∧ W.cell? ⟨sb, 1, none⟩ = some (.pointer (some ⟨rb, 0, none⟩)) ∧ W.cell? ⟨N, 0, none⟩ = some (.int .i64 2) ∧ W.cell? ⟨N, 1, none⟩ = some (.int .i64 oN) := fun W mc md hW => by
    rw [hP] at hW
    obtain ⟨o', p⟩ := hW
    exact ⟨p.c0, p.c1, by rw [p.bxc, hbx]; rfl, by rw [p.bxc, hbx]; rfl⟩
  have hdr : ∀ W mc md q, P W mc md → P (W.drewN q) mc md := fun W mc md q hW => by
    rw [hP] at hW ⊢
    exact hW.dr q
  have HOut : Hid (∀ W m', P W m' m' → ∃ o', Sd W o' β sb m' ks n ∧ Ev (KS β) w o W o') := fun W m' hW => by
    rw [hP] at hW
    exact hW.out hh hA
  have hq1 : ∀ W md, P W m md → Calls Try.prog 16 #[.pointer (some ⟨mb, 0, none⟩), .int .i64 oN] W fun x W' => x = .returned (.tuple #[.int .i64 (partA m oN).1, .int .i64 (partA m oN).2]) ∧ P W' (partM m oN) md := fun W md hW => by
    rw [hP] at hW ⊢
    obtain ⟨o', p⟩ := hW
    exact (part_x mb _ W _ p.s.mf oN b1 b2).mono (fun x W' ⟨e, h1, h2⟩ => ⟨e, _, p.code h1 h2⟩)
  have hq2 : ∀ W mc, P W mc m → Calls Try.prog 17 #[.pointer (some ⟨rb, 0, none⟩), .int .i64 oN] W fun x W' => x = .returned (.tuple #[.int .i64 (partA m oN).1, .int .i64 (partA m oN).2]) ∧ P W' mc (partM m oN) := fun W mc hW => by
    rw [hP] at hW ⊢
    obtain ⟨o', p⟩ := hW
    exact (rpart_f rb _ W _ p.s.rf oN).mono (fun x W' ⟨e, h1, h2⟩ => ⟨e, _, p.doc h1 h2⟩)
  obtain ⟨a1, ha1⟩ : ∃ a1 : Nat, a1 = (partA m oN).1 := ⟨_, rfl⟩
  obtain ⟨a2, ha2⟩ : ∃ a2 : Nat, a2 = (partA m oN).2 := ⟨_, rfl⟩
  obtain ⟨m2, hm2⟩ : ∃ m2, m2 = partM m oN := ⟨_, rfl⟩
  rw [← ha1, ← ha2, ← hm2] at hq1 hq2
  rw [← hm2]
  have Hc : Hid _ := hc
  have Hdr : Hid _ := hdr
  have Hq1 : Hid _ := hq1
  have Hq2 : Hid _ := hq2
  have HPA : Hid _ := hP0
  obtain ⟨-, -, k0, -⟩ := hc w0 _ _ hP0
  have Hw0 : Hid _ := hw0
  have HN : Hid (N = w.heap.size) := hN
  clear hP hP0 hc hdr hq1 hq2 s h4 h5 hh hA b1 b2 hbx hw0 hN ha1 ha2 hm2
  obtain ⟨CA, hCA⟩ : ∃ C : List Value → World → Prop, C = fun s W => match s with
    | [] => P W m m
    | [y] => y = .tuple #[.int .i64 a1, .int .i64 a2] ∧ P W m2 m
    | _ => False := ⟨_, rfl⟩
  have hK : ∀ s W, CA s W → W.cell? ⟨sb, 0, none⟩ = some (.pointer (some ⟨mb, 0, none⟩)) ∧ W.cell? ⟨sb, 1, none⟩ = some (.pointer (some ⟨rb, 0, none⟩)) ∧ W.cell? ⟨N, 0, none⟩ = some (.int .i64 2) ∧ W.cell? ⟨N, 1, none⟩ = some (.int .i64 oN) := fun s W hW => by
    rw [hCA] at hW
    match s, hW with
    | [], hW => exact Hc.out W _ _ hW
    | [_], hW => exact Hc.out W _ _ hW.2
  have h0' : CA [] w0.drew := by rw [hCA]; exact Hdr.out w0 _ _ 1 HPA.out
  have t1 : ∀ W, CA [] W → Calls Try.prog 16 #[.pointer (some ⟨mb, 0, none⟩), .int .i64 oN] W fun x W' => ∃ y, x = .returned y ∧ CA [y] W' := fun W hW => by
    rw [hCA] at hW ⊢
    exact (Hq1.out W _ hW).mono (fun x W' ⟨e, h1⟩ => ⟨_, e, rfl, h1⟩)
  have e1 : Hid (∀ y W, CA [y] W → y = .tuple #[.int .i64 a1, .int .i64 a2]) := fun y W hW => by rw [hCA] at hW; exact hW.1
  have HE : Hid (∀ y W, CA [y] W → P W m2 m) := fun y W hW => by rw [hCA] at hW; exact hW.2
  clear hCA
  go_enter Try.func7, Try.ntmps7
  go_wp2_with fail
  have hw0 := Hw0.out
  rw [← HN.out, ← hw0]
  clear hw0 k0
  refine wp_region_barv [6] CA (by kernel_rfl) (by kernel_rfl) (by kernel_rfl) h0' ?_
  clear h0'
  refine barv_read (by go_simp) (by rfl) ?_
  apply Exists.intro
  refine ⟨fun s' W hW b K Q hK' => ?_, fun K hK' => ?_⟩
  · obtain ⟨q0, q1, q2, q3⟩ := hK _ W hW
    go_simp
    exact hK' W hW
  go_simp
  refine hK' _ ?_
  clear hK' K
  refine barv_read (by go_simp) (by rfl) ?_
  apply Exists.intro
  refine ⟨fun s' W hW b K Q hK' => ?_, fun K hK' => ?_⟩
  · obtain ⟨q0, q1, q2, q3⟩ := hK _ W hW
    go_simp
    exact hK' W hW
  go_simp
  refine hK' _ ?_
  clear hK' K
  refine barv_read (by go_simp) (by rfl) ?_
  apply Exists.intro
  refine ⟨fun s' W hW b K Q hK' => ?_, fun K hK' => ?_⟩
  · obtain ⟨q0, q1, q2, q3⟩ := hK _ W hW
    go_simp
    exact hK' W hW
  go_simp
  refine hK' _ ?_
  clear hK' K
  refine barv_read (by go_simp) (by rfl) ?_
  apply Exists.intro
  refine ⟨fun s' W hW b K Q hK' => ?_, fun K hK' => ?_⟩
  · obtain ⟨q0, q1, q2, q3⟩ := hK _ W hW
    go_simp
    exact hK' W hW
  go_simp
  refine hK' _ ?_
  clear hK' K
  refine barv_read (by go_simp) (by rfl) ?_
  apply Exists.intro
  refine ⟨fun s' W hW b K Q hK' => ?_, fun K hK' => ?_⟩
  · obtain ⟨q0, q1, q2, q3⟩ := hK _ W hW
    go_simp
    exact hK' W hW
  go_simp
  refine hK' _ ?_
  clear hK' K
  refine barv_read (by go_simp) (by rfl) ?_
  apply Exists.intro
  refine ⟨fun s' W hW b K Q hK' => ?_, fun K hK' => ?_⟩
  · obtain ⟨q0, q1, q2, q3⟩ := hK _ W hW
    go_simp
    exact hK' W hW
  go_simp
  refine hK' _ ?_
  clear hK' K
  refine barv_turn (by go_simp) (by rfl) (fun W hW b K Q hK' => ?_) (fun u hu K hK' => ?_)
  · go_simp
    go_at_call 16
    refine (t1 W hW).mono ?_
    rintro x w' ⟨y, rfl, h1⟩
    exact hK' y w' h1
  obtain rfl : u = .tuple #[.int .i64 a1, .int .i64 a2] := by
    obtain ⟨W', hW'⟩ := hu
    exact e1.out u W' hW'
  clear hu t1 e1
  go_simp
  refine hK' _ ?_
  clear hK' K
  refine barv_read (by go_simp) (by rfl) ?_
  apply Exists.intro
  refine ⟨fun s' W hW b K Q hK' => ?_, fun K hK' => ?_⟩
  · obtain ⟨q0, q1, q2, q3⟩ := hK _ W hW
    go_simp
    exact hK' W hW
  go_simp
  refine hK' _ ?_
  clear hK' K
  refine barv_read (by go_simp) (by rfl) ?_
  apply Exists.intro
  refine ⟨fun s' W hW b K Q hK' => ?_, fun K hK' => ?_⟩
  · obtain ⟨q0, q1, q2, q3⟩ := hK _ W hW
    go_simp
    exact hK' W hW
  go_simp
  refine hK' _ ?_
  clear hK' K
  refine barv_read (by go_simp) (by rfl) ?_
  apply Exists.intro
  refine ⟨fun s' W hW b K Q hK' => ?_, fun K hK' => ?_⟩
  · obtain ⟨q0, q1, q2, q3⟩ := hK _ W hW
    go_simp
    exact hK' W hW
  go_simp
  refine hK' _ ?_
  clear hK' K
  refine barv_read (by go_simp) (by rfl) ?_
  apply Exists.intro
  refine ⟨fun s' W hW b K Q hK' => ?_, fun K hK' => ?_⟩
  · obtain ⟨q0, q1, q2, q3⟩ := hK _ W hW
    go_simp
    exact hK' W hW
  go_simp
  refine hK' _ ?_
  clear hK' K
  refine barv_read (by go_simp) (by rfl) ?_
  apply Exists.intro
  refine ⟨fun s' W hW b K Q hK' => ?_, fun K hK' => ?_⟩
  · obtain ⟨q0, q1, q2, q3⟩ := hK _ W hW
    go_simp
    exact hK' W hW
  go_simp
  refine hK' _ ?_
  clear hK' K
  refine barv_nil ?_
  intro w5 hw5
  have HPB : Hid (P w5 m2 m) := HE.out _ w5 hw5
  clear hK hw5 HE HPA CA
  obtain ⟨CB, hCB⟩ : ∃ C : List Value → World → Prop, C = fun s W => match s with
    | [] => P W m2 m
    | [y] => y = .tuple #[.int .i64 a1, .int .i64 a2] ∧ P W m2 m2
    | _ => False := ⟨_, rfl⟩
  have hK : ∀ s W, CB s W → W.cell? ⟨sb, 0, none⟩ = some (.pointer (some ⟨mb, 0, none⟩)) ∧ W.cell? ⟨sb, 1, none⟩ = some (.pointer (some ⟨rb, 0, none⟩)) ∧ W.cell? ⟨N, 0, none⟩ = some (.int .i64 2) ∧ W.cell? ⟨N, 1, none⟩ = some (.int .i64 oN) := fun s W hW => by
    rw [hCB] at hW
    match s, hW with
    | [], hW => exact Hc.out W _ _ hW
    | [_], hW => exact Hc.out W _ _ hW.2
  have h0' : CB [] w5.drew := by rw [hCB]; exact Hdr.out w5 _ _ 1 HPB.out
  have t1 : ∀ W, CB [] W → Calls Try.prog 17 #[.pointer (some ⟨rb, 0, none⟩), .int .i64 oN] W fun x W' => ∃ y, x = .returned y ∧ CB [y] W' := fun W hW => by
    rw [hCB] at hW ⊢
    exact (Hq2.out W _ hW).mono (fun x W' ⟨e, h1⟩ => ⟨_, e, rfl, h1⟩)
  have e1 : Hid (∀ y W, CB [y] W → y = .tuple #[.int .i64 a1, .int .i64 a2]) := fun y W hW => by rw [hCB] at hW; exact hW.1
  have HE : Hid (∀ y W, CB [y] W → P W m2 m2) := fun y W hW => by rw [hCB] at hW; exact hW.2
  clear hCB
  go_wp2_with fail
  refine wp_region_barv [6] CB (by kernel_rfl) (by kernel_rfl) (by kernel_rfl) h0' ?_
  clear h0'
  refine barv_read (by go_simp) (by rfl) ?_
  apply Exists.intro
  refine ⟨fun s' W hW b K Q hK' => ?_, fun K hK' => ?_⟩
  · obtain ⟨q0, q1, q2, q3⟩ := hK _ W hW
    go_simp
    exact hK' W hW
  go_simp
  refine hK' _ ?_
  clear hK' K
  refine barv_read (by go_simp) (by rfl) ?_
  apply Exists.intro
  refine ⟨fun s' W hW b K Q hK' => ?_, fun K hK' => ?_⟩
  · obtain ⟨q0, q1, q2, q3⟩ := hK _ W hW
    go_simp
    exact hK' W hW
  go_simp
  refine hK' _ ?_
  clear hK' K
  refine barv_read (by go_simp) (by rfl) ?_
  apply Exists.intro
  refine ⟨fun s' W hW b K Q hK' => ?_, fun K hK' => ?_⟩
  · obtain ⟨q0, q1, q2, q3⟩ := hK _ W hW
    go_simp
    exact hK' W hW
  go_simp
  refine hK' _ ?_
  clear hK' K
  refine barv_read (by go_simp) (by rfl) ?_
  apply Exists.intro
  refine ⟨fun s' W hW b K Q hK' => ?_, fun K hK' => ?_⟩
  · obtain ⟨q0, q1, q2, q3⟩ := hK _ W hW
    go_simp
    exact hK' W hW
  go_simp
  refine hK' _ ?_
  clear hK' K
  refine barv_read (by go_simp) (by rfl) ?_
  apply Exists.intro
  refine ⟨fun s' W hW b K Q hK' => ?_, fun K hK' => ?_⟩
  · obtain ⟨q0, q1, q2, q3⟩ := hK _ W hW
    go_simp
    exact hK' W hW
  go_simp
  refine hK' _ ?_
  clear hK' K
  refine barv_read (by go_simp) (by rfl) ?_
  apply Exists.intro
  refine ⟨fun s' W hW b K Q hK' => ?_, fun K hK' => ?_⟩
  · obtain ⟨q0, q1, q2, q3⟩ := hK _ W hW
    go_simp
    exact hK' W hW
  go_simp
  refine hK' _ ?_
  clear hK' K
  refine barv_turn (by go_simp) (by rfl) (fun W hW b K Q hK' => ?_) (fun u hu K hK' => ?_)
  · go_simp
    go_at_call 17
    refine (t1 W hW).mono ?_
    rintro x w' ⟨y, rfl, h1⟩
    exact hK' y w' h1
  obtain rfl : u = .tuple #[.int .i64 a1, .int .i64 a2] := by
    obtain ⟨W', hW'⟩ := hu
    exact e1.out u W' hW'
  clear hu t1 e1
  go_simp
  refine hK' _ ?_
  clear hK' K
  refine barv_read (by go_simp) (by rfl) ?_
  apply Exists.intro
  refine ⟨fun s' W hW b K Q hK' => ?_, fun K hK' => ?_⟩
  · obtain ⟨q0, q1, q2, q3⟩ := hK _ W hW
    go_simp
    exact hK' W hW
  go_simp
  refine hK' _ ?_
  clear hK' K
  refine barv_read (by go_simp) (by rfl) ?_
  apply Exists.intro
  refine ⟨fun s' W hW b K Q hK' => ?_, fun K hK' => ?_⟩
  · obtain ⟨q0, q1, q2, q3⟩ := hK _ W hW
    go_simp
    exact hK' W hW
  go_simp
  refine hK' _ ?_
  clear hK' K
  refine barv_read (by go_simp) (by rfl) ?_
  apply Exists.intro
  refine ⟨fun s' W hW b K Q hK' => ?_, fun K hK' => ?_⟩
  · obtain ⟨q0, q1, q2, q3⟩ := hK _ W hW
    go_simp
    exact hK' W hW
  go_simp
  refine hK' _ ?_
  clear hK' K
  refine barv_read (by go_simp) (by rfl) ?_
  apply Exists.intro
  refine ⟨fun s' W hW b K Q hK' => ?_, fun K hK' => ?_⟩
  · obtain ⟨q0, q1, q2, q3⟩ := hK _ W hW
    go_simp
    exact hK' W hW
  go_simp
  refine hK' _ ?_
  clear hK' K
  refine barv_read (by go_simp) (by rfl) ?_
  apply Exists.intro
  refine ⟨fun s' W hW b K Q hK' => ?_, fun K hK' => ?_⟩
  · obtain ⟨q0, q1, q2, q3⟩ := hK _ W hW
    go_simp
    exact hK' W hW
  go_simp
  refine hK' _ ?_
  clear hK' K
  refine barv_nil ?_
  intro w6 hw6
  have HF : Hid _ := HOut.out w6 m2 (HE.out _ w6 hw6)
  clear hK hw6 HE HPB CB
  go_wp2_with fail
  go_ret
  exact ⟨rfl, HF.out⟩
end Go.Proofs.Ytolobljlkdacjaa
