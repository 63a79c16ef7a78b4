import Derived.Test.YtolobljlkdacjaaXSeeS
/- A step of a side: Saw. -/
namespace Go.Proofs.Ytolobljlkdacjaa
open Go.RowKit Go

theorem scl_cells {w : World} {g n c : Nat} {ks : List (Int × Int × Value)} {j : Nat} {p : Int × Int × Value} (h : w.ownsRow 0 36 3 (.slice (some ⟨g, 0, none⟩) n c) ks.length (scl ks)) (hj : ks[j]? = some p) : w.cell? ⟨g, j * 3, none⟩ = some (.int .i64 p.1) ∧ w.cell? ⟨g, j * 3 + 1, none⟩ = some (.int .i64 p.2.1) ∧ w.cell? ⟨g, j * 3 + 2, none⟩ = some p.2.2 := by
  obtain ⟨q0, q1, q2⟩ := scl_get ks j p hj
  have c0 := h.cells (g := g) rfl _ _ q0
  have c1 := h.cells (g := g) rfl _ _ q1
  have c2 := h.cells (g := g) rfl _ _ q2
  rw [add_plain, Nat.zero_add] at c0 c1 c2
  exact ⟨c0, c1, c2⟩
set_option maxHeartbeats 1000000 in
set_option maxRecDepth 100000 in
theorem ask_15 (w : World) (o : Nat → Nat) (β sb : Nat) (m : Mg) (mb rb : Nat) (kv rv hv wv : Value) (ks : List (Int × Int × Value)) (A : List Value) (h : List Nat) (s : SK w o β sb m m mb rb kv rv hv wv ks A) (h4 : RowO w o (β + 4) wv h) (h5 : RowO w o (β + 5) hv h) (hh : h.length ≤ 2147483648) (n : Nat) (hA : A.length ≤ n) (oN oM : Int) (oT : Bool) (mn mx : Int) (sl : Value) (b1 : -9223372036854775808 ≤ oN) (b2 : oN ≤ 9223372036854775807) (b3 : -9223372036854775808 ≤ oM) (b4 : oM ≤ 9223372036854775807) (b5 : -9223372036854775808 ≤ mn) (b6 : mn ≤ 9223372036854775807) (hks : ks.length ≤ 100000000) :
    Calls Try.prog 30 #[.pointer (some ⟨sb, 0, none⟩), .agg #[.int .i64 15, .int .i64 oN, .int .i64 oM, .bool oT, .int .i64 mn, .int .i64 mx, sl]] w fun x w' => x = .returned (.bool true) ∧ ∃ o' ks', Sd w' o' β sb m ks' (n + 40) ∧ Ev (KS β) w o w' o' ∧ ks'.length ≤ ks.length + 1 := by
  obtain ⟨N, hN⟩ : ∃ N, N = w.heap.size := ⟨_, rfl⟩
  obtain ⟨w0, hw0⟩ : ∃ w0, w0 = w.alloc (.cells #[.int .i64 15, .int .i64 oN, .int .i64 oM, .bool oT, .int .i64 mn, .int .i64 mx, sl] 38) := ⟨_, rfl⟩
  obtain ⟨P, hP⟩ : ∃ P : World → Prop, P = fun W => PE w o β sb N #[.int .i64 15, .int .i64 oN, .int .i64 oM, .bool oT, .int .i64 mn, .int .i64 mx, sl] mb rb kv rv hv wv ks A h W m m := ⟨_, rfl⟩
  have hP0 : P w0 := by rw [hP, hw0, hN]; exact ⟨_, PW.begin s h4 h5 _⟩
  have hPd : ∀ W, P W → P W.drew := fun W hW => by rw [hP] at hW ⊢; exact hW.dr 1
  have hOut : ∀ W, P W → ∃ o' ks', Sd W o' β sb m ks' (n + 40) ∧ Ev (KS β) w o W o' ∧ ks'.length ≤ ks.length + 1 := fun W hW => by
    rw [hP] at hW
    obtain ⟨o', p⟩ := hW
    exact p.done hh (by omega)
  obtain ⟨ko, kc, hkv⟩ := row_slice s.kept.row
  subst hkv
  obtain ⟨nk, hnk⟩ : ∃ nk, nk = ks.length := ⟨_, rfl⟩
  have hc : ∀ W, P W → W.cell? ⟨N, 0, none⟩ = some (.int .i64 15) ∧ W.cell? ⟨N, 1, none⟩ = some (.int .i64 oN) ∧ W.cell? ⟨N, 2, none⟩ = some (.int .i64 oM) ∧ W.cell? ⟨N, 4, none⟩ = some (.int .i64 mn) ∧ W.cell? ⟨sb, 2, none⟩ = some (.slice ko nk kc) := fun W hW => by
    rw [hP] at hW
    obtain ⟨o', p⟩ := hW
    exact ⟨by rw [p.bxc]; rfl, by rw [p.bxc]; rfl, by rw [p.bxc]; rfl, by rw [p.bxc]; rfl, by rw [blk_cell p.s.blk, hnk]; rfl⟩
  obtain ⟨k0, -, -, -, k4⟩ := hc w0 hP0
  have Hw0 : Hid _ := hw0
  have HN : Hid (N = w.heap.size) := hN
  by_cases hz : ks.length = 0
  · have HF : Hid _ := hOut w0 hP0
    rw [hw0] at k0 k4
    rw [hN] at k0
    have hn0 : nk = 0 := by omega
    rw [hn0] at k4
    have _u : -9223372036854775808 ≤ oN ∧ oN ≤ 9223372036854775807 := ⟨b1, b2⟩
    clear hc hOut hPd hP hP0 s h4 h5 hh hA b1 b2 b3 b4 b5 b6 hks hz hn0 hnk hw0 hN _u
    go_enter Try.func30, Try.ntmps30
    go_wp2_with fail
    have hw0 := Hw0.out
    rw [← hw0]
    go_ret
    exact ⟨rfl, HF.out⟩
  · have hpk := pkN_lt mn (n := nk) (by omega)
    obtain ⟨j, hj⟩ : ∃ j, j = pkN mn nk := ⟨_, rfl⟩
    rw [← hj] at hpk
    obtain ⟨e, he⟩ : ∃ e, ks[j]? = some e := ⟨_, List.getElem?_eq_getElem (by omega)⟩
    obtain ⟨-, lst, hlst, hlen⟩ := s.kept.el j e he
    obtain ⟨xo, xc, hxs⟩ := hlst.slice
    obtain ⟨kg, hkg⟩ : ∃ kg, ko = some ⟨kg, 0, none⟩ := by
      rcases s.kept.row.2 with ⟨_, h0⟩ | ⟨g, c', cur, hv', _⟩
      · omega
      · injection hv' with hv'
        exact ⟨g, hv'⟩
    subst hkg
    obtain ⟨ln, hln⟩ : ∃ ln, ln = lst.length := ⟨_, rfl⟩
    obtain ⟨ea, hea⟩ : ∃ ea, ea = e.1 := ⟨_, rfl⟩
    obtain ⟨eb, heb⟩ : ∃ eb, eb = e.2.1 := ⟨_, rfl⟩
    have hck : ∀ W, P W → W.cell? ⟨kg, j * 3, none⟩ = some (.int .i64 ea) ∧ W.cell? ⟨kg, j * 3 + 1, none⟩ = some (.int .i64 eb) ∧ W.cell? ⟨kg, j * 3 + 2, none⟩ = some (.slice xo ln xc) := fun W hW => by
      rw [hP] at hW
      obtain ⟨o', p⟩ := hW
      obtain ⟨c0, c1, c2⟩ := scl_cells p.s.kept.row he
      exact ⟨by rw [hea]; exact c0, by rw [heb]; exact c1, by rw [hln, ← hxs]; exact c2⟩
    have hsee : ∀ W, P W → Calls Try.prog 60 #[.pointer (some ⟨sb, 0, none⟩), .agg #[.int .i64 ea, .int .i64 eb, .slice xo ln xc], .int .i64 oN, .int .i64 oM] W fun y W' => y = .returned (.bool true) ∧ P W' := fun W hW => by
      rw [hP] at hW ⊢
      obtain ⟨o', p⟩ := hW
      obtain ⟨-, lst', hl', hlen'⟩ := p.s.kept.el j e he
      obtain ⟨xo', xc', hx'⟩ := hl'.slice
      have e3 : Value.slice xo' lst'.length xc' = .slice xo ln xc := by rw [← hx', hxs, hln]
      injection e3 with e4 e5 e6
      subst e4 e6
      rw [hx'] at hl'
      have hq := seeS_any W sb mb rb m p.c0 p.c1 _ _ p.s.mf p.s.rf ea eb (lst'.map (fun n : Nat => (n : Int))) xo' xc' (by simp; omega) hl'.ir (fun hno => by
        rcases hl'.row.2 with ⟨e7, _⟩ | ⟨g, c', cur, hv', _⟩
        · injection e7
        · injection hv' with hv'
          rw [hno] at hv'; cases hv') oN oM b3 b4 b1 b2
      rw [List.length_map, e5] at hq
      refine hq.mono ?_
      rintro y W' ⟨rfl, t⟩
      exact ⟨rfl, _, p.no t⟩
    have hpick : ∀ W, Calls Try.prog 5 #[.int .i64 mn, .int .i64 nk] W fun y W' => y = .returned (.int .i64 j) ∧ W' = W := fun W => by
      rw [hj]
      exact pick_any mn nk W b5 b6 (by omega) (by omega)
    obtain ⟨C, hC⟩ : ∃ C : List Value → World → Prop, C = fun s W => match s with
      | [] => P W
      | [y] => y = .bool true ∧ P W
      | _ => False := ⟨_, rfl⟩
    have hK : ∀ s W, C s W → (W.cell? ⟨N, 1, none⟩ = some (.int .i64 oN) ∧ W.cell? ⟨N, 2, none⟩ = some (.int .i64 oM) ∧ W.cell? ⟨N, 4, none⟩ = some (.int .i64 mn) ∧ W.cell? ⟨sb, 2, none⟩ = some (.slice (some ⟨kg, 0, none⟩) nk kc)) ∧ W.cell? ⟨kg, j * 3, none⟩ = some (.int .i64 ea) ∧ W.cell? ⟨kg, j * 3 + 1, none⟩ = some (.int .i64 eb) ∧ W.cell? ⟨kg, j * 3 + 2, none⟩ = some (.slice xo ln xc) := fun s W hW => by
      rw [hC] at hW
      match s, hW with
      | [], hW => exact ⟨(hc W hW).2, hck W hW⟩
      | [_], hW => exact ⟨(hc W hW.2).2, hck W hW.2⟩
    have h0' : C [] w0.drew := by rw [hC]; exact hPd w0 hP0
    have t1 : ∀ W, C [] W → Calls Try.prog 60 #[.pointer (some ⟨sb, 0, none⟩), .agg #[.int .i64 ea, .int .i64 eb, .slice xo ln xc], .int .i64 oN, .int .i64 oM] W fun x W' => ∃ y, x = .returned y ∧ C [y] W' := fun W hW => by
      rw [hC] at hW ⊢
      exact (hsee W hW).mono (fun x W' ⟨e, h1⟩ => ⟨_, e, rfl, h1⟩)
    have e1 : Hid (∀ y W, C [y] W → y = .bool true) := fun y W hW => by rw [hC] at hW; exact hW.1
    have HE : Hid (∀ y W, C [y] W → ∃ o' ks', Sd W o' β sb m ks' (n + 40) ∧ Ev (KS β) w o W o' ∧ ks'.length ≤ ks.length + 1) := fun y W hW => by rw [hC] at hW; exact hOut W hW.2
    have hnz : ((nk : Int) == 0) = false := beq_eq_false_iff_ne.2 (by omega)
    have hjk : (j : Int) < nk := by omega
    have hks' : nk ≤ 100000000 := by omega
    have k4' := k4
    rw [hw0] at k0 k4'
    rw [hN] at k0
    clear hC hc hck hsee hOut hPd hP hP0 s h4 h5 hh hA b1 b2 b3 b4 b5 b6 hks hz hnk hw0 hN hj he hlst hlen hxs hln hea heb k4
    go_enter Try.func30, Try.ntmps30
    go_wp2_with fail
    have hw0 := Hw0.out
    rw [← HN.out, ← hw0]
    clear hw0 k0 k4'
    refine wp_region_barv [20] C (by kernel_rfl) (by kernel_rfl) (by kernel_rfl) h0' ?_
    clear h0'
    refine barv_read (by go_simp) (by rfl) ?_
    apply Exists.intro
    refine ⟨fun s' W hW b K Q hK' => ?_, fun K hK' => ?_⟩
    · obtain ⟨⟨q1, q2, q4, q5⟩, u0, u1, u2⟩ := hK _ W hW
      go_simp
      exact hK' W hW
    go_simp
    refine hK' _ ?_
    clear hK' K
    refine barv_read (by go_simp) (by rfl) ?_
    apply Exists.intro
    refine ⟨fun s' W hW b K Q hK' => ?_, fun K hK' => ?_⟩
    · obtain ⟨⟨q1, q2, q4, q5⟩, u0, u1, u2⟩ := hK _ W hW
      go_simp
      exact hK' W hW
    go_simp
    refine hK' _ ?_
    clear hK' K
    refine barv_read (by go_simp) (by rfl) ?_
    apply Exists.intro
    refine ⟨fun s' W hW b K Q hK' => ?_, fun K hK' => ?_⟩
    · obtain ⟨⟨q1, q2, q4, q5⟩, u0, u1, u2⟩ := hK _ W hW
      go_simp
      exact hK' W hW
    go_simp
    refine hK' _ ?_
    clear hK' K
    refine barv_read (by go_simp) (by rfl) ?_
    apply Exists.intro
    refine ⟨fun s' W hW b K Q hK' => ?_, fun K hK' => ?_⟩
    · obtain ⟨⟨q1, q2, q4, q5⟩, u0, u1, u2⟩ := hK _ W hW
      go_simp
      exact hK' W hW
    go_simp
    refine hK' _ ?_
    clear hK' K
    refine barv_read (by go_simp) (by rfl) ?_
    apply Exists.intro
    refine ⟨fun s' W hW b K Q hK' => ?_, fun K hK' => ?_⟩
    · obtain ⟨⟨q1, q2, q4, q5⟩, u0, u1, u2⟩ := hK _ W hW
      go_simp
      exact hK' W hW
    go_simp
    refine hK' _ ?_
    clear hK' K
    refine barv_read (by go_simp) (by rfl) ?_
    apply Exists.intro
    refine ⟨fun s' W hW b K Q hK' => ?_, fun K hK' => ?_⟩
    · obtain ⟨⟨q1, q2, q4, q5⟩, u0, u1, u2⟩ := hK _ W hW
      go_simp
      exact hK' W hW
    go_simp
    refine hK' _ ?_
    clear hK' K
    refine barv_read (by go_simp) (by rfl) ?_
    apply Exists.intro
    refine ⟨fun s' W hW b K Q hK' => ?_, fun K hK' => ?_⟩
    · obtain ⟨⟨q1, q2, q4, q5⟩, u0, u1, u2⟩ := hK _ W hW
      go_simp
      exact hK' W hW
    go_simp
    refine hK' _ ?_
    clear hK' K
    refine barv_read (by go_simp) (by rfl) ?_
    apply Exists.intro
    refine ⟨fun s' W hW b K Q hK' => ?_, fun K hK' => ?_⟩
    · obtain ⟨⟨q1, q2, q4, q5⟩, u0, u1, u2⟩ := hK _ W hW
      go_simp
      exact hK' W hW
    go_simp
    refine hK' _ ?_
    clear hK' K
    refine barv_read (by go_simp) (by rfl) ?_
    apply Exists.intro
    refine ⟨fun s' W hW b K Q hK' => ?_, fun K hK' => ?_⟩
    · obtain ⟨⟨q1, q2, q4, q5⟩, u0, u1, u2⟩ := hK _ W hW
      go_simp
      exact hK' W hW
    go_simp
    refine hK' _ ?_
    clear hK' K
    refine barv_read (by go_simp) (by rfl) ?_
    apply Exists.intro
    refine ⟨fun s' W hW b K Q hK' => ?_, fun K hK' => ?_⟩
    · obtain ⟨⟨q1, q2, q4, q5⟩, u0, u1, u2⟩ := hK _ W hW
      go_simp
      exact hK' W hW
    go_simp
    refine hK' _ ?_
    clear hK' K
    refine barv_read (by go_simp) (by rfl) ?_
    apply Exists.intro
    refine ⟨fun s' W hW b K Q hK' => ?_, fun K hK' => ?_⟩
    · obtain ⟨⟨q1, q2, q4, q5⟩, u0, u1, u2⟩ := hK _ W hW
      go_simp
      exact hK' W hW
    go_simp
    refine hK' _ ?_
    clear hK' K
    refine barv_read (by go_simp) (by rfl) ?_
    apply Exists.intro
    refine ⟨fun s' W hW b K Q hK' => ?_, fun K hK' => ?_⟩
    · obtain ⟨⟨q1, q2, q4, q5⟩, u0, u1, u2⟩ := hK _ W hW
      go_simp
      exact hK' W hW
    go_simp
    refine hK' _ ?_
    clear hK' K
    refine barv_read (by go_simp) (by rfl) ?_
    apply Exists.intro
    refine ⟨fun s' W hW b K Q hK' => ?_, fun K hK' => ?_⟩
    · obtain ⟨⟨q1, q2, q4, q5⟩, u0, u1, u2⟩ := hK _ W hW
      go_simp
      exact hK' W hW
    go_simp
    refine hK' _ ?_
    clear hK' K
    refine barv_read (by go_simp) (by rfl) ?_
    apply Exists.intro
    refine ⟨fun s' W hW b K Q hK' => ?_, fun K hK' => ?_⟩
    · go_simp
      go_at_call 5
      refine (hpick W).mono ?_
      rintro x w' ⟨rfl, rfl⟩
      exact hK' _ hW
    go_simp
    refine hK' _ ?_
    clear hK' K
    refine barv_read (by go_simp) (by rfl) ?_
    apply Exists.intro
    refine ⟨fun s' W hW b K Q hK' => ?_, fun K hK' => ?_⟩
    · obtain ⟨⟨q1, q2, q4, q5⟩, u0, u1, u2⟩ := hK _ W hW
      go_simp
      exact hK' W hW
    go_simp
    refine hK' _ ?_
    clear hK' K
    refine barv_read (by go_simp) (by rfl) ?_
    apply Exists.intro
    refine ⟨fun s' W hW b K Q hK' => ?_, fun K hK' => ?_⟩
    · obtain ⟨⟨q1, q2, q4, q5⟩, u0, u1, u2⟩ := hK _ W hW
      go_simp
      exact hK' W hW
    go_simp
    refine hK' _ ?_
    clear hK' K
    refine barv_read (by go_simp) (by rfl) ?_
    apply Exists.intro
    refine ⟨fun s' W hW b K Q hK' => ?_, fun K hK' => ?_⟩
    · obtain ⟨⟨q1, q2, q4, q5⟩, u0, u1, u2⟩ := hK _ W hW
      go_simp
      exact hK' W hW
    go_simp
    refine hK' _ ?_
    clear hK' K
    refine barv_read (by go_simp) (by rfl) ?_
    apply Exists.intro
    refine ⟨fun s' W hW b K Q hK' => ?_, fun K hK' => ?_⟩
    · obtain ⟨⟨q1, q2, q4, q5⟩, u0, u1, u2⟩ := hK _ W hW
      go_simp
      exact hK' W hW
    go_simp
    refine hK' _ ?_
    clear hK' K
    refine barv_read (by go_simp) (by rfl) ?_
    apply Exists.intro
    refine ⟨fun s' W hW b K Q hK' => ?_, fun K hK' => ?_⟩
    · obtain ⟨⟨q1, q2, q4, q5⟩, u0, u1, u2⟩ := hK _ W hW
      go_simp
      exact hK' W hW
    go_simp
    refine hK' _ ?_
    clear hK' K
    refine barv_read (by go_simp) (by rfl) ?_
    apply Exists.intro
    refine ⟨fun s' W hW b K Q hK' => ?_, fun K hK' => ?_⟩
    · obtain ⟨⟨q1, q2, q4, q5⟩, u0, u1, u2⟩ := hK _ W hW
      go_simp
      exact hK' W hW
    go_simp
    refine hK' _ ?_
    clear hK' K
    refine barv_turn (by go_simp) (by rfl) (fun W hW b K Q hK' => ?_) (fun u hu K hK' => ?_)
    · go_simp
      go_at_call 60
      refine (t1 W hW).mono ?_
      rintro x w' ⟨y, rfl, h1⟩
      exact hK' y w' h1
    obtain rfl : u = .bool true := by
      obtain ⟨W', hW'⟩ := hu
      exact e1.out u W' hW'
    clear hu t1 e1
    go_simp
    refine hK' _ ?_
    clear hK' K
    refine barv_read (by go_simp) (by rfl) ?_
    apply Exists.intro
    refine ⟨fun s' W hW b K Q hK' => ?_, fun K hK' => ?_⟩
    · obtain ⟨⟨q1, q2, q4, q5⟩, u0, u1, u2⟩ := hK _ W hW
      go_simp
      exact hK' W hW
    go_simp
    refine hK' _ ?_
    clear hK' K
    refine barv_nil ?_
    intro w5 hw5
    have HF : Hid _ := HE.out _ w5 hw5
    clear hK hw5 HE
    go_wp2_with fail
    go_ret
    exact ⟨rfl, HF.out⟩
end Go.Proofs.Ytolobljlkdacjaa
