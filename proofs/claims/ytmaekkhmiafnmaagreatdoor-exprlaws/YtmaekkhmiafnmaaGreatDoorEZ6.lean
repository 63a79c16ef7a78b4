import Derived.Test.YtmaekkhmiafnmaaGreatDoorEZ4
import Derived.Test.YtmaekkhmiafnmaaGreatDoorEC4
set_option maxHeartbeats 4000000
set_option maxRecDepth 100000
namespace Go.Proofs.YtmaekkhmiafnmaaGreatDoor
open Go.RowKit Go Go.Lib Go.Sort
theorem ppt_tail {w : World} {g i : Nat} {x : Nat × ByteArray} {ps : List (Nat × ByteArray)} (h : PPt w (some ⟨g, i, none⟩) (x :: ps)) : PPt w (some ⟨g, i + 1, none⟩) ps := fun k hk => by
  obtain ⟨d, hd⟩ := h.at (k := k + 1) (x := ps[k]) (by rw [List.getElem?_cons_succ]; exact List.getElem?_eq_getElem hk)
  refine ⟨g, i + 1, rfl, d, fun W t => ?_⟩
  rw [show i + 1 + k = i + (k + 1) by omega]
  exact hd W t
theorem printTest_null (no : Bool) (x : Nat × ByteArray) (ao : Option Addr) (b c : Nat) (w : World) (hs : HSh w) (c0 : w.cell? ⟨b, 0, none⟩ = some (.int .i64 11)) (c1 : w.cell? ⟨b, 1, none⟩ = some (.bool no)) (c6 : w.cell? ⟨b, 6, none⟩ = some (.slice ao 1 c)) (hp : PPt w ao [x]) :
    Calls Tryz.prog 27 #[ptV b] w fun z w' => z = .returned (.string (wiP 5 x ++ (⟨#[32]⟩ ++ wdT 11 no ++ ⟨#[32]⟩) ++ ⟨#[110, 117, 108, 108]⟩)) ∧ Tch (fun _ => False) w w' := by
  have hbl : b < w.heap.size := cell_lt c0
  obtain ⟨g, i, rfl, hgl⟩ := hp.some (by simp)
  obtain ⟨d0, h0⟩ := hp.at (k := 0) rfl
  have s0 := wiP_size 5 x
  have z0 := (h0 w (Tch.refl _ _)).2.sz
  obtain ⟨a0, ha0⟩ : ∃ a, a = wiP 5 x := ⟨_, rfl⟩
  have H0 : Hid (∀ W, Tch (fun _ => False) w W → Calls Tryz.prog 24 #[ptV d0, .int .i64 5] W fun z w' => z = .returned (.string a0) ∧ Tch (fun _ => False) W w') := fun W t => by rw [ha0]; exact within_any 5 x d0 W (h0 W (t.mono (fun _ _ h => h.elim))).2
  have C0 : Hid (∀ W, Tch (fun _ => False) w W → W.cell? ⟨g, i + 0, none⟩ = some (ptV d0)) := fun W t => (h0 W (t.mono (fun _ _ h => h.elim))).1
  rw [← ha0] at s0 ⊢
  have ht := wdT_size 11 no
  obtain ⟨u, hu⟩ : ∃ u, u = wdT 11 no := ⟨_, rfl⟩
  rw [← hu] at ht ⊢
  have HW : Hid (∀ W, Tch (fun _ => False) w W → Calls Tryz.prog 58 #[ptV b] W fun z w' => z = .returned (.string u) ∧ w' = W) := fun W t => by
    rw [hu]
    exact words_any 11 no b W (by decide) (hs.tch t (fun h => h)) ((t.cell (p := ⟨b, 0, none⟩) hbl (fun h => h)).trans c0) ((t.cell (p := ⟨b, 1, none⟩) hbl (fun h => h)).trans c1)
  have HC : Hid (∀ W, Tch (fun _ => False) w W → W.cell? ⟨b, 0, none⟩ = some (.int .i64 11) ∧ W.cell? ⟨b, 6, none⟩ = some (.slice (some ⟨g, i, none⟩) 1 c)) := fun W t => ⟨(t.cell (p := ⟨b, 0, none⟩) hbl (fun h => h)).trans c0, (t.cell (p := ⟨b, 6, none⟩) hbl (fun h => h)).trans c6⟩
  have q0 := C0.out w (Tch.refl _ _)
  rw [Nat.add_zero] at q0
  have r1 : ¬ 9223372036854775807 < 1 + u.size := by omega
  have r2 : ¬ 9223372036854775807 < 1 + u.size + 1 := by omega
  have r3 : ¬ 9223372036854775807 < a0.size + (1 + u.size + 1) := by omega
  have r4 : ¬ 9223372036854775807 < a0.size + (1 + u.size + 1) + 4 := by omega
  clear hu hs hp c1 h0 ha0 s0 z0 ht
  go_enter Tryz.func27, Tryz.ntmps27
  go_wp2_with (first
    | (go_at_call 24; refine (H0.out _ (Tch.refl _ _)).mono ?_; rintro z v1 ⟨rfl, t1⟩)
    | (go_at_call 58; refine (HW.out _ t1).mono ?_; rintro z v2 ⟨rfl, rfl⟩; obtain ⟨k0, k6⟩ := HC.out _ t1))
  go_ret
  exact ⟨rfl, t1⟩
theorem printTest_two (o : Nat) (no : Bool) (x y : Nat × ByteArray) (ao : Option Addr) (b c : Nat) (w : World) (ho : 5 ≤ o ∧ o ≤ 14 ∧ o ≠ 11 ∧ o ≠ 12 ∧ o ≠ 13) (hs : HSh w) (c0 : w.cell? ⟨b, 0, none⟩ = some (.int .i64 (o : Nat))) (c1 : w.cell? ⟨b, 1, none⟩ = some (.bool no)) (c6 : w.cell? ⟨b, 6, none⟩ = some (.slice ao 2 c)) (hp : PPt w ao [x, y]) :
    Calls Tryz.prog 27 #[ptV b] w fun z w' => z = .returned (.string (wiP 5 x ++ (⟨#[32]⟩ ++ wdT o no ++ ⟨#[32]⟩) ++ wiP 5 y)) ∧ Tch (fun _ => False) w w' := by
  have hbl : b < w.heap.size := cell_lt c0
  obtain ⟨g, i, rfl, hgl⟩ := hp.some (by simp)
  have b11 : ((o : Int) == 11) = false := by simp; omega
  have b12 : ((o : Int) == 12) = false := by simp; omega
  have b13 : ((o : Int) == 13) = false := by simp; omega
  obtain ⟨d0, h0⟩ := hp.at (k := 0) rfl
  have s0 := wiP_size 5 x
  have z0 := (h0 w (Tch.refl _ _)).2.sz
  obtain ⟨a0, ha0⟩ : ∃ a, a = wiP 5 x := ⟨_, rfl⟩
  have H0 : Hid (∀ W, Tch (fun _ => False) w W → Calls Tryz.prog 24 #[ptV d0, .int .i64 5] W fun z w' => z = .returned (.string a0) ∧ Tch (fun _ => False) W w') := fun W t => by rw [ha0]; exact within_any 5 x d0 W (h0 W (t.mono (fun _ _ h => h.elim))).2
  have C0 : Hid (∀ W, Tch (fun _ => False) w W → W.cell? ⟨g, i + 0, none⟩ = some (ptV d0)) := fun W t => (h0 W (t.mono (fun _ _ h => h.elim))).1
  rw [← ha0] at s0 ⊢
  obtain ⟨d1, h1⟩ := hp.at (k := 1) rfl
  have s1 := wiP_size 5 y
  have z1 := (h1 w (Tch.refl _ _)).2.sz
  obtain ⟨a1, ha1⟩ : ∃ a, a = wiP 5 y := ⟨_, rfl⟩
  have H1 : Hid (∀ W, Tch (fun _ => False) w W → Calls Tryz.prog 24 #[ptV d1, .int .i64 5] W fun z w' => z = .returned (.string a1) ∧ Tch (fun _ => False) W w') := fun W t => by rw [ha1]; exact within_any 5 y d1 W (h1 W (t.mono (fun _ _ h => h.elim))).2
  have C1 : Hid (∀ W, Tch (fun _ => False) w W → W.cell? ⟨g, i + 1, none⟩ = some (ptV d1)) := fun W t => (h1 W (t.mono (fun _ _ h => h.elim))).1
  rw [← ha1] at s1 ⊢
  have ht := wdT_size o no
  obtain ⟨u, hu⟩ : ∃ u, u = wdT o no := ⟨_, rfl⟩
  rw [← hu] at ht ⊢
  have HW : Hid (∀ W, Tch (fun _ => False) w W → Calls Tryz.prog 58 #[ptV b] W fun z w' => z = .returned (.string u) ∧ w' = W) := fun W t => by
    rw [hu]
    exact words_any o no b W (by omega) (hs.tch t (fun h => h)) ((t.cell (p := ⟨b, 0, none⟩) hbl (fun h => h)).trans c0) ((t.cell (p := ⟨b, 1, none⟩) hbl (fun h => h)).trans c1)
  have HC : Hid (∀ W, Tch (fun _ => False) w W → W.cell? ⟨b, 0, none⟩ = some (.int .i64 (o : Nat)) ∧ W.cell? ⟨b, 6, none⟩ = some (.slice (some ⟨g, i, none⟩) 2 c)) := fun W t => ⟨(t.cell (p := ⟨b, 0, none⟩) hbl (fun h => h)).trans c0, (t.cell (p := ⟨b, 6, none⟩) hbl (fun h => h)).trans c6⟩
  have q0 := C0.out w (Tch.refl _ _)
  rw [Nat.add_zero] at q0
  have r1 : ¬ 9223372036854775807 < 1 + u.size := by omega
  have r2 : ¬ 9223372036854775807 < 1 + u.size + 1 := by omega
  have r3 : ¬ 9223372036854775807 < a0.size + (1 + u.size + 1) := by omega
  have r4 : ¬ 9223372036854775807 < a0.size + (1 + u.size + 1) + a1.size := by omega
  clear hu hs hp c1 h0 ha0 s0 z0 h1 ha1 s1 z1 ht
  go_enter Tryz.func27, Tryz.ntmps27
  go_wp2_with (first
    | (go_at_call 24; with_reducible refine (H0.out _ (Tch.refl _ _)).mono ?_; rintro z v1 ⟨rfl, t1⟩)
    | (go_at_call 58; refine (HW.out _ t1).mono ?_; rintro z v2 ⟨rfl, rfl⟩; obtain ⟨k0, k6⟩ := HC.out _ t1; have q1 := C1.out _ t1))
  refine (H1.out _ t1).mono ?_
  rintro z v3 ⟨rfl, t3⟩
  go_wp2_with fail
  go_ret
  exact ⟨rfl, t1.trans' t3⟩
theorem printTest_in (no : Bool) (x : Nat × ByteArray) (ps : List (Nat × ByteArray)) (ao : Option Addr) (b c : Nat) (w : World) (hs : HSh w) (c0 : w.cell? ⟨b, 0, none⟩ = some (.int .i64 12)) (c1 : w.cell? ⟨b, 1, none⟩ = some (.bool no)) (c6 : w.cell? ⟨b, 6, none⟩ = some (.slice ao (ps.length + 1) c)) (hp : PPt w ao (x :: ps)) (hc : ps.length + 1 ≤ c) (hl : ps.length ≤ 1000000) (hsz : (prLs true ps).size ≤ 100000000) :
    Calls Tryz.prog 27 #[ptV b] w fun z w' => z = .returned (.string (wiP 5 x ++ (⟨#[32]⟩ ++ wdT 12 no ++ ⟨#[32]⟩) ++ ⟨#[40]⟩ ++ prLs true ps ++ ⟨#[41]⟩)) ∧ Tch (fun _ => False) w w' := by
  have hbl : b < w.heap.size := cell_lt c0
  obtain ⟨g, i, rfl, hgl⟩ := hp.some (by simp)
  have hp1 := ppt_tail hp
  have HL : Hid (∀ W, Tch (fun _ => False) w W → ∀ c', Calls Tryz.prog 26 #[.slice (some ⟨g, i + 1, none⟩) ps.length c'] W fun z w' => z = .returned (.string (prLs true ps)) ∧ Tch (fun _ => False) W w') := fun W t c' => printList_any ps _ c' W (hp1.tch (t.mono (fun _ _ h => h.elim))) hsz hl
  have HL0 : Hid (ps.length = 0 → ∀ W, Tch (fun _ => False) w W → ∀ ao c', Calls Tryz.prog 26 #[.slice ao 0 c'] W fun z w' => z = .returned (.string (prLs true ps)) ∧ Tch (fun _ => False) W w') := fun h W t ao c' => by
    have h := List.eq_nil_of_length_eq_zero h
    subst h
    exact printList_any [] ao c' W (fun k hk => by simp at hk) (by decide) (by simp)
  obtain ⟨L, hL⟩ : ∃ L, L = prLs true ps := ⟨_, rfl⟩
  rw [← hL] at HL HL0 hsz ⊢
  obtain ⟨n, hn⟩ : ∃ n, n = ps.length := ⟨_, rfl⟩
  rw [← hn] at HL HL0 hc hl c6
  obtain ⟨d0, h0⟩ := hp.at (k := 0) rfl
  have s0 := wiP_size 5 x
  have z0 := (h0 w (Tch.refl _ _)).2.sz
  obtain ⟨a0, ha0⟩ : ∃ a, a = wiP 5 x := ⟨_, rfl⟩
  have H0 : Hid (∀ W, Tch (fun _ => False) w W → Calls Tryz.prog 24 #[ptV d0, .int .i64 5] W fun z w' => z = .returned (.string a0) ∧ Tch (fun _ => False) W w') := fun W t => by rw [ha0]; exact within_any 5 x d0 W (h0 W (t.mono (fun _ _ h => h.elim))).2
  have C0 : Hid (∀ W, Tch (fun _ => False) w W → W.cell? ⟨g, i + 0, none⟩ = some (ptV d0)) := fun W t => (h0 W (t.mono (fun _ _ h => h.elim))).1
  rw [← ha0] at s0 ⊢
  have ht := wdT_size 12 no
  obtain ⟨u, hu⟩ : ∃ u, u = wdT 12 no := ⟨_, rfl⟩
  rw [← hu] at ht ⊢
  have HW : Hid (∀ W, Tch (fun _ => False) w W → Calls Tryz.prog 58 #[ptV b] W fun z w' => z = .returned (.string u) ∧ w' = W) := fun W t => by
    rw [hu]
    exact words_any 12 no b W (by decide) (hs.tch t (fun h => h)) ((t.cell (p := ⟨b, 0, none⟩) hbl (fun h => h)).trans c0) ((t.cell (p := ⟨b, 1, none⟩) hbl (fun h => h)).trans c1)
  have HC : Hid (∀ W, Tch (fun _ => False) w W → W.cell? ⟨b, 0, none⟩ = some (.int .i64 12) ∧ W.cell? ⟨b, 6, none⟩ = some (.slice (some ⟨g, i, none⟩) (n + 1) c)) := fun W t => ⟨(t.cell (p := ⟨b, 0, none⟩) hbl (fun h => h)).trans c0, (t.cell (p := ⟨b, 6, none⟩) hbl (fun h => h)).trans c6⟩
  have q0 := C0.out w (Tch.refl _ _)
  rw [Nat.add_zero] at q0
  have r1 : ¬ 9223372036854775807 < 1 + u.size := by omega
  have r2 : ¬ 9223372036854775807 < 1 + u.size + 1 := by omega
  have r3 : ¬ 9223372036854775807 < a0.size + (1 + u.size + 1) := by omega
  have r4 : ¬ 9223372036854775807 < a0.size + (1 + u.size + 1) + 1 := by omega
  have r5 : ¬ 9223372036854775807 < a0.size + (1 + u.size + 1) + 1 + L.size := by omega
  have r6 : ¬ 9223372036854775807 < a0.size + (1 + u.size + 1) + 1 + L.size + 1 := by omega
  have i1 : (1 : Int) ≤ ((n + 1 : Nat) : Int) := by omega
  have i2 : ((n + 1 : Nat) : Int) ≤ (c : Int) := by omega
  have i3 : ((n + 1 : Nat) : Int) - 1 = (n : Int) := by omega
  clear hL hn hp1 hu hs hp c1 h0 ha0 s0 z0 ht
  by_cases hc1 : c = 1
  · subst hc1
    obtain rfl : n = 0 := by omega
    go_enter Tryz.func27, Tryz.ntmps27
    go_wp2_with (first
      | (go_at_call 24; refine (H0.out _ (Tch.refl _ _)).mono ?_; rintro z v1 ⟨rfl, t1⟩)
      | (go_at_call 58; refine (HW.out _ t1).mono ?_; rintro z v2 ⟨rfl, rfl⟩; obtain ⟨k0, k6⟩ := HC.out _ t1)
      | (go_at_call 26; refine (HL0.out (by first | trivial | rfl) _ t1 _ _).mono ?_; rintro z v3 ⟨rfl, t3⟩))
    go_ret
    exact ⟨rfl, t1.trans' t3⟩
  · go_enter Tryz.func27, Tryz.ntmps27
    go_wp2_with (first
      | (go_at_call 24; refine (H0.out _ (Tch.refl _ _)).mono ?_; rintro z v1 ⟨rfl, t1⟩)
      | (go_at_call 58; refine (HW.out _ t1).mono ?_; rintro z v2 ⟨rfl, rfl⟩; obtain ⟨k0, k6⟩ := HC.out _ t1)
      | (go_at_call 26; refine (HL.out _ t1 _).mono ?_; rintro z v3 ⟨rfl, t3⟩))
    go_ret
    exact ⟨rfl, t1.trans' t3⟩
theorem printTest_between (no : Bool) (x y v : Nat × ByteArray) (ao : Option Addr) (b c : Nat) (w : World) (hs : HSh w) (c0 : w.cell? ⟨b, 0, none⟩ = some (.int .i64 13)) (c1 : w.cell? ⟨b, 1, none⟩ = some (.bool no)) (c6 : w.cell? ⟨b, 6, none⟩ = some (.slice ao 3 c)) (hp : PPt w ao [x, y, v]) :
    Calls Tryz.prog 27 #[ptV b] w fun z w' => z = .returned (.string (wiP 5 x ++ (⟨#[32]⟩ ++ wdT 13 no ++ ⟨#[32]⟩) ++ wiP 5 y ++ ⟨#[32, 97, 110, 100, 32]⟩ ++ wiP 5 v)) ∧ Tch (fun _ => False) w w' := by
  have hbl : b < w.heap.size := cell_lt c0
  obtain ⟨g, i, rfl, hgl⟩ := hp.some (by simp)
  obtain ⟨d0, h0⟩ := hp.at (k := 0) rfl
  have s0 := wiP_size 5 x
  have z0 := (h0 w (Tch.refl _ _)).2.sz
  obtain ⟨a0, ha0⟩ : ∃ a, a = wiP 5 x := ⟨_, rfl⟩
  have H0 : Hid (∀ W, Tch (fun _ => False) w W → Calls Tryz.prog 24 #[ptV d0, .int .i64 5] W fun z w' => z = .returned (.string a0) ∧ Tch (fun _ => False) W w') := fun W t => by rw [ha0]; exact within_any 5 x d0 W (h0 W (t.mono (fun _ _ h => h.elim))).2
  have C0 : Hid (∀ W, Tch (fun _ => False) w W → W.cell? ⟨g, i + 0, none⟩ = some (ptV d0)) := fun W t => (h0 W (t.mono (fun _ _ h => h.elim))).1
  rw [← ha0] at s0 ⊢
  obtain ⟨d1, h1⟩ := hp.at (k := 1) rfl
  have s1 := wiP_size 5 y
  have z1 := (h1 w (Tch.refl _ _)).2.sz
  obtain ⟨a1, ha1⟩ : ∃ a, a = wiP 5 y := ⟨_, rfl⟩
  have H1 : Hid (∀ W, Tch (fun _ => False) w W → Calls Tryz.prog 24 #[ptV d1, .int .i64 5] W fun z w' => z = .returned (.string a1) ∧ Tch (fun _ => False) W w') := fun W t => by rw [ha1]; exact within_any 5 y d1 W (h1 W (t.mono (fun _ _ h => h.elim))).2
  have C1 : Hid (∀ W, Tch (fun _ => False) w W → W.cell? ⟨g, i + 1, none⟩ = some (ptV d1)) := fun W t => (h1 W (t.mono (fun _ _ h => h.elim))).1
  rw [← ha1] at s1 ⊢
  obtain ⟨d2, h2⟩ := hp.at (k := 2) rfl
  have s2 := wiP_size 5 v
  have z2 := (h2 w (Tch.refl _ _)).2.sz
  obtain ⟨a2, ha2⟩ : ∃ a, a = wiP 5 v := ⟨_, rfl⟩
  have H2 : Hid (∀ W, Tch (fun _ => False) w W → Calls Tryz.prog 24 #[ptV d2, .int .i64 5] W fun z w' => z = .returned (.string a2) ∧ Tch (fun _ => False) W w') := fun W t => by rw [ha2]; exact within_any 5 v d2 W (h2 W (t.mono (fun _ _ h => h.elim))).2
  have C2 : Hid (∀ W, Tch (fun _ => False) w W → W.cell? ⟨g, i + 2, none⟩ = some (ptV d2)) := fun W t => (h2 W (t.mono (fun _ _ h => h.elim))).1
  rw [← ha2] at s2 ⊢
  have ht := wdT_size 13 no
  obtain ⟨u, hu⟩ : ∃ u, u = wdT 13 no := ⟨_, rfl⟩
  rw [← hu] at ht ⊢
  have HW : Hid (∀ W, Tch (fun _ => False) w W → Calls Tryz.prog 58 #[ptV b] W fun z w' => z = .returned (.string u) ∧ w' = W) := fun W t => by
    rw [hu]
    exact words_any 13 no b W (by decide) (hs.tch t (fun h => h)) ((t.cell (p := ⟨b, 0, none⟩) hbl (fun h => h)).trans c0) ((t.cell (p := ⟨b, 1, none⟩) hbl (fun h => h)).trans c1)
  have HC : Hid (∀ W, Tch (fun _ => False) w W → W.cell? ⟨b, 0, none⟩ = some (.int .i64 13) ∧ W.cell? ⟨b, 6, none⟩ = some (.slice (some ⟨g, i, none⟩) 3 c)) := fun W t => ⟨(t.cell (p := ⟨b, 0, none⟩) hbl (fun h => h)).trans c0, (t.cell (p := ⟨b, 6, none⟩) hbl (fun h => h)).trans c6⟩
  have q0 := C0.out w (Tch.refl _ _)
  rw [Nat.add_zero] at q0
  have r1 : ¬ 9223372036854775807 < 1 + u.size := by omega
  have r2 : ¬ 9223372036854775807 < 1 + u.size + 1 := by omega
  have r3 : ¬ 9223372036854775807 < a0.size + (1 + u.size + 1) := by omega
  have r4 : ¬ 9223372036854775807 < a0.size + (1 + u.size + 1) + a1.size := by omega
  have r5 : ¬ 9223372036854775807 < a0.size + (1 + u.size + 1) + a1.size + 5 := by omega
  have r6 : ¬ 9223372036854775807 < a0.size + (1 + u.size + 1) + a1.size + 5 + a2.size := by omega
  clear hu hs hp c1 h0 ha0 s0 z0 h1 ha1 s1 z1 h2 ha2 s2 z2 ht
  go_enter Tryz.func27, Tryz.ntmps27
  go_wp2_with (first
    | (go_at_call 24; refine (H0.out _ (Tch.refl _ _)).mono ?_; rintro z v1 ⟨rfl, t1⟩)
    | (go_at_call 58; refine (HW.out _ t1).mono ?_; rintro z v2 ⟨rfl, rfl⟩; obtain ⟨k0, k6⟩ := HC.out _ t1))
  have m6 := cell_regrown k6
  have m1 := cell_regrown (C1.out _ t1)
  have m2 := cell_regrown (C2.out _ t1)
  have e1 := fun (d : Nat) (os : Array Obj) => regrown_calls (w := v2) (fun W t => H1.out W (t1.trans' t)) d os
  have e2 := fun (d : Nat) (os : Array Obj) => regrown_calls (w := v2) (fun W t => H2.out W (t1.trans' t)) d os
  refine wp_region_quiet_below (by kernel_rfl) (by kernel_rfl) ?_
  repeat (quiet_step (fail))
  quiet_step ((go_at_call 24; exact e1 _ _))
  repeat (quiet_step (fail))
  quiet_step ((go_at_call 24; exact e2 _ _))
  repeat (quiet_step (fail))
  refine wpQuiet_nil ?_
  rintro w2 ⟨p, rfl⟩
  have T2 := Tch.regrown v2 p.d p.os
  go_wp2_with fail
  go_ret
  exact ⟨rfl, t1.trans' T2⟩
end Go.Proofs.YtmaekkhmiafnmaaGreatDoor
namespace Go.Proofs.YtmaekkhmiafnmaaGreatDoor
open Go.RowKit Go Go.Lib Go.Sort
theorem printRow_any (o : Nat) (x y : Nat × ByteArray) (ao : Option Addr) (b c : Nat) (w : World) (ho : o < 32) (hs : HSh w) (c0 : w.cell? ⟨b, 0, none⟩ = some (.int .i64 (o : Nat))) (c6 : w.cell? ⟨b, 6, none⟩ = some (.slice ao 2 c)) (hp : PPt w ao [x, y]) :
    Calls Tryz.prog 28 #[ptV b] w fun z w' => z = .returned (.string (wiP (lvl o) x ++ ⟨#[32]⟩ ++ wd o ++ ⟨#[32]⟩ ++ wiP (lvl o + 1) y)) ∧ Tch (fun _ => False) w w' := by
  obtain ⟨d0, d1, d2, d3⟩ := shp4_of hs ho
  have hoI : (o : Int) < 32 := by omega
  have hd := wd_size o
  have hsl := hs.lt
  have hbl : b < w.heap.size := cell_lt c0
  obtain ⟨g, i, rfl, hgl⟩ := hp.some (by simp)
  obtain ⟨dx, hx⟩ := hp.at (k := 0) rfl
  obtain ⟨dy, hy⟩ := hp.at (k := 1) rfl
  rw [Nat.add_zero] at hx
  have hul : lvl o ≤ 9 := by
    have : ∀ k, k < 32 → lvl k ≤ 9 := by decide
    exact this o ho
  have sx := wiP_size (lvl o) x
  have sy := wiP_size (lvl o + 1) y
  have sx2 := (hx w (Tch.refl _ _)).2.sz
  have sy2 := (hy w (Tch.refl _ _)).2.sz
  obtain ⟨u, hu⟩ : ∃ u, u = wd o := ⟨_, rfl⟩
  obtain ⟨l, hl⟩ : ∃ u, u = lvl o := ⟨_, rfl⟩
  rw [← hu] at d0 hd ⊢
  rw [← hl] at d1 hul sx sy ⊢
  obtain ⟨a1, ha1⟩ : ∃ a, a = wiP l x := ⟨_, rfl⟩
  obtain ⟨a2, ha2⟩ : ∃ a, a = wiP (l + 1) y := ⟨_, rfl⟩
  have Hwx : Hid (∀ W, Tch (fun _ => False) w W → Calls Tryz.prog 24 #[ptV dx, .int .i64 (l : Nat)] W fun z w' => z = .returned (.string a1) ∧ Tch (fun _ => False) W w') := fun W t => by rw [ha1]; exact within_any l x dx W (hx W (t.mono (fun _ _ h => h.elim))).2
  have Hwy : Hid (∀ W, Tch (fun _ => False) w W → Calls Tryz.prog 24 #[ptV dy, .int .i64 ((l : Int) + 1)] W fun z w' => z = .returned (.string a2) ∧ Tch (fun _ => False) W w') := fun W t => by rw [ha2]; exact within_any (l + 1) y dy W (hy W (t.mono (fun _ _ h => h.elim))).2
  rw [← ha1] at sx ⊢
  rw [← ha2] at sy ⊢
  have hlI : (l : Int) ≤ 9 := by omega
  have k32 : (⟨#[32]⟩ : ByteArray).size = 1 := rfl
  have r1 : ¬ 9223372036854775807 < a1.size + 1 := by omega
  have r2 : ¬ 9223372036854775807 < a1.size + 1 + u.size := by omega
  have r3 : ¬ 9223372036854775807 < a1.size + 1 + u.size + 1 := by omega
  have r4 : ¬ 9223372036854775807 < a1.size + 1 + u.size + 1 + a2.size := by omega
  clear k32 sx sy sx2 sy2 hd
  have hlw : IntKind.i64.wrap ((l : Int) + 1) = (l : Int) + 1 := by rw [IntKind.wrap_i64]; omega
  have hlw2 : wrap64 ((l : Int) + 1) = (l : Int) + 1 := by unfold wrap64; omega
  obtain ⟨w1, hw1⟩ : ∃ w1, w1 = w.alloc (.cells #[.string u, .int .i64 (l : Nat), .int .i64 (few o : Nat), .int .i64 (mst o : Nat)] 72) := ⟨_, rfl⟩
  have t0 : Tch (fun _ => False) w w1 := by rw [hw1]; exact Tch.alloc _ _ _
  have b1 : w1.heap[w.heap.size]? = some (.cells #[.string u, .int .i64 (l : Nat), .int .i64 (few o : Nat), .int .i64 (mst o : Nat)] 72 (0, 0)) := by rw [hw1]; exact alloc_new _ _
  have HS : Hid (∀ W, Tch (fun _ => False) w1 W → Tch (fun _ => False) w1 W ∧ W.cell? ⟨b, 6, none⟩ = some (.slice (some ⟨g, i, none⟩) 2 c) ∧ W.cell? ⟨g, i, none⟩ = some (ptV dx) ∧ W.cell? ⟨g, i + 1, none⟩ = some (ptV dy) ∧ W.cell? ⟨w.heap.size, 0, none⟩ = some (.string u) ∧ W.cell? ⟨w.heap.size, 1, none⟩ = some (.int .i64 (l : Nat))) := fun W t => by
    have T := t0.trans' t
    have bW := (t.block w.heap.size (blk_lt b1) (fun h => h)).trans b1
    exact ⟨t, (T.cell (p := ⟨b, 6, none⟩) hbl (fun h => h)).trans c6, (hx W (T.mono (fun _ _ h => h.elim))).1, (hy W (T.mono (fun _ _ h => h.elim))).1, by rw [blk_cell bW]; rfl, by rw [blk_cell bW]; rfl⟩
  have HT : Hid (∀ W, Tch (fun _ => False) w1 W → Tch (fun _ => False) w W) := fun W t => t0.trans' t
  have Hw1 : Hid _ := hw1
  clear hx hy hp hu hl ha1 ha2 hs t0 b1 hw1 c6 ho
  go_enter Tryz.func28, Tryz.ntmps28
  go_wp2_with fail
  rw [← Hw1.out]
  clear d0 d1 d2 d3 c0
  obtain ⟨_, q0, q1, q2, q3, q4⟩ := HS.out w1 (Tch.refl _ _)
  have k0 := cell_regrown q0
  have k1 := cell_regrown q1
  have k2 := cell_regrown q2
  have k3 := cell_regrown q3
  have k4 := cell_regrown q4
  have e1 := fun (d : Nat) (os : Array Obj) => regrown_calls (w := w1) (fun W t => Hwx.out W (HT.out W t)) d os
  have e2 := fun (d : Nat) (os : Array Obj) => regrown_calls (w := w1) (fun W t => Hwy.out W (HT.out W t)) d os
  clear q0 q1 q2 q3 q4 Hwx Hwy HS
  refine wp_region_quiet_below (by kernel_rfl) (by kernel_rfl) ?_
  repeat (quiet_step (fail))
  quiet_step ((go_at_call 24; exact e1 _ _))
  repeat (quiet_step (fail))
  quiet_step ((go_at_call 24; exact e2 _ _))
  repeat (quiet_step (fail))
  refine wpQuiet_nil ?_
  rintro w2 ⟨p, rfl⟩
  have T2 := Tch.regrown w1 p.d p.os
  go_wp2_with fail
  go_ret
  exact ⟨rfl, HT.out _ T2⟩
end Go.Proofs.YtmaekkhmiafnmaaGreatDoor
namespace Go.Proofs.YtmaekkhmiafnmaaGreatDoor
open Go.RowKit Go Go.Lib Go.Sort
structure HG (w : World) : Prop where
  wds : HWd w
  lib : HV w
  shp : HSh w
  far : 10 ≤ w.heap.size
theorem HG.ge {w w' : World} (h : HG w) (t : Tch (fun i => w.heap.size ≤ i) w w') : HG w' :=
  ⟨h.wds.tch t (fun e => by have := h.wds.lt; omega), h.lib.tch t (fun g hg e => by have := h.far; omega), h.shp.tch t (fun e => by have := h.shp.lt; omega), Nat.le_trans h.far t.size⟩
theorem HG.no {w w' : World} (h : HG w) (t : Tch (fun _ => False) w w') : HG w' := h.ge (t.mono (fun _ _ h => h.elim))
theorem pr_lit (v : Val) (b : Nat) (w : World) (hi : i64v v.n) (hg : HG w) (c0 : w.cell? ⟨b, 0, none⟩ = some (.int .i64 0)) (c2 : w.cell? ⟨b, 2, none⟩ = some (.int .i64 v.k)) (c3 : w.cell? ⟨b, 3, none⟩ = some (.int .i64 v.n)) (c4 : w.cell? ⟨b, 4, none⟩ = some (.string v.s)) :
    Calls Tryz.prog 12 #[ptV b] w fun z w' => z = .returned (.string (prB v)) ∧ Tch (fun _ => False) w w' := by
  have q := print_any v hi w hg.wds hg.lib
  clear hi hg
  go_enter Tryz.func12, Tryz.ntmps12
  go_wp2_with (go_at_call 23; refine q.mono ?_; rintro z v1 ⟨rfl, t1⟩)
  go_ret
  exact ⟨rfl, t1⟩
theorem pr_col (nm : ByteArray) (b : Nat) (w : World) (c0 : w.cell? ⟨b, 0, none⟩ = some (.int .i64 1)) (c5 : w.cell? ⟨b, 5, none⟩ = some (.string nm)) :
    Calls Tryz.prog 12 #[ptV b] w fun z w' => z = .returned (.string nm) ∧ Tch (fun _ => False) w w' := by
  go_enter Tryz.func12, Tryz.ntmps12
  go_wp2_with fail
  go_ret
  exact ⟨rfl, Tch.refl _ _⟩
theorem pr_not (x : Nat × ByteArray) (ao : Option Addr) (b c : Nat) (w : World) (c0 : w.cell? ⟨b, 0, none⟩ = some (.int .i64 4)) (c6 : w.cell? ⟨b, 6, none⟩ = some (.slice ao 1 c)) (hp : PPt w ao [x]) :
    Calls Tryz.prog 12 #[ptV b] w fun z w' => z = .returned (.string (⟨#[110, 111, 116, 32]⟩ ++ wiP 3 x)) ∧ Tch (fun _ => False) w w' := by
  obtain ⟨g, i, rfl, _⟩ := hp.some (by simp)
  obtain ⟨d, hd⟩ := hp.at (k := 0) rfl
  obtain ⟨q0, hP⟩ := hd w (Tch.refl _ _)
  have s0 := wiP_size 3 x
  have z0 := hP.sz
  have q := within_any 3 x d w hP
  obtain ⟨a, ha⟩ : ∃ a, a = wiP 3 x := ⟨_, rfl⟩
  rw [← ha] at q s0 ⊢
  rw [Nat.add_zero] at q0
  have r1 : ¬ 9223372036854775807 < 4 + a.size := by omega
  clear hd hp ha hP s0 z0
  go_enter Tryz.func12, Tryz.ntmps12
  go_wp2_with (go_at_call 24; refine q.mono ?_; rintro z v1 ⟨rfl, t1⟩)
  go_ret
  exact ⟨rfl, t1⟩
theorem pr_minus (x : Nat × ByteArray) (ao : Option Addr) (b c : Nat) (w : World) (c0 : w.cell? ⟨b, 0, none⟩ = some (.int .i64 21)) (c6 : w.cell? ⟨b, 6, none⟩ = some (.slice ao 1 c)) (hp : PPt w ao [x]) :
    Calls Tryz.prog 12 #[ptV b] w fun z w' => z = .returned (.string (⟨#[45, 40]⟩ ++ x.2 ++ ⟨#[41]⟩)) ∧ Tch (fun _ => False) w w' := by
  obtain ⟨g, i, rfl, _⟩ := hp.some (by simp)
  obtain ⟨d, hd⟩ := hp.at (k := 0) rfl
  obtain ⟨q0, hP⟩ := hd w (Tch.refl _ _)
  have z0 := hP.sz
  have q := hP.pr
  obtain ⟨l, a⟩ := x
  simp only at q z0 ⊢
  rw [Nat.add_zero] at q0
  have r1 : ¬ 9223372036854775807 < 2 + a.size := by omega
  have r2 : ¬ 9223372036854775807 < 2 + a.size + 1 := by omega
  clear hd hp hP z0
  go_enter Tryz.func12, Tryz.ntmps12
  go_wp2_with (go_at_call 12; refine q.mono ?_; rintro z v1 ⟨rfl, t1⟩)
  go_ret
  exact ⟨rfl, t1⟩
theorem pr_choice (ps : List (Nat × ByteArray)) (ao : Option Addr) (b c : Nat) (w : World) (c0 : w.cell? ⟨b, 0, none⟩ = some (.int .i64 22)) (c6 : w.cell? ⟨b, 6, none⟩ = some (.slice ao ps.length c)) (hp : PPt w ao ps) (hsz : (prCh ps).size ≤ 100000000) (hl : ps.length ≤ 1000000) (hc : ps.length ≤ c) (h2 : 2 ≤ ps.length) :
    Calls Tryz.prog 12 #[ptV b] w fun z w' => z = .returned (.string (⟨#[99, 97, 115, 101]⟩ ++ prCh ps ++ ⟨#[32, 101, 110, 100]⟩)) ∧ Tch (fun _ => False) w w' := by
  have q := printChoice_any ps ao c w hp hsz hl hc h2
  obtain ⟨n, hn⟩ : ∃ n, n = ps.length := ⟨_, rfl⟩
  rw [← hn] at q c6
  clear hp hsz hl hc h2 hn
  go_enter Tryz.func12, Tryz.ntmps12
  go_wp2_with (go_at_call 25; refine q.mono ?_; rintro z v1 ⟨rfl, t1⟩)
  go_ret
  exact ⟨rfl, t1⟩
theorem pr_fn (o : Nat) (ps : List (Nat × ByteArray)) (ao : Option Addr) (b c : Nat) (w : World) (ho : o < 32) (hn : o ∉ [0, 1, 4, 21, 22]) (hlv : lvl o = 9) (hs : HSh w) (c0 : w.cell? ⟨b, 0, none⟩ = some (.int .i64 (o : Nat))) (c6 : w.cell? ⟨b, 6, none⟩ = some (.slice ao ps.length c)) (hp : PPt w ao ps) (hsz : (prLs true ps).size ≤ 100000000) (hl : ps.length ≤ 1000000) :
    Calls Tryz.prog 12 #[ptV b] w fun z w' => z = .returned (.string (wd o ++ ⟨#[40]⟩ ++ prLs true ps ++ ⟨#[41]⟩)) ∧ Tch (fun _ => False) w w' := by
  obtain ⟨e0, e1, _, _⟩ := shp4_of hs ho
  have hoI : (o : Int) < 32 := by omega
  have hw := wd_size o
  have hno : ∀ k : Nat, k ∈ [0, 1, 4, 21, 22] → ((o : Int) == (k : Nat)) = false := fun k hk => by
    have hne : o ≠ k := fun e => hn (e ▸ hk)
    simp only [beq_eq_false_iff_ne, ne_eq]; omega
  have b0 : ((o : Int) == 0) = false := hno 0 (by decide)
  have b1 : ((o : Int) == 1) = false := hno 1 (by decide)
  have b4 : ((o : Int) == 4) = false := hno 4 (by decide)
  have b21 : ((o : Int) == 21) = false := hno 21 (by decide)
  have b22 : ((o : Int) == 22) = false := hno 22 (by decide)
  have q := fun (d : Nat) (os : Array Obj) => regrown_calls (w := w) (fun W t => printList_any ps ao c W (hp.tch (t.mono (fun _ _ h => h.elim))) hsz hl) d os
  obtain ⟨n, hn2⟩ : ∃ n, n = ps.length := ⟨_, rfl⟩
  obtain ⟨L, hL⟩ : ∃ L, L = prLs true ps := ⟨_, rfl⟩
  obtain ⟨u, hu⟩ : ∃ u, u = wd o := ⟨_, rfl⟩
  rw [← hn2, ← hL] at q
  rw [← hn2] at c6
  rw [← hL] at hsz
  rw [← hu] at e0 hw
  rw [hlv] at e1
  rw [← hu, ← hL]
  have r1 : ¬ 9223372036854775807 < u.size + 1 := by omega
  have r2 : ¬ 9223372036854775807 < u.size + 1 + L.size := by omega
  have r3 : ¬ 9223372036854775807 < u.size + 1 + L.size + 1 := by omega
  have m0 := cell_regrown e0
  have m1 := cell_regrown c0
  have m6 := cell_regrown c6
  clear hp hsz hl hn2 hL hu hs hlv hn hno hw
  go_enter Tryz.func12, Tryz.ntmps12
  go_wp2_with fail
  refine wp_region_quiet_below (by kernel_rfl) (by kernel_rfl) ?_
  repeat (quiet_step (fail))
  quiet_step ((go_at_call 26; exact q _ _))
  repeat (quiet_step (fail))
  refine wpQuiet_nil ?_
  rintro w2 ⟨p, rfl⟩
  have T2 := Tch.regrown w p.d p.os
  go_wp2_with fail
  go_ret
  exact ⟨rfl, T2⟩
theorem pr_test (o : Nat) (T : ByteArray) (b : Nat) (w : World) (ho : o < 32) (hn : o ∉ [0, 1, 4, 21, 22]) (hlv : lvl o = 4) (hs : HSh w) (c0 : w.cell? ⟨b, 0, none⟩ = some (.int .i64 (o : Nat))) (q : Calls Tryz.prog 27 #[ptV b] w fun z w' => z = .returned (.string T) ∧ Tch (fun _ => False) w w') :
    Calls Tryz.prog 12 #[ptV b] w fun z w' => z = .returned (.string T) ∧ Tch (fun _ => False) w w' := by
  obtain ⟨_, e1, _, _⟩ := shp4_of hs ho
  have hoI : (o : Int) < 32 := by omega
  have hno : ∀ k : Nat, k ∈ [0, 1, 4, 21, 22] → ((o : Int) == (k : Nat)) = false := fun k hk => by
    have hne : o ≠ k := fun e => hn (e ▸ hk)
    simp only [beq_eq_false_iff_ne, ne_eq]; omega
  have b0 : ((o : Int) == 0) = false := hno 0 (by decide)
  have b1 : ((o : Int) == 1) = false := hno 1 (by decide)
  have b4 : ((o : Int) == 4) = false := hno 4 (by decide)
  have b21 : ((o : Int) == 21) = false := hno 21 (by decide)
  have b22 : ((o : Int) == 22) = false := hno 22 (by decide)
  rw [hlv] at e1
  clear hs hlv hn hno
  go_enter Tryz.func12, Tryz.ntmps12
  go_wp2_with (go_at_call 27; refine q.mono ?_; rintro z v1 ⟨rfl, t1⟩)
  go_ret
  exact ⟨rfl, t1⟩
theorem pr_row (o : Nat) (T : ByteArray) (b : Nat) (w : World) (ho : o < 32) (hn : o ∉ [0, 1, 4, 21, 22]) (hlv : lvl o ≠ 9) (hlv4 : lvl o ≠ 4) (hs : HSh w) (c0 : w.cell? ⟨b, 0, none⟩ = some (.int .i64 (o : Nat))) (q : Calls Tryz.prog 28 #[ptV b] w fun z w' => z = .returned (.string T) ∧ Tch (fun _ => False) w w') :
    Calls Tryz.prog 12 #[ptV b] w fun z w' => z = .returned (.string T) ∧ Tch (fun _ => False) w w' := by
  obtain ⟨_, e1, _, _⟩ := shp4_of hs ho
  have hoI : (o : Int) < 32 := by omega
  have hno : ∀ k : Nat, k ∈ [0, 1, 4, 21, 22] → ((o : Int) == (k : Nat)) = false := fun k hk => by
    have hne : o ≠ k := fun e => hn (e ▸ hk)
    simp only [beq_eq_false_iff_ne, ne_eq]; omega
  have b0 : ((o : Int) == 0) = false := hno 0 (by decide)
  have b1 : ((o : Int) == 1) = false := hno 1 (by decide)
  have b4 : ((o : Int) == 4) = false := hno 4 (by decide)
  have b21 : ((o : Int) == 21) = false := hno 21 (by decide)
  have b22 : ((o : Int) == 22) = false := hno 22 (by decide)
  obtain ⟨u, hu⟩ : ∃ u, u = lvl o := ⟨_, rfl⟩
  rw [← hu] at e1 hlv hlv4
  have l9 : ((u : Int) == 9) = false := by simp only [beq_eq_false_iff_ne, ne_eq]; omega
  have l4 : ((u : Int) == 4) = false := by simp only [beq_eq_false_iff_ne, ne_eq]; omega
  clear hs hlv hlv4 hn hno hu
  go_enter Tryz.func12, Tryz.ntmps12
  go_wp2_with (go_at_call 28; refine q.mono ?_; rintro z v1 ⟨rfl, t1⟩)
  go_ret
  exact ⟨rfl, t1⟩
theorem prtL_len : ∀ l : List Ex, (prt.prtL l).length = l.length
  | [] => rfl
  | e :: l => by
    show (prt.prtL l).length + 1 = l.length + 1
    rw [prtL_len l]
theorem prtL_get : ∀ (l : List Ex) (k : Nat) (hk : k < l.length) (hk2 : k < (prt.prtL l).length), (prt.prtL l)[k] = (lvl l[k].op, prt l[k])
  | [], k, hk, _ => by simp at hk
  | e :: l, 0, _, _ => rfl
  | e :: l, k + 1, hk, hk2 => prtL_get l k (by simpa using hk) (by have := prtL_len l; simp at hk; omega)
theorem lvl_of : ∀ o, o < 32 → o ∉ [0, 1, 4, 21, 22] → (lvl o = 9 ∧ 23 ≤ o) ∨ (lvl o = 4 ∧ 5 ≤ o ∧ o ≤ 14) ∨ (lvl o ≠ 9 ∧ lvl o ≠ 4 ∧ o ∈ [2, 3, 15, 16, 17, 18, 19, 20]) := by decide
theorem op_of {W : World} {F : Nat → Prop} {d : Nat} : ∀ {e : Ex}, gdE e → TR W F e d → ∃ o : Nat, o < 32 ∧ W.cell? ⟨d, 0, none⟩ = some (.int .i64 (o : Nat)) ∧ lvl e.op = lvl o
  | .mk o no v nm l, hg, h => by
    obtain ⟨_, har, _, _⟩ := hg.part
    exact ⟨o, har.1, h.cells.1, rfl⟩
theorem printE_any : ∀ (n : Nat) (F : Nat → Prop) (e : Ex) (b : Nat) (w : World), dep e ≤ n → gdE e → txE e → TR w F e b → HG w →
    Calls Tryz.prog 12 #[ptV b] w fun x w' => x = .returned (.string (prt e)) ∧ Tch (fun _ => False) w w'
  | 0, _, .mk o no v nm l, b, w, hn, _, _, _, _ => by rw [dep_mk] at hn; omega
  | n + 1, F, .mk o no v nm l, b, w, hn, hg, ht, h, hG => by
    obtain ⟨hi, har, hln, hgd⟩ := hg.part
    have hok : i64v v.n ∧ arOk o l.length ∧ okL l := hg.ok
    have htx : (v.s.size ≤ 400 ∧ nm.size ≤ 400) ∧ txL l := ht
    rw [dep_mk] at hn
    obtain ⟨c0, c1, c2, c3, c4, c5, ao2, c, c6, hc, hl⟩ := h.cells
    have hbl := cell_lt c0
    have ih := printE_any n
    have ho : o < 32 := har.1
    have hP : PPt w ao2 (prt.prtL l) := fun k hk => by
      have hkl : k < l.length := by rw [← prtL_len l]; exact hk
      obtain ⟨g, i, e, hh⟩ := hl (by intro e; rw [e] at hkl; simp at hkl)
      obtain ⟨d, cd, hd⟩ := hh k l[k] (List.getElem?_eq_getElem hkl)
      have hgl := cell_lt cd
      refine ⟨g, i, e, d, fun W t => ⟨(t.cell (p := ⟨g, i + k, none⟩) hgl (by show ¬ w.heap.size ≤ g; have : g < w.heap.size := hgl; omega)).trans cd, ?_⟩⟩
      rw [prtL_get l k hkl]
      have hgk := hgd k _ (List.getElem?_eq_getElem hkl)
      have htk := txL_get htx.2 (List.getElem?_eq_getElem hkl)
      have hdW : TR W (fun i => w.heap.size ≤ i) l[k] d := TR.tch t (fun i hi => hi) (TR.mono (fun i hi h => by omega) hd)
      have hGW := hG.ge t
      exact ⟨op_of hgk hdW, prt_fair hgk htk, hGW.shp, ih _ l[k] d W (by have := depL_get l k _ (List.getElem?_eq_getElem hkl); omega) hgk htk hdW hGW⟩
    have hlen := prtL_len l
    have hsum : sumS (prt.prtL l) ≤ 3000000 := by
      have h1 := prtL_size l hok.2.2 htx.2
      have h2 : szL l + 1 ≤ 1000 := hg.sz
      omega
    have hsL := prLs_size true (prt.prtL l)
    have hsC := prCh_size (prt.prtL l)
    rw [← hlen] at c6 hc hln har
    obtain ⟨ps, hps⟩ : ∃ ps, ps = prt.prtL l := ⟨_, rfl⟩
    rw [← hps] at c6 hc hln har hP hsum hsL hsC
    have hgoal : prt (.mk o no v nm l) = prC o no v nm ps := by rw [hps]; rfl
    rw [hgoal]
    by_cases h0 : o = 0
    · subst h0
      exact pr_lit v b w hi hG c0 c2 c3 c4
    by_cases h1 : o = 1
    · subst h1
      exact pr_col nm b w c0 c5
    by_cases h4 : o = 4
    · subst h4
      obtain ⟨x, rfl⟩ := List.length_eq_one_iff.1 (show ps.length = 1 from har.2)
      exact pr_not x ao2 b c w c0 c6 hP
    by_cases h21 : o = 21
    · subst h21
      obtain ⟨x, rfl⟩ := List.length_eq_one_iff.1 (show ps.length = 1 from har.2)
      exact pr_minus x ao2 b c w c0 c6 hP
    by_cases h22 : o = 22
    · subst h22
      exact pr_choice ps ao2 b c w c0 c6 hP (by omega) hln hc har.2
    have hno : o ∉ [0, 1, 4, 21, 22] := by simp; omega
    have hC : prC o no v nm ps = if lvl o = 9 then wd o ++ ⟨#[40]⟩ ++ prLs true ps ++ ⟨#[41]⟩
        else if lvl o = 4 then
          (if o = 11 then wiP 5 (ps.getD 0 noP) ++ (⟨#[32]⟩ ++ wdT o no ++ ⟨#[32]⟩) ++ ⟨#[110, 117, 108, 108]⟩
           else if o = 12 then wiP 5 (ps.getD 0 noP) ++ (⟨#[32]⟩ ++ wdT o no ++ ⟨#[32]⟩) ++ ⟨#[40]⟩ ++ prLs true (ps.drop 1) ++ ⟨#[41]⟩
           else if o = 13 then wiP 5 (ps.getD 0 noP) ++ (⟨#[32]⟩ ++ wdT o no ++ ⟨#[32]⟩) ++ wiP 5 (ps.getD 1 noP) ++ ⟨#[32, 97, 110, 100, 32]⟩ ++ wiP 5 (ps.getD 2 noP)
           else wiP 5 (ps.getD 0 noP) ++ (⟨#[32]⟩ ++ wdT o no ++ ⟨#[32]⟩) ++ wiP 5 (ps.getD 1 noP))
        else wiP (lvl o) (ps.getD 0 noP) ++ ⟨#[32]⟩ ++ wd o ++ ⟨#[32]⟩ ++ wiP (lvl o + 1) (ps.getD 1 noP) := by
      unfold prC
      rw [if_neg h0, if_neg h1, if_neg h4, if_neg h21, if_neg h22]
    rw [hC]
    rcases lvl_of o ho hno with ⟨h9, _⟩ | ⟨h9, h5, h14⟩ | ⟨h9, h94, hm⟩
    · rw [if_pos h9]
      exact pr_fn o ps ao2 b c w ho hno h9 hG.shp c0 c6 hP (by omega) hln
    · rw [if_neg (by omega), if_pos h9]
      refine pr_test o _ b w ho hno h9 hG.shp c0 ?_
      by_cases h11 : o = 11
      · subst h11
        obtain ⟨x, rfl⟩ := List.length_eq_one_iff.1 (show ps.length = 1 from har.2)
        exact printTest_null no x ao2 b c w hG.shp c0 c1 c6 hP
      rw [if_neg h11]
      by_cases h12 : o = 12
      · subst h12
        rw [if_pos rfl]
        have h2 : 2 ≤ ps.length := har.2
        cases ps with
        | nil => simp at h2
        | cons x ps =>
          refine printTest_in no x ps ao2 b c w hG.shp c0 c1 c6 hP hc (by simp at hln; omega) ?_
          have hx := prLs_size true ps
          have hy : sumS (x :: ps) ≤ 3000000 := hsum
          unfold sumS at hy
          omega
      rw [if_neg h12]
      by_cases h13 : o = 13
      · subst h13
        rw [if_pos rfl]
        have h3 : ps.length = 3 := har.2
        match ps, h3, c6, hP with
        | [x, y, z], _, c6, hP => exact printTest_between no x y z ao2 b c w hG.shp c0 c1 c6 hP
      rw [if_neg h13]
      have h2 : ps.length = 2 := by
        have h := har.2
        rw [if_neg (by omega), if_neg (by omega), if_neg (by omega), if_neg (by omega), if_neg (by omega)] at h
        exact h
      match ps, h2, c6, hP with
      | [x, y], _, c6, hP => exact printTest_two o no x y ao2 b c w ⟨h5, h14, h11, h12, h13⟩ hG.shp c0 c1 c6 hP
    · rw [if_neg h9, if_neg h94]
      refine pr_row o _ b w ho hno h9 h94 hG.shp c0 ?_
      have h2 : ps.length = 2 := by
        have h := har.2
        simp only [List.mem_cons, List.not_mem_nil, or_false] at hm
        rw [if_neg (by omega), if_neg (by omega), if_neg (by omega), if_neg (by omega), if_neg (by omega)] at h
        exact h
      match ps, h2, c6, hP with
      | [x, y], _, c6, hP => exact printRow_any o x y ao2 b c w ho hG.shp c0 c6 hP
end Go.Proofs.YtmaekkhmiafnmaaGreatDoor
