import Derived.Test.YtnjiiebjdpipjaaTAsk
/- asks of the law: At. -/
namespace Go.Proofs.Ytnjiiebjdpipjaa
open Go.RowKit Go Go.Shelf Go.Sort

set_option maxHeartbeats 4000000 in
set_option maxRecDepth 100000 in
theorem asks_at7i (W0 : World) (G : Nat → Prop) (W : World) (b mb : Nat) (l : List It) (p : Opv) (h : PS W0 G W b mb l l) (hl : l.length < 10000000) (hk : p.kind = 7) (n : Nat) (hn : p.n = n) (hn2 : n < l.length) : Calls Try.prog 46 #[.agg #[pv b, pv mb], opV p] W fun x w' => x = .returned (.bool true) ∧ PS W0 G w' b mb l l := by
  have t1 : Tch (fun _ => False) W (wBox W b mb p) := (Tch.alloc _ _ _).allocR _
  obtain ⟨k0, k1⟩ := two_new W (.cells #[pv b, pv mb] 53) (.cells (opC p) 55)
  have hbx := bx_of (p := p) k0 k1
  obtain ⟨x0, x1, x2, x4, x3, -⟩ := hbx
  obtain ⟨q0, hq0⟩ : ∃ q0, q0 = W.heap.size := ⟨_, rfl⟩
  have HX : Hid (∀ w', Tch (fun _ => False) (wBox W b mb p) w' → BX w' q0 b mb p) := fun w' t => by
    subst hq0
    exact bx_of ((t.block _ (blk_lt k0) (fun h => h)).trans k0) ((t.block _ (blk_lt k1) (fun h => h)).trans k1)
  obtain ⟨_, F, FM, ht, h1, h2, _⟩ := h.more t1
  have HP : Hid (∀ w', Tch (fun _ => False) (wBox W b mb p) w' → PS W0 G w' b mb l l) := fun w' t => h.more (t1.trans' t)
  obtain ⟨ko, vo, kc', vc', y0, y1, hc⟩ := h2.read
  have HC : Hid _ := hc
  have HI : Hid (∀ w', Tch (fun _ => False) (wBox W b mb p) w' → ∀ n : Nat, n < l.length → Calls Try.prog 15 #[pv b, .int .i64 n] w' fun x w2 => (∃ it, l[n]? = some it ∧ x = .returned (.tuple #[.string it.1, ev it.2, .bool true])) ∧ Tch (fun _ => False) (wBox W b mb p) w2) := fun w' t n hn => by
    refine (at_in w' b l ht F n (h1.tch t (fun _ _ h => h)) (by omega) hn).mono ?_
    rintro x w2 ⟨h3, h4⟩
    exact ⟨h3, t.trans' h4⟩
  have HO : Hid (∀ w', Tch (fun _ => False) (wBox W b mb p) w' → ∀ n : Int, (n < 0 ∨ (l.length : Int) ≤ n) → Calls Try.prog 15 #[pv b, .int .i64 n] w' fun x w2 => x = .returned (.tuple #[.string ⟨#[]⟩, ev gv0, .bool false]) ∧ Tch (fun _ => False) (wBox W b mb p) w2) := fun w' t n hn => by
    refine (at_out w' b l ht F n (h1.tch t (fun _ _ h => h)) hn).mono ?_
    rintro x w2 ⟨h3, rfl⟩
    exact ⟨h3, t⟩
  have HM : Hid (∀ w', Tch (fun _ => False) (wBox W b mb p) w' → MW w' mb l FM) := fun w' t => h2.tch t (fun _ _ h => h)
  have Hl : Hid (l.length < 10000000) := hl
  have Hk : Hid (p.kind = 7) := hk
  have Hq0 : Hid (q0 = W.heap.size) := hq0
  have Hn : Hid (n < l.length) := hn2
  rw [hk] at x2
  rw [hn] at x4
  have q := HI.out _ (Tch.refl _ _) n hn2
  clear hn hn2
  clear h h1 h2 t1 k0 k1 hl hk hq0 hc
  go_enter Try.func46, Try.ntmps46
  go_wp2_with fail
  refine q.mono ?_
  clear q
  rintro x w2 ⟨⟨it, hit, rfl⟩, t2⟩
  obtain ⟨ik, iv⟩ := it
  obtain ⟨z0, z1, -, -, -, -⟩ := HX.out w2 t2
  obtain ⟨ko2, vo2, kc2, vc2, y0, y1, hc2⟩ := (HM.out w2 t2).read
  obtain ⟨⟨g, rfl, y2⟩, ⟨g', rfl, y3⟩⟩ := hc2 _ _ hit
  have HE := HP.out w2 t2
  have HE2 : Hid _ := HE
  have e1 : (iv == iv) = true := by simp
  have hn0 : ¬ (n : Int) < 0 := by omega
  have hn1 : ¬ (l.length : Int) ≤ n := by have := Hn.out; omega
  have hn2 : (n : Int) < l.length := by have := Hn.out; omega
  rw [← Hq0.out]
  clear HE t2 hit hc2
  go_wp2_with fail
  go_ret
  exact ⟨rfl, HE2.out⟩
set_option maxHeartbeats 4000000 in
set_option maxRecDepth 100000 in
theorem asks_at7o (W0 : World) (G : Nat → Prop) (W : World) (b mb : Nat) (l : List It) (p : Opv) (h : PS W0 G W b mb l l) (hl : l.length < 10000000) (hk : p.kind = 7) (n : Int) (hn : p.n = n) (hn2 : n < 0 ∨ (l.length : Int) ≤ n) : Calls Try.prog 46 #[.agg #[pv b, pv mb], opV p] W fun x w' => x = .returned (.bool true) ∧ PS W0 G w' b mb l l := by
  have t1 : Tch (fun _ => False) W (wBox W b mb p) := (Tch.alloc _ _ _).allocR _
  obtain ⟨k0, k1⟩ := two_new W (.cells #[pv b, pv mb] 53) (.cells (opC p) 55)
  have hbx := bx_of (p := p) k0 k1
  obtain ⟨x0, x1, x2, x4, x3, -⟩ := hbx
  obtain ⟨q0, hq0⟩ : ∃ q0, q0 = W.heap.size := ⟨_, rfl⟩
  have HX : Hid (∀ w', Tch (fun _ => False) (wBox W b mb p) w' → BX w' q0 b mb p) := fun w' t => by
    subst hq0
    exact bx_of ((t.block _ (blk_lt k0) (fun h => h)).trans k0) ((t.block _ (blk_lt k1) (fun h => h)).trans k1)
  obtain ⟨_, F, FM, ht, h1, h2, _⟩ := h.more t1
  have HP : Hid (∀ w', Tch (fun _ => False) (wBox W b mb p) w' → PS W0 G w' b mb l l) := fun w' t => h.more (t1.trans' t)
  obtain ⟨ko, vo, kc', vc', y0, y1, hc⟩ := h2.read
  have HC : Hid _ := hc
  have HI : Hid (∀ w', Tch (fun _ => False) (wBox W b mb p) w' → ∀ n : Nat, n < l.length → Calls Try.prog 15 #[pv b, .int .i64 n] w' fun x w2 => (∃ it, l[n]? = some it ∧ x = .returned (.tuple #[.string it.1, ev it.2, .bool true])) ∧ Tch (fun _ => False) (wBox W b mb p) w2) := fun w' t n hn => by
    refine (at_in w' b l ht F n (h1.tch t (fun _ _ h => h)) (by omega) hn).mono ?_
    rintro x w2 ⟨h3, h4⟩
    exact ⟨h3, t.trans' h4⟩
  have HO : Hid (∀ w', Tch (fun _ => False) (wBox W b mb p) w' → ∀ n : Int, (n < 0 ∨ (l.length : Int) ≤ n) → Calls Try.prog 15 #[pv b, .int .i64 n] w' fun x w2 => x = .returned (.tuple #[.string ⟨#[]⟩, ev gv0, .bool false]) ∧ Tch (fun _ => False) (wBox W b mb p) w2) := fun w' t n hn => by
    refine (at_out w' b l ht F n (h1.tch t (fun _ _ h => h)) hn).mono ?_
    rintro x w2 ⟨h3, rfl⟩
    exact ⟨h3, t⟩
  have HM : Hid (∀ w', Tch (fun _ => False) (wBox W b mb p) w' → MW w' mb l FM) := fun w' t => h2.tch t (fun _ _ h => h)
  have Hl : Hid (l.length < 10000000) := hl
  have Hk : Hid (p.kind = 7) := hk
  have Hq0 : Hid (q0 = W.heap.size) := hq0
  have Ho : Hid (n < 0 ∨ (l.length : Int) ≤ n) := hn2
  rw [hk] at x2
  rw [hn] at x4
  have q := HO.out _ (Tch.refl _ _) n hn2
  clear hn hn2
  clear h h1 h2 t1 k0 k1 hl hk hq0 hc
  go_enter Try.func46, Try.ntmps46
  go_wp2_with fail
  refine q.mono ?_
  clear q
  rintro x w2 ⟨rfl, t2⟩
  obtain ⟨z0, z1, -, -, -, -⟩ := HX.out w2 t2
  obtain ⟨ko2, vo2, kc2, vc2, y0, y1, hc2⟩ := (HM.out w2 t2).read
  have HE := HP.out w2 t2
  have HE2 : Hid _ := HE
  rw [← Hq0.out]
  clear HE t2 hc2
  rcases Ho.out with ho | ho
  · go_wp2_with fail
    go_ret
    exact ⟨rfl, HE2.out⟩
  · by_cases hn0 : n < 0
    · clear ho
      go_wp2_with fail
      go_ret
      exact ⟨rfl, HE2.out⟩
    · go_wp2_with fail
      go_ret
      exact ⟨rfl, HE2.out⟩
set_option maxHeartbeats 4000000 in
set_option maxRecDepth 100000 in
theorem asks_at10o (W0 : World) (G : Nat → Prop) (W : World) (b mb : Nat) (l : List It) (p : Opv) (h : PS W0 G W b mb l l) (hl : l.length < 10000000) (hk : p.kind = 10) (n : Int) (hn : p.n = n) (hn2 : l.length = 0) : Calls Try.prog 46 #[.agg #[pv b, pv mb], opV p] W fun x w' => x = .returned (.bool true) ∧ PS W0 G w' b mb l l := by
  have t1 : Tch (fun _ => False) W (wBox W b mb p) := (Tch.alloc _ _ _).allocR _
  obtain ⟨k0, k1⟩ := two_new W (.cells #[pv b, pv mb] 53) (.cells (opC p) 55)
  have hbx := bx_of (p := p) k0 k1
  obtain ⟨x0, x1, x2, x4, x3, -⟩ := hbx
  obtain ⟨q0, hq0⟩ : ∃ q0, q0 = W.heap.size := ⟨_, rfl⟩
  have HX : Hid (∀ w', Tch (fun _ => False) (wBox W b mb p) w' → BX w' q0 b mb p) := fun w' t => by
    subst hq0
    exact bx_of ((t.block _ (blk_lt k0) (fun h => h)).trans k0) ((t.block _ (blk_lt k1) (fun h => h)).trans k1)
  obtain ⟨_, F, FM, ht, h1, h2, _⟩ := h.more t1
  have HP : Hid (∀ w', Tch (fun _ => False) (wBox W b mb p) w' → PS W0 G w' b mb l l) := fun w' t => h.more (t1.trans' t)
  obtain ⟨ko, vo, kc', vc', y0, y1, hc⟩ := h2.read
  have HC : Hid _ := hc
  have HI : Hid (∀ w', Tch (fun _ => False) (wBox W b mb p) w' → ∀ n : Nat, n < l.length → Calls Try.prog 15 #[pv b, .int .i64 n] w' fun x w2 => (∃ it, l[n]? = some it ∧ x = .returned (.tuple #[.string it.1, ev it.2, .bool true])) ∧ Tch (fun _ => False) (wBox W b mb p) w2) := fun w' t n hn => by
    refine (at_in w' b l ht F n (h1.tch t (fun _ _ h => h)) (by omega) hn).mono ?_
    rintro x w2 ⟨h3, h4⟩
    exact ⟨h3, t.trans' h4⟩
  have HO : Hid (∀ w', Tch (fun _ => False) (wBox W b mb p) w' → ∀ n : Int, (n < 0 ∨ (l.length : Int) ≤ n) → Calls Try.prog 15 #[pv b, .int .i64 n] w' fun x w2 => x = .returned (.tuple #[.string ⟨#[]⟩, ev gv0, .bool false]) ∧ Tch (fun _ => False) (wBox W b mb p) w2) := fun w' t n hn => by
    refine (at_out w' b l ht F n (h1.tch t (fun _ _ h => h)) hn).mono ?_
    rintro x w2 ⟨h3, rfl⟩
    exact ⟨h3, t⟩
  have HM : Hid (∀ w', Tch (fun _ => False) (wBox W b mb p) w' → MW w' mb l FM) := fun w' t => h2.tch t (fun _ _ h => h)
  have Hl : Hid (l.length < 10000000) := hl
  have Hk : Hid (p.kind = 10) := hk
  have Hq0 : Hid (q0 = W.heap.size) := hq0
  have Ho : Hid (n < 0 ∨ (l.length : Int) ≤ n) := by show _ ∨ _; omega
  rw [hk] at x2
  rw [hn] at x4
  have q := HO.out _ (Tch.refl _ _) n Ho.out
  have hl0 : ¬ (0 : Int) < l.length := by omega
  clear hn hn2
  clear h h1 h2 t1 k0 k1 hl hk hq0 hc
  go_enter Try.func46, Try.ntmps46
  go_wp2_with fail
  refine q.mono ?_
  clear q
  rintro x w2 ⟨rfl, t2⟩
  obtain ⟨z0, z1, -, -, -, -⟩ := HX.out w2 t2
  obtain ⟨ko2, vo2, kc2, vc2, y0, y1, hc2⟩ := (HM.out w2 t2).read
  have HE := HP.out w2 t2
  have HE2 : Hid _ := HE
  rw [← Hq0.out]
  clear HE t2 hc2
  rcases Ho.out with ho | ho
  · go_wp2_with fail
    go_ret
    exact ⟨rfl, HE2.out⟩
  · by_cases hn0 : n < 0
    · clear ho
      go_wp2_with fail
      go_ret
      exact ⟨rfl, HE2.out⟩
    · go_wp2_with fail
      go_ret
      exact ⟨rfl, HE2.out⟩
set_option maxHeartbeats 4000000 in
set_option maxRecDepth 100000 in
theorem asks_at10i (W0 : World) (G : Nat → Prop) (W : World) (b mb : Nat) (l : List It) (p : Opv) (h : PS W0 G W b mb l l) (hl : l.length < 10000000) (hb1 : -9223372036854775808 ≤ p.n) (hb2 : p.n ≤ 9223372036854775807) (hk : p.kind = 10) (hn2 : 0 < l.length) : Calls Try.prog 46 #[.agg #[pv b, pv mb], opV p] W fun x w' => x = .returned (.bool true) ∧ PS W0 G w' b mb l l := by
  have t1 : Tch (fun _ => False) W (wBox W b mb p) := (Tch.alloc _ _ _).allocR _
  obtain ⟨k0, k1⟩ := two_new W (.cells #[pv b, pv mb] 53) (.cells (opC p) 55)
  have hbx := bx_of (p := p) k0 k1
  obtain ⟨x0, x1, x2, x4, x3, -⟩ := hbx
  obtain ⟨q0, hq0⟩ : ∃ q0, q0 = W.heap.size := ⟨_, rfl⟩
  have HX : Hid (∀ w', Tch (fun _ => False) (wBox W b mb p) w' → BX w' q0 b mb p) := fun w' t => by
    subst hq0
    exact bx_of ((t.block _ (blk_lt k0) (fun h => h)).trans k0) ((t.block _ (blk_lt k1) (fun h => h)).trans k1)
  obtain ⟨_, F, FM, ht, h1, h2, _⟩ := h.more t1
  have HP : Hid (∀ w', Tch (fun _ => False) (wBox W b mb p) w' → PS W0 G w' b mb l l) := fun w' t => h.more (t1.trans' t)
  obtain ⟨ko, vo, kc', vc', y0, y1, hc⟩ := h2.read
  have HC : Hid _ := hc
  have HI : Hid (∀ w', Tch (fun _ => False) (wBox W b mb p) w' → ∀ n : Nat, n < l.length → Calls Try.prog 15 #[pv b, .int .i64 n] w' fun x w2 => (∃ it, l[n]? = some it ∧ x = .returned (.tuple #[.string it.1, ev it.2, .bool true])) ∧ Tch (fun _ => False) (wBox W b mb p) w2) := fun w' t n hn => by
    refine (at_in w' b l ht F n (h1.tch t (fun _ _ h => h)) (by omega) hn).mono ?_
    rintro x w2 ⟨h3, h4⟩
    exact ⟨h3, t.trans' h4⟩
  have HO : Hid (∀ w', Tch (fun _ => False) (wBox W b mb p) w' → ∀ n : Int, (n < 0 ∨ (l.length : Int) ≤ n) → Calls Try.prog 15 #[pv b, .int .i64 n] w' fun x w2 => x = .returned (.tuple #[.string ⟨#[]⟩, ev gv0, .bool false]) ∧ Tch (fun _ => False) (wBox W b mb p) w2) := fun w' t n hn => by
    refine (at_out w' b l ht F n (h1.tch t (fun _ _ h => h)) hn).mono ?_
    rintro x w2 ⟨h3, rfl⟩
    exact ⟨h3, t⟩
  have HM : Hid (∀ w', Tch (fun _ => False) (wBox W b mb p) w' → MW w' mb l FM) := fun w' t => h2.tch t (fun _ _ h => h)
  have Hl : Hid (l.length < 10000000) := hl
  have Hk : Hid (p.kind = 10) := hk
  have Hq0 : Hid (q0 = W.heap.size) := hq0
  obtain ⟨n, hn⟩ : ∃ n, n = pkN p.n l.length := ⟨_, rfl⟩
  have hn3 : n < l.length := by rw [hn]; exact pkN_lt _ _ hn2
  have Hn : Hid (n < l.length) := hn3
  rw [hk] at x2
  have q8 := pick8_any p.n l.length (wBox W b mb p) hb1 hb2 hn2 (by omega)
  rw [← hn] at q8
  have q := HI.out _ (Tch.refl _ _) n hn3
  have hl0 : (0 : Int) < l.length := by omega
  clear hn hn2 hn3 hb1 hb2
  clear h h1 h2 t1 k0 k1 hl hk hq0 hc
  go_enter Try.func46, Try.ntmps46
  go_wp2_with fail
  refine q8.mono ?_
  clear q8
  rintro x w2 ⟨rfl, rfl⟩
  go_wp2_with fail
  refine q.mono ?_
  clear q
  rintro x w2 ⟨⟨it, hit, rfl⟩, t2⟩
  obtain ⟨ik, iv⟩ := it
  obtain ⟨z0, z1, -, -, -, -⟩ := HX.out w2 t2
  obtain ⟨ko2, vo2, kc2, vc2, y0, y1, hc2⟩ := (HM.out w2 t2).read
  obtain ⟨⟨g, rfl, y2⟩, ⟨g', rfl, y3⟩⟩ := hc2 _ _ hit
  have HE := HP.out w2 t2
  have HE2 : Hid _ := HE
  have e1 : (iv == iv) = true := by simp
  have hn0 : ¬ (n : Int) < 0 := by omega
  have hn1 : ¬ (l.length : Int) ≤ n := by have := Hn.out; omega
  have hn2 : (n : Int) < l.length := by have := Hn.out; omega
  rw [← Hq0.out]
  clear HE t2 hit hc2
  go_wp2_with fail
  go_ret
  exact ⟨rfl, HE2.out⟩
end Go.Proofs.Ytnjiiebjdpipjaa
