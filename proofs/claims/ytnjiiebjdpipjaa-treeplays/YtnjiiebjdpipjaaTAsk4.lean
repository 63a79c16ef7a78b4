import Derived.Test.YtnjiiebjdpipjaaTAsk
/- asks of the law: Back. -/
namespace Go.Proofs.Ytnjiiebjdpipjaa
open Go.RowKit Go Go.Shelf Go.Sort

set_option maxHeartbeats 8000000 in
set_option maxRecDepth 100000 in
theorem asks_back (W0 : World) (G : Nat → Prop) (W : World) (b mb : Nat) (l : List It) (ot : Bool) (N : Int) (s t : ByteArray) (h : PS W0 G W b mb l l) (hl : l.length < 1000000) (hb1 : -9223372036854775808 ≤ N) (hb2 : N ≤ 9223372036854775807) (hs : s.size < 1000000000000000000) : Calls Try.prog 46 #[.agg #[pv b, pv mb], opV ⟨ot, 5, N, s, t⟩] W fun x w' => x = .returned (.bool true) ∧ ∃ l', PS W0 G w' b mb l' l' ∧ l'.length ≤ l.length + 30 := by
  obtain ⟨q0, hq0⟩ : ∃ q0, q0 = W.heap.size := ⟨_, rfl⟩
  obtain ⟨W1, hW1⟩ : ∃ W1, W1 = wBox W b mb ⟨ot, 5, N, s, t⟩ := ⟨_, rfl⟩
  have t1 : Tch (fun _ => False) W W1 := by rw [hW1]; exact (Tch.alloc _ _ _).allocR _
  have s1 : W1.heap.size = q0 + 2 := by rw [hW1, hq0]; simp
  obtain ⟨k0, k1⟩ := two_new W (.cells #[pv b, pv mb] 53) (.cells (opC ⟨ot, 5, N, s, t⟩) 55)
  have k0' : W1.heap[q0]? = some (.cells #[pv b, pv mb] 53 (0, 0)) := by rw [hW1, hq0]; exact k0
  have k1' : W1.heap[q0 + 1]? = some (.cells (opC ⟨ot, 5, N, s, t⟩) 55 (0, 0)) := by rw [hW1, hq0]; exact k1
  obtain ⟨x0, x1, x2, x4, x3, x5⟩ := bx_of (p := ⟨ot, 5, N, s, t⟩) k0' k1'
  obtain ⟨G2, -, hg1, -, hg2⟩ := h.anew
  have q := range_any b s t W1
  have HW1 : Hid (W1 = wBox W b mb ⟨ot, 5, N, s, t⟩) := hW1
  have Hq0 : Hid (q0 = W.heap.size) := hq0
  have Ha : Hid (∀ W2, Tch (fun _ => False) W1 W2 → PS W2 G2 W2 b mb l l ∧ ∀ w' m m', PS W2 G2 w' b mb m m' → PS W0 G w' b mb m m') := fun W2 t2 => ⟨(hg2 W2 (t1.trans' t2)).1, fun w' m m' hh => ((hg2 W2 (t1.trans' t2)).2 w' b mb m m' hh).1⟩
  have Hg : Hid (∀ x, q0 ≤ x → ¬ G2 x) := fun x hx hG => by have := hg1 x hG; omega
  have HK : Hid (W1.heap[q0]? = some (.cells #[pv b, pv mb] 53 (0, 0)) ∧ W1.heap[q0 + 1]? = some (.cells (opC ⟨ot, 5, N, s, t⟩) 55 (0, 0)) ∧ W1.heap.size = q0 + 2) := ⟨k0', k1', s1⟩
  have Hl : Hid (l.length < 1000000) := hl
  have Hb : Hid (-9223372036854775808 ≤ N ∧ N ≤ 9223372036854775807) := ⟨hb1, hb2⟩
  have n1 : ¬ 9223372036854775807 < s.size + 1 := by omega
  rw [hW1, hq0] at x0 x1 x2 x3 x4 x5
  clear k0 k1 k0' k1' h hg1 hg2 hl hb1 hb2 hs t1 s1 hW1 hq0
  go_enter Try.func46, Try.ntmps46
  go_wp2_with fail
  have hw : W1 = ((W.alloc (.cells #[pv b, pv mb] 53)).alloc (.cells #[.bool ot, .int .i64 5, .int .i64 N, .string s, .string t] 55)) := HW1.out
  rw [← hw, ← Hq0.out]
  clear hw HW1
  refine q.mono ?_
  clear q x0 x1 x2 x3 x4 x5
  rintro x w2 ⟨rfl, rfl⟩
  obtain ⟨W1b, hW1b⟩ : ∃ W1b, W1b = (W1.alloc (.cells #[pv b] 23)).alloc (.cells #[.string s, .string t, .bool false] 90) := ⟨_, rfl⟩
  rw [← hW1b]
  have t1b : Tch (fun _ => False) W1 W1b := by rw [hW1b]; exact (Tch.alloc _ _ _).allocR _
  have s1b : W1.heap.size ≤ W1b.heap.size := t1b.size
  obtain ⟨x0, x1, x2, x4, x3, x5⟩ := bx_of ((t1b.block _ (blk_lt HK.out.1) (fun h => h)).trans HK.out.1) ((t1b.block _ (blk_lt HK.out.2.1) (fun h => h)).trans HK.out.2.1)
  have Hsb : Hid (W1.heap.size ≤ W1b.heap.size) := s1b
  have Htb : Hid (Tch (fun _ => False) W1 W1b) := t1b
  clear hW1b t1b s1b
  have q := back_any b s t W1b
  go_wp2_with fail
  refine q.mono ?_
  clear q x0 x1 x2 x3 x4 x5
  rintro x w2 ⟨rfl, rfl⟩
  obtain ⟨W2, hW2⟩ : ∃ W2, W2 = (W1b.alloc (.cells #[pv b] 23)).alloc (.cells #[.string s, .string t, .bool true] 90) := ⟨_, rfl⟩
  rw [← hW2]
  obtain ⟨r0, hr0⟩ : ∃ r0, r0 = W1b.heap.size := ⟨_, rfl⟩
  rw [← hr0]
  obtain ⟨m0, m1⟩ := two_new W1b (.cells #[pv b] 23) (.cells #[.string s, .string t, .bool true] 90)
  rw [← hW2, ← hr0] at m0 m1
  have t2 : Tch (fun _ => False) W1 W2 := by rw [hW2]; exact (Htb.out.allocR _).allocR _
  have hr1 : q0 + 2 ≤ r0 := by have := HK.out.2.2; have := Hsb.out; omega
  have HB : Hid (∀ w' m m', PS W2 G2 w' b mb m m' → w'.heap[q0]? = some (.cells #[pv b, pv mb] 53 (0, 0)) ∧ w'.heap[q0 + 1]? = some (.cells (opC ⟨ot, 5, N, s, t⟩) 55 (0, 0)) ∧ w'.heap[r0]? = some (.cells #[pv b] 23 (0, 0)) ∧ w'.heap[r0 + 1]? = some (.cells #[.string s, .string t, .bool true] 90 (0, 0))) := fun w' m m' hh =>
    ⟨hh.cell ((t2.block _ (blk_lt HK.out.1) (fun h => h)).trans HK.out.1) (Hg.out _ (by omega)), hh.cell ((t2.block _ (blk_lt HK.out.2.1) (fun h => h)).trans HK.out.2.1) (Hg.out _ (by omega)), hh.cell m0 (Hg.out _ (by omega)), hh.cell m1 (Hg.out _ (by omega))⟩
  obtain ⟨hS0, hS1⟩ := Ha.out W2 t2
  have HX : Hid (∀ w' m m', PS W2 G2 w' b mb m m' → BX w' q0 b mb ⟨ot, 5, N, s, t⟩ ∧ w'.cell? ⟨q0 + 1, 0, none⟩ = some (.bool ot)) := fun w' m m' hh => by
    obtain ⟨a0, a1, -, -⟩ := HB.out w' m m' hh
    exact ⟨bx_of a0 a1, by rw [blk_cell a1]; rfl⟩
  have HGo : Hid (∀ w' m (most : Int), PS W2 G2 w' b mb m m → m.length < 10000000 → Calls Try.prog 25 #[.agg #[pv b, pv mb], .func (.func 72) #[] #[pv r0, pv (r0 + 1)], .string s, .string t, .bool true, .int .i64 most] w' fun x w2 => x = .returned (.bool true) ∧ Tch (fun _ => False) w' w2) := fun w' m most hh hm => by
    obtain ⟨-, -, a2, a3⟩ := HB.out w' m m hh
    obtain ⟨_, F, FM, ht, h1, h2, _⟩ := hh
    exact goes_any w' b mb r0 (r0 + 1) m ht F FM s t true most h1 h2 (by omega) a2 a3
  have HWi : Hid (∀ w' m, PS W2 G2 w' b mb m m → m.length < 10000000 → Calls Try.prog 70 #[.agg #[pv b, pv mb], .func (.func 72) #[] #[pv r0, pv (r0 + 1)], .agg #[.bool ot, .int .i64 5, .int .i64 N, .string s, .string t]] w' fun x w2 => x = .returned (.bool true) ∧ Tch (fun _ => False) w' w2) := fun w' m hh hm => by
    obtain ⟨-, -, a2, a3⟩ := HB.out w' m m hh
    obtain ⟨_, F, FM, ht, h1, h2, _⟩ := hh
    exact within_any w' b mb r0 (r0 + 1) m ht F FM ⟨ot, 5, N, s, t⟩ true (by simp) h1 h2 (by omega) a2 a3
  obtain ⟨⟨x0, x1, x2, x4, x3, x5⟩, x6⟩ := HX.out _ _ _ hS0
  obtain ⟨k, hkd⟩ : ∃ k, k = s ++ (⟨#[33]⟩ : ByteArray) := ⟨_, rfl⟩
  have HS1 : Hid (∀ w' m m', PS W2 G2 w' b mb m m' → PS W0 G w' b mb m m') := hS1
  have q := put1 (s ++ (⟨#[33]⟩ : ByteArray)) N hS0 (by have := Hl.out; omega)
  clear hS0 hS1 m0 m1 hr0 hr1 t2 hW2 HB Ha HK Hg Hq0 hkd k Hsb Htb
  clear W
  go_wp2_with fail
  refine q.mono ?_
  clear q x0 x1 x2 x3 x4 x5 x6
  rintro x w3 ⟨l2, old, th, rfl, hr, hS⟩
  have HR : Hid (PutRel (s ++ (⟨#[33]⟩ : ByteArray)) N l l2 old th) := hr
  obtain ⟨⟨x0, x1, x2, x4, x3, x5⟩, x6⟩ := HX.out _ _ _ hS
  have q := put2 hS hr (by have := Hl.out; omega)
  clear hr hS
  go_wp2_with fail
  refine q.mono ?_
  clear q x0 x1 x2 x3 x4 x5 x6
  rintro x w4 ⟨rfl, hS⟩
  have HS4 : Hid (PS W2 G2 w4 b mb l2 l2) := hS
  have Hl2 : Hid (l2.length < 1000010) := by have := HR.out.len; have := Hl.out; show _ < _; omega
  obtain ⟨⟨x0, x1, x2, x4, x3, x5⟩, x6⟩ := HX.out _ _ _ hS
  clear hS
  have k0 := cell_regrown x0
  have k1 := cell_regrown x1
  have k2 := cell_regrown x2
  have k3 := cell_regrown x3
  have k4 := cell_regrown x4
  have k5 := cell_regrown x5
  obtain ⟨pk, hpk⟩ : ∃ pk, pk = pkN N 9 := ⟨_, rfl⟩
  have hp9 : pk < 9 := by rw [hpk]; exact pkN_lt _ _ (by omega)
  have hp9I : (pk : Int) < 9 := by omega
  have c1 : ∀ d os, Calls Try.prog 8 #[.int .i64 N, .int .i64 9] (grow (redrawn w4 d) os) fun e w'' => e = .returned (.int .i64 pk) ∧ ∃ p' : Regrown, w'' = grow (redrawn w4 p'.d) p'.os := regrown_calls (fun w' t => by
    refine (pick8_any N 9 w' Hb.out.1 Hb.out.2 (by omega) (by omega)).mono ?_
    rintro x w2 ⟨rfl, rfl⟩
    rw [hpk]
    exact ⟨rfl, Tch.refl _ _⟩)
  have c2 : ∀ d os, Calls Try.prog 25 #[.agg #[pv b, pv mb], .func (.func 72) #[] #[pv r0, pv (r0 + 1)], .string s, .string t, .bool true, .int .i64 (1 + (pk : Int))] (grow (redrawn w4 d) os) fun e w'' => e = .returned (.bool true) ∧ ∃ p' : Regrown, w'' = grow (redrawn w4 p'.d) p'.os := regrown_calls (fun w' t => HGo.out w' l2 _ (HS4.out.more t) (by have := Hl2.out; omega))
  have hwr : IntKind.i64.wrap (1 + (pk : Int)) = 1 + (pk : Int) := by rw [IntKind.wrap_i64]; omega
  clear hpk hp9
  go_wp2_with fail
  refine wp_region_quiet_below (by kernel_rfl) (by kernel_rfl) ?_
  iterate 11 (quiet_step (fail))
  quiet_step ((go_at_call 8; exact c1 _ _))
  quiet_step (fail)
  quiet_step ((go_at_call 25; exact c2 _ _))
  quiet_step (fail)
  refine wpQuiet_nil ?_
  clear c1 c2 k0 k1 k2 k3 k4 k5 x0 x1 x2 x3 x4 x5 x6
  rintro w5 hw5
  have hS5 : PS W2 G2 w5 b mb l2 l2 := by obtain ⟨p', rfl⟩ := hw5; exact HS4.out.more (Tch.regrown w4 p'.d p'.os)
  clear hw5 HS4 hp9I hwr
  have HS5 : Hid (PS W2 G2 w5 b mb l2 l2) := hS5
  obtain ⟨⟨x0, x1, x2, x4, x3, x5⟩, x6⟩ := HX.out _ _ _ hS5
  have q := HWi.out w5 l2 hS5 (by have := Hl2.out; omega)
  clear hS5
  go_wp2_with fail
  refine q.mono ?_
  clear q x0 x1 x2 x3 x4 x5 x6
  rintro x w6 ⟨rfl, t6⟩
  have hS6 : PS W2 G2 w6 b mb l2 l2 := HS5.out.more t6
  obtain ⟨⟨x0, x1, x2, x4, x3, x5⟩, x6⟩ := HX.out _ _ _ hS6
  have q := del1 (s ++ (⟨#[33]⟩ : ByteArray)) hS6 (by have := Hl2.out; omega)
  clear hS6 t6 HS5
  go_wp2_with fail
  refine q.mono ?_
  clear q x0 x1 x2 x3 x4 x5 x6
  rintro x w7 ⟨l3, old2, th2, rfl, hr, hS⟩
  obtain rfl := HR.out.there hr
  have Hl3 : Hid (l3.length ≤ l2.length) := hr.le_len
  obtain ⟨⟨x0, x1, x2, x4, x3, x5⟩, x6⟩ := HX.out _ _ _ hS
  have q := del2 hS hr (by have := Hl2.out; omega)
  clear hS hr
  go_wp2_with fail
  refine q.mono ?_
  clear q x0 x1 x2 x3 x4 x5 x6
  rintro x w8 ⟨rfl, hS⟩
  have HS8 : Hid (PS W2 G2 w8 b mb l3 l3) := hS
  obtain ⟨⟨x0, x1, x2, x4, x3, x5⟩, x6⟩ := HX.out _ _ _ hS
  have q := HGo.out w8 l3 (-1) hS (by have := Hl2.out; have := Hl3.out; omega)
  clear hS
  go_wp2_with fail
  refine q.mono ?_
  clear q x0 x1 x2 x3 x4 x5 x6
  rintro x w9 ⟨rfl, t9⟩
  have HE : Hid (∃ l', PS W0 G w9 b mb l' l' ∧ l'.length ≤ l.length + 30) := ⟨l3, HS1.out _ _ _ (HS8.out.more t9), by have := HR.out.len; have := Hl3.out; omega⟩
  have e1 : (old2 == old2) = true := by simp
  clear t9 HS8
  go_wp2_with fail
  go_ret
  exact ⟨rfl, HE.out⟩
end Go.Proofs.Ytnjiiebjdpipjaa
