import Derived.Test.YtnjiiebjdpipjaaTPair
import Derived.Lib.QuietBelow
/- asks of the law: Get, Rank, At. -/
namespace Go.Proofs.Ytnjiiebjdpipjaa
open Go.RowKit Go Go.Shelf Go.Sort

/-- The two boxes of a step. -/
theorem two_new (w : World) (o1 o2 : Obj) : (((w.alloc o1).alloc o2).heap[w.heap.size]? = some o1 ∧ ((w.alloc o1).alloc o2).heap[w.heap.size + 1]? = some o2) := by
  have h2 := alloc_new (w.alloc o1) o2
  rw [World.size_alloc] at h2
  exact ⟨by rw [Below.heap_alloc _ _ _ (by simp)]; exact alloc_new _ _, h2⟩
abbrev wBox (W : World) (b mb : Nat) (p : Opv) : World := (W.alloc (.cells #[pv b, pv mb] 53)).alloc (.cells #[.bool p.other, .int .i64 p.kind, .int .i64 p.n, .string p.s, .string p.t] 55)
/-- What is read of the boxes. -/
structure BX (w : World) (q b mb : Nat) (p : Opv) : Prop where
  c0 : w.cell? ⟨q, 0, none⟩ = some (pv b)
  c1 : w.cell? ⟨q, 1, none⟩ = some (pv mb)
  d1 : w.cell? ⟨q + 1, 1, none⟩ = some (.int .i64 p.kind)
  d2 : w.cell? ⟨q + 1, 2, none⟩ = some (.int .i64 p.n)
  d3 : w.cell? ⟨q + 1, 3, none⟩ = some (.string p.s)
  d4 : w.cell? ⟨q + 1, 4, none⟩ = some (.string p.t)
theorem bx_of {w : World} {q b mb : Nat} {p : Opv} (h0 : w.heap[q]? = some (.cells #[pv b, pv mb] 53 (0, 0))) (h1 : w.heap[q + 1]? = some (.cells (opC p) 55 (0, 0))) : BX w q b mb p :=
  ⟨by rw [blk_cell h0]; rfl, by rw [blk_cell h0]; rfl, by rw [blk_cell h1]; rfl, by rw [blk_cell h1]; rfl, by rw [blk_cell h1]; rfl, by rw [blk_cell h1]; rfl⟩
theorem Tch.regrown (w : World) (d : Nat) (os : Array Obj) : Tch (fun _ => False) w (grow (redrawn w d) os) := Tch.of_below (below_regrown w d os) (Nat.le_refl _)
theorem regrown_calls {P : Program} {f : FuncId} {args : Array Value} {v : Value} {w : World} (h : ∀ W, Tch (fun _ => False) w W → Calls P f args W fun x w' => x = .returned v ∧ Tch (fun _ => False) W w') (d : Nat) (os : Array Obj) : Calls P f args (grow (redrawn w d) os) fun e w'' => e = .returned v ∧ ∃ p : Regrown, w'' = grow (redrawn w p.d) p.os :=
  Calls.regrown_of ((h _ (Tch.regrown w d os)).mono fun _ _ ⟨he, t⟩ => ⟨he, t.below (Nat.le_refl _) (fun _ _ h => h)⟩)
theorem rank_ex (k : ByteArray) {l : List It} (hs : Sorted l) : ∃ r, RankRel k l r := by
  induction l with
  | nil => exact ⟨0, [], [], rfl, rfl, fun e he => (by cases he), fun e he => (by cases he)⟩
  | cons a l ih =>
    obtain ⟨h1, h2⟩ := List.pairwise_cons.1 hs
    by_cases ha : Lo k a
    · obtain ⟨r, X, Y, e, e2, hX, hY⟩ := ih h2
      refine ⟨r + 1, a :: X, Y, by rw [e]; rfl, by rw [List.length_cons, e2], fun e he => ?_, hY⟩
      rcases List.mem_cons.1 he with rfl | he
      · exact ha
      · exact hX e he
    · refine ⟨0, [], a :: l, rfl, rfl, fun e he => (by cases he), fun e he => ?_⟩
      rcases List.mem_cons.1 he with rfl | he
      · exact ha
      · exact fun hL => ha (Lo.of (h1 e he) hL)
set_option maxHeartbeats 4000000 in
set_option maxRecDepth 100000 in
theorem asks_get (W0 : World) (G : Nat → Prop) (W : World) (b mb : Nat) (l : List It) (p : Opv) (h : PS W0 G W b mb l l) (hl : l.length < 10000000) (hk : p.kind = 3) : Calls Try.prog 46 #[.agg #[pv b, pv mb], opV p] W fun x w' => x = .returned (.bool true) ∧ PS W0 G w' b mb l l := by
  have t1 : Tch (fun _ => False) W (wBox W b mb p) := (Tch.alloc _ _ _).allocR _
  obtain ⟨k0, k1⟩ := two_new W (.cells #[pv b, pv mb] 53) (.cells (opC p) 55)
  have hbx := bx_of (p := p) k0 k1
  obtain ⟨x0, x1, x2, x4, x3, -⟩ := hbx
  obtain ⟨q0, hq0⟩ : ∃ q0, q0 = W.heap.size := ⟨_, rfl⟩
  have HX : Hid (∀ w', Tch (fun _ => False) (wBox W b mb p) w' → BX w' q0 b mb p) := fun w' t => by
    subst hq0
    exact bx_of ((t.block _ (blk_lt k0) (fun h => h)).trans k0) ((t.block _ (blk_lt k1) (fun h => h)).trans k1)
  obtain ⟨_, F, FM, ht, h1, h2, _⟩ := h.more t1
  have HP : Hid (∀ w', Tch (fun _ => False) (wBox W b mb p) w' → PS W0 G w' b mb l l) := fun w' t => h.more (t1.trans' t)
  have q := get_t _ b l ht F p.s h1
  have q2 : Hid (∀ w', Tch (fun _ => False) (wBox W b mb p) w' → Calls Try.prog 69 #[pv mb, .string p.s] w' fun x w' => (∃ v th, x = .returned (.tuple #[ev v, .bool th]) ∧ GetRel p.s l v th) ∧ Tch (fun _ => False) (wBox W b mb p) w') := fun w' t => by
    refine (get_m w' mb l FM p.s (h2.tch t (fun _ _ h => h)) (by omega)).mono ?_
    rintro x w2 ⟨h3, rfl⟩
    exact ⟨h3, t⟩
  rw [hk] at x2
  have Hq0 : Hid (q0 = W.heap.size) := hq0
  clear h h1 h2 t1 k0 k1 hl hk hq0
  go_enter Try.func46, Try.ntmps46
  go_wp2_with fail
  refine q.mono ?_
  rintro x w' ⟨⟨v, th, rfl, hr⟩, t2⟩
  rw [← Hq0.out]
  obtain ⟨y0, y1, y2, y3, y4, -⟩ := HX.out w' t2
  clear q
  have q := q2.out w' t2
  clear x0 x1 x2 x3 x4 q2 t2
  go_wp2_with fail
  refine q.mono ?_
  rintro x w2 ⟨⟨v2, th2, rfl, hr2⟩, t3⟩
  obtain ⟨rfl, rfl⟩ := hr.uniq hr2
  have HE := HP.out w2 t3
  have HE2 : Hid _ := HE
  have e1 : (v == v) = true := by simp
  have e2 : (th == th) = true := by simp
  clear HE t3 hr hr2 y0 y1 y2 y3 y4 q
  go_wp2_with fail
  go_ret
  exact ⟨rfl, HE2.out⟩
set_option maxHeartbeats 4000000 in
set_option maxRecDepth 100000 in
theorem asks_rank (W0 : World) (G : Nat → Prop) (W : World) (b mb : Nat) (l : List It) (p : Opv) (h : PS W0 G W b mb l l) (hl : l.length < 10000000) (hk : p.kind = 6) : Calls Try.prog 46 #[.agg #[pv b, pv mb], opV p] W fun x w' => x = .returned (.bool true) ∧ PS W0 G w' b mb l l := by
  have t1 : Tch (fun _ => False) W (wBox W b mb p) := (Tch.alloc _ _ _).allocR _
  obtain ⟨k0, k1⟩ := two_new W (.cells #[pv b, pv mb] 53) (.cells (opC p) 55)
  have hbx := bx_of (p := p) k0 k1
  obtain ⟨x0, x1, x2, x4, x3, -⟩ := hbx
  obtain ⟨q0, hq0⟩ : ∃ q0, q0 = W.heap.size := ⟨_, rfl⟩
  have HX : Hid (∀ w', Tch (fun _ => False) (wBox W b mb p) w' → BX w' q0 b mb p) := fun w' t => by
    subst hq0
    exact bx_of ((t.block _ (blk_lt k0) (fun h => h)).trans k0) ((t.block _ (blk_lt k1) (fun h => h)).trans k1)
  obtain ⟨_, F, FM, ht, h1, h2, _⟩ := h.more t1
  have HP : Hid (∀ w', Tch (fun _ => False) (wBox W b mb p) w' → PS W0 G w' b mb l l) := fun w' t => h.more (t1.trans' t)
  obtain ⟨r, hr⟩ := rank_ex p.s h.so.1
  have c1 : ∀ d os, Calls Try.prog 48 #[pv b, .string p.s] (grow (redrawn (wBox W b mb p) d) os) fun e w'' => e = .returned (.int .i64 r) ∧ ∃ p' : Regrown, w'' = grow (redrawn (wBox W b mb p) p'.d) p'.os := regrown_calls (fun w' t => by
    refine (rank_t w' b l ht F p.s (h1.tch t (fun _ _ h => h)) (by omega)).mono ?_
    rintro x w2 ⟨⟨r2, rfl, h3⟩, h4⟩
    rw [h3.uniq hr]
    exact ⟨rfl, h4⟩)
  have c2 : ∀ d os, Calls Try.prog 68 #[pv mb, .string p.s] (grow (redrawn (wBox W b mb p) d) os) fun e w'' => e = .returned (.int .i64 r) ∧ ∃ p' : Regrown, w'' = grow (redrawn (wBox W b mb p) p'.d) p'.os := regrown_calls (fun w' t => by
    refine (rank_m w' mb l FM p.s (h2.tch t (fun _ _ h => h)) (by omega)).mono ?_
    rintro x w2 ⟨⟨r2, rfl, h3⟩, rfl⟩
    rw [h3.uniq hr]
    exact ⟨rfl, Tch.refl _ _⟩)
  obtain ⟨W1, hW1⟩ : ∃ W1, W1 = wBox W b mb p := ⟨_, rfl⟩
  rw [← hW1] at c1 c2 HP
  have HW1 : Hid (W1 = wBox W b mb p) := hW1
  rw [hk] at x2
  have n0 : W1.cell? ⟨q0, 0, none⟩ = some (pv b) := by rw [hW1, hq0]; exact x0
  have n1 : W1.cell? ⟨q0, 1, none⟩ = some (pv mb) := by rw [hW1, hq0]; exact x1
  have n3 : W1.cell? ⟨q0 + 1, 3, none⟩ = some (.string p.s) := by rw [hW1, hq0]; exact x3
  have k0 := cell_regrown n0
  have k1 := cell_regrown n1
  have k3 := cell_regrown n3
  have e1 : ((r : Int) == (r : Int)) = true := by simp
  have Hq0 : Hid (q0 = W.heap.size) := hq0
  clear h h1 h2 t1 hl hk hq0 hW1 hr HX
  go_enter Try.func46, Try.ntmps46
  go_wp2_with fail
  have hw : W1 = ((W.alloc (.cells #[pv b, pv mb] 53)).alloc (.cells #[.bool p.other, .int .i64 p.kind, .int .i64 p.n, .string p.s, .string p.t] 55)) := HW1.out
  rw [← hw, ← Hq0.out]
  clear hw HW1 x0 x1 x2 x3 x4
  refine wp_region_quiet_below (by kernel_rfl) (by kernel_rfl) ?_
  repeat (quiet_step (first | (go_at_call 48; exact c1 _ _) | (go_at_call 68; exact c2 _ _)))
  refine wpQuiet_nil ?_
  rintro w1 ⟨p', rfl⟩
  have HE := HP.out _ (Tch.regrown W1 p'.d p'.os)
  have HE2 : Hid _ := HE
  clear HE
  go_wp2_with fail
  go_ret
  exact ⟨rfl, HE2.out⟩
end Go.Proofs.Ytnjiiebjdpipjaa
