import Derived.Test.YtnjiiebjdpipjaaTAsk2
import Derived.Test.YtnjiiebjdpipjaaTAsk3
import Derived.Test.YtnjiiebjdpipjaaTAsk4
import Derived.Test.YtnjiiebjdpipjaaTPlay1
import Derived.BigQuiet
/- play of the law: what asks. -/
namespace Go.Proofs.Ytnjiiebjdpipjaa
open Go.RowKit Go Go.Shelf Go.Sort

/-- What asks, of any kind. -/
theorem asks_any (W0 : World) (G : Nat → Prop) (W : World) (b mb : Nat) (l : List It) (p : Opv) (h : PS W0 G W b mb l l) (hl : l.length < 1000000) (hb1 : -9223372036854775808 ≤ p.n) (hb2 : p.n ≤ 9223372036854775807) (hs : p.s.size < 1000000000000000000) (hk : p.kind = 3 ∨ p.kind = 4 ∨ p.kind = 5 ∨ p.kind = 6 ∨ p.kind = 7 ∨ p.kind = 10) : Calls Try.prog 46 #[.agg #[pv b, pv mb], opV p] W fun x w' => x = .returned (.bool true) ∧ ∃ l', PS W0 G w' b mb l' l' ∧ l'.length ≤ l.length + 30 := by
  have hz : ∀ x w', (x = Ending.returned (.bool true) ∧ PS W0 G w' b mb l l) → (x = .returned (.bool true) ∧ ∃ l', PS W0 G w' b mb l' l' ∧ l'.length ≤ l.length + 30) := fun x w' hh => ⟨hh.1, l, hh.2, by omega⟩
  rcases hk with hk | hk | hk | hk | hk | hk
  · exact (asks_get W0 G W b mb l p h (by omega) hk).mono hz
  · obtain ⟨ot, kd, N, s, t⟩ := p
    simp only at hk
    subst hk
    exact asks_range W0 G W b mb l ot N s t h hl hb1 hb2 hs
  · obtain ⟨ot, kd, N, s, t⟩ := p
    simp only at hk
    subst hk
    exact asks_back W0 G W b mb l ot N s t h hl hb1 hb2 hs
  · exact (asks_rank W0 G W b mb l p h (by omega) hk).mono hz
  · by_cases hn : p.n < 0 ∨ (l.length : Int) ≤ p.n
    · exact (asks_at7o W0 G W b mb l p h (by omega) hk p.n rfl hn).mono hz
    · exact (asks_at7i W0 G W b mb l p h (by omega) hk p.n.toNat (by omega) (by omega)).mono hz
  · by_cases hn : l.length = 0
    · exact (asks_at10o W0 G W b mb l p h (by omega) hk p.n rfl hn).mono hz
    · exact (asks_at10i W0 G W b mb l p h (by omega) hb1 hb2 hk (by omega)).mono hz
set_option maxHeartbeats 8000000 in
set_option maxRecDepth 100000 in
theorem play_ask3 (W0 : World) (G : Nat → Prop) (W : World) (b mb : Nat) (l : List It) (ot : Bool) (kd N : Int) (s t : ByteArray) (h : PS W0 G W b mb l l) (hl : l.length < 900000) (hb1 : -9223372036854775808 ≤ N) (hb2 : N ≤ 9223372036854775807) (hs : s.size < 1000000000000000000) (hk : kd = 3) : Calls Try.prog 24 #[.agg #[pv b, pv mb], opV ⟨ot, kd, N, s, t⟩] W fun x w' => x = .returned (.bool true) ∧ ∃ l', PS W0 G w' b mb l' l' ∧ l'.length ≤ l.length + 30 := by
  subst hk
  obtain ⟨q0, hq0⟩ : ∃ q0, q0 = W.heap.size := ⟨_, rfl⟩
  obtain ⟨W1, hW1⟩ : ∃ W1, W1 = wBox W b mb ⟨ot, 3, N, s, t⟩ := ⟨_, rfl⟩
  have t1 : Tch (fun _ => False) W W1 := by rw [hW1]; exact (Tch.alloc _ _ _).allocR _
  obtain ⟨k0, k1⟩ := two_new W (.cells #[pv b, pv mb] 53) (.cells (opC ⟨ot, 3, N, s, t⟩) 55)
  have k0' : W1.heap[q0]? = some (.cells #[pv b, pv mb] 53 (0, 0)) := by rw [hW1, hq0]; exact k0
  have k1' : W1.heap[q0 + 1]? = some (.cells (opC ⟨ot, 3, N, s, t⟩) 55 (0, 0)) := by rw [hW1, hq0]; exact k1
  obtain ⟨x0, x1, x2, x4, x3, x5⟩ := bx_of (p := ⟨ot, 3, N, s, t⟩) k0' k1'
  obtain ⟨G2, -, hg1, -, hg2⟩ := h.anew
  obtain ⟨hS0, hS1⟩ := hg2 W1 t1
  have HX : Hid (∀ w' m m', PS W1 G2 w' b mb m m' → BX w' q0 b mb ⟨ot, 3, N, s, t⟩) := fun w' m m' hh => bx_of (hh.cell k0' (fun hG => by have := hg1 _ hG; omega)) (hh.cell k1' (fun hG => by have := hg1 _ hG; omega))
  have HS1 : Hid (∀ w' m m', PS W1 G2 w' b mb m m' → PS W0 G w' b mb m m') := fun w' m m' hh => (hS1 w' b mb m m' hh).1
  have HW1 : Hid (W1 = wBox W b mb ⟨ot, 3, N, s, t⟩) := hW1
  have Hq0 : Hid (q0 = W.heap.size) := hq0
  have Hl : Hid (l.length < 900000) := hl
  have HS0 : Hid (PS W1 G2 W1 b mb l l) := hS0
  have Hb : Hid (-9223372036854775808 ≤ N ∧ N ≤ 9223372036854775807) := ⟨hb1, hb2⟩
  have Hs : Hid (s.size < 1000000000000000000) := hs
  have q := asks_any W1 G2 W1 b mb l ⟨ot, 3, N, s, t⟩ hS0 (by omega) hb1 hb2 hs (by simp)
  have x6 : W1.cell? ⟨q0 + 1, 0, none⟩ = some (.bool ot) := by rw [blk_cell k1']; rfl
  rw [hW1, hq0] at x6
  rw [hW1, hq0] at x0 x1 x2 x3 x4 x5
  clear k0 k1 k0' k1' h hg1 hg2 hl hb1 hb2 hs t1 hW1 hq0 hS0 hS1
  go_enter Try.func24, Try.ntmps24
  go_wp2_with fail
  have hw : W1 = ((W.alloc (.cells #[pv b, pv mb] 53)).alloc (.cells #[.bool ot, .int .i64 3, .int .i64 N, .string s, .string t] 55)) := HW1.out
  rw [← hw, ← Hq0.out]
  clear hw HW1 Hq0
  refine q.mono ?_
  clear q x0 x1 x2 x3 x4 x5 x6
  rintro x w3 ⟨rfl, l2, hS, hl2⟩
  have HE : Hid (∃ l', PS W0 G w3 b mb l' l' ∧ l'.length ≤ l.length + 30) := ⟨l2, HS1.out _ _ _ hS, hl2⟩
  clear hS hl2
  go_wp2_with fail
  go_ret
  exact ⟨rfl, HE.out⟩
set_option maxHeartbeats 8000000 in
set_option maxRecDepth 100000 in
theorem play_ask4 (W0 : World) (G : Nat → Prop) (W : World) (b mb : Nat) (l : List It) (ot : Bool) (kd N : Int) (s t : ByteArray) (h : PS W0 G W b mb l l) (hl : l.length < 900000) (hb1 : -9223372036854775808 ≤ N) (hb2 : N ≤ 9223372036854775807) (hs : s.size < 1000000000000000000) (hk : kd = 4) : Calls Try.prog 24 #[.agg #[pv b, pv mb], opV ⟨ot, kd, N, s, t⟩] W fun x w' => x = .returned (.bool true) ∧ ∃ l', PS W0 G w' b mb l' l' ∧ l'.length ≤ l.length + 30 := by
  subst hk
  obtain ⟨q0, hq0⟩ : ∃ q0, q0 = W.heap.size := ⟨_, rfl⟩
  obtain ⟨W1, hW1⟩ : ∃ W1, W1 = wBox W b mb ⟨ot, 4, N, s, t⟩ := ⟨_, rfl⟩
  have t1 : Tch (fun _ => False) W W1 := by rw [hW1]; exact (Tch.alloc _ _ _).allocR _
  obtain ⟨k0, k1⟩ := two_new W (.cells #[pv b, pv mb] 53) (.cells (opC ⟨ot, 4, N, s, t⟩) 55)
  have k0' : W1.heap[q0]? = some (.cells #[pv b, pv mb] 53 (0, 0)) := by rw [hW1, hq0]; exact k0
  have k1' : W1.heap[q0 + 1]? = some (.cells (opC ⟨ot, 4, N, s, t⟩) 55 (0, 0)) := by rw [hW1, hq0]; exact k1
  obtain ⟨x0, x1, x2, x4, x3, x5⟩ := bx_of (p := ⟨ot, 4, N, s, t⟩) k0' k1'
  obtain ⟨G2, -, hg1, -, hg2⟩ := h.anew
  obtain ⟨hS0, hS1⟩ := hg2 W1 t1
  have HX : Hid (∀ w' m m', PS W1 G2 w' b mb m m' → BX w' q0 b mb ⟨ot, 4, N, s, t⟩) := fun w' m m' hh => bx_of (hh.cell k0' (fun hG => by have := hg1 _ hG; omega)) (hh.cell k1' (fun hG => by have := hg1 _ hG; omega))
  have HS1 : Hid (∀ w' m m', PS W1 G2 w' b mb m m' → PS W0 G w' b mb m m') := fun w' m m' hh => (hS1 w' b mb m m' hh).1
  have HW1 : Hid (W1 = wBox W b mb ⟨ot, 4, N, s, t⟩) := hW1
  have Hq0 : Hid (q0 = W.heap.size) := hq0
  have Hl : Hid (l.length < 900000) := hl
  have HS0 : Hid (PS W1 G2 W1 b mb l l) := hS0
  have Hb : Hid (-9223372036854775808 ≤ N ∧ N ≤ 9223372036854775807) := ⟨hb1, hb2⟩
  have Hs : Hid (s.size < 1000000000000000000) := hs
  have q := asks_any W1 G2 W1 b mb l ⟨ot, 4, N, s, t⟩ hS0 (by omega) hb1 hb2 hs (by simp)
  have x6 : W1.cell? ⟨q0 + 1, 0, none⟩ = some (.bool ot) := by rw [blk_cell k1']; rfl
  rw [hW1, hq0] at x6
  rw [hW1, hq0] at x0 x1 x2 x3 x4 x5
  clear k0 k1 k0' k1' h hg1 hg2 hl hb1 hb2 hs t1 hW1 hq0 hS0 hS1
  go_enter Try.func24, Try.ntmps24
  go_wp2_with fail
  have hw : W1 = ((W.alloc (.cells #[pv b, pv mb] 53)).alloc (.cells #[.bool ot, .int .i64 4, .int .i64 N, .string s, .string t] 55)) := HW1.out
  rw [← hw, ← Hq0.out]
  clear hw HW1 Hq0
  refine q.mono ?_
  clear q x0 x1 x2 x3 x4 x5 x6
  rintro x w3 ⟨rfl, l2, hS, hl2⟩
  have HE : Hid (∃ l', PS W0 G w3 b mb l' l' ∧ l'.length ≤ l.length + 30) := ⟨l2, HS1.out _ _ _ hS, hl2⟩
  clear hS hl2
  go_wp2_with fail
  go_ret
  exact ⟨rfl, HE.out⟩
set_option maxHeartbeats 8000000 in
set_option maxRecDepth 100000 in
theorem play_ask5 (W0 : World) (G : Nat → Prop) (W : World) (b mb : Nat) (l : List It) (ot : Bool) (kd N : Int) (s t : ByteArray) (h : PS W0 G W b mb l l) (hl : l.length < 900000) (hb1 : -9223372036854775808 ≤ N) (hb2 : N ≤ 9223372036854775807) (hs : s.size < 1000000000000000000) (hk : kd = 5) : Calls Try.prog 24 #[.agg #[pv b, pv mb], opV ⟨ot, kd, N, s, t⟩] W fun x w' => x = .returned (.bool true) ∧ ∃ l', PS W0 G w' b mb l' l' ∧ l'.length ≤ l.length + 30 := by
  subst hk
  obtain ⟨q0, hq0⟩ : ∃ q0, q0 = W.heap.size := ⟨_, rfl⟩
  obtain ⟨W1, hW1⟩ : ∃ W1, W1 = wBox W b mb ⟨ot, 5, N, s, t⟩ := ⟨_, rfl⟩
  have t1 : Tch (fun _ => False) W W1 := by rw [hW1]; exact (Tch.alloc _ _ _).allocR _
  obtain ⟨k0, k1⟩ := two_new W (.cells #[pv b, pv mb] 53) (.cells (opC ⟨ot, 5, N, s, t⟩) 55)
  have k0' : W1.heap[q0]? = some (.cells #[pv b, pv mb] 53 (0, 0)) := by rw [hW1, hq0]; exact k0
  have k1' : W1.heap[q0 + 1]? = some (.cells (opC ⟨ot, 5, N, s, t⟩) 55 (0, 0)) := by rw [hW1, hq0]; exact k1
  obtain ⟨x0, x1, x2, x4, x3, x5⟩ := bx_of (p := ⟨ot, 5, N, s, t⟩) k0' k1'
  obtain ⟨G2, -, hg1, -, hg2⟩ := h.anew
  obtain ⟨hS0, hS1⟩ := hg2 W1 t1
  have HX : Hid (∀ w' m m', PS W1 G2 w' b mb m m' → BX w' q0 b mb ⟨ot, 5, N, s, t⟩) := fun w' m m' hh => bx_of (hh.cell k0' (fun hG => by have := hg1 _ hG; omega)) (hh.cell k1' (fun hG => by have := hg1 _ hG; omega))
  have HS1 : Hid (∀ w' m m', PS W1 G2 w' b mb m m' → PS W0 G w' b mb m m') := fun w' m m' hh => (hS1 w' b mb m m' hh).1
  have HW1 : Hid (W1 = wBox W b mb ⟨ot, 5, N, s, t⟩) := hW1
  have Hq0 : Hid (q0 = W.heap.size) := hq0
  have Hl : Hid (l.length < 900000) := hl
  have HS0 : Hid (PS W1 G2 W1 b mb l l) := hS0
  have Hb : Hid (-9223372036854775808 ≤ N ∧ N ≤ 9223372036854775807) := ⟨hb1, hb2⟩
  have Hs : Hid (s.size < 1000000000000000000) := hs
  have q := asks_any W1 G2 W1 b mb l ⟨ot, 5, N, s, t⟩ hS0 (by omega) hb1 hb2 hs (by simp)
  have x6 : W1.cell? ⟨q0 + 1, 0, none⟩ = some (.bool ot) := by rw [blk_cell k1']; rfl
  rw [hW1, hq0] at x6
  rw [hW1, hq0] at x0 x1 x2 x3 x4 x5
  clear k0 k1 k0' k1' h hg1 hg2 hl hb1 hb2 hs t1 hW1 hq0 hS0 hS1
  go_enter Try.func24, Try.ntmps24
  go_wp2_with fail
  have hw : W1 = ((W.alloc (.cells #[pv b, pv mb] 53)).alloc (.cells #[.bool ot, .int .i64 5, .int .i64 N, .string s, .string t] 55)) := HW1.out
  rw [← hw, ← Hq0.out]
  clear hw HW1 Hq0
  refine q.mono ?_
  clear q x0 x1 x2 x3 x4 x5 x6
  rintro x w3 ⟨rfl, l2, hS, hl2⟩
  have HE : Hid (∃ l', PS W0 G w3 b mb l' l' ∧ l'.length ≤ l.length + 30) := ⟨l2, HS1.out _ _ _ hS, hl2⟩
  clear hS hl2
  go_wp2_with fail
  go_ret
  exact ⟨rfl, HE.out⟩
set_option maxHeartbeats 8000000 in
set_option maxRecDepth 100000 in
theorem play_ask6 (W0 : World) (G : Nat → Prop) (W : World) (b mb : Nat) (l : List It) (ot : Bool) (kd N : Int) (s t : ByteArray) (h : PS W0 G W b mb l l) (hl : l.length < 900000) (hb1 : -9223372036854775808 ≤ N) (hb2 : N ≤ 9223372036854775807) (hs : s.size < 1000000000000000000) (hk : kd = 6) : Calls Try.prog 24 #[.agg #[pv b, pv mb], opV ⟨ot, kd, N, s, t⟩] W fun x w' => x = .returned (.bool true) ∧ ∃ l', PS W0 G w' b mb l' l' ∧ l'.length ≤ l.length + 30 := by
  subst hk
  obtain ⟨q0, hq0⟩ : ∃ q0, q0 = W.heap.size := ⟨_, rfl⟩
  obtain ⟨W1, hW1⟩ : ∃ W1, W1 = wBox W b mb ⟨ot, 6, N, s, t⟩ := ⟨_, rfl⟩
  have t1 : Tch (fun _ => False) W W1 := by rw [hW1]; exact (Tch.alloc _ _ _).allocR _
  obtain ⟨k0, k1⟩ := two_new W (.cells #[pv b, pv mb] 53) (.cells (opC ⟨ot, 6, N, s, t⟩) 55)
  have k0' : W1.heap[q0]? = some (.cells #[pv b, pv mb] 53 (0, 0)) := by rw [hW1, hq0]; exact k0
  have k1' : W1.heap[q0 + 1]? = some (.cells (opC ⟨ot, 6, N, s, t⟩) 55 (0, 0)) := by rw [hW1, hq0]; exact k1
  obtain ⟨x0, x1, x2, x4, x3, x5⟩ := bx_of (p := ⟨ot, 6, N, s, t⟩) k0' k1'
  obtain ⟨G2, -, hg1, -, hg2⟩ := h.anew
  obtain ⟨hS0, hS1⟩ := hg2 W1 t1
  have HX : Hid (∀ w' m m', PS W1 G2 w' b mb m m' → BX w' q0 b mb ⟨ot, 6, N, s, t⟩) := fun w' m m' hh => bx_of (hh.cell k0' (fun hG => by have := hg1 _ hG; omega)) (hh.cell k1' (fun hG => by have := hg1 _ hG; omega))
  have HS1 : Hid (∀ w' m m', PS W1 G2 w' b mb m m' → PS W0 G w' b mb m m') := fun w' m m' hh => (hS1 w' b mb m m' hh).1
  have HW1 : Hid (W1 = wBox W b mb ⟨ot, 6, N, s, t⟩) := hW1
  have Hq0 : Hid (q0 = W.heap.size) := hq0
  have Hl : Hid (l.length < 900000) := hl
  have HS0 : Hid (PS W1 G2 W1 b mb l l) := hS0
  have Hb : Hid (-9223372036854775808 ≤ N ∧ N ≤ 9223372036854775807) := ⟨hb1, hb2⟩
  have Hs : Hid (s.size < 1000000000000000000) := hs
  have q := asks_any W1 G2 W1 b mb l ⟨ot, 6, N, s, t⟩ hS0 (by omega) hb1 hb2 hs (by simp)
  have x6 : W1.cell? ⟨q0 + 1, 0, none⟩ = some (.bool ot) := by rw [blk_cell k1']; rfl
  rw [hW1, hq0] at x6
  rw [hW1, hq0] at x0 x1 x2 x3 x4 x5
  clear k0 k1 k0' k1' h hg1 hg2 hl hb1 hb2 hs t1 hW1 hq0 hS0 hS1
  go_enter Try.func24, Try.ntmps24
  go_wp2_with fail
  have hw : W1 = ((W.alloc (.cells #[pv b, pv mb] 53)).alloc (.cells #[.bool ot, .int .i64 6, .int .i64 N, .string s, .string t] 55)) := HW1.out
  rw [← hw, ← Hq0.out]
  clear hw HW1 Hq0
  refine q.mono ?_
  clear q x0 x1 x2 x3 x4 x5 x6
  rintro x w3 ⟨rfl, l2, hS, hl2⟩
  have HE : Hid (∃ l', PS W0 G w3 b mb l' l' ∧ l'.length ≤ l.length + 30) := ⟨l2, HS1.out _ _ _ hS, hl2⟩
  clear hS hl2
  go_wp2_with fail
  go_ret
  exact ⟨rfl, HE.out⟩
set_option maxHeartbeats 8000000 in
set_option maxRecDepth 100000 in
theorem play_ask7 (W0 : World) (G : Nat → Prop) (W : World) (b mb : Nat) (l : List It) (ot : Bool) (kd N : Int) (s t : ByteArray) (h : PS W0 G W b mb l l) (hl : l.length < 900000) (hb1 : -9223372036854775808 ≤ N) (hb2 : N ≤ 9223372036854775807) (hs : s.size < 1000000000000000000) (hk : kd = 7) : Calls Try.prog 24 #[.agg #[pv b, pv mb], opV ⟨ot, kd, N, s, t⟩] W fun x w' => x = .returned (.bool true) ∧ ∃ l', PS W0 G w' b mb l' l' ∧ l'.length ≤ l.length + 30 := by
  subst hk
  obtain ⟨q0, hq0⟩ : ∃ q0, q0 = W.heap.size := ⟨_, rfl⟩
  obtain ⟨W1, hW1⟩ : ∃ W1, W1 = wBox W b mb ⟨ot, 7, N, s, t⟩ := ⟨_, rfl⟩
  have t1 : Tch (fun _ => False) W W1 := by rw [hW1]; exact (Tch.alloc _ _ _).allocR _
  obtain ⟨k0, k1⟩ := two_new W (.cells #[pv b, pv mb] 53) (.cells (opC ⟨ot, 7, N, s, t⟩) 55)
  have k0' : W1.heap[q0]? = some (.cells #[pv b, pv mb] 53 (0, 0)) := by rw [hW1, hq0]; exact k0
  have k1' : W1.heap[q0 + 1]? = some (.cells (opC ⟨ot, 7, N, s, t⟩) 55 (0, 0)) := by rw [hW1, hq0]; exact k1
  obtain ⟨x0, x1, x2, x4, x3, x5⟩ := bx_of (p := ⟨ot, 7, N, s, t⟩) k0' k1'
  obtain ⟨G2, -, hg1, -, hg2⟩ := h.anew
  obtain ⟨hS0, hS1⟩ := hg2 W1 t1
  have HX : Hid (∀ w' m m', PS W1 G2 w' b mb m m' → BX w' q0 b mb ⟨ot, 7, N, s, t⟩) := fun w' m m' hh => bx_of (hh.cell k0' (fun hG => by have := hg1 _ hG; omega)) (hh.cell k1' (fun hG => by have := hg1 _ hG; omega))
  have HS1 : Hid (∀ w' m m', PS W1 G2 w' b mb m m' → PS W0 G w' b mb m m') := fun w' m m' hh => (hS1 w' b mb m m' hh).1
  have HW1 : Hid (W1 = wBox W b mb ⟨ot, 7, N, s, t⟩) := hW1
  have Hq0 : Hid (q0 = W.heap.size) := hq0
  have Hl : Hid (l.length < 900000) := hl
  have HS0 : Hid (PS W1 G2 W1 b mb l l) := hS0
  have Hb : Hid (-9223372036854775808 ≤ N ∧ N ≤ 9223372036854775807) := ⟨hb1, hb2⟩
  have Hs : Hid (s.size < 1000000000000000000) := hs
  have q := asks_any W1 G2 W1 b mb l ⟨ot, 7, N, s, t⟩ hS0 (by omega) hb1 hb2 hs (by simp)
  have x6 : W1.cell? ⟨q0 + 1, 0, none⟩ = some (.bool ot) := by rw [blk_cell k1']; rfl
  rw [hW1, hq0] at x6
  rw [hW1, hq0] at x0 x1 x2 x3 x4 x5
  clear k0 k1 k0' k1' h hg1 hg2 hl hb1 hb2 hs t1 hW1 hq0 hS0 hS1
  go_enter Try.func24, Try.ntmps24
  go_wp2_with fail
  have hw : W1 = ((W.alloc (.cells #[pv b, pv mb] 53)).alloc (.cells #[.bool ot, .int .i64 7, .int .i64 N, .string s, .string t] 55)) := HW1.out
  rw [← hw, ← Hq0.out]
  clear hw HW1 Hq0
  refine q.mono ?_
  clear q x0 x1 x2 x3 x4 x5 x6
  rintro x w3 ⟨rfl, l2, hS, hl2⟩
  have HE : Hid (∃ l', PS W0 G w3 b mb l' l' ∧ l'.length ≤ l.length + 30) := ⟨l2, HS1.out _ _ _ hS, hl2⟩
  clear hS hl2
  go_wp2_with fail
  go_ret
  exact ⟨rfl, HE.out⟩
set_option maxHeartbeats 8000000 in
set_option maxRecDepth 100000 in
theorem play_ask10 (W0 : World) (G : Nat → Prop) (W : World) (b mb : Nat) (l : List It) (ot : Bool) (kd N : Int) (s t : ByteArray) (h : PS W0 G W b mb l l) (hl : l.length < 900000) (hb1 : -9223372036854775808 ≤ N) (hb2 : N ≤ 9223372036854775807) (hs : s.size < 1000000000000000000) (hk : kd = 10) : Calls Try.prog 24 #[.agg #[pv b, pv mb], opV ⟨ot, kd, N, s, t⟩] W fun x w' => x = .returned (.bool true) ∧ ∃ l', PS W0 G w' b mb l' l' ∧ l'.length ≤ l.length + 30 := by
  subst hk
  obtain ⟨q0, hq0⟩ : ∃ q0, q0 = W.heap.size := ⟨_, rfl⟩
  obtain ⟨W1, hW1⟩ : ∃ W1, W1 = wBox W b mb ⟨ot, 10, N, s, t⟩ := ⟨_, rfl⟩
  have t1 : Tch (fun _ => False) W W1 := by rw [hW1]; exact (Tch.alloc _ _ _).allocR _
  obtain ⟨k0, k1⟩ := two_new W (.cells #[pv b, pv mb] 53) (.cells (opC ⟨ot, 10, N, s, t⟩) 55)
  have k0' : W1.heap[q0]? = some (.cells #[pv b, pv mb] 53 (0, 0)) := by rw [hW1, hq0]; exact k0
  have k1' : W1.heap[q0 + 1]? = some (.cells (opC ⟨ot, 10, N, s, t⟩) 55 (0, 0)) := by rw [hW1, hq0]; exact k1
  obtain ⟨x0, x1, x2, x4, x3, x5⟩ := bx_of (p := ⟨ot, 10, N, s, t⟩) k0' k1'
  obtain ⟨G2, -, hg1, -, hg2⟩ := h.anew
  obtain ⟨hS0, hS1⟩ := hg2 W1 t1
  have HX : Hid (∀ w' m m', PS W1 G2 w' b mb m m' → BX w' q0 b mb ⟨ot, 10, N, s, t⟩) := fun w' m m' hh => bx_of (hh.cell k0' (fun hG => by have := hg1 _ hG; omega)) (hh.cell k1' (fun hG => by have := hg1 _ hG; omega))
  have HS1 : Hid (∀ w' m m', PS W1 G2 w' b mb m m' → PS W0 G w' b mb m m') := fun w' m m' hh => (hS1 w' b mb m m' hh).1
  have HW1 : Hid (W1 = wBox W b mb ⟨ot, 10, N, s, t⟩) := hW1
  have Hq0 : Hid (q0 = W.heap.size) := hq0
  have Hl : Hid (l.length < 900000) := hl
  have HS0 : Hid (PS W1 G2 W1 b mb l l) := hS0
  have Hb : Hid (-9223372036854775808 ≤ N ∧ N ≤ 9223372036854775807) := ⟨hb1, hb2⟩
  have Hs : Hid (s.size < 1000000000000000000) := hs
  have q := asks_any W1 G2 W1 b mb l ⟨ot, 10, N, s, t⟩ hS0 (by omega) hb1 hb2 hs (by simp)
  have x6 : W1.cell? ⟨q0 + 1, 0, none⟩ = some (.bool ot) := by rw [blk_cell k1']; rfl
  rw [hW1, hq0] at x6
  rw [hW1, hq0] at x0 x1 x2 x3 x4 x5
  clear k0 k1 k0' k1' h hg1 hg2 hl hb1 hb2 hs t1 hW1 hq0 hS0 hS1
  go_enter Try.func24, Try.ntmps24
  go_wp2_with fail
  have hw : W1 = ((W.alloc (.cells #[pv b, pv mb] 53)).alloc (.cells #[.bool ot, .int .i64 10, .int .i64 N, .string s, .string t] 55)) := HW1.out
  rw [← hw, ← Hq0.out]
  clear hw HW1 Hq0
  refine q.mono ?_
  clear q x0 x1 x2 x3 x4 x5 x6
  rintro x w3 ⟨rfl, l2, hS, hl2⟩
  have HE : Hid (∃ l', PS W0 G w3 b mb l' l' ∧ l'.length ≤ l.length + 30) := ⟨l2, HS1.out _ _ _ hS, hl2⟩
  clear hS hl2
  go_wp2_with fail
  go_ret
  exact ⟨rfl, HE.out⟩
end Go.Proofs.Ytnjiiebjdpipjaa
