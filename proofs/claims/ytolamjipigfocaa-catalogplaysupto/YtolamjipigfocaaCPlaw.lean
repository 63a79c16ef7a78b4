import Derived.Test.YtolamjipigfocaaCPl1
/- CatalogPlays: the law. -/
namespace Go.Proofs.Ytolamjipigfocaa
open Go.RowKit Go

theorem first_at {w : World} {fb fc : Nat} {Z : Nat → Prop} (h : w.heap[fb]? = some (.cells (fcl fc).toArray 45 (0, 0))) (i : Nat) (hi : i < 3) (h0 : (fop0 fc).ok Z w) : ∃ p : Opv, OpAt w fb (i * 12) p ∧ p.ok Z w ∧ (p.kd = 1 ∨ p.kd = 4 ∨ p.kd = 7) := by
  have key : ∀ p : Opv, (∀ j, j < 12 → (fcl fc)[i * 12 + j]? = p.cel[j]?) → OpAt w fb (i * 12) p := fun p hp j u hu => by
    have hj : j < 12 := by have := (List.getElem?_eq_some_iff.1 hu).1; simpa [Opv.cel] using this
    rw [blk_cell h, ← Array.getElem?_toList]
    show (fcl fc)[i * 12 + j]? = some u
    rw [hp j hj]; exact hu
  have : i = 0 ∨ i = 1 ∨ i = 2 := by omega
  rcases this with rfl | rfl | rfl
  · exact ⟨fop0 fc, key _ (fun j hj => by
      have : j = 0 ∨ j = 1 ∨ j = 2 ∨ j = 3 ∨ j = 4 ∨ j = 5 ∨ j = 6 ∨ j = 7 ∨ j = 8 ∨ j = 9 ∨ j = 10 ∨ j = 11 := by omega
      rcases this with rfl | rfl | rfl | rfl | rfl | rfl | rfl | rfl | rfl | rfl | rfl | rfl <;> rfl), h0, Or.inl rfl⟩
  · exact ⟨fop1, key _ (fun j hj => by
      have : j = 0 ∨ j = 1 ∨ j = 2 ∨ j = 3 ∨ j = 4 ∨ j = 5 ∨ j = 6 ∨ j = 7 ∨ j = 8 ∨ j = 9 ∨ j = 10 ∨ j = 11 := by omega
      rcases this with rfl | rfl | rfl | rfl | rfl | rfl | rfl | rfl | rfl | rfl | rfl | rfl <;> rfl), fop1_ok _ _, Or.inr (Or.inl rfl)⟩
  · exact ⟨fopK 7, key _ (fun j hj => by
      have : j = 0 ∨ j = 1 ∨ j = 2 ∨ j = 3 ∨ j = 4 ∨ j = 5 ∨ j = 6 ∨ j = 7 ∨ j = 8 ∨ j = 9 ∨ j = 10 ∨ j = 11 := by omega
      rcases this with rfl | rfl | rfl | rfl | rfl | rfl | rfl | rfl | rfl | rfl | rfl | rfl <;> rfl), fopK_ok _ _ _, Or.inr (Or.inr rfl)⟩
/-- How it begins. -/
theorem PLs.begin {w w1 w2 w3 : World} (h1 : w1 = w.alloc (.cells #[.slice none 0 0, .int .i64 0] 55)) (h2 : w2 = w1.alloc (.cells #[.slice none 0 0, .int .i64 1] 57))
    (h3 : w3 = (((w2.alloc (.cells #[.pointer (some ⟨w.heap.size, 0, none⟩), .pointer (some ⟨w1.heap.size, 0, none⟩)] 28)).alloc (.cells book0 41)).alloc (.cells fcols.toArray 43)).alloc (.cells (fcl (w.heap.size + 4)).toArray 45)) :
    ∃ o, PLs w (w.heap.size + 3) 0 [(w.heap.size, w.heap.size + 1)] (.slice (some ⟨w.heap.size + 2, 0, none⟩) 1 1) w3 o := by
  obtain ⟨N, hN⟩ : ∃ N, N = w.heap.size := ⟨_, rfl⟩
  have s1 : w1.heap.size = N + 1 := by rw [h1, World.size_alloc, hN]
  have s2 : w2.heap.size = N + 2 := by rw [h2, World.size_alloc, s1]
  rw [s1, ← hN] at h3
  obtain ⟨x1, hx1⟩ : ∃ x1, x1 = w2.alloc (.cells #[.pointer (some ⟨N, 0, none⟩), .pointer (some ⟨N + 1, 0, none⟩)] 28) := ⟨_, rfl⟩
  rw [← hx1] at h3
  obtain ⟨x2, hx2⟩ : ∃ x2, x2 = x1.alloc (.cells book0 41) := ⟨_, rfl⟩
  rw [← hx2] at h3
  obtain ⟨x3, hx3⟩ : ∃ x3, x3 = x2.alloc (.cells fcols.toArray 43) := ⟨_, rfl⟩
  rw [← hx3] at h3
  have z1 : x1.heap.size = N + 3 := by rw [hx1, World.size_alloc, s2]
  have z2 : x2.heap.size = N + 4 := by rw [hx2, World.size_alloc, z1]
  have z3 : x3.heap.size = N + 5 := by rw [hx3, World.size_alloc, z2]
  have z4 : w3.heap.size = N + 6 := by rw [h3, World.size_alloc, z3]
  have t1 : Tch (fun _ => False) w w1 := by rw [h1]; exact Tch.alloc _ _ _
  have t2 : Tch (fun _ => False) w1 w2 := by rw [h2]; exact Tch.alloc _ _ _
  have t3 : Tch (fun _ => False) w2 x1 := by rw [hx1]; exact Tch.alloc _ _ _
  have t4 : Tch (fun _ => False) x1 x2 := by rw [hx2]; exact Tch.alloc _ _ _
  have t5 : Tch (fun _ => False) x2 x3 := by rw [hx3]; exact Tch.alloc _ _ _
  have t6 : Tch (fun _ => False) x3 w3 := by rw [h3]; exact Tch.alloc _ _ _
  have b6 : w3.heap[N + 5]? = some (.cells (fcl (N + 4)).toArray 45 (0, 0)) := by rw [h3, ← z3]; exact alloc_new _ _
  have b5 : w3.heap[N + 4]? = some (.cells fcols.toArray 43 (0, 0)) := by rw [t6.block (N + 4) (by omega) (fun h => h), hx3, ← z2]; exact alloc_new _ _
  have b4 : w3.heap[N + 3]? = some (.cells book0 41 (0, 0)) := by rw [(t5.trans' t6).block (N + 3) (by omega) (fun h => h), hx2, ← z1]; exact alloc_new _ _
  have b3 : w3.heap[N + 2]? = some (.cells #[.pointer (some ⟨N, 0, none⟩), .pointer (some ⟨N + 1, 0, none⟩)] 28 (0, 0)) := by rw [((t4.trans' t5).trans' t6).block (N + 2) (by omega) (fun h => h), hx1, ← s2]; exact alloc_new _ _
  have b2 : w3.heap[N + 1]? = some (.cells #[.slice none 0 0, .int .i64 1] 57 (0, 0)) := by rw [(((t3.trans' t4).trans' t5).trans' t6).block (N + 1) (by omega) (fun h => h), h2, ← s1]; exact alloc_new _ _
  have b1 : w3.heap[N]? = some (.cells #[.slice none 0 0, .int .i64 0] 55 (0, 0)) := by rw [((((t2.trans' t3).trans' t4).trans' t5).trans' t6).block N (by omega) (fun h => h), h1, hN]; exact alloc_new _ _
  obtain ⟨o, ho⟩ : ∃ o : Nat → Nat, o = fun i => if i = N then 20 else if i = N + 1 then 21 else if i = N + 2 then 3 else if i = N + 3 then 10 else 0 := ⟨_, rfl⟩
  have l1 : o N = 20 := by rw [ho]; simp
  have l2 : o (N + 1) = 21 := by rw [ho]; simp
  have l3 : o (N + 2) = 3 := by rw [ho]; simp
  have l4 : o (N + 3) = 10 := by rw [ho]; simp
  have l0 : ∀ i, i < N ∨ i = N + 4 ∨ i = N + 5 → o i = 0 := fun i hi => by
    rw [ho]
    show (if i = N then 20 else if i = N + 1 then 21 else if i = N + 2 then 3 else if i = N + 3 then 10 else 0) = 0
    rw [if_neg (by omega), if_neg (by omega), if_neg (by omega), if_neg (by omega)]
  rw [← hN]
  have hgi : GI [] 0 := LG0.gi (LG0.nil 1) (by simp) (by omega) (by omega)
  refine ⟨o, BE.nil b4 l4, fun j hj => ?_, ⟨fun i hi => ?_, fun i hi => l0 i (by unfold ZL at hi; rw [← hN] at hi; exact hi)⟩, ((((t1.trans' t2).trans' t3).trans' t4).trans' t5).trans' t6, ⟨rfl, Or.inr ⟨N + 2, 1, _, rfl, Nat.zero_le _, b3, by simp, by unfold maxLen; omega, rfl, rfl⟩⟩, fun g e => ?_, by simp, by simp, by rw [← hN]; exact b5, by rw [← hN]; exact b6⟩
  · obtain rfl : j = 0 := by simpa using hj
    refine ⟨[], 0, ⟨[], none, 0, b1, rfl, TL.nil _ _, fun hf => hf.2 l1⟩, ⟨[], .slice none 0 0, ⟨b2, Nat.zero_le _, rfl, ⟨⟨rfl, Or.inl ⟨rfl, rfl⟩⟩, fun i hi => by simp at hi, fun i hi => by simp at hi, fun i j hi => by simp at hi⟩, by simp [Value.ownBlock], fun i hi => by simp at hi⟩, l2, fun g hg => ?_⟩, hgi⟩
    rcases hg with e | ⟨i, hi, _⟩
    · cases e
    · simp at hi
  · unfold ZL at hi
    rw [← hN] at hi
    omega
  · have e3 : N + 2 = g := by simpa [Value.ownBlock] using e
    rw [← e3]; exact l3

set_option maxHeartbeats 8000000 in
set_option maxRecDepth 100000 in
theorem plays_law (ao : Option Addr) (len cap : Nat) (w : World) (hlen : len ≤ 116508) (ops : Nat → Opv) (hops : ∀ k, k < len → ∃ g off, ao = some ⟨g, off, none⟩ ∧ OpAt w g (off + k * 12) (ops k) ∧ (ops k).ok (fun i => i < w.heap.size) w) :
    Calls Try.prog 3 #[.slice ao len cap] w fun x w' => x = .returned (.bool true) ∧ Tch (fun _ => False) w w' := by
  obtain ⟨N, hN⟩ : ∃ N, N = w.heap.size := ⟨_, rfl⟩
  have Hops : Hid _ := hops
  have q1 := new_any w
  rw [← hN] at q1
  have HN : Hid (N = w.heap.size) := hN
  clear hN hops
  go_enter Try.func3, Try.ntmps3
  go_wp2_with fail
  refine q1.mono ?_
  rintro x w1 ⟨rfl, hw1⟩
  have q2 := rnew_any w1
  have Hw1 : Hid _ := hw1
  clear q1 hw1
  go_wp2_with fail
  refine q2.mono ?_
  rintro x w2 ⟨rfl, hw2⟩
  have Hw2 : Hid _ := hw2
  clear q2 hw2
  go_wp2_with fail
  obtain ⟨gl0, hgl0⟩ : ∃ gl, gl = w2.heap.size := ⟨_, rfl⟩
  rw [← hgl0]
  obtain ⟨bk, hbk⟩ : ∃ bk, bk = gl0 + 1 := ⟨_, rfl⟩
  rw [← hbk]
  obtain ⟨fc, hfc⟩ : ∃ fc, fc = bk + 1 := ⟨_, rfl⟩
  rw [← hfc]
  obtain ⟨fb, hfb⟩ : ∃ fb, fb = fc + 1 := ⟨_, rfl⟩
  rw [← hfb]
  obtain ⟨r0, hr0⟩ : ∃ r0, r0 = w1.heap.size := ⟨_, rfl⟩
  rw [← hr0]
  generalize hw3 : World.alloc _ _ = w3
  have hsz : w1.heap.size = w.heap.size + 1 ∧ w2.heap.size = w.heap.size + 2 := by
    have h1 : w1.heap.size = w.heap.size + 1 := by rw [Hw1.out, World.size_alloc]
    exact ⟨h1, by rw [Hw2.out, World.size_alloc, h1]⟩
  have e1 : bk = w.heap.size + 3 := by omega
  have e2 : fc = w.heap.size + 4 := by omega
  have e3 : gl0 = w.heap.size + 2 := by omega
  have Hfb : Hid (fb = w.heap.size + 5) := by show _ = _; omega
  have HP0 : Hid (∃ o, PLs w bk (500 * 0) [(N, r0)] (.slice (some ⟨gl0, 0, none⟩) 1 1) w3 o) := by
    have h := PLs.begin Hw1.out Hw2.out (w3 := w3) (by rw [← hw3, HN.out, hr0, e2]; rfl)
    rw [e1, e3, HN.out, show r0 = w.heap.size + 1 by omega]
    exact h
  clear hgl0 hbk hfc hfb hr0 hw3 hsz e1 e2 e3 Hw1 Hw2
  go_loopw [4, 7] (fun lv iv wr => ∃ (i : Nat) (Ps : List (Nat × Nat)), iv = .int .i64 i ∧ i ≤ 3 + len ∧ Hid (∃ o, PLs w bk (500 * i) Ps lv wr o)) (fun _ iv _ => 3 + len - (intOf iv).toNat)
  case atStart => exact ⟨0, _, rfl, by omega, HP0⟩
  case round =>
    clear HP0
    obtain ⟨i, Ps, rfl, hi, HS⟩ := hrel
    obtain ⟨wV, hwV⟩ : ∃ wV, wV = wr := ⟨_, rfl⟩
    subst hwV
    obtain ⟨np, hnp⟩ : ∃ np, np = Ps.length := ⟨_, rfl⟩
    obtain ⟨gl, lc, hlv, Hat, hl1, hl6⟩ : ∃ g c, _ ∧ Hid (∀ j (hj : j < Ps.length), wV.cell? ⟨g, j * 2, none⟩ = some (.pointer (some ⟨Ps[j].1, 0, none⟩)) ∧ wV.cell? ⟨g, j * 2 + 1, none⟩ = some (.pointer (some ⟨Ps[j].2, 0, none⟩))) ∧ 1 ≤ np ∧ np ≤ 6 := by
      obtain ⟨o, h⟩ := HS.out
      obtain ⟨g, c, h1, h2⟩ := h.at
      rw [← hnp] at h1
      exact ⟨g, c, h1, h2, by rw [hnp]; exact h.l1, by rw [hnp]; exact h.l6⟩
    subst hlv
    have Hnp : Hid (np = Ps.length) := hnp
    clear hnp
    obtain ⟨i2, hi2, hx0, hx1, hx2⟩ := info_parts info_pair
    by_cases hlt : (i : Int) < 3 + (len : Int)
    · by_cases h3 : (i : Int) < 3
      · obtain ⟨p, hat, hok, hcase⟩ : ∃ p : Opv, OpAt wV fb (i * 12) p ∧ p.ok (ZL w) wV ∧ (p.kd = 1 ∨ p.kd = 4 ∨ p.kd = 7) := by
          obtain ⟨o, h⟩ := HS.out
          have hf2 := h.f2
          rw [← Hfb.out] at hf2
          exact first_at hf2 i (by omega) (fop0_ok _ _ _ (Or.inr (Or.inl rfl)) h.f1)
        have tz := Tch.alloc (fun _ => False) wV (.cells #[.int .i64 0, .int .i64 0, .int .i64 0, .string ⟨#[]⟩, .slice none 0 0, .int .i64 0, .int .i64 0, .string ⟨#[]⟩, .slice none 0 0, .int .i64 0, .slice none 0 0, .slice none 0 0] 45)
        have z0 : (wV.alloc (.cells #[.int .i64 0, .int .i64 0, .int .i64 0, .string ⟨#[]⟩, .slice none 0 0, .int .i64 0, .int .i64 0, .string ⟨#[]⟩, .slice none 0 0, .int .i64 0, .slice none 0 0, .slice none 0 0] 45)).cell? ⟨fb, i * 12, none⟩ = some (.int .i64 p.kd) := by
          have hj := hat 0 _ rfl
          rw [Nat.add_zero] at hj
          rw [tz.cell (cell_lt hj) (fun h => h)]
          exact hj
        have z1 : (wV.alloc (.cells #[.int .i64 0, .int .i64 0, .int .i64 0, .string ⟨#[]⟩, .slice none 0 0, .int .i64 0, .int .i64 0, .string ⟨#[]⟩, .slice none 0 0, .int .i64 0, .slice none 0 0, .slice none 0 0] 45)).cell? ⟨fb, i * 12 + 1, none⟩ = some (.int .i64 p.on) := by
          have hj := hat 1 _ rfl
          rw [tz.cell (cell_lt hj) (fun h => h)]
          exact hj
        have z2 : (wV.alloc (.cells #[.int .i64 0, .int .i64 0, .int .i64 0, .string ⟨#[]⟩, .slice none 0 0, .int .i64 0, .int .i64 0, .string ⟨#[]⟩, .slice none 0 0, .int .i64 0, .slice none 0 0, .slice none 0 0] 45)).cell? ⟨fb, i * 12 + 2, none⟩ = some (.int .i64 p.N) := by
          have hj := hat 2 _ rfl
          rw [tz.cell (cell_lt hj) (fun h => h)]
          exact hj
        have z3 : (wV.alloc (.cells #[.int .i64 0, .int .i64 0, .int .i64 0, .string ⟨#[]⟩, .slice none 0 0, .int .i64 0, .int .i64 0, .string ⟨#[]⟩, .slice none 0 0, .int .i64 0, .slice none 0 0, .slice none 0 0] 45)).cell? ⟨fb, i * 12 + 3, none⟩ = some (.string p.nm) := by
          have hj := hat 3 _ rfl
          rw [tz.cell (cell_lt hj) (fun h => h)]
          exact hj
        have z4 : (wV.alloc (.cells #[.int .i64 0, .int .i64 0, .int .i64 0, .string ⟨#[]⟩, .slice none 0 0, .int .i64 0, .int .i64 0, .string ⟨#[]⟩, .slice none 0 0, .int .i64 0, .slice none 0 0, .slice none 0 0] 45)).cell? ⟨fb, i * 12 + 4, none⟩ = some (.slice p.ca p.cols.length p.cc) := by
          have hj := hat 4 _ rfl
          rw [tz.cell (cell_lt hj) (fun h => h)]
          exact hj
        have z5 : (wV.alloc (.cells #[.int .i64 0, .int .i64 0, .int .i64 0, .string ⟨#[]⟩, .slice none 0 0, .int .i64 0, .int .i64 0, .string ⟨#[]⟩, .slice none 0 0, .int .i64 0, .slice none 0 0, .slice none 0 0] 45)).cell? ⟨fb, i * 12 + 5, none⟩ = some (.int .i64 p.T.id) := by
          have hj := hat 5 _ rfl
          rw [tz.cell (cell_lt hj) (fun h => h)]
          exact hj
        have z6 : (wV.alloc (.cells #[.int .i64 0, .int .i64 0, .int .i64 0, .string ⟨#[]⟩, .slice none 0 0, .int .i64 0, .int .i64 0, .string ⟨#[]⟩, .slice none 0 0, .int .i64 0, .slice none 0 0, .slice none 0 0] 45)).cell? ⟨fb, i * 12 + 6, none⟩ = some (.int .i64 p.T.ver) := by
          have hj := hat 6 _ rfl
          rw [tz.cell (cell_lt hj) (fun h => h)]
          exact hj
        have z7 : (wV.alloc (.cells #[.int .i64 0, .int .i64 0, .int .i64 0, .string ⟨#[]⟩, .slice none 0 0, .int .i64 0, .int .i64 0, .string ⟨#[]⟩, .slice none 0 0, .int .i64 0, .slice none 0 0, .slice none 0 0] 45)).cell? ⟨fb, i * 12 + 7, none⟩ = some (.string p.T.nm) := by
          have hj := hat 7 _ rfl
          rw [tz.cell (cell_lt hj) (fun h => h)]
          exact hj
        have z8 : (wV.alloc (.cells #[.int .i64 0, .int .i64 0, .int .i64 0, .string ⟨#[]⟩, .slice none 0 0, .int .i64 0, .int .i64 0, .string ⟨#[]⟩, .slice none 0 0, .int .i64 0, .slice none 0 0, .slice none 0 0] 45)).cell? ⟨fb, i * 12 + 8, none⟩ = some (.slice p.ta p.T.cols.length p.tc) := by
          have hj := hat 8 _ rfl
          rw [tz.cell (cell_lt hj) (fun h => h)]
          exact hj
        have z9 : (wV.alloc (.cells #[.int .i64 0, .int .i64 0, .int .i64 0, .string ⟨#[]⟩, .slice none 0 0, .int .i64 0, .int .i64 0, .string ⟨#[]⟩, .slice none 0 0, .int .i64 0, .slice none 0 0, .slice none 0 0] 45)).cell? ⟨fb, i * 12 + 9, none⟩ = some (.int .i64 p.T.key) := by
          have hj := hat 9 _ rfl
          rw [tz.cell (cell_lt hj) (fun h => h)]
          exact hj
        have z10 : (wV.alloc (.cells #[.int .i64 0, .int .i64 0, .int .i64 0, .string ⟨#[]⟩, .slice none 0 0, .int .i64 0, .int .i64 0, .string ⟨#[]⟩, .slice none 0 0, .int .i64 0, .slice none 0 0, .slice none 0 0] 45)).cell? ⟨fb, i * 12 + 10, none⟩ = some (.slice p.lo p.l.length p.lc) := by
          have hj := hat 10 _ rfl
          rw [tz.cell (cell_lt hj) (fun h => h)]
          exact hj
        have z11 : (wV.alloc (.cells #[.int .i64 0, .int .i64 0, .int .i64 0, .string ⟨#[]⟩, .slice none 0 0, .int .i64 0, .int .i64 0, .string ⟨#[]⟩, .slice none 0 0, .int .i64 0, .slice none 0 0, .slice none 0 0] 45)).cell? ⟨fb, i * 12 + 11, none⟩ = some (.slice p.ro p.vs.length p.rc) := by
          have hj := hat 11 _ rfl
          rw [tz.cell (cell_lt hj) (fun h => h)]
          exact hj
        obtain ⟨j, hj⟩ : ∃ j, j = pkN p.on np := ⟨_, rfl⟩
        have qp : ∀ W, Calls Try.prog 6 #[.int .i64 p.on, .int .i64 np] W fun x w' => x = .returned (.int .i64 j) ∧ w' = W := fun W => by rw [hj]; exact pick_any p.on np W hok.b3 hok.b4 (by omega) (by omega)
        have hjn : j < np := by rw [hj]; exact pkN_lt _ (by omega)
        have Hj : Hid (j < Ps.length) := by have := Hnp.out; show _ < _; omega
        obtain ⟨c, hc⟩ : ∃ c, c = (Ps[j]'Hj.out).1 := ⟨_, rfl⟩
        obtain ⟨r, hr⟩ : ∃ r, r = (Ps[j]'Hj.out).2 := ⟨_, rfl⟩
        have Hcr : Hid (c = (Ps[j]'Hj.out).1 ∧ r = (Ps[j]'Hj.out).2) := ⟨hc, hr⟩
        have tb : Tch (fun _ => False) wV (wV.alloc (.cells #[.int .i64 p.kd, .int .i64 p.on, .int .i64 p.N, .string p.nm, .slice p.ca p.cols.length p.cc, .int .i64 p.T.id, .int .i64 p.T.ver, .string p.T.nm, .slice p.ta p.T.cols.length p.tc, .int .i64 p.T.key, .slice p.lo p.l.length p.lc, .slice p.ro p.vs.length p.rc] 45)) := Tch.alloc _ _ _
        have c0 : (wV.alloc (.cells #[.int .i64 p.kd, .int .i64 p.on, .int .i64 p.N, .string p.nm, .slice p.ca p.cols.length p.cc, .int .i64 p.T.id, .int .i64 p.T.ver, .string p.T.nm, .slice p.ta p.T.cols.length p.tc, .int .i64 p.T.key, .slice p.lo p.l.length p.lc, .slice p.ro p.vs.length p.rc] 45)).cell? ⟨gl, j * 2, none⟩ = some (.pointer (some ⟨c, 0, none⟩)) := by
          have h1 := (Hat.out j Hj.out).1
          rw [tb.cell (cell_lt h1) (fun h => h), hc]; exact h1
        have c1 : (wV.alloc (.cells #[.int .i64 p.kd, .int .i64 p.on, .int .i64 p.N, .string p.nm, .slice p.ca p.cols.length p.cc, .int .i64 p.T.id, .int .i64 p.T.ver, .string p.T.nm, .slice p.ta p.T.cols.length p.tc, .int .i64 p.T.key, .slice p.lo p.l.length p.lc, .slice p.ro p.vs.length p.rc] 45)).cell? ⟨gl, j * 2 + 1, none⟩ = some (.pointer (some ⟨r, 0, none⟩)) := by
          have h1 := (Hat.out j Hj.out).2
          rw [tb.cell (cell_lt h1) (fun h => h), hr]; exact h1
        obtain ⟨wq, hwq⟩ : ∃ wq, wq = (wV.alloc (.cells #[.int .i64 p.kd, .int .i64 p.on, .int .i64 p.N, .string p.nm, .slice p.ca p.cols.length p.cc, .int .i64 p.T.id, .int .i64 p.T.ver, .string p.T.nm, .slice p.ta p.T.cols.length p.tc, .int .i64 p.T.key, .slice p.lo p.l.length p.lc, .slice p.ro p.vs.length p.rc] 45)).alloc (.cells #[.pointer (some ⟨c, 0, none⟩), .pointer (some ⟨r, 0, none⟩)] 28) := ⟨_, rfl⟩
        have tq : Tch (fun _ => False) wV wq := by rw [hwq]; exact tb.allocR _
        have HSq : Hid (∃ o, PLs w bk (500 * i) Ps (.slice (some ⟨gl, 0, none⟩) np lc) wq o) := by
          obtain ⟨o, h⟩ := HS.out
          exact ⟨_, h.no tq 5 (Or.inl rfl)⟩
        have Hokq : Hid (p.ok (ZL w) wq) := hok.tch (tq.mono (fun _ _ h => h.elim))
        have Hwq : Hid _ := hwq
        have hjI : (j : Int) < np := by omega
        clear hj hc hr tz tb tq hwq hok hat
        go_wp2_with fail
        refine (qp _).mono ?_
        rintro x wy ⟨rfl, hwy⟩
        subst hwy
        clear qp
        rcases hcase with hkd | hkd | hkd
        · as_aux_lemma =>
            have kk1 : (p.kd == 1) = true := by rw [hkd]; decide
            have kk2 : (p.kd == 2) = false := by rw [hkd]; decide
            have kk3 : (p.kd == 3) = false := by rw [hkd]; decide
            have kk4 : (p.kd == 4) = false := by rw [hkd]; decide
            have kk5 : (p.kd == 5) = false := by rw [hkd]; decide
            have kk6 : (p.kd == 6) = false := by rw [hkd]; decide
            have kk7 : (p.kd == 7) = false := by rw [hkd]; decide
            have kk8 : (p.kd == 8) = false := by rw [hkd]; decide
            have kk9 : (p.kd == 9) = false := by rw [hkd]; decide
            have kk10 : (p.kd == 10) = false := by rw [hkd]; decide
            have kk11 : (p.kd == 11) = false := by rw [hkd]; decide
            have kk12 : (p.kd == 12) = false := by rw [hkd]; decide
            have kk13 : (p.kd == 13) = false := by rw [hkd]; decide
            have kk14 : (p.kd == 14) = false := by rw [hkd]; decide
            have kk15 : (p.kd == 15) = false := by rw [hkd]; decide
            have qA : Calls Try.prog 7 #[.agg #[.pointer (some ⟨c, 0, none⟩), .pointer (some ⟨r, 0, none⟩)], .pointer (some ⟨bk, 0, none⟩), .agg #[.int .i64 p.kd, .int .i64 p.on, .int .i64 p.N, .string p.nm, .slice p.ca p.cols.length p.cc, .int .i64 p.T.id, .int .i64 p.T.ver, .string p.T.nm, .slice p.ta p.T.cols.length p.tc, .int .i64 p.T.key, .slice p.lo p.l.length p.lc, .slice p.ro p.vs.length p.rc]] wq fun x w' => x = .returned (.bool true) ∧ (∃ o, PLs w bk (500 * (i + 1)) Ps (.slice (some ⟨gl, 0, none⟩) np lc) w' o) := by
              obtain ⟨o, h⟩ := HSq.out
              have h1 := h.chg j Hj.out p Hokq.out (by omega) (Or.inl hkd)
              rw [← Hcr.out.1, ← Hcr.out.2] at h1
              refine h1.mono ?_
              rintro x w' ⟨rfl, o', h'⟩
              exact ⟨rfl, o', h'.mono (by omega)⟩
            clear hkd Hokq HSq
            go_wp2_with fail
            have hwq := Hwq.out
            rw [← hwq]
            clear hwq
            refine qA.mono ?_
            rintro x w5 ⟨rfl, h5⟩
            have HS5 : Hid (∃ o, PLs w bk (500 * (i + 1)) Ps (.slice (some ⟨gl, 0, none⟩) np lc) w5 o) := h5
            clear qA h5 c0 c1 z0 z1 z2 z3 z4 z5 z6 z7 z8 z9 z10 z11
            have s1 : Calls Try.prog 14 #[.pointer (some ⟨bk, 0, none⟩)] w5 fun x w' => x = .returned (.bool true) ∧ w' = w5 := by
              obtain ⟨o5, h5⟩ := HS5.out
              exact h5.still (by omega)
            go_wp2_with fail
            refine s1.mono ?_
            rintro x wy ⟨rfl, hwy⟩
            obtain rfl := hwy.symm
            clear s1 hwy
            go_wp2_with fail
            go_roundw
            case rel => exact ⟨i + 1, Ps, by go_num, by omega, HS5⟩
            case measure => simp [intOf]; omega
        · as_aux_lemma =>
            have kk1 : (p.kd == 1) = false := by rw [hkd]; decide
            have kk2 : (p.kd == 2) = false := by rw [hkd]; decide
            have kk3 : (p.kd == 3) = false := by rw [hkd]; decide
            have kk4 : (p.kd == 4) = true := by rw [hkd]; decide
            have kk5 : (p.kd == 5) = false := by rw [hkd]; decide
            have kk6 : (p.kd == 6) = false := by rw [hkd]; decide
            have kk7 : (p.kd == 7) = false := by rw [hkd]; decide
            have kk8 : (p.kd == 8) = false := by rw [hkd]; decide
            have kk9 : (p.kd == 9) = false := by rw [hkd]; decide
            have kk10 : (p.kd == 10) = false := by rw [hkd]; decide
            have kk11 : (p.kd == 11) = false := by rw [hkd]; decide
            have kk12 : (p.kd == 12) = false := by rw [hkd]; decide
            have kk13 : (p.kd == 13) = false := by rw [hkd]; decide
            have kk14 : (p.kd == 14) = false := by rw [hkd]; decide
            have kk15 : (p.kd == 15) = false := by rw [hkd]; decide
            have qA : Calls Try.prog 13 #[.agg #[.pointer (some ⟨c, 0, none⟩), .pointer (some ⟨r, 0, none⟩)], .pointer (some ⟨bk, 0, none⟩), .agg #[.int .i64 p.kd, .int .i64 p.on, .int .i64 p.N, .string p.nm, .slice p.ca p.cols.length p.cc, .int .i64 p.T.id, .int .i64 p.T.ver, .string p.T.nm, .slice p.ta p.T.cols.length p.tc, .int .i64 p.T.key, .slice p.lo p.l.length p.lc, .slice p.ro p.vs.length p.rc]] wq fun x w' => x = .returned (.bool true) ∧ (∃ o, PLs w bk (500 * (i + 1)) Ps (.slice (some ⟨gl, 0, none⟩) np lc) w' o) := by
              obtain ⟨o, h⟩ := HSq.out
              have h1 := h.ask j Hj.out p Hokq.out (by omega) (Or.inl hkd)
              rw [← Hcr.out.1, ← Hcr.out.2] at h1
              refine h1.mono ?_
              rintro x w' ⟨rfl, o', h'⟩
              exact ⟨rfl, o', h'.mono (by omega)⟩
            clear hkd Hokq HSq
            go_wp2_with fail
            have hwq := Hwq.out
            rw [← hwq]
            clear hwq
            refine qA.mono ?_
            rintro x w5 ⟨rfl, h5⟩
            have HS5 : Hid (∃ o, PLs w bk (500 * (i + 1)) Ps (.slice (some ⟨gl, 0, none⟩) np lc) w5 o) := h5
            clear qA h5 c0 c1 z0 z1 z2 z3 z4 z5 z6 z7 z8 z9 z10 z11
            have s1 : Calls Try.prog 14 #[.pointer (some ⟨bk, 0, none⟩)] w5 fun x w' => x = .returned (.bool true) ∧ w' = w5 := by
              obtain ⟨o5, h5⟩ := HS5.out
              exact h5.still (by omega)
            go_wp2_with fail
            refine s1.mono ?_
            rintro x wy ⟨rfl, hwy⟩
            obtain rfl := hwy.symm
            clear s1 hwy
            go_wp2_with fail
            go_roundw
            case rel => exact ⟨i + 1, Ps, by go_num, by omega, HS5⟩
            case measure => simp [intOf]; omega
        · as_aux_lemma =>
            have kk1 : (p.kd == 1) = false := by rw [hkd]; decide
            have kk2 : (p.kd == 2) = false := by rw [hkd]; decide
            have kk3 : (p.kd == 3) = false := by rw [hkd]; decide
            have kk4 : (p.kd == 4) = false := by rw [hkd]; decide
            have kk5 : (p.kd == 5) = false := by rw [hkd]; decide
            have kk6 : (p.kd == 6) = false := by rw [hkd]; decide
            have kk7 : (p.kd == 7) = true := by rw [hkd]; decide
            have kk8 : (p.kd == 8) = false := by rw [hkd]; decide
            have kk9 : (p.kd == 9) = false := by rw [hkd]; decide
            have kk10 : (p.kd == 10) = false := by rw [hkd]; decide
            have kk11 : (p.kd == 11) = false := by rw [hkd]; decide
            have kk12 : (p.kd == 12) = false := by rw [hkd]; decide
            have kk13 : (p.kd == 13) = false := by rw [hkd]; decide
            have kk14 : (p.kd == 14) = false := by rw [hkd]; decide
            have kk15 : (p.kd == 15) = false := by rw [hkd]; decide
            have qA : Calls Try.prog 13 #[.agg #[.pointer (some ⟨c, 0, none⟩), .pointer (some ⟨r, 0, none⟩)], .pointer (some ⟨bk, 0, none⟩), .agg #[.int .i64 p.kd, .int .i64 p.on, .int .i64 p.N, .string p.nm, .slice p.ca p.cols.length p.cc, .int .i64 p.T.id, .int .i64 p.T.ver, .string p.T.nm, .slice p.ta p.T.cols.length p.tc, .int .i64 p.T.key, .slice p.lo p.l.length p.lc, .slice p.ro p.vs.length p.rc]] wq fun x w' => x = .returned (.bool true) ∧ (∃ o, PLs w bk (500 * (i + 1)) Ps (.slice (some ⟨gl, 0, none⟩) np lc) w' o) := by
              obtain ⟨o, h⟩ := HSq.out
              have h1 := h.ask j Hj.out p Hokq.out (by omega) (Or.inr (Or.inr (Or.inr (Or.inl hkd))))
              rw [← Hcr.out.1, ← Hcr.out.2] at h1
              refine h1.mono ?_
              rintro x w' ⟨rfl, o', h'⟩
              exact ⟨rfl, o', h'.mono (by omega)⟩
            clear hkd Hokq HSq
            go_wp2_with fail
            have hwq := Hwq.out
            rw [← hwq]
            clear hwq
            refine qA.mono ?_
            rintro x w5 ⟨rfl, h5⟩
            have HS5 : Hid (∃ o, PLs w bk (500 * (i + 1)) Ps (.slice (some ⟨gl, 0, none⟩) np lc) w5 o) := h5
            clear qA h5 c0 c1 z0 z1 z2 z3 z4 z5 z6 z7 z8 z9 z10 z11
            have s1 : Calls Try.prog 14 #[.pointer (some ⟨bk, 0, none⟩)] w5 fun x w' => x = .returned (.bool true) ∧ w' = w5 := by
              obtain ⟨o5, h5⟩ := HS5.out
              exact h5.still (by omega)
            go_wp2_with fail
            refine s1.mono ?_
            rintro x wy ⟨rfl, hwy⟩
            obtain rfl := hwy.symm
            clear s1 hwy
            go_wp2_with fail
            go_roundw
            case rel => exact ⟨i + 1, Ps, by go_num, by omega, HS5⟩
            case measure => simp [intOf]; omega
      · obtain ⟨y, hy⟩ : ∃ y : Nat, (i : Int) - 3 = y := ⟨i - 3, by omega⟩
        have hyl : y < len := by omega
        have hyl' : (y : Int) < len := by omega
        obtain ⟨g, off, hao, hat0, hok0⟩ := Hops.out y hyl
        subst hao
        obtain ⟨p, hp⟩ : ∃ p, p = ops y := ⟨_, rfl⟩
        rw [← hp] at hat0 hok0
        have hT : Tch (fun _ => False) w wV := by
          obtain ⟨o, h⟩ := HS.out
          exact h.tc
        have hat : OpAt wV g (off + y * 12) p := hat0.no hT
        have hok : p.ok (ZL w) wV := (hok0.up (fun i hi => Or.inl hi)).tch (hT.mono (fun _ _ h => h.elim))
        have hcase : p.kd = 1 ∨ p.kd = 2 ∨ p.kd = 3 ∨ p.kd = 4 ∨ p.kd = 5 ∨ p.kd = 6 ∨ p.kd = 7 ∨ p.kd = 8 ∨ p.kd = 9 ∨ p.kd = 10 ∨ p.kd = 11 ∨ p.kd = 12 ∨ p.kd = 13 ∨ p.kd = 14 ∨ p.kd = 15 ∨ (p.kd ≠ 1 ∧ p.kd ≠ 2 ∧ p.kd ≠ 3 ∧ p.kd ≠ 4 ∧ p.kd ≠ 5 ∧ p.kd ≠ 6 ∧ p.kd ≠ 7 ∧ p.kd ≠ 8 ∧ p.kd ≠ 9 ∧ p.kd ≠ 10 ∧ p.kd ≠ 11 ∧ p.kd ≠ 12 ∧ p.kd ≠ 13 ∧ p.kd ≠ 14 ∧ p.kd ≠ 15) := by omega
        clear hp hat0 hok0 hT
        have tz := Tch.alloc (fun _ => False) wV (.cells #[.int .i64 0, .int .i64 0, .int .i64 0, .string ⟨#[]⟩, .slice none 0 0, .int .i64 0, .int .i64 0, .string ⟨#[]⟩, .slice none 0 0, .int .i64 0, .slice none 0 0, .slice none 0 0] 45)
        have z0 : (wV.alloc (.cells #[.int .i64 0, .int .i64 0, .int .i64 0, .string ⟨#[]⟩, .slice none 0 0, .int .i64 0, .int .i64 0, .string ⟨#[]⟩, .slice none 0 0, .int .i64 0, .slice none 0 0, .slice none 0 0] 45)).cell? ⟨g, off + y * 12, none⟩ = some (.int .i64 p.kd) := by
          have hj := hat 0 _ rfl
          rw [Nat.add_zero] at hj
          rw [tz.cell (cell_lt hj) (fun h => h)]
          exact hj
        have z1 : (wV.alloc (.cells #[.int .i64 0, .int .i64 0, .int .i64 0, .string ⟨#[]⟩, .slice none 0 0, .int .i64 0, .int .i64 0, .string ⟨#[]⟩, .slice none 0 0, .int .i64 0, .slice none 0 0, .slice none 0 0] 45)).cell? ⟨g, off + y * 12 + 1, none⟩ = some (.int .i64 p.on) := by
          have hj := hat 1 _ rfl
          rw [tz.cell (cell_lt hj) (fun h => h)]
          exact hj
        have z2 : (wV.alloc (.cells #[.int .i64 0, .int .i64 0, .int .i64 0, .string ⟨#[]⟩, .slice none 0 0, .int .i64 0, .int .i64 0, .string ⟨#[]⟩, .slice none 0 0, .int .i64 0, .slice none 0 0, .slice none 0 0] 45)).cell? ⟨g, off + y * 12 + 2, none⟩ = some (.int .i64 p.N) := by
          have hj := hat 2 _ rfl
          rw [tz.cell (cell_lt hj) (fun h => h)]
          exact hj
        have z3 : (wV.alloc (.cells #[.int .i64 0, .int .i64 0, .int .i64 0, .string ⟨#[]⟩, .slice none 0 0, .int .i64 0, .int .i64 0, .string ⟨#[]⟩, .slice none 0 0, .int .i64 0, .slice none 0 0, .slice none 0 0] 45)).cell? ⟨g, off + y * 12 + 3, none⟩ = some (.string p.nm) := by
          have hj := hat 3 _ rfl
          rw [tz.cell (cell_lt hj) (fun h => h)]
          exact hj
        have z4 : (wV.alloc (.cells #[.int .i64 0, .int .i64 0, .int .i64 0, .string ⟨#[]⟩, .slice none 0 0, .int .i64 0, .int .i64 0, .string ⟨#[]⟩, .slice none 0 0, .int .i64 0, .slice none 0 0, .slice none 0 0] 45)).cell? ⟨g, off + y * 12 + 4, none⟩ = some (.slice p.ca p.cols.length p.cc) := by
          have hj := hat 4 _ rfl
          rw [tz.cell (cell_lt hj) (fun h => h)]
          exact hj
        have z5 : (wV.alloc (.cells #[.int .i64 0, .int .i64 0, .int .i64 0, .string ⟨#[]⟩, .slice none 0 0, .int .i64 0, .int .i64 0, .string ⟨#[]⟩, .slice none 0 0, .int .i64 0, .slice none 0 0, .slice none 0 0] 45)).cell? ⟨g, off + y * 12 + 5, none⟩ = some (.int .i64 p.T.id) := by
          have hj := hat 5 _ rfl
          rw [tz.cell (cell_lt hj) (fun h => h)]
          exact hj
        have z6 : (wV.alloc (.cells #[.int .i64 0, .int .i64 0, .int .i64 0, .string ⟨#[]⟩, .slice none 0 0, .int .i64 0, .int .i64 0, .string ⟨#[]⟩, .slice none 0 0, .int .i64 0, .slice none 0 0, .slice none 0 0] 45)).cell? ⟨g, off + y * 12 + 6, none⟩ = some (.int .i64 p.T.ver) := by
          have hj := hat 6 _ rfl
          rw [tz.cell (cell_lt hj) (fun h => h)]
          exact hj
        have z7 : (wV.alloc (.cells #[.int .i64 0, .int .i64 0, .int .i64 0, .string ⟨#[]⟩, .slice none 0 0, .int .i64 0, .int .i64 0, .string ⟨#[]⟩, .slice none 0 0, .int .i64 0, .slice none 0 0, .slice none 0 0] 45)).cell? ⟨g, off + y * 12 + 7, none⟩ = some (.string p.T.nm) := by
          have hj := hat 7 _ rfl
          rw [tz.cell (cell_lt hj) (fun h => h)]
          exact hj
        have z8 : (wV.alloc (.cells #[.int .i64 0, .int .i64 0, .int .i64 0, .string ⟨#[]⟩, .slice none 0 0, .int .i64 0, .int .i64 0, .string ⟨#[]⟩, .slice none 0 0, .int .i64 0, .slice none 0 0, .slice none 0 0] 45)).cell? ⟨g, off + y * 12 + 8, none⟩ = some (.slice p.ta p.T.cols.length p.tc) := by
          have hj := hat 8 _ rfl
          rw [tz.cell (cell_lt hj) (fun h => h)]
          exact hj
        have z9 : (wV.alloc (.cells #[.int .i64 0, .int .i64 0, .int .i64 0, .string ⟨#[]⟩, .slice none 0 0, .int .i64 0, .int .i64 0, .string ⟨#[]⟩, .slice none 0 0, .int .i64 0, .slice none 0 0, .slice none 0 0] 45)).cell? ⟨g, off + y * 12 + 9, none⟩ = some (.int .i64 p.T.key) := by
          have hj := hat 9 _ rfl
          rw [tz.cell (cell_lt hj) (fun h => h)]
          exact hj
        have z10 : (wV.alloc (.cells #[.int .i64 0, .int .i64 0, .int .i64 0, .string ⟨#[]⟩, .slice none 0 0, .int .i64 0, .int .i64 0, .string ⟨#[]⟩, .slice none 0 0, .int .i64 0, .slice none 0 0, .slice none 0 0] 45)).cell? ⟨g, off + y * 12 + 10, none⟩ = some (.slice p.lo p.l.length p.lc) := by
          have hj := hat 10 _ rfl
          rw [tz.cell (cell_lt hj) (fun h => h)]
          exact hj
        have z11 : (wV.alloc (.cells #[.int .i64 0, .int .i64 0, .int .i64 0, .string ⟨#[]⟩, .slice none 0 0, .int .i64 0, .int .i64 0, .string ⟨#[]⟩, .slice none 0 0, .int .i64 0, .slice none 0 0, .slice none 0 0] 45)).cell? ⟨g, off + y * 12 + 11, none⟩ = some (.slice p.ro p.vs.length p.rc) := by
          have hj := hat 11 _ rfl
          rw [tz.cell (cell_lt hj) (fun h => h)]
          exact hj
        obtain ⟨j, hj⟩ : ∃ j, j = pkN p.on np := ⟨_, rfl⟩
        have qp : ∀ W, Calls Try.prog 6 #[.int .i64 p.on, .int .i64 np] W fun x w' => x = .returned (.int .i64 j) ∧ w' = W := fun W => by rw [hj]; exact pick_any p.on np W hok.b3 hok.b4 (by omega) (by omega)
        have hjn : j < np := by rw [hj]; exact pkN_lt _ (by omega)
        have Hj : Hid (j < Ps.length) := by have := Hnp.out; show _ < _; omega
        obtain ⟨c, hc⟩ : ∃ c, c = (Ps[j]'Hj.out).1 := ⟨_, rfl⟩
        obtain ⟨r, hr⟩ : ∃ r, r = (Ps[j]'Hj.out).2 := ⟨_, rfl⟩
        have Hcr : Hid (c = (Ps[j]'Hj.out).1 ∧ r = (Ps[j]'Hj.out).2) := ⟨hc, hr⟩
        have tb : Tch (fun _ => False) wV (wV.alloc (.cells #[.int .i64 p.kd, .int .i64 p.on, .int .i64 p.N, .string p.nm, .slice p.ca p.cols.length p.cc, .int .i64 p.T.id, .int .i64 p.T.ver, .string p.T.nm, .slice p.ta p.T.cols.length p.tc, .int .i64 p.T.key, .slice p.lo p.l.length p.lc, .slice p.ro p.vs.length p.rc] 45)) := Tch.alloc _ _ _
        have c0 : (wV.alloc (.cells #[.int .i64 p.kd, .int .i64 p.on, .int .i64 p.N, .string p.nm, .slice p.ca p.cols.length p.cc, .int .i64 p.T.id, .int .i64 p.T.ver, .string p.T.nm, .slice p.ta p.T.cols.length p.tc, .int .i64 p.T.key, .slice p.lo p.l.length p.lc, .slice p.ro p.vs.length p.rc] 45)).cell? ⟨gl, j * 2, none⟩ = some (.pointer (some ⟨c, 0, none⟩)) := by
          have h1 := (Hat.out j Hj.out).1
          rw [tb.cell (cell_lt h1) (fun h => h), hc]; exact h1
        have c1 : (wV.alloc (.cells #[.int .i64 p.kd, .int .i64 p.on, .int .i64 p.N, .string p.nm, .slice p.ca p.cols.length p.cc, .int .i64 p.T.id, .int .i64 p.T.ver, .string p.T.nm, .slice p.ta p.T.cols.length p.tc, .int .i64 p.T.key, .slice p.lo p.l.length p.lc, .slice p.ro p.vs.length p.rc] 45)).cell? ⟨gl, j * 2 + 1, none⟩ = some (.pointer (some ⟨r, 0, none⟩)) := by
          have h1 := (Hat.out j Hj.out).2
          rw [tb.cell (cell_lt h1) (fun h => h), hr]; exact h1
        obtain ⟨wq, hwq⟩ : ∃ wq, wq = (wV.alloc (.cells #[.int .i64 p.kd, .int .i64 p.on, .int .i64 p.N, .string p.nm, .slice p.ca p.cols.length p.cc, .int .i64 p.T.id, .int .i64 p.T.ver, .string p.T.nm, .slice p.ta p.T.cols.length p.tc, .int .i64 p.T.key, .slice p.lo p.l.length p.lc, .slice p.ro p.vs.length p.rc] 45)).alloc (.cells #[.pointer (some ⟨c, 0, none⟩), .pointer (some ⟨r, 0, none⟩)] 28) := ⟨_, rfl⟩
        have tq : Tch (fun _ => False) wV wq := by rw [hwq]; exact tb.allocR _
        have HSq : Hid (∃ o, PLs w bk (500 * i) Ps (.slice (some ⟨gl, 0, none⟩) np lc) wq o) := by
          obtain ⟨o, h⟩ := HS.out
          exact ⟨_, h.no tq 5 (Or.inl rfl)⟩
        have Hokq : Hid (p.ok (ZL w) wq) := hok.tch (tq.mono (fun _ _ h => h.elim))
        have Hwq : Hid _ := hwq
        have hjI : (j : Int) < np := by omega
        clear hj hc hr tz tb tq hwq hok hat
        go_wp2_with fail
        refine (qp _).mono ?_
        rintro x wy ⟨rfl, hwy⟩
        subst hwy
        clear qp
        rcases hcase with hkd | hkd | hkd | hkd | hkd | hkd | hkd | hkd | hkd | hkd | hkd | hkd | hkd | hkd | hkd | hn
        · as_aux_lemma =>
            have kk1 : (p.kd == 1) = true := by rw [hkd]; decide
            have kk2 : (p.kd == 2) = false := by rw [hkd]; decide
            have kk3 : (p.kd == 3) = false := by rw [hkd]; decide
            have kk4 : (p.kd == 4) = false := by rw [hkd]; decide
            have kk5 : (p.kd == 5) = false := by rw [hkd]; decide
            have kk6 : (p.kd == 6) = false := by rw [hkd]; decide
            have kk7 : (p.kd == 7) = false := by rw [hkd]; decide
            have kk8 : (p.kd == 8) = false := by rw [hkd]; decide
            have kk9 : (p.kd == 9) = false := by rw [hkd]; decide
            have kk10 : (p.kd == 10) = false := by rw [hkd]; decide
            have kk11 : (p.kd == 11) = false := by rw [hkd]; decide
            have kk12 : (p.kd == 12) = false := by rw [hkd]; decide
            have kk13 : (p.kd == 13) = false := by rw [hkd]; decide
            have kk14 : (p.kd == 14) = false := by rw [hkd]; decide
            have kk15 : (p.kd == 15) = false := by rw [hkd]; decide
            have qA : Calls Try.prog 7 #[.agg #[.pointer (some ⟨c, 0, none⟩), .pointer (some ⟨r, 0, none⟩)], .pointer (some ⟨bk, 0, none⟩), .agg #[.int .i64 p.kd, .int .i64 p.on, .int .i64 p.N, .string p.nm, .slice p.ca p.cols.length p.cc, .int .i64 p.T.id, .int .i64 p.T.ver, .string p.T.nm, .slice p.ta p.T.cols.length p.tc, .int .i64 p.T.key, .slice p.lo p.l.length p.lc, .slice p.ro p.vs.length p.rc]] wq fun x w' => x = .returned (.bool true) ∧ (∃ o, PLs w bk (500 * (i + 1)) Ps (.slice (some ⟨gl, 0, none⟩) np lc) w' o) := by
              obtain ⟨o, h⟩ := HSq.out
              have h1 := h.chg j Hj.out p Hokq.out (by omega) (Or.inl hkd)
              rw [← Hcr.out.1, ← Hcr.out.2] at h1
              refine h1.mono ?_
              rintro x w' ⟨rfl, o', h'⟩
              exact ⟨rfl, o', h'.mono (by omega)⟩
            clear hkd Hokq HSq
            go_wp2_with fail
            have hwq := Hwq.out
            rw [← hwq]
            clear hwq
            refine qA.mono ?_
            rintro x w5 ⟨rfl, h5⟩
            have HS5 : Hid (∃ o, PLs w bk (500 * (i + 1)) Ps (.slice (some ⟨gl, 0, none⟩) np lc) w5 o) := h5
            clear qA h5 c0 c1 z0 z1 z2 z3 z4 z5 z6 z7 z8 z9 z10 z11
            have s1 : Calls Try.prog 14 #[.pointer (some ⟨bk, 0, none⟩)] w5 fun x w' => x = .returned (.bool true) ∧ w' = w5 := by
              obtain ⟨o5, h5⟩ := HS5.out
              exact h5.still (by omega)
            go_wp2_with fail
            refine s1.mono ?_
            rintro x wy ⟨rfl, hwy⟩
            obtain rfl := hwy.symm
            clear s1 hwy
            go_wp2_with fail
            go_roundw
            case rel => exact ⟨i + 1, Ps, by go_num, by omega, HS5⟩
            case measure => simp [intOf]; omega
        · as_aux_lemma =>
            have kk1 : (p.kd == 1) = false := by rw [hkd]; decide
            have kk2 : (p.kd == 2) = true := by rw [hkd]; decide
            have kk3 : (p.kd == 3) = false := by rw [hkd]; decide
            have kk4 : (p.kd == 4) = false := by rw [hkd]; decide
            have kk5 : (p.kd == 5) = false := by rw [hkd]; decide
            have kk6 : (p.kd == 6) = false := by rw [hkd]; decide
            have kk7 : (p.kd == 7) = false := by rw [hkd]; decide
            have kk8 : (p.kd == 8) = false := by rw [hkd]; decide
            have kk9 : (p.kd == 9) = false := by rw [hkd]; decide
            have kk10 : (p.kd == 10) = false := by rw [hkd]; decide
            have kk11 : (p.kd == 11) = false := by rw [hkd]; decide
            have kk12 : (p.kd == 12) = false := by rw [hkd]; decide
            have kk13 : (p.kd == 13) = false := by rw [hkd]; decide
            have kk14 : (p.kd == 14) = false := by rw [hkd]; decide
            have kk15 : (p.kd == 15) = false := by rw [hkd]; decide
            have qA : Calls Try.prog 7 #[.agg #[.pointer (some ⟨c, 0, none⟩), .pointer (some ⟨r, 0, none⟩)], .pointer (some ⟨bk, 0, none⟩), .agg #[.int .i64 p.kd, .int .i64 p.on, .int .i64 p.N, .string p.nm, .slice p.ca p.cols.length p.cc, .int .i64 p.T.id, .int .i64 p.T.ver, .string p.T.nm, .slice p.ta p.T.cols.length p.tc, .int .i64 p.T.key, .slice p.lo p.l.length p.lc, .slice p.ro p.vs.length p.rc]] wq fun x w' => x = .returned (.bool true) ∧ (∃ o, PLs w bk (500 * (i + 1)) Ps (.slice (some ⟨gl, 0, none⟩) np lc) w' o) := by
              obtain ⟨o, h⟩ := HSq.out
              have h1 := h.chg j Hj.out p Hokq.out (by omega) (Or.inr (Or.inl hkd))
              rw [← Hcr.out.1, ← Hcr.out.2] at h1
              refine h1.mono ?_
              rintro x w' ⟨rfl, o', h'⟩
              exact ⟨rfl, o', h'.mono (by omega)⟩
            clear hkd Hokq HSq
            go_wp2_with fail
            have hwq := Hwq.out
            rw [← hwq]
            clear hwq
            refine qA.mono ?_
            rintro x w5 ⟨rfl, h5⟩
            have HS5 : Hid (∃ o, PLs w bk (500 * (i + 1)) Ps (.slice (some ⟨gl, 0, none⟩) np lc) w5 o) := h5
            clear qA h5 c0 c1 z0 z1 z2 z3 z4 z5 z6 z7 z8 z9 z10 z11
            have s1 : Calls Try.prog 14 #[.pointer (some ⟨bk, 0, none⟩)] w5 fun x w' => x = .returned (.bool true) ∧ w' = w5 := by
              obtain ⟨o5, h5⟩ := HS5.out
              exact h5.still (by omega)
            go_wp2_with fail
            refine s1.mono ?_
            rintro x wy ⟨rfl, hwy⟩
            obtain rfl := hwy.symm
            clear s1 hwy
            go_wp2_with fail
            go_roundw
            case rel => exact ⟨i + 1, Ps, by go_num, by omega, HS5⟩
            case measure => simp [intOf]; omega
        · as_aux_lemma =>
            have kk1 : (p.kd == 1) = false := by rw [hkd]; decide
            have kk2 : (p.kd == 2) = false := by rw [hkd]; decide
            have kk3 : (p.kd == 3) = true := by rw [hkd]; decide
            have kk4 : (p.kd == 4) = false := by rw [hkd]; decide
            have kk5 : (p.kd == 5) = false := by rw [hkd]; decide
            have kk6 : (p.kd == 6) = false := by rw [hkd]; decide
            have kk7 : (p.kd == 7) = false := by rw [hkd]; decide
            have kk8 : (p.kd == 8) = false := by rw [hkd]; decide
            have kk9 : (p.kd == 9) = false := by rw [hkd]; decide
            have kk10 : (p.kd == 10) = false := by rw [hkd]; decide
            have kk11 : (p.kd == 11) = false := by rw [hkd]; decide
            have kk12 : (p.kd == 12) = false := by rw [hkd]; decide
            have kk13 : (p.kd == 13) = false := by rw [hkd]; decide
            have kk14 : (p.kd == 14) = false := by rw [hkd]; decide
            have kk15 : (p.kd == 15) = false := by rw [hkd]; decide
            have qA : Calls Try.prog 7 #[.agg #[.pointer (some ⟨c, 0, none⟩), .pointer (some ⟨r, 0, none⟩)], .pointer (some ⟨bk, 0, none⟩), .agg #[.int .i64 p.kd, .int .i64 p.on, .int .i64 p.N, .string p.nm, .slice p.ca p.cols.length p.cc, .int .i64 p.T.id, .int .i64 p.T.ver, .string p.T.nm, .slice p.ta p.T.cols.length p.tc, .int .i64 p.T.key, .slice p.lo p.l.length p.lc, .slice p.ro p.vs.length p.rc]] wq fun x w' => x = .returned (.bool true) ∧ (∃ o, PLs w bk (500 * (i + 1)) Ps (.slice (some ⟨gl, 0, none⟩) np lc) w' o) := by
              obtain ⟨o, h⟩ := HSq.out
              have h1 := h.chg j Hj.out p Hokq.out (by omega) (Or.inr (Or.inr (Or.inl hkd)))
              rw [← Hcr.out.1, ← Hcr.out.2] at h1
              refine h1.mono ?_
              rintro x w' ⟨rfl, o', h'⟩
              exact ⟨rfl, o', h'.mono (by omega)⟩
            clear hkd Hokq HSq
            go_wp2_with fail
            have hwq := Hwq.out
            rw [← hwq]
            clear hwq
            refine qA.mono ?_
            rintro x w5 ⟨rfl, h5⟩
            have HS5 : Hid (∃ o, PLs w bk (500 * (i + 1)) Ps (.slice (some ⟨gl, 0, none⟩) np lc) w5 o) := h5
            clear qA h5 c0 c1 z0 z1 z2 z3 z4 z5 z6 z7 z8 z9 z10 z11
            have s1 : Calls Try.prog 14 #[.pointer (some ⟨bk, 0, none⟩)] w5 fun x w' => x = .returned (.bool true) ∧ w' = w5 := by
              obtain ⟨o5, h5⟩ := HS5.out
              exact h5.still (by omega)
            go_wp2_with fail
            refine s1.mono ?_
            rintro x wy ⟨rfl, hwy⟩
            obtain rfl := hwy.symm
            clear s1 hwy
            go_wp2_with fail
            go_roundw
            case rel => exact ⟨i + 1, Ps, by go_num, by omega, HS5⟩
            case measure => simp [intOf]; omega
        · as_aux_lemma =>
            have kk1 : (p.kd == 1) = false := by rw [hkd]; decide
            have kk2 : (p.kd == 2) = false := by rw [hkd]; decide
            have kk3 : (p.kd == 3) = false := by rw [hkd]; decide
            have kk4 : (p.kd == 4) = true := by rw [hkd]; decide
            have kk5 : (p.kd == 5) = false := by rw [hkd]; decide
            have kk6 : (p.kd == 6) = false := by rw [hkd]; decide
            have kk7 : (p.kd == 7) = false := by rw [hkd]; decide
            have kk8 : (p.kd == 8) = false := by rw [hkd]; decide
            have kk9 : (p.kd == 9) = false := by rw [hkd]; decide
            have kk10 : (p.kd == 10) = false := by rw [hkd]; decide
            have kk11 : (p.kd == 11) = false := by rw [hkd]; decide
            have kk12 : (p.kd == 12) = false := by rw [hkd]; decide
            have kk13 : (p.kd == 13) = false := by rw [hkd]; decide
            have kk14 : (p.kd == 14) = false := by rw [hkd]; decide
            have kk15 : (p.kd == 15) = false := by rw [hkd]; decide
            have qA : Calls Try.prog 13 #[.agg #[.pointer (some ⟨c, 0, none⟩), .pointer (some ⟨r, 0, none⟩)], .pointer (some ⟨bk, 0, none⟩), .agg #[.int .i64 p.kd, .int .i64 p.on, .int .i64 p.N, .string p.nm, .slice p.ca p.cols.length p.cc, .int .i64 p.T.id, .int .i64 p.T.ver, .string p.T.nm, .slice p.ta p.T.cols.length p.tc, .int .i64 p.T.key, .slice p.lo p.l.length p.lc, .slice p.ro p.vs.length p.rc]] wq fun x w' => x = .returned (.bool true) ∧ (∃ o, PLs w bk (500 * (i + 1)) Ps (.slice (some ⟨gl, 0, none⟩) np lc) w' o) := by
              obtain ⟨o, h⟩ := HSq.out
              have h1 := h.ask j Hj.out p Hokq.out (by omega) (Or.inl hkd)
              rw [← Hcr.out.1, ← Hcr.out.2] at h1
              refine h1.mono ?_
              rintro x w' ⟨rfl, o', h'⟩
              exact ⟨rfl, o', h'.mono (by omega)⟩
            clear hkd Hokq HSq
            go_wp2_with fail
            have hwq := Hwq.out
            rw [← hwq]
            clear hwq
            refine qA.mono ?_
            rintro x w5 ⟨rfl, h5⟩
            have HS5 : Hid (∃ o, PLs w bk (500 * (i + 1)) Ps (.slice (some ⟨gl, 0, none⟩) np lc) w5 o) := h5
            clear qA h5 c0 c1 z0 z1 z2 z3 z4 z5 z6 z7 z8 z9 z10 z11
            have s1 : Calls Try.prog 14 #[.pointer (some ⟨bk, 0, none⟩)] w5 fun x w' => x = .returned (.bool true) ∧ w' = w5 := by
              obtain ⟨o5, h5⟩ := HS5.out
              exact h5.still (by omega)
            go_wp2_with fail
            refine s1.mono ?_
            rintro x wy ⟨rfl, hwy⟩
            obtain rfl := hwy.symm
            clear s1 hwy
            go_wp2_with fail
            go_roundw
            case rel => exact ⟨i + 1, Ps, by go_num, by omega, HS5⟩
            case measure => simp [intOf]; omega
        · as_aux_lemma =>
            have kk1 : (p.kd == 1) = false := by rw [hkd]; decide
            have kk2 : (p.kd == 2) = false := by rw [hkd]; decide
            have kk3 : (p.kd == 3) = false := by rw [hkd]; decide
            have kk4 : (p.kd == 4) = false := by rw [hkd]; decide
            have kk5 : (p.kd == 5) = true := by rw [hkd]; decide
            have kk6 : (p.kd == 6) = false := by rw [hkd]; decide
            have kk7 : (p.kd == 7) = false := by rw [hkd]; decide
            have kk8 : (p.kd == 8) = false := by rw [hkd]; decide
            have kk9 : (p.kd == 9) = false := by rw [hkd]; decide
            have kk10 : (p.kd == 10) = false := by rw [hkd]; decide
            have kk11 : (p.kd == 11) = false := by rw [hkd]; decide
            have kk12 : (p.kd == 12) = false := by rw [hkd]; decide
            have kk13 : (p.kd == 13) = false := by rw [hkd]; decide
            have kk14 : (p.kd == 14) = false := by rw [hkd]; decide
            have kk15 : (p.kd == 15) = false := by rw [hkd]; decide
            have qA : Calls Try.prog 13 #[.agg #[.pointer (some ⟨c, 0, none⟩), .pointer (some ⟨r, 0, none⟩)], .pointer (some ⟨bk, 0, none⟩), .agg #[.int .i64 p.kd, .int .i64 p.on, .int .i64 p.N, .string p.nm, .slice p.ca p.cols.length p.cc, .int .i64 p.T.id, .int .i64 p.T.ver, .string p.T.nm, .slice p.ta p.T.cols.length p.tc, .int .i64 p.T.key, .slice p.lo p.l.length p.lc, .slice p.ro p.vs.length p.rc]] wq fun x w' => x = .returned (.bool true) ∧ (∃ o, PLs w bk (500 * (i + 1)) Ps (.slice (some ⟨gl, 0, none⟩) np lc) w' o) := by
              obtain ⟨o, h⟩ := HSq.out
              have h1 := h.ask j Hj.out p Hokq.out (by omega) (Or.inr (Or.inl hkd))
              rw [← Hcr.out.1, ← Hcr.out.2] at h1
              refine h1.mono ?_
              rintro x w' ⟨rfl, o', h'⟩
              exact ⟨rfl, o', h'.mono (by omega)⟩
            clear hkd Hokq HSq
            go_wp2_with fail
            have hwq := Hwq.out
            rw [← hwq]
            clear hwq
            refine qA.mono ?_
            rintro x w5 ⟨rfl, h5⟩
            have HS5 : Hid (∃ o, PLs w bk (500 * (i + 1)) Ps (.slice (some ⟨gl, 0, none⟩) np lc) w5 o) := h5
            clear qA h5 c0 c1 z0 z1 z2 z3 z4 z5 z6 z7 z8 z9 z10 z11
            have s1 : Calls Try.prog 14 #[.pointer (some ⟨bk, 0, none⟩)] w5 fun x w' => x = .returned (.bool true) ∧ w' = w5 := by
              obtain ⟨o5, h5⟩ := HS5.out
              exact h5.still (by omega)
            go_wp2_with fail
            refine s1.mono ?_
            rintro x wy ⟨rfl, hwy⟩
            obtain rfl := hwy.symm
            clear s1 hwy
            go_wp2_with fail
            go_roundw
            case rel => exact ⟨i + 1, Ps, by go_num, by omega, HS5⟩
            case measure => simp [intOf]; omega
        · as_aux_lemma =>
            have kk1 : (p.kd == 1) = false := by rw [hkd]; decide
            have kk2 : (p.kd == 2) = false := by rw [hkd]; decide
            have kk3 : (p.kd == 3) = false := by rw [hkd]; decide
            have kk4 : (p.kd == 4) = false := by rw [hkd]; decide
            have kk5 : (p.kd == 5) = false := by rw [hkd]; decide
            have kk6 : (p.kd == 6) = true := by rw [hkd]; decide
            have kk7 : (p.kd == 7) = false := by rw [hkd]; decide
            have kk8 : (p.kd == 8) = false := by rw [hkd]; decide
            have kk9 : (p.kd == 9) = false := by rw [hkd]; decide
            have kk10 : (p.kd == 10) = false := by rw [hkd]; decide
            have kk11 : (p.kd == 11) = false := by rw [hkd]; decide
            have kk12 : (p.kd == 12) = false := by rw [hkd]; decide
            have kk13 : (p.kd == 13) = false := by rw [hkd]; decide
            have kk14 : (p.kd == 14) = false := by rw [hkd]; decide
            have kk15 : (p.kd == 15) = false := by rw [hkd]; decide
            have qA : Calls Try.prog 13 #[.agg #[.pointer (some ⟨c, 0, none⟩), .pointer (some ⟨r, 0, none⟩)], .pointer (some ⟨bk, 0, none⟩), .agg #[.int .i64 p.kd, .int .i64 p.on, .int .i64 p.N, .string p.nm, .slice p.ca p.cols.length p.cc, .int .i64 p.T.id, .int .i64 p.T.ver, .string p.T.nm, .slice p.ta p.T.cols.length p.tc, .int .i64 p.T.key, .slice p.lo p.l.length p.lc, .slice p.ro p.vs.length p.rc]] wq fun x w' => x = .returned (.bool true) ∧ (∃ o, PLs w bk (500 * (i + 1)) Ps (.slice (some ⟨gl, 0, none⟩) np lc) w' o) := by
              obtain ⟨o, h⟩ := HSq.out
              have h1 := h.ask j Hj.out p Hokq.out (by omega) (Or.inr (Or.inr (Or.inl hkd)))
              rw [← Hcr.out.1, ← Hcr.out.2] at h1
              refine h1.mono ?_
              rintro x w' ⟨rfl, o', h'⟩
              exact ⟨rfl, o', h'.mono (by omega)⟩
            clear hkd Hokq HSq
            go_wp2_with fail
            have hwq := Hwq.out
            rw [← hwq]
            clear hwq
            refine qA.mono ?_
            rintro x w5 ⟨rfl, h5⟩
            have HS5 : Hid (∃ o, PLs w bk (500 * (i + 1)) Ps (.slice (some ⟨gl, 0, none⟩) np lc) w5 o) := h5
            clear qA h5 c0 c1 z0 z1 z2 z3 z4 z5 z6 z7 z8 z9 z10 z11
            have s1 : Calls Try.prog 14 #[.pointer (some ⟨bk, 0, none⟩)] w5 fun x w' => x = .returned (.bool true) ∧ w' = w5 := by
              obtain ⟨o5, h5⟩ := HS5.out
              exact h5.still (by omega)
            go_wp2_with fail
            refine s1.mono ?_
            rintro x wy ⟨rfl, hwy⟩
            obtain rfl := hwy.symm
            clear s1 hwy
            go_wp2_with fail
            go_roundw
            case rel => exact ⟨i + 1, Ps, by go_num, by omega, HS5⟩
            case measure => simp [intOf]; omega
        · as_aux_lemma =>
            have kk1 : (p.kd == 1) = false := by rw [hkd]; decide
            have kk2 : (p.kd == 2) = false := by rw [hkd]; decide
            have kk3 : (p.kd == 3) = false := by rw [hkd]; decide
            have kk4 : (p.kd == 4) = false := by rw [hkd]; decide
            have kk5 : (p.kd == 5) = false := by rw [hkd]; decide
            have kk6 : (p.kd == 6) = false := by rw [hkd]; decide
            have kk7 : (p.kd == 7) = true := by rw [hkd]; decide
            have kk8 : (p.kd == 8) = false := by rw [hkd]; decide
            have kk9 : (p.kd == 9) = false := by rw [hkd]; decide
            have kk10 : (p.kd == 10) = false := by rw [hkd]; decide
            have kk11 : (p.kd == 11) = false := by rw [hkd]; decide
            have kk12 : (p.kd == 12) = false := by rw [hkd]; decide
            have kk13 : (p.kd == 13) = false := by rw [hkd]; decide
            have kk14 : (p.kd == 14) = false := by rw [hkd]; decide
            have kk15 : (p.kd == 15) = false := by rw [hkd]; decide
            have qA : Calls Try.prog 13 #[.agg #[.pointer (some ⟨c, 0, none⟩), .pointer (some ⟨r, 0, none⟩)], .pointer (some ⟨bk, 0, none⟩), .agg #[.int .i64 p.kd, .int .i64 p.on, .int .i64 p.N, .string p.nm, .slice p.ca p.cols.length p.cc, .int .i64 p.T.id, .int .i64 p.T.ver, .string p.T.nm, .slice p.ta p.T.cols.length p.tc, .int .i64 p.T.key, .slice p.lo p.l.length p.lc, .slice p.ro p.vs.length p.rc]] wq fun x w' => x = .returned (.bool true) ∧ (∃ o, PLs w bk (500 * (i + 1)) Ps (.slice (some ⟨gl, 0, none⟩) np lc) w' o) := by
              obtain ⟨o, h⟩ := HSq.out
              have h1 := h.ask j Hj.out p Hokq.out (by omega) (Or.inr (Or.inr (Or.inr (Or.inl hkd))))
              rw [← Hcr.out.1, ← Hcr.out.2] at h1
              refine h1.mono ?_
              rintro x w' ⟨rfl, o', h'⟩
              exact ⟨rfl, o', h'.mono (by omega)⟩
            clear hkd Hokq HSq
            go_wp2_with fail
            have hwq := Hwq.out
            rw [← hwq]
            clear hwq
            refine qA.mono ?_
            rintro x w5 ⟨rfl, h5⟩
            have HS5 : Hid (∃ o, PLs w bk (500 * (i + 1)) Ps (.slice (some ⟨gl, 0, none⟩) np lc) w5 o) := h5
            clear qA h5 c0 c1 z0 z1 z2 z3 z4 z5 z6 z7 z8 z9 z10 z11
            have s1 : Calls Try.prog 14 #[.pointer (some ⟨bk, 0, none⟩)] w5 fun x w' => x = .returned (.bool true) ∧ w' = w5 := by
              obtain ⟨o5, h5⟩ := HS5.out
              exact h5.still (by omega)
            go_wp2_with fail
            refine s1.mono ?_
            rintro x wy ⟨rfl, hwy⟩
            obtain rfl := hwy.symm
            clear s1 hwy
            go_wp2_with fail
            go_roundw
            case rel => exact ⟨i + 1, Ps, by go_num, by omega, HS5⟩
            case measure => simp [intOf]; omega
        · as_aux_lemma =>
            have kk1 : (p.kd == 1) = false := by rw [hkd]; decide
            have kk2 : (p.kd == 2) = false := by rw [hkd]; decide
            have kk3 : (p.kd == 3) = false := by rw [hkd]; decide
            have kk4 : (p.kd == 4) = false := by rw [hkd]; decide
            have kk5 : (p.kd == 5) = false := by rw [hkd]; decide
            have kk6 : (p.kd == 6) = false := by rw [hkd]; decide
            have kk7 : (p.kd == 7) = false := by rw [hkd]; decide
            have kk8 : (p.kd == 8) = true := by rw [hkd]; decide
            have kk9 : (p.kd == 9) = false := by rw [hkd]; decide
            have kk10 : (p.kd == 10) = false := by rw [hkd]; decide
            have kk11 : (p.kd == 11) = false := by rw [hkd]; decide
            have kk12 : (p.kd == 12) = false := by rw [hkd]; decide
            have kk13 : (p.kd == 13) = false := by rw [hkd]; decide
            have kk14 : (p.kd == 14) = false := by rw [hkd]; decide
            have kk15 : (p.kd == 15) = false := by rw [hkd]; decide
            have qA : Calls Try.prog 7 #[.agg #[.pointer (some ⟨c, 0, none⟩), .pointer (some ⟨r, 0, none⟩)], .pointer (some ⟨bk, 0, none⟩), .agg #[.int .i64 p.kd, .int .i64 p.on, .int .i64 p.N, .string p.nm, .slice p.ca p.cols.length p.cc, .int .i64 p.T.id, .int .i64 p.T.ver, .string p.T.nm, .slice p.ta p.T.cols.length p.tc, .int .i64 p.T.key, .slice p.lo p.l.length p.lc, .slice p.ro p.vs.length p.rc]] wq fun x w' => x = .returned (.bool true) ∧ (∃ o, PLs w bk (500 * (i + 1)) Ps (.slice (some ⟨gl, 0, none⟩) np lc) w' o) := by
              obtain ⟨o, h⟩ := HSq.out
              have h1 := h.chg j Hj.out p Hokq.out (by omega) (Or.inr (Or.inr (Or.inr (Or.inl hkd))))
              rw [← Hcr.out.1, ← Hcr.out.2] at h1
              refine h1.mono ?_
              rintro x w' ⟨rfl, o', h'⟩
              exact ⟨rfl, o', h'.mono (by omega)⟩
            clear hkd Hokq HSq
            go_wp2_with fail
            have hwq := Hwq.out
            rw [← hwq]
            clear hwq
            refine qA.mono ?_
            rintro x w5 ⟨rfl, h5⟩
            have HS5 : Hid (∃ o, PLs w bk (500 * (i + 1)) Ps (.slice (some ⟨gl, 0, none⟩) np lc) w5 o) := h5
            clear qA h5 c0 c1 z0 z1 z2 z3 z4 z5 z6 z7 z8 z9 z10 z11
            have s1 : Calls Try.prog 14 #[.pointer (some ⟨bk, 0, none⟩)] w5 fun x w' => x = .returned (.bool true) ∧ w' = w5 := by
              obtain ⟨o5, h5⟩ := HS5.out
              exact h5.still (by omega)
            go_wp2_with fail
            refine s1.mono ?_
            rintro x wy ⟨rfl, hwy⟩
            obtain rfl := hwy.symm
            clear s1 hwy
            go_wp2_with fail
            go_roundw
            case rel => exact ⟨i + 1, Ps, by go_num, by omega, HS5⟩
            case measure => simp [intOf]; omega
        · as_aux_lemma =>
            have kk1 : (p.kd == 1) = false := by rw [hkd]; decide
            have kk2 : (p.kd == 2) = false := by rw [hkd]; decide
            have kk3 : (p.kd == 3) = false := by rw [hkd]; decide
            have kk4 : (p.kd == 4) = false := by rw [hkd]; decide
            have kk5 : (p.kd == 5) = false := by rw [hkd]; decide
            have kk6 : (p.kd == 6) = false := by rw [hkd]; decide
            have kk7 : (p.kd == 7) = false := by rw [hkd]; decide
            have kk8 : (p.kd == 8) = false := by rw [hkd]; decide
            have kk9 : (p.kd == 9) = true := by rw [hkd]; decide
            have kk10 : (p.kd == 10) = false := by rw [hkd]; decide
            have kk11 : (p.kd == 11) = false := by rw [hkd]; decide
            have kk12 : (p.kd == 12) = false := by rw [hkd]; decide
            have kk13 : (p.kd == 13) = false := by rw [hkd]; decide
            have kk14 : (p.kd == 14) = false := by rw [hkd]; decide
            have kk15 : (p.kd == 15) = false := by rw [hkd]; decide
            have qA : Calls Try.prog 7 #[.agg #[.pointer (some ⟨c, 0, none⟩), .pointer (some ⟨r, 0, none⟩)], .pointer (some ⟨bk, 0, none⟩), .agg #[.int .i64 p.kd, .int .i64 p.on, .int .i64 p.N, .string p.nm, .slice p.ca p.cols.length p.cc, .int .i64 p.T.id, .int .i64 p.T.ver, .string p.T.nm, .slice p.ta p.T.cols.length p.tc, .int .i64 p.T.key, .slice p.lo p.l.length p.lc, .slice p.ro p.vs.length p.rc]] wq fun x w' => x = .returned (.bool true) ∧ (∃ o, PLs w bk (500 * (i + 1)) Ps (.slice (some ⟨gl, 0, none⟩) np lc) w' o) := by
              obtain ⟨o, h⟩ := HSq.out
              have h1 := h.chg j Hj.out p Hokq.out (by omega) (Or.inr (Or.inr (Or.inr (Or.inr (hkd)))))
              rw [← Hcr.out.1, ← Hcr.out.2] at h1
              refine h1.mono ?_
              rintro x w' ⟨rfl, o', h'⟩
              exact ⟨rfl, o', h'.mono (by omega)⟩
            clear hkd Hokq HSq
            go_wp2_with fail
            have hwq := Hwq.out
            rw [← hwq]
            clear hwq
            refine qA.mono ?_
            rintro x w5 ⟨rfl, h5⟩
            have HS5 : Hid (∃ o, PLs w bk (500 * (i + 1)) Ps (.slice (some ⟨gl, 0, none⟩) np lc) w5 o) := h5
            clear qA h5 c0 c1 z0 z1 z2 z3 z4 z5 z6 z7 z8 z9 z10 z11
            have s1 : Calls Try.prog 14 #[.pointer (some ⟨bk, 0, none⟩)] w5 fun x w' => x = .returned (.bool true) ∧ w' = w5 := by
              obtain ⟨o5, h5⟩ := HS5.out
              exact h5.still (by omega)
            go_wp2_with fail
            refine s1.mono ?_
            rintro x wy ⟨rfl, hwy⟩
            obtain rfl := hwy.symm
            clear s1 hwy
            go_wp2_with fail
            go_roundw
            case rel => exact ⟨i + 1, Ps, by go_num, by omega, HS5⟩
            case measure => simp [intOf]; omega
        · as_aux_lemma =>
            have kk1 : (p.kd == 1) = false := by rw [hkd]; decide
            have kk2 : (p.kd == 2) = false := by rw [hkd]; decide
            have kk3 : (p.kd == 3) = false := by rw [hkd]; decide
            have kk4 : (p.kd == 4) = false := by rw [hkd]; decide
            have kk5 : (p.kd == 5) = false := by rw [hkd]; decide
            have kk6 : (p.kd == 6) = false := by rw [hkd]; decide
            have kk7 : (p.kd == 7) = false := by rw [hkd]; decide
            have kk8 : (p.kd == 8) = false := by rw [hkd]; decide
            have kk9 : (p.kd == 9) = false := by rw [hkd]; decide
            have kk10 : (p.kd == 10) = true := by rw [hkd]; decide
            have kk11 : (p.kd == 11) = false := by rw [hkd]; decide
            have kk12 : (p.kd == 12) = false := by rw [hkd]; decide
            have kk13 : (p.kd == 13) = false := by rw [hkd]; decide
            have kk14 : (p.kd == 14) = false := by rw [hkd]; decide
            have kk15 : (p.kd == 15) = false := by rw [hkd]; decide
            have qB : Calls Try.prog 8 #[.pointer (some ⟨c, 0, none⟩)] wq fun x w' => ∃ d, x = .returned (.pointer (some ⟨d, 0, none⟩)) ∧ Tch (fun _ => False) wq w' ∧ ∃ o L gv, PLs w bk (500 * i) Ps (.slice (some ⟨gl, 0, none⟩) np lc) w' o ∧ CF w' o (20 + 2 * Ps.length) d L gv ∧ RF w' o (20 + 2 * j + 1) r L gv ∧ GI L gv := by
              obtain ⟨o, h⟩ := HSq.out
              have h1 := h.cloneC j Hj.out
              rw [← Hcr.out.1, ← Hcr.out.2] at h1
              exact h1
            have Hb9 : Hid (wq.cell? ⟨wV.heap.size + 1, 1, none⟩ = some (.pointer (some ⟨r, 0, none⟩))) := by
              show _ = _
              rw [Hwq.out, ← World.size_alloc wV (.cells #[.int .i64 p.kd, .int .i64 p.on, .int .i64 p.N, .string p.nm, .slice p.ca p.cols.length p.cc, .int .i64 p.T.id, .int .i64 p.T.ver, .string p.T.nm, .slice p.ta p.T.cols.length p.tc, .int .i64 p.T.key, .slice p.lo p.l.length p.lc, .slice p.ro p.vs.length p.rc] 45), blk_cell (alloc_new _ _)]; rfl
            clear hkd Hokq HSq
            go_wp2_with fail
            have hwq := Hwq.out
            rw [← hwq]
            clear hwq c0 c1 z0 z1 z2 z3 z4 z5 z6 z7 z8 z9 z10 z11
            refine qB.mono ?_
            rintro x w5 ⟨d, rfl, t5, h5⟩
            have H5 : Hid _ := h5
            have b9 : w5.cell? ⟨wV.heap.size + 1, 1, none⟩ = some (.pointer (some ⟨r, 0, none⟩)) := by rw [t5.cell (cell_lt Hb9.out) (fun h => h)]; exact Hb9.out
            clear qB h5 t5 Hb9
            by_cases h6 : (np : Int) < 6
            · have qC : Calls Try.prog 9 #[.pointer (some ⟨r, 0, none⟩)] w5 fun x w' => ∃ e, x = .returned (.pointer (some ⟨e, 0, none⟩)) ∧ ∃ o L gv, PLs w bk (500 * i) Ps (.slice (some ⟨gl, 0, none⟩) np lc) w' o ∧ PR w' o (20 + 2 * Ps.length) d e L gv := by
                obtain ⟨o, L, gv, h, hc, hr, hg⟩ := H5.out
                exact h.cloneR hc hr hg
              go_wp2_with fail
              refine qC.mono ?_
              rintro x w8 ⟨e, rfl, h8⟩
              have HPR : Hid _ := h8
              clear qC h8 b9 H5
              have HG : Hid (∃ o L gv, PLs w bk (500 * i) Ps (.slice (some ⟨gl, 0, none⟩) np lc) (w8.alloc (.cells #[.pointer (some ⟨d, 0, none⟩), .pointer (some ⟨e, 0, none⟩)] 28)) o ∧ PR (w8.alloc (.cells #[.pointer (some ⟨d, 0, none⟩), .pointer (some ⟨e, 0, none⟩)] 28)) o (20 + 2 * Ps.length) d e L gv) := by
                obtain ⟨o, L, gv, h, hp⟩ := HPR.out
                have ta : Tch (fun _ => False) w8 (w8.alloc (.cells #[.pointer (some ⟨d, 0, none⟩), .pointer (some ⟨e, 0, none⟩)] 28)) := Tch.alloc _ _ _
                exact ⟨_, L, gv, h.no ta 5 (Or.inl rfl), hp.ev (Ev.quiet 5 ta) (by omega) (by omega)⟩
              have HRow : Hid ((w8.alloc (.cells #[.pointer (some ⟨d, 0, none⟩), .pointer (some ⟨e, 0, none⟩)] 28)).ownsRow 0 28 2 (.slice (some ⟨gl, 0, none⟩) np lc) np (pcl Ps)) := by
                obtain ⟨o, L, gv, h, hp⟩ := HG.out
                have := h.row
                rw [← Hnp.out] at this
                exact this
              go_wp2_with (at_builtin; refine wpList_append_keeps _ rfl _ _ 29 rfl 0 28 i2 (.agg #[.pointer none, .pointer none]) 2 16 Try.underlying29 hi2 hx0 hx1 hx2 rfl (by decide) (.slice (some ⟨gl, 0, none⟩) np lc) np (pcl Ps) rfl HRow.out ⟨w8.heap.size, 0, none⟩ 1 1 [.pointer (some ⟨d, 0, none⟩), .pointer (some ⟨e, 0, none⟩)] rfl rfl (World.news_of_block (alloc_new _ _)) (by simp [Value.oneCell']) (by unfold maxLen; omega) (by omega) (Nat.zero_le _) ?_; intro v6 w6 hown6 hgr6 hat6 _)
              have HS5 : Hid (∃ o, PLs w bk (500 * (i + 1)) (Ps ++ [(d, e)]) v6 w6 o) := by
                obtain ⟨o, L, gv, h, hp⟩ := HG.out
                rw [Hnp.out] at hown6 hgr6 hat6 h
                obtain ⟨o', h'⟩ := h.grow (by have := Hnp.out; omega) hp hgr6 hown6 hat6
                exact ⟨o', h'.mono (by omega)⟩
              obtain ⟨ro6, rc6, hv6⟩ := row_slice hown6
              subst hv6
              clear hown6 hgr6 hat6 HRow HG
              have s1 : Calls Try.prog 14 #[.pointer (some ⟨bk, 0, none⟩)] w6 fun x w' => x = .returned (.bool true) ∧ w' = w6 := by
                obtain ⟨o5, h5⟩ := HS5.out
                exact h5.still (by omega)
              go_wp2_with fail
              refine s1.mono ?_
              rintro x wy ⟨rfl, hwy⟩
              obtain rfl := hwy.symm
              clear s1 hwy
              go_wp2_with fail
              go_roundw
              case rel => exact ⟨i + 1, _, by go_num, by omega, HS5⟩
              case measure => simp [intOf]; omega
            · have HS5 : Hid (∃ o, PLs w bk (500 * (i + 1)) Ps (.slice (some ⟨gl, 0, none⟩) np lc) w5 o) := by
                obtain ⟨o, L, gv, h, _⟩ := H5.out
                exact ⟨o, h.mono (by omega)⟩
              clear H5
              have s1 : Calls Try.prog 14 #[.pointer (some ⟨bk, 0, none⟩)] w5 fun x w' => x = .returned (.bool true) ∧ w' = w5 := by
                obtain ⟨o5, h5⟩ := HS5.out
                exact h5.still (by omega)
              go_wp2_with fail
              refine s1.mono ?_
              rintro x wy ⟨rfl, hwy⟩
              obtain rfl := hwy.symm
              clear s1 hwy
              go_wp2_with fail
              go_roundw
              case rel => exact ⟨i + 1, Ps, by go_num, by omega, HS5⟩
              case measure => simp [intOf]; omega
        · as_aux_lemma =>
            have kk1 : (p.kd == 1) = false := by rw [hkd]; decide
            have kk2 : (p.kd == 2) = false := by rw [hkd]; decide
            have kk3 : (p.kd == 3) = false := by rw [hkd]; decide
            have kk4 : (p.kd == 4) = false := by rw [hkd]; decide
            have kk5 : (p.kd == 5) = false := by rw [hkd]; decide
            have kk6 : (p.kd == 6) = false := by rw [hkd]; decide
            have kk7 : (p.kd == 7) = false := by rw [hkd]; decide
            have kk8 : (p.kd == 8) = false := by rw [hkd]; decide
            have kk9 : (p.kd == 9) = false := by rw [hkd]; decide
            have kk10 : (p.kd == 10) = false := by rw [hkd]; decide
            have kk11 : (p.kd == 11) = true := by rw [hkd]; decide
            have kk12 : (p.kd == 12) = false := by rw [hkd]; decide
            have kk13 : (p.kd == 13) = false := by rw [hkd]; decide
            have kk14 : (p.kd == 14) = false := by rw [hkd]; decide
            have kk15 : (p.kd == 15) = false := by rw [hkd]; decide
            have qL : Calls Try.prog 12 #[.slice p.lo p.l.length p.lc, .int .i64 p.N] wq fun x w' => ∃ pc pr, x = .returned (.tuple #[.agg #[.pointer pc, .pointer pr], .bool true]) ∧ LdRes w bk (500 * i) Ps (.slice (some ⟨gl, 0, none⟩) np lc) pc pr w' := by
              obtain ⟨o, h⟩ := HSq.out
              exact h.loads p.l p.lo p.lc _ p.N Hokq.out.hL Hokq.out.lL Hokq.out.lLc
            clear hkd Hokq HSq
            go_wp2_with fail
            have hwq := Hwq.out
            rw [← hwq]
            clear hwq c0 c1 z0 z1 z2 z3 z4 z5 z6 z7 z8 z9 z10 z11
            refine qL.mono ?_
            rintro x w7 ⟨pc, pr, rfl, h7⟩
            clear qL
            rcases h7 with ⟨d, e, L9, gv9, o9, rfl, rfl, h9, hp9⟩ | ⟨rfl, rfl, h9⟩
            · obtain ⟨w5, hw5⟩ : ∃ w5, w5 = w7.alloc (.cells #[.pointer (some ⟨d, 0, none⟩), .pointer (some ⟨e, 0, none⟩)] 28) := ⟨_, rfl⟩
              have t5 : Tch (fun _ => False) w7 w5 := by rw [hw5]; exact Tch.alloc _ _ _
              have HPR : Hid (∃ o L gv, PLs w bk (500 * i) Ps (.slice (some ⟨gl, 0, none⟩) np lc) w5 o ∧ PR w5 o (20 + 2 * Ps.length) d e L gv) := ⟨_, L9, gv9, h9.no t5 5 (Or.inl rfl), hp9.ev (Ev.quiet 5 t5) (by omega) (by omega)⟩
              have Hw5 : Hid _ := hw5
              clear h9 hp9 t5 hw5
              by_cases h6 : (np : Int) < 6
              · have Hwa : Hid (w7.heap.size + 1 = w5.heap.size) := by show _ = _; rw [Hw5.out, World.size_alloc]
                have HG : Hid (∃ o L gv, PLs w bk (500 * i) Ps (.slice (some ⟨gl, 0, none⟩) np lc) (w5.alloc (.cells #[.pointer (some ⟨d, 0, none⟩), .pointer (some ⟨e, 0, none⟩)] 28)) o ∧ PR (w5.alloc (.cells #[.pointer (some ⟨d, 0, none⟩), .pointer (some ⟨e, 0, none⟩)] 28)) o (20 + 2 * Ps.length) d e L gv) := by
                  obtain ⟨o, L, gv, h, hp⟩ := HPR.out
                  have ta : Tch (fun _ => False) w5 (w5.alloc (.cells #[.pointer (some ⟨d, 0, none⟩), .pointer (some ⟨e, 0, none⟩)] 28)) := Tch.alloc _ _ _
                  exact ⟨_, L, gv, h.no ta 5 (Or.inl rfl), hp.ev (Ev.quiet 5 ta) (by omega) (by omega)⟩
                have HRow : Hid ((w5.alloc (.cells #[.pointer (some ⟨d, 0, none⟩), .pointer (some ⟨e, 0, none⟩)] 28)).ownsRow 0 28 2 (.slice (some ⟨gl, 0, none⟩) np lc) np (pcl Ps)) := by
                  obtain ⟨o, L, gv, h, hp⟩ := HG.out
                  have := h.row
                  rw [← Hnp.out] at this
                  exact this
                go_wp2_with (at_builtin; have hw5 := Hw5.out; rw [← hw5]; clear hw5; rw [Hwa.out]; refine wpList_append_keeps _ rfl _ _ 29 rfl 0 28 i2 (.agg #[.pointer none, .pointer none]) 2 16 Try.underlying29 hi2 hx0 hx1 hx2 rfl (by decide) (.slice (some ⟨gl, 0, none⟩) np lc) np (pcl Ps) rfl HRow.out ⟨w5.heap.size, 0, none⟩ 1 1 [.pointer (some ⟨d, 0, none⟩), .pointer (some ⟨e, 0, none⟩)] rfl rfl (World.news_of_block (alloc_new _ _)) (by simp [Value.oneCell']) (by unfold maxLen; omega) (by omega) (Nat.zero_le _) ?_; intro v6 w6 hown6 hgr6 hat6 _)
                have HS5 : Hid (∃ o, PLs w bk (500 * (i + 1)) (Ps ++ [(d, e)]) v6 w6 o) := by
                  obtain ⟨o, L, gv, h, hp⟩ := HG.out
                  rw [Hnp.out] at hown6 hgr6 hat6 h
                  obtain ⟨o', h'⟩ := h.grow (by have := Hnp.out; omega) hp hgr6 hown6 hat6
                  exact ⟨o', h'.mono (by omega)⟩
                obtain ⟨ro6, rc6, hv6⟩ := row_slice hown6
                subst hv6
                clear hown6 hgr6 hat6 HRow HG
                have s1 : Calls Try.prog 14 #[.pointer (some ⟨bk, 0, none⟩)] w6 fun x w' => x = .returned (.bool true) ∧ w' = w6 := by
                  obtain ⟨o5, h5⟩ := HS5.out
                  exact h5.still (by omega)
                go_wp2_with fail
                refine s1.mono ?_
                rintro x wy ⟨rfl, hwy⟩
                obtain rfl := hwy.symm
                clear s1 hwy
                go_wp2_with fail
                go_roundw
                case rel => exact ⟨i + 1, _, by go_num, by omega, HS5⟩
                case measure => simp [intOf]; omega
              · have HS5 : Hid (∃ o, PLs w bk (500 * (i + 1)) Ps (.slice (some ⟨gl, 0, none⟩) np lc) w5 o) := by
                  obtain ⟨o, L, gv, h, _⟩ := HPR.out
                  exact ⟨o, h.mono (by omega)⟩
                clear HPR
                have s1 : Calls Try.prog 14 #[.pointer (some ⟨bk, 0, none⟩)] w5 fun x w' => x = .returned (.bool true) ∧ w' = w5 := by
                  obtain ⟨o5, h5⟩ := HS5.out
                  exact h5.still (by omega)
                go_wp2_with fail
                have hw5 := Hw5.out
                rw [← hw5]
                clear hw5
                refine s1.mono ?_
                rintro x wy ⟨rfl, hwy⟩
                obtain rfl := hwy.symm
                clear s1 hwy
                go_wp2_with fail
                go_roundw
                case rel => exact ⟨i + 1, Ps, by go_num, by omega, HS5⟩
                case measure => simp [intOf]; omega
            · obtain ⟨w5, hw5⟩ : ∃ w5, w5 = w7.alloc (.cells #[.pointer none, .pointer none] 28) := ⟨_, rfl⟩
              have HS5 : Hid (∃ o, PLs w bk (500 * (i + 1)) Ps (.slice (some ⟨gl, 0, none⟩) np lc) w5 o) := by
                obtain ⟨o, h⟩ := h9
                have t5 : Tch (fun _ => False) w7 w5 := by rw [hw5]; exact Tch.alloc _ _ _
                exact ⟨_, (h.no t5 5 (Or.inl rfl)).mono (by omega)⟩
              have Hw5 : Hid _ := hw5
              clear h9 hw5
              have s1 : Calls Try.prog 14 #[.pointer (some ⟨bk, 0, none⟩)] w5 fun x w' => x = .returned (.bool true) ∧ w' = w5 := by
                obtain ⟨o5, h5⟩ := HS5.out
                exact h5.still (by omega)
              go_wp2_with fail
              have hw5 := Hw5.out
              rw [← hw5]
              clear hw5
              refine s1.mono ?_
              rintro x wy ⟨rfl, hwy⟩
              obtain rfl := hwy.symm
              clear s1 hwy
              go_wp2_with fail
              go_roundw
              case rel => exact ⟨i + 1, Ps, by go_num, by omega, HS5⟩
              case measure => simp [intOf]; omega
        · as_aux_lemma =>
            have kk1 : (p.kd == 1) = false := by rw [hkd]; decide
            have kk2 : (p.kd == 2) = false := by rw [hkd]; decide
            have kk3 : (p.kd == 3) = false := by rw [hkd]; decide
            have kk4 : (p.kd == 4) = false := by rw [hkd]; decide
            have kk5 : (p.kd == 5) = false := by rw [hkd]; decide
            have kk6 : (p.kd == 6) = false := by rw [hkd]; decide
            have kk7 : (p.kd == 7) = false := by rw [hkd]; decide
            have kk8 : (p.kd == 8) = false := by rw [hkd]; decide
            have kk9 : (p.kd == 9) = false := by rw [hkd]; decide
            have kk10 : (p.kd == 10) = false := by rw [hkd]; decide
            have kk11 : (p.kd == 11) = false := by rw [hkd]; decide
            have kk12 : (p.kd == 12) = true := by rw [hkd]; decide
            have kk13 : (p.kd == 13) = false := by rw [hkd]; decide
            have kk14 : (p.kd == 14) = false := by rw [hkd]; decide
            have kk15 : (p.kd == 15) = false := by rw [hkd]; decide
            have qB : Calls Try.prog 10 #[.pointer (some ⟨r, 0, none⟩)] wq fun x w' => ∃ lo lc4 P, x = .returned (.slice lo P.length lc4) ∧ Tch (fun _ => False) wq w' ∧ TL w' (fun _ => False) lo P ∧ P.length ≤ 16 ∧ (∀ i (hi : i < P.length), P[i].1.cols.length ≤ 8) ∧ ∃ o', PLs w bk (500 * i) Ps (.slice (some ⟨gl, 0, none⟩) np lc) w' o' := by
              obtain ⟨o, h⟩ := HSq.out
              have h1 := h.list j Hj.out
              rw [← Hcr.out.2] at h1
              exact h1
            have Hb9 : Hid (wq.cell? ⟨wV.heap.size + 1, 1, none⟩ = some (.pointer (some ⟨r, 0, none⟩))) := by
              show _ = _
              rw [Hwq.out, ← World.size_alloc wV (.cells #[.int .i64 p.kd, .int .i64 p.on, .int .i64 p.N, .string p.nm, .slice p.ca p.cols.length p.cc, .int .i64 p.T.id, .int .i64 p.T.ver, .string p.T.nm, .slice p.ta p.T.cols.length p.tc, .int .i64 p.T.key, .slice p.lo p.l.length p.lc, .slice p.ro p.vs.length p.rc] 45), blk_cell (alloc_new _ _)]; rfl
            clear hkd Hokq HSq
            go_wp2_with fail
            have hwq := Hwq.out
            rw [← hwq]
            clear hwq c0 c1 z0 z1 z2 z3 z4 z5 z6 z7 z8 z9 z10 z11
            refine qB.mono ?_
            rintro x w4 ⟨lo, lc4, P, rfl, t4, hT4, hl4, h84, h4⟩
            have b9 : w4.cell? ⟨wV.heap.size + 1, 1, none⟩ = some (.pointer (some ⟨r, 0, none⟩)) := by rw [t4.cell (cell_lt Hb9.out) (fun h => h)]; exact Hb9.out
            obtain ⟨gn, qN⟩ : ∃ gn : Int, Calls Try.prog 11 #[.pointer (some ⟨r, 0, none⟩)] w4 fun x w' => x = .returned (.int .i64 gn) ∧ w' = w4 := by
              obtain ⟨o, h⟩ := h4
              obtain ⟨gn, _, h1⟩ := h.next j Hj.out
              rw [← Hcr.out.2] at h1
              exact ⟨gn, h1⟩
            obtain ⟨pn, hpn⟩ : ∃ pn, pn = P.length := ⟨_, rfl⟩
            have qL : Calls Try.prog 12 #[.slice lo pn lc4, .int .i64 gn] w4 fun x w' => ∃ pc pr, x = .returned (.tuple #[.agg #[.pointer pc, .pointer pr], .bool true]) ∧ LdRes w bk (500 * i) Ps (.slice (some ⟨gl, 0, none⟩) np lc) pc pr w' := by
              obtain ⟨o, h⟩ := h4
              rw [hpn]
              exact h.loads P lo lc4 _ gn hT4 (by omega) (fun i hi => by have := h84 i hi; omega)
            rw [← hpn]
            clear qB t4 hT4 hl4 h84 h4 hpn Hb9
            go_wp2_with fail
            refine qN.mono ?_
            rintro x wy ⟨rfl, hwy⟩
            obtain rfl := hwy.symm
            clear qN hwy b9
            go_wp2_with fail
            refine qL.mono ?_
            rintro x w7 ⟨pc, pr, rfl, h7⟩
            clear qL
            rcases h7 with ⟨d, e, L9, gv9, o9, rfl, rfl, h9, hp9⟩ | ⟨rfl, rfl, h9⟩
            · obtain ⟨w5, hw5⟩ : ∃ w5, w5 = w7.alloc (.cells #[.pointer (some ⟨d, 0, none⟩), .pointer (some ⟨e, 0, none⟩)] 28) := ⟨_, rfl⟩
              have t5 : Tch (fun _ => False) w7 w5 := by rw [hw5]; exact Tch.alloc _ _ _
              have HPR : Hid (∃ o L gv, PLs w bk (500 * i) Ps (.slice (some ⟨gl, 0, none⟩) np lc) w5 o ∧ PR w5 o (20 + 2 * Ps.length) d e L gv) := ⟨_, L9, gv9, h9.no t5 5 (Or.inl rfl), hp9.ev (Ev.quiet 5 t5) (by omega) (by omega)⟩
              have Hw5 : Hid _ := hw5
              clear h9 hp9 t5 hw5
              by_cases h6 : (np : Int) < 6
              · have Hwa : Hid (w7.heap.size + 1 = w5.heap.size) := by show _ = _; rw [Hw5.out, World.size_alloc]
                have HG : Hid (∃ o L gv, PLs w bk (500 * i) Ps (.slice (some ⟨gl, 0, none⟩) np lc) (w5.alloc (.cells #[.pointer (some ⟨d, 0, none⟩), .pointer (some ⟨e, 0, none⟩)] 28)) o ∧ PR (w5.alloc (.cells #[.pointer (some ⟨d, 0, none⟩), .pointer (some ⟨e, 0, none⟩)] 28)) o (20 + 2 * Ps.length) d e L gv) := by
                  obtain ⟨o, L, gv, h, hp⟩ := HPR.out
                  have ta : Tch (fun _ => False) w5 (w5.alloc (.cells #[.pointer (some ⟨d, 0, none⟩), .pointer (some ⟨e, 0, none⟩)] 28)) := Tch.alloc _ _ _
                  exact ⟨_, L, gv, h.no ta 5 (Or.inl rfl), hp.ev (Ev.quiet 5 ta) (by omega) (by omega)⟩
                have HRow : Hid ((w5.alloc (.cells #[.pointer (some ⟨d, 0, none⟩), .pointer (some ⟨e, 0, none⟩)] 28)).ownsRow 0 28 2 (.slice (some ⟨gl, 0, none⟩) np lc) np (pcl Ps)) := by
                  obtain ⟨o, L, gv, h, hp⟩ := HG.out
                  have := h.row
                  rw [← Hnp.out] at this
                  exact this
                go_wp2_with (at_builtin; have hw5 := Hw5.out; rw [← hw5]; clear hw5; rw [Hwa.out]; refine wpList_append_keeps _ rfl _ _ 29 rfl 0 28 i2 (.agg #[.pointer none, .pointer none]) 2 16 Try.underlying29 hi2 hx0 hx1 hx2 rfl (by decide) (.slice (some ⟨gl, 0, none⟩) np lc) np (pcl Ps) rfl HRow.out ⟨w5.heap.size, 0, none⟩ 1 1 [.pointer (some ⟨d, 0, none⟩), .pointer (some ⟨e, 0, none⟩)] rfl rfl (World.news_of_block (alloc_new _ _)) (by simp [Value.oneCell']) (by unfold maxLen; omega) (by omega) (Nat.zero_le _) ?_; intro v6 w6 hown6 hgr6 hat6 _)
                have HS5 : Hid (∃ o, PLs w bk (500 * (i + 1)) (Ps ++ [(d, e)]) v6 w6 o) := by
                  obtain ⟨o, L, gv, h, hp⟩ := HG.out
                  rw [Hnp.out] at hown6 hgr6 hat6 h
                  obtain ⟨o', h'⟩ := h.grow (by have := Hnp.out; omega) hp hgr6 hown6 hat6
                  exact ⟨o', h'.mono (by omega)⟩
                obtain ⟨ro6, rc6, hv6⟩ := row_slice hown6
                subst hv6
                clear hown6 hgr6 hat6 HRow HG
                have s1 : Calls Try.prog 14 #[.pointer (some ⟨bk, 0, none⟩)] w6 fun x w' => x = .returned (.bool true) ∧ w' = w6 := by
                  obtain ⟨o5, h5⟩ := HS5.out
                  exact h5.still (by omega)
                go_wp2_with fail
                refine s1.mono ?_
                rintro x wy ⟨rfl, hwy⟩
                obtain rfl := hwy.symm
                clear s1 hwy
                go_wp2_with fail
                go_roundw
                case rel => exact ⟨i + 1, _, by go_num, by omega, HS5⟩
                case measure => simp [intOf]; omega
              · have HS5 : Hid (∃ o, PLs w bk (500 * (i + 1)) Ps (.slice (some ⟨gl, 0, none⟩) np lc) w5 o) := by
                  obtain ⟨o, L, gv, h, _⟩ := HPR.out
                  exact ⟨o, h.mono (by omega)⟩
                clear HPR
                have s1 : Calls Try.prog 14 #[.pointer (some ⟨bk, 0, none⟩)] w5 fun x w' => x = .returned (.bool true) ∧ w' = w5 := by
                  obtain ⟨o5, h5⟩ := HS5.out
                  exact h5.still (by omega)
                go_wp2_with fail
                have hw5 := Hw5.out
                rw [← hw5]
                clear hw5
                refine s1.mono ?_
                rintro x wy ⟨rfl, hwy⟩
                obtain rfl := hwy.symm
                clear s1 hwy
                go_wp2_with fail
                go_roundw
                case rel => exact ⟨i + 1, Ps, by go_num, by omega, HS5⟩
                case measure => simp [intOf]; omega
            · obtain ⟨w5, hw5⟩ : ∃ w5, w5 = w7.alloc (.cells #[.pointer none, .pointer none] 28) := ⟨_, rfl⟩
              have HS5 : Hid (∃ o, PLs w bk (500 * (i + 1)) Ps (.slice (some ⟨gl, 0, none⟩) np lc) w5 o) := by
                obtain ⟨o, h⟩ := h9
                have t5 : Tch (fun _ => False) w7 w5 := by rw [hw5]; exact Tch.alloc _ _ _
                exact ⟨_, (h.no t5 5 (Or.inl rfl)).mono (by omega)⟩
              have Hw5 : Hid _ := hw5
              clear h9 hw5
              have s1 : Calls Try.prog 14 #[.pointer (some ⟨bk, 0, none⟩)] w5 fun x w' => x = .returned (.bool true) ∧ w' = w5 := by
                obtain ⟨o5, h5⟩ := HS5.out
                exact h5.still (by omega)
              go_wp2_with fail
              have hw5 := Hw5.out
              rw [← hw5]
              clear hw5
              refine s1.mono ?_
              rintro x wy ⟨rfl, hwy⟩
              obtain rfl := hwy.symm
              clear s1 hwy
              go_wp2_with fail
              go_roundw
              case rel => exact ⟨i + 1, Ps, by go_num, by omega, HS5⟩
              case measure => simp [intOf]; omega
        · as_aux_lemma =>
            have kk1 : (p.kd == 1) = false := by rw [hkd]; decide
            have kk2 : (p.kd == 2) = false := by rw [hkd]; decide
            have kk3 : (p.kd == 3) = false := by rw [hkd]; decide
            have kk4 : (p.kd == 4) = false := by rw [hkd]; decide
            have kk5 : (p.kd == 5) = false := by rw [hkd]; decide
            have kk6 : (p.kd == 6) = false := by rw [hkd]; decide
            have kk7 : (p.kd == 7) = false := by rw [hkd]; decide
            have kk8 : (p.kd == 8) = false := by rw [hkd]; decide
            have kk9 : (p.kd == 9) = false := by rw [hkd]; decide
            have kk10 : (p.kd == 10) = false := by rw [hkd]; decide
            have kk11 : (p.kd == 11) = false := by rw [hkd]; decide
            have kk12 : (p.kd == 12) = false := by rw [hkd]; decide
            have kk13 : (p.kd == 13) = true := by rw [hkd]; decide
            have kk14 : (p.kd == 14) = false := by rw [hkd]; decide
            have kk15 : (p.kd == 15) = false := by rw [hkd]; decide
            have qA : Calls Try.prog 13 #[.agg #[.pointer (some ⟨c, 0, none⟩), .pointer (some ⟨r, 0, none⟩)], .pointer (some ⟨bk, 0, none⟩), .agg #[.int .i64 p.kd, .int .i64 p.on, .int .i64 p.N, .string p.nm, .slice p.ca p.cols.length p.cc, .int .i64 p.T.id, .int .i64 p.T.ver, .string p.T.nm, .slice p.ta p.T.cols.length p.tc, .int .i64 p.T.key, .slice p.lo p.l.length p.lc, .slice p.ro p.vs.length p.rc]] wq fun x w' => x = .returned (.bool true) ∧ (∃ o, PLs w bk (500 * (i + 1)) Ps (.slice (some ⟨gl, 0, none⟩) np lc) w' o) := by
              obtain ⟨o, h⟩ := HSq.out
              have h1 := h.ask j Hj.out p Hokq.out (by omega) (Or.inr (Or.inr (Or.inr (Or.inr (Or.inl hkd)))))
              rw [← Hcr.out.1, ← Hcr.out.2] at h1
              refine h1.mono ?_
              rintro x w' ⟨rfl, o', h'⟩
              exact ⟨rfl, o', h'.mono (by omega)⟩
            clear hkd Hokq HSq
            go_wp2_with fail
            have hwq := Hwq.out
            rw [← hwq]
            clear hwq
            refine qA.mono ?_
            rintro x w5 ⟨rfl, h5⟩
            have HS5 : Hid (∃ o, PLs w bk (500 * (i + 1)) Ps (.slice (some ⟨gl, 0, none⟩) np lc) w5 o) := h5
            clear qA h5 c0 c1 z0 z1 z2 z3 z4 z5 z6 z7 z8 z9 z10 z11
            have s1 : Calls Try.prog 14 #[.pointer (some ⟨bk, 0, none⟩)] w5 fun x w' => x = .returned (.bool true) ∧ w' = w5 := by
              obtain ⟨o5, h5⟩ := HS5.out
              exact h5.still (by omega)
            go_wp2_with fail
            refine s1.mono ?_
            rintro x wy ⟨rfl, hwy⟩
            obtain rfl := hwy.symm
            clear s1 hwy
            go_wp2_with fail
            go_roundw
            case rel => exact ⟨i + 1, Ps, by go_num, by omega, HS5⟩
            case measure => simp [intOf]; omega
        · as_aux_lemma =>
            have kk1 : (p.kd == 1) = false := by rw [hkd]; decide
            have kk2 : (p.kd == 2) = false := by rw [hkd]; decide
            have kk3 : (p.kd == 3) = false := by rw [hkd]; decide
            have kk4 : (p.kd == 4) = false := by rw [hkd]; decide
            have kk5 : (p.kd == 5) = false := by rw [hkd]; decide
            have kk6 : (p.kd == 6) = false := by rw [hkd]; decide
            have kk7 : (p.kd == 7) = false := by rw [hkd]; decide
            have kk8 : (p.kd == 8) = false := by rw [hkd]; decide
            have kk9 : (p.kd == 9) = false := by rw [hkd]; decide
            have kk10 : (p.kd == 10) = false := by rw [hkd]; decide
            have kk11 : (p.kd == 11) = false := by rw [hkd]; decide
            have kk12 : (p.kd == 12) = false := by rw [hkd]; decide
            have kk13 : (p.kd == 13) = false := by rw [hkd]; decide
            have kk14 : (p.kd == 14) = true := by rw [hkd]; decide
            have kk15 : (p.kd == 15) = false := by rw [hkd]; decide
            have qA : Calls Try.prog 13 #[.agg #[.pointer (some ⟨c, 0, none⟩), .pointer (some ⟨r, 0, none⟩)], .pointer (some ⟨bk, 0, none⟩), .agg #[.int .i64 p.kd, .int .i64 p.on, .int .i64 p.N, .string p.nm, .slice p.ca p.cols.length p.cc, .int .i64 p.T.id, .int .i64 p.T.ver, .string p.T.nm, .slice p.ta p.T.cols.length p.tc, .int .i64 p.T.key, .slice p.lo p.l.length p.lc, .slice p.ro p.vs.length p.rc]] wq fun x w' => x = .returned (.bool true) ∧ (∃ o, PLs w bk (500 * (i + 1)) Ps (.slice (some ⟨gl, 0, none⟩) np lc) w' o) := by
              obtain ⟨o, h⟩ := HSq.out
              have h1 := h.ask j Hj.out p Hokq.out (by omega) (Or.inr (Or.inr (Or.inr (Or.inr (Or.inr (Or.inl hkd))))))
              rw [← Hcr.out.1, ← Hcr.out.2] at h1
              refine h1.mono ?_
              rintro x w' ⟨rfl, o', h'⟩
              exact ⟨rfl, o', h'.mono (by omega)⟩
            clear hkd Hokq HSq
            go_wp2_with fail
            have hwq := Hwq.out
            rw [← hwq]
            clear hwq
            refine qA.mono ?_
            rintro x w5 ⟨rfl, h5⟩
            have HS5 : Hid (∃ o, PLs w bk (500 * (i + 1)) Ps (.slice (some ⟨gl, 0, none⟩) np lc) w5 o) := h5
            clear qA h5 c0 c1 z0 z1 z2 z3 z4 z5 z6 z7 z8 z9 z10 z11
            have s1 : Calls Try.prog 14 #[.pointer (some ⟨bk, 0, none⟩)] w5 fun x w' => x = .returned (.bool true) ∧ w' = w5 := by
              obtain ⟨o5, h5⟩ := HS5.out
              exact h5.still (by omega)
            go_wp2_with fail
            refine s1.mono ?_
            rintro x wy ⟨rfl, hwy⟩
            obtain rfl := hwy.symm
            clear s1 hwy
            go_wp2_with fail
            go_roundw
            case rel => exact ⟨i + 1, Ps, by go_num, by omega, HS5⟩
            case measure => simp [intOf]; omega
        · as_aux_lemma =>
            have kk1 : (p.kd == 1) = false := by rw [hkd]; decide
            have kk2 : (p.kd == 2) = false := by rw [hkd]; decide
            have kk3 : (p.kd == 3) = false := by rw [hkd]; decide
            have kk4 : (p.kd == 4) = false := by rw [hkd]; decide
            have kk5 : (p.kd == 5) = false := by rw [hkd]; decide
            have kk6 : (p.kd == 6) = false := by rw [hkd]; decide
            have kk7 : (p.kd == 7) = false := by rw [hkd]; decide
            have kk8 : (p.kd == 8) = false := by rw [hkd]; decide
            have kk9 : (p.kd == 9) = false := by rw [hkd]; decide
            have kk10 : (p.kd == 10) = false := by rw [hkd]; decide
            have kk11 : (p.kd == 11) = false := by rw [hkd]; decide
            have kk12 : (p.kd == 12) = false := by rw [hkd]; decide
            have kk13 : (p.kd == 13) = false := by rw [hkd]; decide
            have kk14 : (p.kd == 14) = false := by rw [hkd]; decide
            have kk15 : (p.kd == 15) = true := by rw [hkd]; decide
            have qA : Calls Try.prog 13 #[.agg #[.pointer (some ⟨c, 0, none⟩), .pointer (some ⟨r, 0, none⟩)], .pointer (some ⟨bk, 0, none⟩), .agg #[.int .i64 p.kd, .int .i64 p.on, .int .i64 p.N, .string p.nm, .slice p.ca p.cols.length p.cc, .int .i64 p.T.id, .int .i64 p.T.ver, .string p.T.nm, .slice p.ta p.T.cols.length p.tc, .int .i64 p.T.key, .slice p.lo p.l.length p.lc, .slice p.ro p.vs.length p.rc]] wq fun x w' => x = .returned (.bool true) ∧ (∃ o, PLs w bk (500 * (i + 1)) Ps (.slice (some ⟨gl, 0, none⟩) np lc) w' o) := by
              obtain ⟨o, h⟩ := HSq.out
              have h1 := h.ask j Hj.out p Hokq.out (by omega) (Or.inr (Or.inr (Or.inr (Or.inr (Or.inr (Or.inr (hkd)))))))
              rw [← Hcr.out.1, ← Hcr.out.2] at h1
              refine h1.mono ?_
              rintro x w' ⟨rfl, o', h'⟩
              exact ⟨rfl, o', h'.mono (by omega)⟩
            clear hkd Hokq HSq
            go_wp2_with fail
            have hwq := Hwq.out
            rw [← hwq]
            clear hwq
            refine qA.mono ?_
            rintro x w5 ⟨rfl, h5⟩
            have HS5 : Hid (∃ o, PLs w bk (500 * (i + 1)) Ps (.slice (some ⟨gl, 0, none⟩) np lc) w5 o) := h5
            clear qA h5 c0 c1 z0 z1 z2 z3 z4 z5 z6 z7 z8 z9 z10 z11
            have s1 : Calls Try.prog 14 #[.pointer (some ⟨bk, 0, none⟩)] w5 fun x w' => x = .returned (.bool true) ∧ w' = w5 := by
              obtain ⟨o5, h5⟩ := HS5.out
              exact h5.still (by omega)
            go_wp2_with fail
            refine s1.mono ?_
            rintro x wy ⟨rfl, hwy⟩
            obtain rfl := hwy.symm
            clear s1 hwy
            go_wp2_with fail
            go_roundw
            case rel => exact ⟨i + 1, Ps, by go_num, by omega, HS5⟩
            case measure => simp [intOf]; omega
        · as_aux_lemma =>
            have kks : (p.kd == 1) = false ∧ (p.kd == 2) = false ∧ (p.kd == 3) = false ∧ (p.kd == 4) = false ∧ (p.kd == 5) = false ∧ (p.kd == 6) = false ∧ (p.kd == 7) = false ∧ (p.kd == 8) = false ∧ (p.kd == 9) = false ∧ (p.kd == 10) = false ∧ (p.kd == 11) = false ∧ (p.kd == 12) = false ∧ (p.kd == 13) = false ∧ (p.kd == 14) = false ∧ (p.kd == 15) = false := ⟨beq_eq_false_iff_ne.2 hn.1, beq_eq_false_iff_ne.2 hn.2.1, beq_eq_false_iff_ne.2 hn.2.2.1, beq_eq_false_iff_ne.2 hn.2.2.2.1, beq_eq_false_iff_ne.2 hn.2.2.2.2.1, beq_eq_false_iff_ne.2 hn.2.2.2.2.2.1, beq_eq_false_iff_ne.2 hn.2.2.2.2.2.2.1, beq_eq_false_iff_ne.2 hn.2.2.2.2.2.2.2.1, beq_eq_false_iff_ne.2 hn.2.2.2.2.2.2.2.2.1, beq_eq_false_iff_ne.2 hn.2.2.2.2.2.2.2.2.2.1, beq_eq_false_iff_ne.2 hn.2.2.2.2.2.2.2.2.2.2.1, beq_eq_false_iff_ne.2 hn.2.2.2.2.2.2.2.2.2.2.2.1, beq_eq_false_iff_ne.2 hn.2.2.2.2.2.2.2.2.2.2.2.2.1, beq_eq_false_iff_ne.2 hn.2.2.2.2.2.2.2.2.2.2.2.2.2.1, beq_eq_false_iff_ne.2 hn.2.2.2.2.2.2.2.2.2.2.2.2.2.2⟩
            obtain ⟨kk1, kk2, kk3, kk4, kk5, kk6, kk7, kk8, kk9, kk10, kk11, kk12, kk13, kk14, kk15⟩ := kks
            obtain ⟨w5, hw5⟩ : ∃ w5, w5 = wq := ⟨_, rfl⟩
            have HS5 : Hid (∃ o, PLs w bk (500 * (i + 1)) Ps (.slice (some ⟨gl, 0, none⟩) np lc) w5 o) := by
              obtain ⟨o, h⟩ := HSq.out
              exact ⟨o, by rw [hw5]; exact h.mono (by omega)⟩
            have s1 : Calls Try.prog 14 #[.pointer (some ⟨bk, 0, none⟩)] w5 fun x w' => x = .returned (.bool true) ∧ w' = w5 := by
              obtain ⟨o5, h5⟩ := HS5.out
              exact h5.still (by omega)
            have Hw5 : Hid (w5 = wq) := hw5
            clear hn hw5 Hokq HSq
            go_wp2_with fail
            have hwq := Hwq.out
            rw [← hwq, ← Hw5.out]
            clear hwq c0 c1 z0 z1 z2 z3 z4 z5 z6 z7 z8 z9 z10 z11
            refine s1.mono ?_
            rintro x wy ⟨rfl, hwy⟩
            obtain rfl := hwy.symm
            clear s1 hwy
            go_wp2_with fail
            go_roundw
            case rel => exact ⟨i + 1, Ps, by go_num, by omega, HS5⟩
            case measure => simp [intOf]; omega
    · as_aux_lemma =>
        have hi3 : i = 3 + len := by omega
        have HE0 : Hid (∃ o, PLs w bk (500 * (3 + len + 0)) Ps (.slice (some ⟨gl, 0, none⟩) np lc) wV o) := by
          obtain ⟨o, h⟩ := HS.out
          exact ⟨o, by rw [← hi3]; exact h⟩
        clear HS Hat hi3
        go_wp2_with fail
        go_loopw [17] (fun iv wr => ∃ y : Nat, iv = .int .i64 y ∧ y ≤ np ∧ Hid (∃ o, PLs w bk (500 * (3 + len + y)) Ps (.slice (some ⟨gl, 0, none⟩) np lc) wr o)) (fun iv _ => np - (intOf iv).toNat)
        case atStart => exact ⟨0, rfl, by omega, HE0⟩
        case round =>
          clear HE0 hlt
          obtain ⟨y, rfl, hy, HS⟩ := hrel
          obtain ⟨wE, hwE⟩ : ∃ wE, wE = wr := ⟨_, rfl⟩
          subst hwE
          by_cases hlt : (y : Int) < np
          · have Hy : Hid (y < Ps.length) := by have := Hnp.out; show _ < _; omega
            obtain ⟨c, hc⟩ : ∃ c, c = (Ps[y]'Hy.out).1 := ⟨_, rfl⟩
            obtain ⟨r, hr⟩ : ∃ r, r = (Ps[y]'Hy.out).2 := ⟨_, rfl⟩
            have Hcr : Hid (c = (Ps[y]'Hy.out).1 ∧ r = (Ps[y]'Hy.out).2) := ⟨hc, hr⟩
            have HA : Hid (∀ W m, (∃ o, PLs w bk (m) Ps (.slice (some ⟨gl, 0, none⟩) np lc) W o) → W.cell? ⟨gl, y * 2, none⟩ = some (.pointer (some ⟨c, 0, none⟩)) ∧ W.cell? ⟨gl, y * 2 + 1, none⟩ = some (.pointer (some ⟨r, 0, none⟩))) := fun W m hW => by
              obtain ⟨o, h⟩ := hW
              obtain ⟨g, c', h1, h2⟩ := h.at
              injection h1 with h1
              injection h1 with h1
              injection h1 with h1
              rw [hc, hr, h1]
              exact h2 y Hy.out
            obtain ⟨c0, c1⟩ := HA.out wE _ HS.out
            have qA : Calls Try.prog 13 #[.agg #[.pointer (some ⟨c, 0, none⟩), .pointer (some ⟨r, 0, none⟩)], .pointer (some ⟨bk, 0, none⟩), .agg #[.int .i64 6, .int .i64 0, .int .i64 0, .string ⟨#[]⟩, .slice none 0 0, .int .i64 0, .int .i64 0, .string ⟨#[]⟩, .slice none 0 0, .int .i64 0, .slice none 0 0, .slice none 0 0]] wE fun x w' => x = .returned (.bool true) ∧ (∃ o, PLs w bk (500 * (3 + len + (y + 1))) Ps (.slice (some ⟨gl, 0, none⟩) np lc) w' o) := by
              obtain ⟨o, h⟩ := HS.out
              have h1 := h.ask y Hy.out (fopK 6) (fopK_ok _ _ _) (by omega) (Or.inr (Or.inr (Or.inl rfl)))
              rw [← hc, ← hr] at h1
              refine h1.mono ?_
              rintro x w' ⟨rfl, o', h'⟩
              exact ⟨rfl, o', h'.mono (by omega)⟩
            clear hc hr
            go_wp2_with fail
            refine qA.mono ?_
            rintro x w5 ⟨rfl, h5⟩
            have HS5 : Hid _ := h5
            clear qA h5 c0 c1
            obtain ⟨gn, Hn1, Hn2⟩ : ∃ gn : Int, Hid (∀ q, Calls Try.prog 15 #[.pointer (some ⟨c, 0, none⟩)] (w5.drewN q) fun x w' => x = .returned (.int .i64 gn) ∧ w' = w5.drewN q) ∧ Hid (∀ q, Calls Try.prog 11 #[.pointer (some ⟨r, 0, none⟩)] (w5.drewN q) fun x w' => x = .returned (.int .i64 gn) ∧ w' = w5.drewN q) := by
              obtain ⟨o, h⟩ := HS5.out
              obtain ⟨L, gv, hp⟩ := h.pr y Hy.out
              rw [← Hcr.out.1, ← Hcr.out.2] at hp
              exact ⟨gv + 1, fun q => next_x (hp.ev (Ev.drew (K := fun _ => False) w5 o q) (fun h => h) (fun h => h)).cf hp.gi, fun q => rnext_x (hp.ev (Ev.drew (K := fun _ => False) w5 o q) (fun h => h) (fun h => h)).rf⟩
            obtain ⟨c0, c1⟩ := HA.out w5 _ HS5.out
            have hgg : (gn == gn) = true := by simp
            have HS6 : Hid (∀ q, (∃ o, PLs w bk (500 * (3 + len + (y + 1))) Ps (.slice (some ⟨gl, 0, none⟩) np lc) (w5.drewN q) o)) := fun q => by
              obtain ⟨o, h⟩ := HS5.out
              exact ⟨_, h.no ((Tch.refl _ _).drewN q) 5 (Or.inl rfl)⟩
            clear HA
            go_wp2_with fail
            go_quiet (first | (go_at_call 15; exact Calls.quiet_of_same (Hn1.out _)) | (go_at_call 11; exact Calls.quiet_of_same (Hn2.out _)))
            go_wp2_with fail
            go_roundw
            case rel => exact ⟨y + 1, by go_num, by omega, HS6.out _⟩
            case measure => simp [intOf]; omega
          · have HT : Hid (Tch (fun _ => False) w wE) := by
              obtain ⟨o, h⟩ := HS.out
              exact h.tc
            go_wp2_with fail
            go_ret
            exact ⟨rfl, HT.out⟩
end Go.Proofs.Ytolamjipigfocaa
