import Derived.Test.YtnjiiebjdpipjaaTPlay1
import Derived.Test.YtnjiiebjdpipjaaTPlay3
import Derived.Test.YtnjiiebjdpipjaaTPlay4
import Derived.Test.YtnjiiebjdpipjaaTPlay6
import Derived.Test.YtnjiiebjdpipjaaTKnown
import Derived.Test.YtnjiiebjdpipjaaOrdv
/- TreePlays: play of any kind; the law's state. -/
namespace Go.Proofs.Ytnjiiebjdpipjaa
open Go.RowKit Go Go.Shelf Go.Sort

structure Opv.ok (p : Opv) : Prop where
  lo : -9223372036854775808 ≤ p.n
  hi : p.n ≤ 9223372036854775807
  sz : p.s.size < 1000000000000000000
theorem play_any (W0 : World) (G : Nat → Prop) (W : World) (b mb : Nat) (l : List It) (p : Opv) (h : PS W0 G W b mb l l) (hl : l.length < 900000) (hp : p.ok) : Calls Try.prog 24 #[.agg #[pv b, pv mb], opV p] W fun x w' => x = .returned (.bool true) ∧ ∃ l', PS W0 G w' b mb l' l' ∧ l'.length ≤ l.length + 30 := by
  obtain ⟨ot, kd, N, s, t⟩ := p
  obtain ⟨h1, h2, h3⟩ := hp
  by_cases k1 : kd = 1
  · exact play_put W0 G W b mb l ot kd N s t h hl h1 h2 h3 k1
  by_cases k2 : kd = 2
  · exact play_del W0 G W b mb l ot kd N s t h hl h1 h2 h3 k2
  by_cases k3 : kd = 3
  · exact play_ask3 W0 G W b mb l ot kd N s t h hl h1 h2 h3 k3
  by_cases k4 : kd = 4
  · exact play_ask4 W0 G W b mb l ot kd N s t h hl h1 h2 h3 k4
  by_cases k5 : kd = 5
  · exact play_ask5 W0 G W b mb l ot kd N s t h hl h1 h2 h3 k5
  by_cases k6 : kd = 6
  · exact play_ask6 W0 G W b mb l ot kd N s t h hl h1 h2 h3 k6
  by_cases k7 : kd = 7
  · exact play_ask7 W0 G W b mb l ot kd N s t h hl h1 h2 h3 k7
  by_cases k8 : kd = 8
  · exact play_many W0 G W b mb l ot kd N s t h hl h1 h2 h3 k8
  by_cases k9 : kd = 9
  · exact play_few W0 G W b mb l ot kd N s t h hl h1 h2 h3 k9
  by_cases k10 : kd = 10
  · exact play_ask10 W0 G W b mb l ot kd N s t h hl h1 h2 h3 k10
  exact play_none W0 G W b mb l ot kd N s t h hl h1 h2 h3 ⟨k1, k2, k3, k4, k5, k6, k7, k8, k9, k10⟩
/-- The law's state: two pairs apart from one another, from the arguments and from the law's two boxes. -/
structure LP (w0 W : World) (ba ma bb mb qa qb i : Nat) : Prop where
  t : Tch (fun _ => False) w0 W
  a : W.heap[qa]? = some (.cells #[pv ba, pv ma] 53 (0, 0))
  b : W.heap[qb]? = some (.cells #[pv bb, pv mb] 53 (0, 0))
  s : ∃ Ga Gb la lb, PS W Ga W ba ma la la ∧ PS W Gb W bb mb lb lb ∧ (∀ x, Ga x → ¬ Gb x) ∧ (∀ x, Ga x → w0.heap.size ≤ x ∧ x ≠ qa ∧ x ≠ qb ∧ x < W.heap.size) ∧ (∀ x, Gb x → w0.heap.size ≤ x ∧ x ≠ qa ∧ x ≠ qb ∧ x < W.heap.size) ∧ la.length ≤ 30 * i ∧ lb.length ≤ 30 * i
theorem LP.more {w0 W W' : World} {ba ma bb mb qa qb i : Nat} (h : LP w0 W ba ma bb mb qa qb i) (t : Tch (fun _ => False) W W') : LP w0 W' ba ma bb mb qa qb i := by
  obtain ⟨h0, h1, h2, Ga, Gb, la, lb, p1, p2, p3, p4, p5, p6, p7⟩ := h
  have := t.size
  exact ⟨h0.trans' t, (t.block _ (blk_lt h1) (fun h => h)).trans h1, (t.block _ (blk_lt h2) (fun h => h)).trans h2, Ga, Gb, la, lb, p1.aside t (fun _ _ h => h), p2.aside t (fun _ _ h => h), p3, fun x hx => by have := p4 x hx; omega, fun x hx => by have := p5 x hx; omega, p6, p7⟩
/-- One step of the first pair; a new box stays. -/
theorem LP.one {w0 W W9 : World} {ba ma bb mb qa qb i q : Nat} {o : Obj} (h : LP w0 W ba ma bb mb qa qb i) (t9 : Tch (fun _ => False) W W9) (hq : W.heap.size ≤ q) (ho : W9.heap[q]? = some o) (hi : i < 1000) (p : Opv) (hp : p.ok) : Calls Try.prog 24 #[.agg #[pv ba, pv ma], opV p] W9 fun x w' => x = .returned (.bool true) ∧ LP w0 w' ba ma bb mb qa qb (i + 1) ∧ w'.heap[q]? = some o := by
  have h9 := h.more t9
  obtain ⟨_, _, _, Ga, Gb, la, lb, p1, p2, p3, p4, p5, p6, p7⟩ := h
  obtain ⟨h0, h1, h2, -⟩ := h9
  have p1 := p1.aside t9 (fun _ _ h => h)
  have p2 := p2.aside t9 (fun _ _ h => h)
  have hs9 := t9.size
  refine (play_any W9 Ga W9 ba ma la p p1 (by omega) hp).mono ?_
  rintro x w' ⟨rfl, l', q1, q2⟩
  have ht := q1.t
  have hsz := ht.size
  obtain ⟨G2, r1, r2, r3, -⟩ := q1.anew
  have hq1 := blk_lt h1
  have hq2 := blk_lt h2
  have hs0 := h0.size
  refine ⟨rfl, ⟨h0.trans ht (fun x hx hG => by have := p4 x hG; omega), (ht.block _ hq1 (fun hG => (p4 _ hG).2.1 rfl)).trans h1, (ht.block _ hq2 (fun hG => (p4 _ hG).2.2.1 rfl)).trans h2, G2, Gb, l', lb, r1, p2.aside ht (fun x hb ha => p3 x ha hb), fun x hx hb => ?_, fun x hx => ?_, fun x hx => ?_, by omega, by omega⟩, (ht.block _ (blk_lt ho) (fun hG => by have := p4 _ hG; omega)).trans ho⟩
  · rcases r3 x hx with h | h
    · exact p3 x h hb
    · have := p5 x hb; omega
  · have := r2 x hx
    rcases r3 x hx with h | h
    · have := p4 x h; omega
    · omega
  · have := p5 x hx; omega
theorem LP.swap {w0 W : World} {ba ma bb mb qa qb i : Nat} (h : LP w0 W ba ma bb mb qa qb i) : LP w0 W bb mb ba ma qb qa i := by
  obtain ⟨h0, h1, h2, Ga, Gb, la, lb, p1, p2, p3, p4, p5, p6, p7⟩ := h
  exact ⟨h0, h2, h1, Gb, Ga, lb, la, p2, p1, fun x hb ha => p3 x ha hb, fun x hx => by have := p5 x hx; omega, fun x hx => by have := p4 x hx; omega, p7, p6⟩
/-- One step of the second pair. -/
theorem LP.two {w0 W W9 : World} {ba ma bb mb qa qb i q : Nat} {o : Obj} (h : LP w0 W ba ma bb mb qa qb i) (t9 : Tch (fun _ => False) W W9) (hq : W.heap.size ≤ q) (ho : W9.heap[q]? = some o) (hi : i < 1000) (p : Opv) (hp : p.ok) : Calls Try.prog 24 #[.agg #[pv bb, pv mb], opV p] W9 fun x w' => x = .returned (.bool true) ∧ LP w0 w' ba ma bb mb qa qb (i + 1) ∧ w'.heap[q]? = some o := by
  refine (h.swap.one t9 hq ho hi p hp).mono ?_
  rintro x w' ⟨rfl, h1, h2⟩
  exact ⟨rfl, h1.swap, h2⟩
/-- The first state. -/
theorem map_new (W : World) : MW (W.alloc (.cells #[.slice none 0 0, .slice none 0 0] 51)) W.heap.size [] [W.heap.size] :=
  ⟨List.Pairwise.nil, fun x => by rw [List.count_singleton]; split <;> omega, _, _, alloc_new _ _, World.ownsRow_nil _ _ _ _, World.ownsRow_nil _ _ _ _, rfl, Iff.rfl⟩
/-- A new pair and its box. -/
theorem pair_new {w1 w2 w3 : World} (h2 : TW w2 w1.heap.size [] 0 [w1.heap.size]) (t2 : Tch (fun _ => False) w1 w2) (h3 : w3 = (w2.alloc (.cells #[.slice none 0 0, .slice none 0 0] 51)).alloc (.cells #[pv w1.heap.size, pv w2.heap.size] 53)) : PS w3 (fun x => x ∈ [w1.heap.size] ∨ x ∈ [w2.heap.size]) w3 w1.heap.size w2.heap.size [] [] ∧ w3.heap[w2.heap.size + 1]? = some (.cells #[pv w1.heap.size, pv w2.heap.size] 53 (0, 0)) ∧ Tch (fun _ => False) w1 w3 ∧ w3.heap.size = w2.heap.size + 2 ∧ w1.heap.size < w2.heap.size := by
  have hlt : w1.heap.size < w2.heap.size := h2.lt _ (by simp)
  have ta : Tch (fun _ => False) w2 w3 := by rw [h3]; exact (Tch.alloc _ _ _).allocR _
  have hm : MW w3 w2.heap.size [] [w2.heap.size] := by rw [h3]; exact (map_new w2).tch (Tch.alloc _ _ _) (fun _ _ h => h)
  refine ⟨PS.start (h2.tch ta (fun _ _ h => h)) hm (fun x h1 h2 => ?_), ?_, t2.trans' ta, by rw [h3]; simp, hlt⟩
  · have e1 := List.mem_singleton.1 h1
    have e2 := List.mem_singleton.1 h2
    omega
  · rw [h3]
    exact (two_new w2 _ _).2
theorem lp_new {w0 w1 w2 w3 w4 w5 : World} (t1 : Tch (fun _ => False) w0 w1) (h2 : TW w2 w1.heap.size [] 0 [w1.heap.size]) (t2 : Tch (fun _ => False) w1 w2) (h3 : w3 = (w2.alloc (.cells #[.slice none 0 0, .slice none 0 0] 51)).alloc (.cells #[pv w1.heap.size, pv w2.heap.size] 53))
    (h4 : TW w4 w3.heap.size [] 0 [w3.heap.size]) (t4 : Tch (fun _ => False) w3 w4) (h5 : w5 = (w4.alloc (.cells #[.slice none 0 0, .slice none 0 0] 51)).alloc (.cells #[pv w3.heap.size, pv w4.heap.size] 53)) : LP w0 w5 w1.heap.size w2.heap.size w3.heap.size w4.heap.size (w2.heap.size + 1) (w4.heap.size + 1) 0 := by
  obtain ⟨a1, a2, a3, a4, a5⟩ := pair_new h2 t2 h3
  obtain ⟨b1, b2, b3, b4, b5⟩ := pair_new h4 t4 h5
  have s0 := t1.size
  refine ⟨t1.trans' (a3.trans' b3), (b3.block _ (blk_lt a2) (fun h => h)).trans a2, b2, _, _, [], [], a1.aside b3 (fun _ _ h => h), b1, fun x h1 h2 => ?_, fun x h1 => ?_, fun x h1 => ?_, by simp, by simp⟩ <;> simp only [List.mem_singleton] at * <;> omega
end Go.Proofs.Ytnjiiebjdpipjaa
