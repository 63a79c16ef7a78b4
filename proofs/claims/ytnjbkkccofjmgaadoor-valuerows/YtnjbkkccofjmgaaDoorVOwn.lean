/- owned of the law: rows that came out are their owner's. -/
import Derived.Test.YtnjbkkccofjmgaaDoorKeeps
namespace Go.Proofs.YtnjbkkccofjmgaaDoor
open Go.RowKit Go.Sort

theorem rowAt_cells' {w : World} {g o : Nat} {l : List Val} (h : RowAt w g o l) : ∀ j u, (rcl l)[j]? = some u → w.cell? ⟨g, o + j, none⟩ = some u := by
  intro j u hu
  have hj : j < l.length * 3 := by rw [← rcl_len]; exact (List.getElem?_eq_some_iff.1 hu).1
  obtain ⟨q, r, rfl, hr⟩ : ∃ q r, j = q * 3 + r ∧ r < 3 := ⟨j / 3, j % 3, by omega, by omega⟩
  have hq : q < l.length := by omega
  obtain ⟨h0, h1, h2⟩ := h q hq
  obtain ⟨g0, g1, g2⟩ := rcl_get l q hq
  obtain rfl | rfl | rfl : r = 0 ∨ r = 1 ∨ r = 2 := by omega
  · rw [Nat.add_zero] at hu ⊢; rw [g0] at hu; cases hu; exact h0
  · rw [g1] at hu; cases hu; rw [← Nat.add_assoc]; exact h1
  · rw [g2] at hu; cases hu; rw [← Nat.add_assoc]; exact h2
def mkV (i : Nat) : Val := ⟨-5, i, ⟨#[]⟩⟩
/-- A row of one's own, whatever is in it. -/
def RO2 (W : World) (base : Nat) (v : Value) (n : Nat) : Prop := ∃ xs, W.ownsRow base 23 3 v n xs
theorem RO2.blk {W : World} {base n : Nat} {v : Value} (h : RO2 W base v n) (hn : 0 < n) : ∃ g c cur, v = .slice (some ⟨g, 0, none⟩) n c ∧ base ≤ g ∧ W.heap[g]? = some (.cells cur 23 (0, 0)) ∧ n ≤ c ∧ c ≤ maxLen ∧ cur.size = c * 3 := by
  obtain ⟨xs, h1, h2⟩ := h
  rcases h2 with ⟨_, rfl⟩ | ⟨g, c, cur, hv, hb, hh, hnc, hm, hs, _⟩
  · omega
  · exact ⟨g, c, cur, hv, hb, hh, hnc, hm, hs⟩
theorem RO2.of {W : World} {base n g c : Nat} {cur : Array Value} (hb : base ≤ g) (hh : W.heap[g]? = some (.cells cur 23 (0, 0))) (hn : n ≤ c) (hm : c ≤ maxLen) (hs : cur.size = c * 3) : RO2 W base (.slice (some ⟨g, 0, none⟩) n c) n :=
  ⟨cur.toList.take (n * 3), by rw [List.length_take, Array.length_toList, hs]; omega, Or.inr ⟨g, c, cur, rfl, hb, hh, hn, hm, hs, rfl⟩⟩
theorem RO2.tch {S : Nat → Prop} {W W' : World} {base n : Nat} {v : Value} (h : RO2 W base v n) (t : Tch S W W') (hS : ∀ g, v.ownBlock = some g → ¬ S g) : RO2 W' base v n := by
  obtain ⟨xs, h1, h2⟩ := h
  refine ⟨xs, h1, ?_⟩
  rcases h2 with h2 | ⟨g, c, cur, hv, hb, hh, hr⟩
  · exact Or.inl h2
  · exact Or.inr ⟨g, c, cur, hv, hb, by rw [t.block g (blk_lt hh) (hS g (by rw [hv]; rfl))]; exact hh, hr⟩
theorem RO2.slice {W : World} {base n : Nat} {v : Value} (h : RO2 W base v n) : ∃ ao c, v = .slice ao n c := by
  obtain ⟨xs, h⟩ := h
  exact row_slice h
/-- The first q values of the row v are marks. -/
def MC (W : World) (v : Value) (i q : Nat) : Prop := 0 < q → ∃ g n c, v = .slice (some ⟨g, 0, none⟩) n c ∧ RowAt W g 0 (List.replicate q (mkV i))
theorem MC.tch {S : Nat → Prop} {W W' : World} {v : Value} {i q : Nat} (h : MC W v i q) (t : Tch S W W') (hS : ∀ g, v.ownBlock = some g → ¬ S g) : MC W' v i q := by
  intro hq
  obtain ⟨g, n, c, hv, hr⟩ := h hq
  exact ⟨g, n, c, hv, hr.tch t (fun _ => hS g (by rw [hv]; rfl))⟩
theorem MC.step {W : World} {g n c i q : Nat} {cur : Array Value} (h : MC W (.slice (some ⟨g, 0, none⟩) n c) i q) (hh : W.heap[g]? = some (.cells cur 23 (0, 0))) (hq : q < c) (hs : cur.size = c * 3) :
    MC (((W.setCell ⟨g, q * 3, none⟩ (.int .i64 (-5))).setCell ⟨g, q * 3 + 1, none⟩ (.int .i64 i)).setCell ⟨g, q * 3 + 2, none⟩ (.string ⟨#[]⟩)) (.slice (some ⟨g, 0, none⟩) n c) i (q + 1) ∧
    (((W.setCell ⟨g, q * 3, none⟩ (.int .i64 (-5))).setCell ⟨g, q * 3 + 1, none⟩ (.int .i64 i)).setCell ⟨g, q * 3 + 2, none⟩ (.string ⟨#[]⟩)).heap[g]? = some (.cells (((cur.setIfInBounds (q * 3) (.int .i64 (-5))).setIfInBounds (q * 3 + 1) (.int .i64 i)).setIfInBounds (q * 3 + 2) (.string ⟨#[]⟩)) 23 (0, 0)) := by
  have h3 := blk_set (blk_set (blk_set hh (i := q * 3) (.int .i64 (-5))) (i := q * 3 + 1) (.int .i64 i)) (i := q * 3 + 2) (.string ⟨#[]⟩)
  refine ⟨fun _ => ⟨g, n, c, rfl, fun j hj => ?_⟩, h3⟩
  rw [blk_cell h3, blk_cell h3, blk_cell h3]
  simp only [Nat.zero_add]
  rw [List.length_replicate] at hj
  rw [List.getElem_replicate]
  rcases Nat.lt_or_ge j q with hjq | hjq
  · obtain ⟨g', n', c', e, hr⟩ := h (by omega)
    injection e with e1 e2 e3
    injection e1 with e1
    injection e1 with e1
    subst e1
    obtain ⟨g1, g2, g3⟩ := hr j (by rw [List.length_replicate]; exact hjq)
    rw [blk_cell hh] at g1 g2 g3
    rw [List.getElem_replicate] at g1 g2 g3
    simp only [Nat.zero_add] at g1 g2 g3
    refine ⟨?_, ?_, ?_⟩
    · rw [Array.getElem?_setIfInBounds_ne (by omega), Array.getElem?_setIfInBounds_ne (by omega), Array.getElem?_setIfInBounds_ne (by omega)]; exact g1
    · rw [Array.getElem?_setIfInBounds_ne (by omega), Array.getElem?_setIfInBounds_ne (by omega), Array.getElem?_setIfInBounds_ne (by omega)]; exact g2
    · rw [Array.getElem?_setIfInBounds_ne (by omega), Array.getElem?_setIfInBounds_ne (by omega), Array.getElem?_setIfInBounds_ne (by omega)]; exact g3
  · obtain rfl : j = q := by omega
    refine ⟨?_, ?_, ?_⟩
    · rw [Array.getElem?_setIfInBounds_ne (by omega), Array.getElem?_setIfInBounds_ne (by omega), Array.getElem?_setIfInBounds_self_of_lt (by omega)]; rfl
    · rw [Array.getElem?_setIfInBounds_ne (by omega), Array.getElem?_setIfInBounds_self_of_lt (by simp; omega)]; rfl
    · rw [Array.getElem?_setIfInBounds_self_of_lt (by simp; omega)]; rfl
/-- A row whose values are all marks. -/
theorem RO2.marks {W : World} {base n i : Nat} {v : Value} (h : RO2 W base v n) (hm : MC W v i n) : W.ownsRow base 23 3 v n (rcl (List.replicate n (mkV i))) := by
  rcases Nat.eq_zero_or_pos n with rfl | hn
  · obtain ⟨xs, h1⟩ := h
    have : xs = [] := List.eq_nil_of_length_eq_zero (by simpa using h1.1)
    subst this
    exact h1
  · obtain ⟨g, c, cur, rfl, hb, hh, hnc, hmx, hs⟩ := h.blk hn
    obtain ⟨g', n', c', e, hr⟩ := hm hn
    injection e with e1 e2 e3
    injection e1 with e1
    injection e1 with e1
    subst e1
    refine ⟨by rw [rcl_len, List.length_replicate], Or.inr ⟨g, c, cur, rfl, hb, hh, hnc, hmx, hs, ?_⟩⟩
    apply List.ext_getElem?
    intro j
    rcases Nat.lt_or_ge j (n * 3) with hj | hj
    · rw [List.getElem?_take_of_lt hj]
      have hj2 : j < (rcl (List.replicate n (mkV i))).length := by rw [rcl_len, List.length_replicate]; exact hj
      have h3 := rowAt_cells' hr j _ (List.getElem?_eq_getElem hj2)
      rw [blk_cell hh, Nat.zero_add, ← Array.getElem?_toList] at h3
      rw [h3, List.getElem?_eq_getElem hj2]
    · rw [List.getElem?_eq_none (by simp; omega), List.getElem?_eq_none (by rw [rcl_len, List.length_replicate]; exact hj)]

theorem own_tch {S : Nat → Prop} {W W' : World} {base sz n : Nat} {t : TypeId} {v : Value} {xs : List Value} (h : W.ownsRow base t sz v n xs) (tc : Tch S W W') (hS : ∀ g, v.ownBlock = some g → ¬ S g) : W'.ownsRow base t sz v n xs := by
  obtain ⟨h1, h2⟩ := h
  refine ⟨h1, ?_⟩
  rcases h2 with h2 | ⟨g, c, cur, hv, hb, hh, hr⟩
  · exact Or.inl h2
  · exact Or.inr ⟨g, c, cur, hv, hb, by rw [tc.block g (blk_lt hh) (hS g (by rw [hv]; rfl))]; exact hh, hr⟩
theorem grown_at {W W1 w1 : World} {row : Option Nat} (t : Tch (fun _ => False) W W1) (h : W1.grownBy w1 row) : Tch (fun i => row = some i) W w1 :=
  (t.mono (fun _ _ h => h.elim)).trans' ⟨h.os, h.tape, h.output, h.size, fun k hk hn => h.block k hk (fun e => hn e.symm)⟩
/-- A slice that is kept: its values are marks. -/
def MVv (W : World) (v : Value) (i : Nat) (P : Nat → Nat → Prop) : Prop := ∃ ao m c, v = .slice ao m c ∧ m ≤ 28 ∧ (0 < m → ∃ g, ao = some ⟨g, 0, none⟩ ∧ g < W.heap.size ∧ P g m ∧ ∀ q, q < m → W.cell? ⟨g, q * 3, none⟩ = some (.int .i64 (-5)) ∧ W.cell? ⟨g, q * 3 + 1, none⟩ = some (.int .i64 i))
theorem MVv.up {W W' : World} {v : Value} {i : Nat} {P P' : Nat → Nat → Prop} (h : MVv W v i P) (hsz : W.heap.size ≤ W'.heap.size) (hP : ∀ g m, g < W.heap.size → P g m → P' g m ∧ ∀ j, j < m * 3 → W'.cell? ⟨g, j, none⟩ = W.cell? ⟨g, j, none⟩) : MVv W' v i P' := by
  obtain ⟨ao, m, c, hv, hm, h⟩ := h
  refine ⟨ao, m, c, hv, hm, fun h0 => ?_⟩
  obtain ⟨g, ha, hg, hp, hc⟩ := h h0
  obtain ⟨h1, h2⟩ := hP g m hg hp
  refine ⟨g, ha, by omega, h1, fun q hq => ?_⟩
  obtain ⟨c0, c1⟩ := hc q hq
  exact ⟨by rw [h2 _ (by omega)]; exact c0, by rw [h2 _ (by omega)]; exact c1⟩
theorem MVv.of {W : World} {base n i : Nat} {v : Value} {P : Nat → Nat → Prop} (h : W.ownsRow base 23 3 v n (rcl (List.replicate n (mkV i)))) (hn : n ≤ 28) (hP : ∀ g, v.ownBlock = some g → P g n) : MVv W v i P := by
  obtain ⟨ao, c, rfl⟩ := row_slice h
  refine ⟨ao, n, c, rfl, hn, fun h0 => ?_⟩
  have h' : W.ownsRow base 23 3 (.slice ao (List.replicate n (mkV i)).length c) (List.replicate n (mkV i)).length (rcl (List.replicate n (mkV i))) := by rw [List.length_replicate]; exact h
  obtain ⟨g, rfl, hg, hr⟩ := row_at h' (by intro e; have := congrArg List.length e; rw [List.length_replicate] at this; simp at this; omega)
  have hlt := (h.lt g rfl).2
  refine ⟨g, rfl, hlt, hP g rfl, fun q hq => ?_⟩
  obtain ⟨c0, c1, _⟩ := hr q (by rw [List.length_replicate]; exact hq)
  rw [List.getElem_replicate] at c0 c1
  rw [Nat.zero_add] at c0 c1
  exact ⟨c0, c1⟩
/-- The second loop of owned, between two rounds of the outer loop. -/
structure OA0 (W : World) (base b2 gl : Nat) (L : Nat → Value) (n : Nat → Nat) (A : List Value) (allv : Value) (p : Nat) : Prop where
  all : W.ownsRow b2 36 1 allv A.length A
  mv : ∀ j (hj : j < A.length), MVv W A[j] (j / 20) (fun g _ => allv.ownBlock ≠ some g ∧ ∀ i, p ≤ i → i < 5 → (L i).ownBlock ≠ some g)
  rest : ∀ i, p ≤ i → i < 5 → W.ownsRow base 23 3 (L i) (n i) (rcl (List.replicate (n i) (mkV i))) ∧ ∀ g, (L i).ownBlock = some g → allv.ownBlock ≠ some g
  sz : b2 ≤ W.heap.size ∧ gl < b2 ∧ base ≤ b2
/-- And within it. -/
structure OA (W : World) (base b2 gl : Nat) (L : Nat → Value) (n : Nat → Nat) (A : List Value) (allv x : Value) (p nx : Nat) : Prop where
  all : W.ownsRow b2 36 1 allv A.length A
  xr : W.ownsRow base 23 3 x nx (rcl (List.replicate nx (mkV p)))
  mv : ∀ j (hj : j < A.length), MVv W A[j] (j / 20) (fun g m => allv.ownBlock ≠ some g ∧ (x.ownBlock = some g → m ≤ nx) ∧ ∀ i, p < i → i < 5 → (L i).ownBlock ≠ some g)
  rest : ∀ i, p < i → i < 5 → W.ownsRow base 23 3 (L i) (n i) (rcl (List.replicate (n i) (mkV i))) ∧ ∀ g, (L i).ownBlock = some g → allv.ownBlock ≠ some g ∧ x.ownBlock ≠ some g
  xg : ∀ g, x.ownBlock = some g → allv.ownBlock ≠ some g ∧ g ≠ gl
  sz : b2 ≤ W.heap.size ∧ gl < b2 ∧ base ≤ b2
theorem OA0.enter {W : World} {base b2 gl : Nat} {L : Nat → Value} {n : Nat → Nat} {A : List Value} {allv : Value} {p : Nat} (h : OA0 W base b2 gl L n A allv p) (hp : p < 5) (hd : ∀ i j g, i < 5 → j < 5 → i ≠ j → (L i).ownBlock = some g → (L j).ownBlock ≠ some g) (hgl : ∀ i, i < 5 → (L i).ownBlock ≠ some gl) : OA W base b2 gl L n A allv (L p) p (n p) := by
  refine ⟨h.all, (h.rest p (Nat.le_refl _) hp).1, fun j hj => (h.mv j hj).up (Nat.le_refl _) (fun g m _ hP => ⟨⟨hP.1, fun e => absurd e (hP.2 p (Nat.le_refl _) hp), fun i h1 h2 => hP.2 i (by omega) h2⟩, fun _ _ => rfl⟩), fun i h1 h2 => ?_, fun g e => ⟨(h.rest p (Nat.le_refl _) hp).2 g e, fun e2 => hgl p hp (e2 ▸ e)⟩, h.sz⟩
  obtain ⟨r1, r2⟩ := h.rest i (by omega) h2
  exact ⟨r1, fun g e => ⟨r2 g e, hd i p g h2 hp (by omega) e⟩⟩
theorem OA.leave {W : World} {base b2 gl : Nat} {L : Nat → Value} {n : Nat → Nat} {A : List Value} {allv x : Value} {p nx : Nat} (h : OA W base b2 gl L n A allv x p nx) : OA0 W base b2 gl L n A allv (p + 1) :=
  ⟨h.all, fun j hj => (h.mv j hj).up (Nat.le_refl _) (fun g m _ hP => ⟨⟨hP.1, fun i h1 h2 => hP.2.2 i (by omega) h2⟩, fun _ _ => rfl⟩), fun i h1 h2 => ⟨(h.rest i (by omega) h2).1, fun g e => ((h.rest i (by omega) h2).2 g e).1⟩, h.sz⟩
theorem OA.one {W W1 w1 : World} {base b2 gl : Nat} {L : Nat → Value} {n : Nat → Nat} {A : List Value} {allv x allv' : Value} {p nx q : Nat} (h : OA W base b2 gl L n A allv x p nx) (t : Tch (fun _ => False) W W1) (hgr : W1.grownBy w1 allv.ownBlock) (hown : w1.ownsRow b2 36 1 allv' (A.length + 1) (A ++ [x])) (hat : allv'.ownBlock = allv.ownBlock ∨ allv'.ownBlock = some W1.heap.size) (hA : A.length = 20 * p + q) (hq : q < 20) (hnx : nx ≤ 28) :
    OA w1 base b2 gl L n (A ++ [x]) allv' x p nx := by
  have T := grown_at t hgr
  have hne : ∀ g, g < W.heap.size → allv.ownBlock ≠ some g → allv'.ownBlock ≠ some g := fun g hg h1 h2 => by
    rcases hat with e | e
    · exact h1 (e ▸ h2)
    · rw [e] at h2; injection h2 with h2; have := t.size; omega
  have hxlt : ∀ g, x.ownBlock = some g → g < W.heap.size := fun g e => (h.xr.lt g e).2
  have xr' := own_tch h.xr T (fun g e e2 => (h.xg g e).1 e2)
  refine ⟨by rw [List.length_append]; exact hown, xr', fun j hj => ?_, fun i h1 h2 => ?_, fun g e => ⟨hne g (hxlt g e) (h.xg g e).1, (h.xg g e).2⟩, ⟨Nat.le_trans h.sz.1 T.size, h.sz.2⟩⟩
  · rw [List.length_append, List.length_singleton] at hj
    rcases Nat.lt_or_ge j A.length with hjl | hjl
    · rw [List.getElem_append_left hjl]
      exact (h.mv j hjl).up T.size (fun g m hg hP => ⟨⟨hne g hg hP.1, hP.2⟩, fun k _ => T.cell (p := ⟨g, k, none⟩) hg hP.1⟩)
    · obtain rfl : j = A.length := by omega
      rw [List.getElem_append_right (Nat.le_refl _)]
      simp only [Nat.sub_self, List.getElem_cons_zero]
      rw [show A.length / 20 = p by omega]
      exact MVv.of xr' hnx (fun g e => ⟨hne g (hxlt g e) (h.xg g e).1, fun _ => Nat.le_refl _, fun i h1 h2 e2 => ((h.rest i h1 h2).2 g e2).2 e⟩)
  · obtain ⟨r1, r2⟩ := h.rest i h1 h2
    exact ⟨own_tch r1 T (fun g e e2 => (r2 g e).1 e2), fun g e => ⟨hne g (r1.lt g e).2 (r2 g e).1, (r2 g e).2⟩⟩
theorem OA.two {W W1 w1 : World} {base b2 gl : Nat} {L : Nat → Value} {n : Nat → Nat} {A : List Value} {allv x x' : Value} {p nx : Nat} (h : OA W base b2 gl L n A allv x p nx) (t : Tch (fun _ => False) W W1) (hgr : W1.grownBy w1 x.ownBlock) (hown : w1.ownsRow base 23 3 x' (nx + 1) (rcl (List.replicate (nx + 1) (mkV p)))) (hat : x'.ownBlock = x.ownBlock ∨ x'.ownBlock = some W1.heap.size)
    (hk : ∀ b j, b < W1.heap.size → (x.ownBlock = some b → j < nx * 3) → w1.cell? ⟨b, j, none⟩ = W1.cell? ⟨b, j, none⟩) : OA w1 base b2 gl L n A allv x' p (nx + 1) := by
  have T := grown_at t hgr
  have hne : ∀ g, g < W.heap.size → x.ownBlock ≠ some g → x'.ownBlock ≠ some g := fun g hg h1 h2 => by
    rcases hat with e | e
    · exact h1 (e ▸ h2)
    · rw [e] at h2; injection h2 with h2; have := t.size; omega
  refine ⟨own_tch h.all T (fun g e e2 => (h.xg g e2).1 e), hown, fun j hj => ?_, fun i h1 h2 => ?_, fun g e => ?_, ⟨Nat.le_trans h.sz.1 T.size, h.sz.2⟩⟩
  · refine (h.mv j hj).up T.size (fun g m hg hP => ⟨⟨hP.1, fun e => ?_, hP.2.2⟩, fun k hkm => ?_⟩)
    · by_cases hx : x.ownBlock = some g
      · have := hP.2.1 hx; omega
      · exact absurd e (hne g hg hx)
    · rw [hk g k (Nat.lt_of_lt_of_le hg t.size) (fun e => by have := hP.2.1 e; omega)]
      exact t.cell (p := ⟨g, k, none⟩) hg (fun h => h)
  · obtain ⟨r1, r2⟩ := h.rest i h1 h2
    exact ⟨own_tch r1 T (fun g e e2 => (r2 g e).2 e2), fun g e => ⟨(r2 g e).1, hne g (r1.lt g e).2 (r2 g e).2⟩⟩
  · rcases hat with e1 | e1
    · rw [e1] at e; exact h.xg g e
    · rw [e1] at e
      injection e with e
      subst e
      refine ⟨fun e2 => ?_, ?_⟩
      · have := (h.all.lt _ e2).2; have := t.size; omega
      · have := h.sz; have := t.size; omega
end Go.Proofs.YtnjbkkccofjmgaaDoor
