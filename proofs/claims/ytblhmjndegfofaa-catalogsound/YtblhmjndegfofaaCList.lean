import Derived.Test.YtblhmjndegfofaaCCat
/- List, Clone of the code. -/
namespace Go.Proofs.Ytblhmjndegfofaa
open Go.RowKit Go

/-- Tables of one's own: their blocks are apart. -/
structure TO (W : World) (base : Nat) (tv : Value) (P : List (Tbl × Value)) : Prop where
  own : W.ownsRow base 29 5 tv P.length (tcl P)
  col : ∀ i (hi : i < P.length), W.ownsRow base 34 3 P[i].2 P[i].1.cols.length (ccl P[i].1.cols)
  sep : ∀ i (hi : i < P.length) g, P[i].2.ownBlock = some g → tv.ownBlock ≠ some g
  dis : ∀ i j (hi : i < P.length) (hj : j < P.length) g, i ≠ j → P[i].2.ownBlock = some g → P[j].2.ownBlock ≠ some g
theorem own_none {W : World} {base sz n : Nat} {t : TypeId} {c : Nat} {xs : List Value} (h : W.ownsRow base t sz (.slice none n c) n xs) : n = 0 ∧ c = 0 ∧ xs = [] := by
  rcases h.2 with ⟨h1, h2⟩ | ⟨g, c', cur, h1, _⟩
  · injection h1 with _ _ h3
    exact ⟨h2, h3, List.eq_nil_of_length_eq_zero (by rw [h.1, h2]; simp)⟩
  · injection h1 with h1; cases h1
theorem own_cap {W : World} {base sz n : Nat} {t : TypeId} {ao : Option Addr} {c : Nat} {xs : List Value} (h : W.ownsRow base t sz (.slice ao n c) n xs) : n ≤ c := by
  rcases h.2 with ⟨h1, h2⟩ | ⟨g, c', cur, h1, _, _, h3, _⟩
  · omega
  · injection h1 with _ _ h4; omega
theorem own_ck {W : World} {base : Nat} {p : Tbl × Value} (h : W.ownsRow base 34 3 p.2 p.1.cols.length (ccl p.1.cols)) : ∃ co cc, CK W (fun i => i < base) p co cc := by
  obtain ⟨co, cc, e⟩ := row_slice h
  have h' := h
  rw [e] at h'
  refine ⟨co, cc, e, own_sl h', fun e2 => ?_, own_cap h', fun g o e2 => ?_⟩
  · subst e2
    obtain ⟨h1, h2, _⟩ := own_none h'
    exact ⟨List.eq_nil_of_length_eq_zero h1, h2⟩
  · have := h'.lt g (by rw [e2]; rfl)
    omega
theorem TO.toTL {W : World} {base : Nat} {to : Option Addr} {tc : Nat} {P : List (Tbl × Value)} (h : TO W base (.slice to P.length tc) P) : TL W (fun i => i < base) to P :=
  ⟨own_sl h.own, fun _ g o e => by have := h.own.lt g (by rw [e]; rfl); omega, fun i hi => own_ck (h.col i hi)⟩
theorem TO.tch {S : Nat → Prop} {W W' : World} {base : Nat} {tv : Value} {P : List (Tbl × Value)} (h : TO W base tv P) (t : Tch S W W') (hS : ∀ i, base ≤ i → i < W.heap.size → ¬ S i) : TO W' base tv P :=
  ⟨own_tch h.own t (fun g e => hS g (h.own.lt g e).1 (h.own.lt g e).2), fun i hi => own_tch (h.col i hi) t (fun g e => hS g ((h.col i hi).lt g e).1 ((h.col i hi).lt g e).2), h.sep, h.dis⟩
theorem set5_step (cur : Array Value) (q n : Nat) (L : List Value) (a b c d e : Value) (hs : cur.size = n * 5) (hq : q < n) (hL : L.length = q * 5) (h : cur.toList.take (q * 5) = L) : (((((cur.setIfInBounds (q * 5) a).setIfInBounds (q * 5 + 1) b).setIfInBounds (q * 5 + 2) c).setIfInBounds (q * 5 + 3) d).setIfInBounds (q * 5 + 4) e).toList.take ((q + 1) * 5) = L ++ [a, b, c, d, e] := by
  apply List.ext_getElem?
  intro j
  rw [List.getElem?_take]
  rcases Nat.lt_or_ge j (q * 5) with h1 | h1
  · rw [if_pos (by omega), List.getElem?_append_left (by omega), ← h, List.getElem?_take, if_pos h1, Array.getElem?_toList, Array.getElem?_toList, Array.getElem?_setIfInBounds_ne (by omega), Array.getElem?_setIfInBounds_ne (by omega), Array.getElem?_setIfInBounds_ne (by omega), Array.getElem?_setIfInBounds_ne (by omega), Array.getElem?_setIfInBounds_ne (by omega)]
  · rw [List.getElem?_append_right (by omega), hL]
    rcases Nat.lt_or_ge j ((q + 1) * 5) with h2 | h2
    · rw [if_pos h2, Array.getElem?_toList]
      rcases (by omega : j = q * 5 ∨ j = q * 5 + 1 ∨ j = q * 5 + 2 ∨ j = q * 5 + 3 ∨ j = q * 5 + 4) with rfl | rfl | rfl | rfl | rfl
      · rw [Array.getElem?_setIfInBounds_ne (by omega), Array.getElem?_setIfInBounds_ne (by omega), Array.getElem?_setIfInBounds_ne (by omega), Array.getElem?_setIfInBounds_ne (by omega), Array.getElem?_setIfInBounds_self_of_lt (by omega), Nat.sub_self]; rfl
      · rw [Array.getElem?_setIfInBounds_ne (by omega), Array.getElem?_setIfInBounds_ne (by omega), Array.getElem?_setIfInBounds_ne (by omega), Array.getElem?_setIfInBounds_self_of_lt (by simp; omega), show q * 5 + 1 - q * 5 = 1 by omega]; rfl
      · rw [Array.getElem?_setIfInBounds_ne (by omega), Array.getElem?_setIfInBounds_ne (by omega), Array.getElem?_setIfInBounds_self_of_lt (by simp; omega), show q * 5 + 2 - q * 5 = 2 by omega]; rfl
      · rw [Array.getElem?_setIfInBounds_ne (by omega), Array.getElem?_setIfInBounds_self_of_lt (by simp; omega), show q * 5 + 3 - q * 5 = 3 by omega]; rfl
      · rw [Array.getElem?_setIfInBounds_self_of_lt (by simp; omega), show q * 5 + 4 - q * 5 = 4 by omega]; rfl
    · rw [if_neg (by omega), List.getElem?_eq_none (by simp; omega)]
theorem set5_cells {W : World} {g n q : Nat} {t : TypeId} {cur : Array Value} (hh : W.heap[g]? = some (.cells cur t (0, 0))) (hs : cur.size = n * 5) (hq : q < n) (v0 v1 v2 v3 : Value) :
    (∃ y, W.cell? ⟨g, q * 5, none⟩ = some y) ∧ (∃ y, (W.setCell ⟨g, q * 5, none⟩ v0).cell? ⟨g, q * 5 + 1, none⟩ = some y) ∧ (∃ y, ((W.setCell ⟨g, q * 5, none⟩ v0).setCell ⟨g, q * 5 + 1, none⟩ v1).cell? ⟨g, q * 5 + 2, none⟩ = some y) ∧ (∃ y, (((W.setCell ⟨g, q * 5, none⟩ v0).setCell ⟨g, q * 5 + 1, none⟩ v1).setCell ⟨g, q * 5 + 2, none⟩ v2).cell? ⟨g, q * 5 + 3, none⟩ = some y) ∧ (∃ y, ((((W.setCell ⟨g, q * 5, none⟩ v0).setCell ⟨g, q * 5 + 1, none⟩ v1).setCell ⟨g, q * 5 + 2, none⟩ v2).setCell ⟨g, q * 5 + 3, none⟩ v3).cell? ⟨g, q * 5 + 4, none⟩ = some y) ∧ ∀ j, W.frozen? ⟨g, j, none⟩ = false := by
  have key : ∀ (W' : World) (j : Nat), j < 5 → (∀ i, W'.heap[g]? = some (.cells i t (0, 0)) → i.size = n * 5 → True) → (∃ cu, W'.heap[g]? = some (.cells cu t (0, 0)) ∧ cu.size = n * 5) → ∃ y, W'.cell? ⟨g, q * 5 + j, none⟩ = some y := fun W' j hj _ ⟨cu, h1, h2⟩ => ⟨cu[q * 5 + j]'(by omega), by rw [blk_cell h1]; exact Array.getElem?_eq_getElem _⟩
  have s0 := hh
  have s1 := blk_set (i := q * 5) s0 v0
  have s2 := blk_set (i := q * 5 + 1) s1 v1
  have s3 := blk_set (i := q * 5 + 2) s2 v2
  have s4 := blk_set (i := q * 5 + 3) s3 v3
  exact ⟨key _ 0 (by omega) (fun _ _ _ => trivial) ⟨_, s0, hs⟩, key _ 1 (by omega) (fun _ _ _ => trivial) ⟨_, s1, by simp [hs]⟩, key _ 2 (by omega) (fun _ _ _ => trivial) ⟨_, s2, by simp [hs]⟩, key _ 3 (by omega) (fun _ _ _ => trivial) ⟨_, s3, by simp [hs]⟩, key _ 4 (by omega) (fun _ _ _ => trivial) ⟨_, s4, by simp [hs]⟩, fun j => blk_frozen hh j⟩
theorem info_tbl : (Try.prog.info? 29).map (fun i => (i.zero, i.size, i.bytes)) = some (some (.agg #[.int .i64 0, .int .i64 0, .string ⟨#[]⟩, .slice none 0 0, .int .i64 0]), 5, 64) := by kernel_rfl
theorem make_tbl (n : Nat) (w : World) (hn : n ≤ 1000) :
    (Instr.makeSlice 47 (.int .i64 (n : Int)) (.int .i64 (n : Int))).run Try.prog w = .ok (.slice (some ⟨w.heap.size, 0, none⟩) n n) (w.alloc (.cells (madeCells #[.int .i64 0, .int .i64 0, .string ⟨#[]⟩, .slice none 0 0, .int .i64 0] (n * 5)) 29)) := by
  obtain ⟨i0, hi, hz0, hz1, hz2⟩ := info_parts info_tbl
  have h := run_make (P := Try.prog) w 47 29 i0 (.agg #[.int .i64 0, .int .i64 0, .string ⟨#[]⟩, .slice none 0 0, .int .i64 0]) Try.underlying47 hi hz0 .i64 .i64 n n (by omega) (Int.le_refl _) (by rw [hz2]; omega) (by omega)
  simpa [hz1, Value.cells] using h
/-- The first so many of a list of tables. -/
structure LP (W : World) (base R n k : Nat) (P Q : List (Tbl × Value)) : Prop where
  len : Q.length = k
  eq : Q.map Prod.fst = (P.take k).map Prod.fst
  blk : ∃ cur : Array Value, W.heap[R]? = some (.cells cur 29 (0, 0)) ∧ cur.size = n * 5 ∧ cur.toList.take (k * 5) = tcl Q
  col : ∀ i (hi : i < Q.length), W.ownsRow base 34 3 Q[i].2 Q[i].1.cols.length (ccl Q[i].1.cols)
  sep : ∀ i (hi : i < Q.length) g, Q[i].2.ownBlock = some g → g ≠ R
  dis : ∀ i j (hi : i < Q.length) (hj : j < Q.length) g, i ≠ j → Q[i].2.ownBlock = some g → Q[j].2.ownBlock ≠ some g
theorem LP.tch {S : Nat → Prop} {W W' : World} {base R n k : Nat} {P Q : List (Tbl × Value)} (h : LP W base R n k P Q) (t : Tch S W W') (hS : ∀ i, i < W.heap.size → ¬ S i) : LP W' base R n k P Q := by
  obtain ⟨cur, h1, h2⟩ := h.blk
  exact ⟨h.len, h.eq, ⟨cur, by rw [t.block R (blk_lt h1) (hS R (blk_lt h1))]; exact h1, h2⟩, fun i hi => own_tch (h.col i hi) t (fun g e => hS g ((h.col i hi).lt g e).2), h.sep, h.dis⟩
theorem LP.step {W W' : World} {base R n k : Nat} {P Q : List (Tbl × Value)} (h : LP W base R n k P Q) (hk : k < P.length) (hn : k < n) (t : Tch (fun _ => False) W W') {v : Value} {t0 : Tbl} (ht : t0 = P[k].1) (hv : W'.ownsRow W.heap.size 34 3 v t0.cols.length (ccl t0.cols)) (hb : base ≤ W.heap.size) :
    LP (((((W'.setCell ⟨R, k * 5, none⟩ (.int .i64 t0.id)).setCell ⟨R, k * 5 + 1, none⟩ (.int .i64 t0.ver)).setCell ⟨R, k * 5 + 2, none⟩ (.string t0.nm)).setCell ⟨R, k * 5 + 3, none⟩ v).setCell ⟨R, k * 5 + 4, none⟩ (.int .i64 t0.key)) base R n (k + 1) P (Q ++ [(t0, v)]) := by
  have h' := h.tch t (fun _ _ h => h)
  obtain ⟨cur, h1, h2, h3⟩ := h'.blk
  have hRl : R < W.heap.size := by obtain ⟨c, hc, _⟩ := h.blk; exact blk_lt hc
  have T : Tch (fun i => i = R) W' (((((W'.setCell ⟨R, k * 5, none⟩ (.int .i64 t0.id)).setCell ⟨R, k * 5 + 1, none⟩ (.int .i64 t0.ver)).setCell ⟨R, k * 5 + 2, none⟩ (.string t0.nm)).setCell ⟨R, k * 5 + 3, none⟩ v).setCell ⟨R, k * 5 + 4, none⟩ (.int .i64 t0.key)) := ((((Tch.setCell (fun i => i = R) W' ⟨R, k * 5, none⟩ _ rfl).setCellR ⟨R, k * 5 + 1, none⟩ _ rfl).setCellR ⟨R, k * 5 + 2, none⟩ _ rfl).setCellR ⟨R, k * 5 + 3, none⟩ _ rfl).setCellR ⟨R, k * 5 + 4, none⟩ _ rfl
  have hlt : ∀ i (hi : i < Q.length) g, Q[i].2.ownBlock = some g → g < W.heap.size := fun i hi g e => ((h.col i hi).lt g e).2
  have hge : ∀ g, v.ownBlock = some g → W.heap.size ≤ g := fun g e => (hv.lt g e).1
  have hgetL : ∀ i (hi : i < Q.length) (hi' : i < (Q ++ [(t0, v)]).length), (Q ++ [(t0, v)])[i] = Q[i] := fun i hi hi' => List.getElem_append_left hi
  have hgetR : ∀ (hi' : Q.length < (Q ++ [(t0, v)]).length), (Q ++ [(t0, v)])[Q.length] = (t0, v) := fun hi' => by simp
  refine ⟨by simp [h.len], ?_, ⟨_, blk_set (blk_set (blk_set (blk_set (blk_set h1 _) _) _) _) _, by simp [h2], ?_⟩, fun i hi => ?_, fun i hi g e => ?_, fun i j hi hj g hij e1 e2 => ?_⟩
  · rw [List.map_append, h.eq, ← List.take_append_getElem hk, List.map_append, ht]; rfl
  · rw [set5_step cur k n (tcl Q) _ _ _ _ _ h2 hn (by rw [tcl_len, h.len]) h3, tcl_append]; rfl
  · rw [List.length_append, List.length_singleton] at hi
    rcases Nat.lt_or_ge i Q.length with hl | hl
    · rw [hgetL i hl]
      exact own_tch (h'.col i hl) T (h.sep i hl)
    · obtain rfl : i = Q.length := by omega
      rw [hgetR]
      exact own_low (own_tch hv T (fun g e he => by have := hge g e; omega)) hb
  · rw [List.length_append, List.length_singleton] at hi
    rcases Nat.lt_or_ge i Q.length with hl | hl
    · rw [hgetL i hl] at e; exact h.sep i hl g e
    · obtain rfl : i = Q.length := by omega
      rw [hgetR] at e; have := hge g e; omega
  · rw [List.length_append, List.length_singleton] at hi hj
    rcases Nat.lt_or_ge i Q.length with hl | hl <;> rcases Nat.lt_or_ge j Q.length with hm | hm
    · rw [hgetL i hl] at e1; rw [hgetL j hm] at e2; exact h.dis i j hl hm g hij e1 e2
    · obtain rfl : j = Q.length := by omega
      rw [hgetL i hl] at e1; rw [hgetR] at e2; have := hlt i hl g e1; have := hge g e2; omega
    · obtain rfl : i = Q.length := by omega
      rw [hgetR] at e1; rw [hgetL j hm] at e2; have := hlt j hm g e2; have := hge g e1; omega
    · omega
end Go.Proofs.Ytblhmjndegfofaa
