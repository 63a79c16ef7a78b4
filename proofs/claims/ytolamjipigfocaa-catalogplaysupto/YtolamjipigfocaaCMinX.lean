import Derived.Test.YtolamjipigfocaaCMine
import Derived.Test.YtolamjipigfocaaCUni
/- mine, by owners. -/
namespace Go.Proofs.Ytolamjipigfocaa
open Go.RowKit Go

theorem LS.lt {le : TypeId} {W : World} {F : Nat → Prop} {b : Nat} {mk : Nat → List Value} {A : List Value} {rv : Value} (h : LS le W F b mk A rv) : ∀ g, rv.ownBlock = some g → g < W.heap.size := fun g e => (h.all.lt g e).2
theorem LS.ev {K : Nat → Prop} {w w' : World} {o o' : Nat → Nat} {k b : Nat} {le : TypeId} {mk : Nat → List Value} {A : List Value} {rv : Value} (h : LS le w (fun i => o i ≠ k) b mk A rv) (e : Ev K w o w' o') (hk : ¬ K k) : LS le w' (fun i => o' i ≠ k) b mk A rv := by
  have h1 : LS le w' (fun i => o i ≠ k) b mk A rv := h.tch e.tch (fun i hi => Or.inr (fun e1 => hk (by rw [← e1]; exact hi)))
  have hlt : ∀ g, g < w.heap.size → o g = k → o' g = k := fun g hg e1 => by rw [e.old g hg (by rw [e1]; exact hk), e1]
  refine ⟨h1.all, fun g hg => ⟨(h1.ag g hg).1, fun hn => hn (hlt g (h.lt g hg) (Classical.byContradiction fun e1 => (h.ag g hg).2 e1))⟩, fun j hj => ?_⟩
  obtain ⟨ao, m, c, hv, hm, hg⟩ := h1.mv j hj
  obtain ⟨ao', m', c', hv', _, hg'⟩ := h.mv j hj
  refine ⟨ao, m, c, hv, hm, fun h0 => ?_⟩
  obtain ⟨g, ha, hgl, hP, hat⟩ := hg h0
  rw [hv] at hv'
  injection hv' with e1 e2 e3
  subst e1 e2
  obtain ⟨g2, ha2, hgl2, hP2, _⟩ := hg' h0
  rw [ha] at ha2
  injection ha2 with ha2
  injection ha2 with ha2
  subst ha2
  exact ⟨g, ha, hgl, ⟨hP.1, fun hn => hn (hlt g hgl2 (Classical.byContradiction fun e1 => hP2.2.1 e1)), hP.2.2⟩, hat⟩
/-- The blocks V have come to the lists of columns (6); the book lies at b. -/
structure Mn (w : World) (o : Nat → Nat) (w' : World) (o' : Nat → Nat) (b : Nat) (V : Nat → Prop) : Prop where
  tch : Tch (fun i => i = b ∨ o i = 6 ∨ V i) w w'
  old : ∀ i, i < w.heap.size → ¬ V i → o' i = o i
  vs : ∀ i, V i → o' i = 6
  new : ∀ i, w.heap.size ≤ i → o' i = 6
theorem LS.ext {le : TypeId} {W : World} {F F' : Nat → Prop} {b : Nat} {mk : Nat → List Value} {A : List Value} {rv : Value} (h : LS le W F b mk A rv) (hF : ∀ i, i < W.heap.size → i ≠ b → F' i → F i) : LS le W F' b mk A rv :=
  ⟨h.all, fun g e => ⟨(h.ag g e).1, fun hf => (h.ag g e).2 (hF g (h.all.lt g e).2 (h.ag g e).1 hf)⟩, fun j hj => (h.mv j hj).up (Nat.le_refl _) (fun g _ hg hP => ⟨⟨hP.1, fun hf => hP.2.1 (hF g hg hP.1 hf), hP.2.2⟩, fun _ _ => rfl⟩)⟩
theorem mine_m (w : World) (o : Nat → Nat) (b : Nat) (cur : Array Value) (C : List Value) (cv v : Value) (cols : List Col) (a0 a1 : Int) (a2 : ByteArray) (a4 : Int)
    (hb : w.heap[b]? = some (.cells cur 41 (0, 0))) (hs : cur.size = 17) (hc : cur[0]? = some cv) (hL : LS 34 w (fun i => o i ≠ 6) b mkC C cv) (hv : w.ownsRow 0 43 3 v cols.length (ccl cols)) (hn : cols.length ≤ 8) (hg : ∀ g, v.ownBlock = some g → o g ≠ 6 ∧ g ≠ b) (hA : C.length ≤ 100000000) (h14 : C.length % 14 = 0) :
    Calls Try.prog 45 #[.pointer (some ⟨b, 0, none⟩), tA a0 a1 a2 v a4] w fun x w' => x = .returned (.tuple #[]) ∧ ∃ o' cv' C', C'.length = C.length + 14 ∧ w'.heap[b]? = some (.cells (cur.setIfInBounds 0 cv') 41 (0, 0)) ∧ LS 34 w' (fun i => o' i ≠ 6) b mkC C' cv' ∧ Mn w o w' o' b (fun i => v.ownBlock = some i) := by
  refine (mine_any b cur C cv v cols.length (ccl cols) (fun i => i < w.heap.size ∧ o i ≠ 6 ∧ v.ownBlock ≠ some i) a0 a1 a2 a4 w hb hs hc (hL.fresh (fun i hi hf => ?_)) hv hn (fun g e => ⟨(hg g e).2, fun hf => hf.2.2 e⟩) (fun i hi => hi.1) hA h14).mono ?_
  · rcases hf with h1 | h1
    · exact h1.2.1
    · exact (hg i h1).1
  · rintro x w' ⟨rfl, ⟨cv', C', hC', hb', hL'⟩, t⟩
    let o' : Nat → Nat := fun i => if v.ownBlock = some i then 6 else if i < w.heap.size then o i else 6
    refine ⟨rfl, o', cv', C', hC', hb', hL'.ext (fun i hi hib hf => ?_), ⟨t.mono (fun i _ h => ?_), fun i hi hn => ?_, fun i hV => if_pos hV, fun i hi => ?_⟩⟩
    · have hf' : (if v.ownBlock = some i then 6 else if i < w.heap.size then o i else 6) ≠ 6 := hf
      split at hf'
      · exact absurd rfl hf'
      · rename_i h1
        split at hf'
        · rename_i h2; exact ⟨h2, hf', h1⟩
        · exact absurd rfl hf'
    · rcases h with h | h | h
      · exact Or.inl h
      · exact Or.inr (Or.inl (Classical.byContradiction fun e => (hL.ag i h).2 e))
      · exact Or.inr (Or.inr h)
    · show (if v.ownBlock = some i then 6 else if i < w.heap.size then o i else 6) = o i
      rw [if_neg hn, if_pos hi]
    · show (if v.ownBlock = some i then 6 else if i < w.heap.size then o i else 6) = 6
      split
      · rfl
      · rw [if_neg (by omega)]
theorem Mn.ev {w w' : World} {o o' : Nat → Nat} {b : Nat} {V : Nat → Prop} (h : Mn w o w' o' b V) {kh kb : Nat} (hV : ∀ i, V i → o i = kh) (hb : o b = kb) : Ev (fun j => j = 6 ∨ j = kh ∨ j = kb) w o w' o' := by
  refine ⟨h.tch.mono (fun i _ hi => ?_), fun i hi hn => h.old i hi (fun hv => hn (Or.inr (Or.inl (hV i hv)))), fun i hi hk => ?_, fun i hi _ => Or.inl (h.new i hi)⟩
  · rcases hi with rfl | hi | hi
    · exact Or.inr (Or.inr hb)
    · exact Or.inl hi
    · exact Or.inr (Or.inl (hV i hi))
  · by_cases hv : V i
    · exact Or.inl (h.vs i hv)
    · rw [h.old i hi hv]; exact hk
/-- The marks of a table. -/
abbrev mk5 (M : Int) : List Value := [.int .i64 M, .int .i64 0, .string ⟨#[109, 105, 110, 101]⟩, .slice none 0 0, .int .i64 0]
/-- A list of tables, its first places marked, the others as they were. -/
structure M5 (W : World) (v : Value) (P : List (Tbl × Value)) (M : Int) (q : Nat) : Prop where
  sl : (v = .slice none 0 0 ∧ P.length = 0) ∨ ∃ g c cur, v = .slice (some ⟨g, 0, none⟩) P.length c ∧ W.heap[g]? = some (.cells cur 36 (0, 0)) ∧ P.length ≤ c ∧ c ≤ maxLen ∧ cur.size = c * 5 ∧ cur.toList.take (q * 5) = rep q (mk5 M) ∧ ∀ j, q * 5 ≤ j → j < P.length * 5 → cur[j]? = (tcl P)[j]?
theorem M5.of {W : World} {v : Value} {P : List (Tbl × Value)} (M : Int) (h : TO W 0 v P) : M5 W v P M 0 := by
  rcases h.own.2 with ⟨h1, h2⟩ | ⟨g, c, cur, h1, _, h2, h3, h4, h5, h6⟩
  · exact ⟨Or.inl ⟨h1, h2⟩⟩
  · refine ⟨Or.inr ⟨g, c, cur, h1, h2, h3, h4, h5, by simp [rep], fun j _ hj => ?_⟩⟩
    rw [← h6, List.getElem?_take, if_pos (by rw [← tcl_len] at hj ⊢; rw [tcl_len] at hj ⊢; omega), Array.getElem?_toList]
theorem M5.tch {S : Nat → Prop} {W W' : World} {v : Value} {P : List (Tbl × Value)} {M : Int} {q : Nat} (h : M5 W v P M q) (t : Tch S W W') (hS : ∀ g, v.ownBlock = some g → ¬ S g) : M5 W' v P M q := by
  rcases h.sl with h | ⟨g, c, cur, h1, h2, h3⟩
  · exact ⟨Or.inl h⟩
  · exact ⟨Or.inr ⟨g, c, cur, h1, by rw [t.block g (blk_lt h2) (hS g (by rw [h1]; rfl))]; exact h2, h3⟩⟩
theorem M5.end {W : World} {v : Value} {P : List (Tbl × Value)} {M : Int} (h : M5 W v P M P.length) : W.ownsRow 0 36 (mk5 M).length v P.length (rep P.length (mk5 M)) := by
  refine ⟨rep_len _ _, ?_⟩
  rcases h.sl with h | ⟨g, c, cur, h1, h2, h3, h4, h5, h6, _⟩
  · exact Or.inl h
  · exact Or.inr ⟨g, c, cur, h1, Nat.zero_le _, h2, h3, h4, h5, h6⟩
/-- The cells of the next one; the next one is marked. -/
theorem M5.next {W : World} {v : Value} {P : List (Tbl × Value)} {M : Int} {q : Nat} (h : M5 W v P M q) (hq : q < P.length) : ∃ g c cur, v = .slice (some ⟨g, 0, none⟩) P.length c ∧ W.heap[g]? = some (.cells cur 36 (0, 0)) ∧ cur.size = c * 5 ∧ q < c ∧ (W.cell? ⟨g, q * 5, none⟩ = some (.int .i64 P[q].1.id) ∧ W.cell? ⟨g, q * 5 + 1, none⟩ = some (.int .i64 P[q].1.ver) ∧ W.cell? ⟨g, q * 5 + 2, none⟩ = some (.string P[q].1.nm) ∧ W.cell? ⟨g, q * 5 + 3, none⟩ = some P[q].2 ∧ W.cell? ⟨g, q * 5 + 4, none⟩ = some (.int .i64 P[q].1.key)) := by
  rcases h.sl with ⟨_, h⟩ | ⟨g, c, cur, h1, h2, h3, h4, h5, h6, h7⟩
  · omega
  · have key : ∀ j u, j < 5 → (tcs P[q])[j]? = some u → W.cell? ⟨g, q * 5 + j, none⟩ = some u := fun j u hj hu => by
      rw [blk_cell h2, h7 (q * 5 + j) (by omega) (by omega), tcl_get P q j hq hj]; exact hu
    exact ⟨g, c, cur, h1, h2, h5, by omega, key 0 _ (by omega) rfl, key 1 _ (by omega) rfl, key 2 _ (by omega) rfl, key 3 _ (by omega) rfl, key 4 _ (by omega) rfl⟩
theorem M5.step {W W' : World} {P : List (Tbl × Value)} {M : Int} {q g c : Nat} (h : M5 W (.slice (some ⟨g, 0, none⟩) P.length c) P M q) (hq : q < P.length) (hW : W' = ((((W.setCell ⟨g, q * 5, none⟩ (.int .i64 M)).setCell ⟨g, q * 5 + 1, none⟩ (.int .i64 0)).setCell ⟨g, q * 5 + 2, none⟩ (.string ⟨#[109, 105, 110, 101]⟩)).setCell ⟨g, q * 5 + 3, none⟩ (.slice none 0 0)).setCell ⟨g, q * 5 + 4, none⟩ (.int .i64 0)) : M5 W' (.slice (some ⟨g, 0, none⟩) P.length c) P M (q + 1) := by
  rcases h.sl with ⟨h, _⟩ | ⟨g', c', cur, h1, h2, h3, h4, h5, h6, h7⟩
  · cases h
  · injection h1 with e1 _ e2
    injection e1 with e1
    injection e1 with e1
    subst e1 e2
    refine ⟨Or.inr ⟨g, c, _, rfl, by rw [hW]; exact blk_set (blk_set (blk_set (blk_set (blk_set h2 _) _) _) _) _, h3, h4, by simp [h5], ?_, fun j hj hj2 => ?_⟩⟩
    · rw [rep_succ]
      exact set5_step cur q c (rep q (mk5 M)) _ _ _ _ _ h5 (by omega) (by rw [rep_len]; rfl) h6
    · rw [Array.getElem?_setIfInBounds_ne (by omega), Array.getElem?_setIfInBounds_ne (by omega), Array.getElem?_setIfInBounds_ne (by omega), Array.getElem?_setIfInBounds_ne (by omega), Array.getElem?_setIfInBounds_ne (by omega)]
      exact h7 j (by omega) hj2
end Go.Proofs.Ytolamjipigfocaa
