import Derived.Test.YtkcmpipipelgoaaKPlB
import Derived.Test.YtkcmpipipelgoaaHNew2
/- HistoryPlays: the tables that are lent. -/
namespace Go.Proofs.Ytkcmpipipelgoaa
open Go.RowKit Go

theorem ne_ty9 {w : World} {b b' : Nat} {cur cur' : Array Value} {t t' : TypeId} {fr fr' : Nat × Nat} (h : w.heap[b]? = some (.cells cur t fr)) (h' : w.heap[b']? = some (.cells cur' t' fr')) (ht : t ≠ t') : b ≠ b' := fun e => by
  subst e
  rw [h] at h'
  injection h' with h'
  injection h' with _ h2
  exact ht h2
theorem own_ty9 {base sz n : Nat} {w : World} {t : TypeId} {v : Value} {xs : List Value} (h : w.ownsRow base t sz v n xs) {g : Nat} (hg : v.ownBlock = some g) : ∃ cur, w.heap[g]? = some (.cells cur t (0, 0)) := by
  rcases h.2 with ⟨h1, _⟩ | ⟨g', c', cur, h1, h2, h3, _⟩
  · rw [h1] at hg; cases hg
  · rw [h1] at hg
    have e : g' = g := by simpa [Value.ownBlock] using hg
    subst e
    exact ⟨cur, by first | exact h2 | exact h3⟩
theorem make_tbl9 (n : Nat) (w : World) (hn : n ≤ 2000000) :
    (Instr.makeSlice 41 (.int .i64 (n : Int)) (.int .i64 (n : Int))).run Try.prog w = .ok (.slice (some ⟨w.heap.size, 0, none⟩) n n) (w.alloc (.cells (madeCells #[.int .i64 0, .int .i64 0, .string ⟨#[]⟩, .slice none 0 0, .int .i64 0] (n * 5)) 36)) := by
  obtain ⟨i0, hi, hz0, hz1, hz2⟩ := info_parts info_tbl
  have h := run_make (P := Try.prog) w 41 36 i0 (.agg #[.int .i64 0, .int .i64 0, .string ⟨#[]⟩, .slice none 0 0, .int .i64 0]) Try.underlying41 hi hz0 .i64 .i64 n n (by omega) (Int.le_refl _) (by rw [hz2]; omega) (by omega)
  simpa [hz1, Value.cells] using h
def zpv (p : Tbl × Value) (g : Nat) : Tbl × Value := (p.1, .slice (some ⟨g, 0, none⟩) p.1.cols.length (p.1.cols.length + 8))
def llv (p : Tbl × Value) (g : Nat) : Value := .slice (some ⟨g, 0, none⟩) (p.1.cols.length + 8) (p.1.cols.length + 8)
theorem zip_snoc {α β γ : Type} (f : α → β → γ) : ∀ (l : List α) (m : List β) (a : α) (b : β), l[m.length]? = some a → List.zipWith f l (m ++ [b]) = List.zipWith f l m ++ [f a b]
  | [], m, a, b, h => by simp at h
  | x :: l, [], a, b, h => by
    have e : x = a := by simpa using h
    subst e
    simp
  | x :: l, y :: m, a, b, h => by
    have := zip_snoc f l m a b (by simpa using h)
    simp only [List.cons_append, List.zipWith_cons_cons, this]
theorem zip_fst : ∀ (P : List (Tbl × Value)) (gs : List Nat), gs.length = P.length → (List.zipWith zpv P gs).map Prod.fst = P.map Prod.fst
  | [], gs, h => by simp
  | p :: P, [], h => by simp at h
  | p :: P, g :: gs, h => by
    have := zip_fst P gs (by simpa using h)
    simp only [List.zipWith_cons_cons, List.map_cons, this]
    rfl
theorem zip_get {γ : Type} (f : (Tbl × Value) → Nat → γ) (P : List (Tbl × Value)) (gs : List Nat) {j : Nat} {p : Tbl × Value} {g : Nat} (hp : P[j]? = some p) (hg : gs[j]? = some g) : (List.zipWith f P gs)[j]? = some (f p g) := by
  rw [List.getElem?_zipWith, hp, hg]
/-- The block of the tables of one's own: the first cells, and what says where it stands. -/
def OW (w : World) (gw n : Nat) (xs : List Value) (q : Nat) : Prop := ∃ cu, w.heap[gw]? = some (.cells cu 36 (0, 0)) ∧ cu.size = (n + 8) * 5 ∧ cu.toList.take xs.length = xs ∧ ∀ j, n ≤ j → j < q → cu[j * 5]? = some (.int .i64 (71 + (j : Int)))
theorem OW.tch {S : Nat → Prop} {w w' : World} {gw n q : Nat} {xs : List Value} (h : OW w gw n xs q) (t : Tch S w w') (hS : ¬ S gw) : OW w' gw n xs q := by
  obtain ⟨cu, h1, h2⟩ := h
  exact ⟨cu, (t.block gw (blk_lt h1) hS).trans h1, h2⟩
/-- So many tables are lent. -/
structure L2 (w1 w : World) (P : List (Tbl × Value)) (gw i : Nat) (gs : List Nat) (q : Nat) (lv : Value) : Prop where
  t : Tch (fun _ => False) w1 w
  gw1 : w1.heap.size ≤ gw
  ow : OW w gw P.length (tcl (List.zipWith zpv P gs)) q
  gl : gs.length = i
  le : i ≤ P.length
  bl : ∀ (j g : Nat), gs[j]? = some g → w1.heap.size ≤ g ∧ ∃ p : Tbl × Value, P[j]? = some p ∧ LB w g (p.1.cols.length + 8) p.1.cols (p.1.cols.length + 8)
  nd : gs.Nodup
  ls : w.ownsRow w1.heap.size 34 1 lv i (List.zipWith llv P gs)
theorem L2.no {w1 w w' : World} {P : List (Tbl × Value)} {gw i q : Nat} {gs : List Nat} {lv : Value} (h : L2 w1 w P gw i gs q lv) (t : Tch (fun _ => False) w w') : L2 w1 w' P gw i gs q lv :=
  ⟨h.t.trans' t, h.gw1, h.ow.tch t (fun e => e), h.gl, h.le, fun j g e => by
    obtain ⟨h1, p, h2, h3⟩ := h.bl j g e
    exact ⟨h1, p, h2, h3.tch t (fun e => e)⟩, h.nd, own_tch h.ls t (fun _ _ e => e)⟩
theorem L2.begin (w1 : World) (P : List (Tbl × Value)) : L2 w1 (w1.alloc (.cells (madeCells #[.int .i64 0, .int .i64 0, .string ⟨#[]⟩, .slice none 0 0, .int .i64 0] ((P.length + 8) * 5)) 36)) P w1.heap.size 0 [] P.length (.slice none 0 0) :=
  ⟨Tch.alloc _ _ _, Nat.le_refl _, ⟨_, alloc_new _ _, size_madeCells _ _, by simp [tcl], fun j h1 h2 => by omega⟩, rfl, Nat.zero_le _, fun j g e => by simp at e, List.nodup_nil, by simp only [List.zipWith_nil_right]; exact World.ownsRow_nil _ _ _ _⟩
theorem L2.gs_lt {w1 w : World} {P : List (Tbl × Value)} {gw i q : Nat} {gs : List Nat} {lv : Value} (h : L2 w1 w P gw i gs q lv) {g : Nat} (hg : g ∈ gs) : w1.heap.size ≤ g ∧ g < w.heap.size ∧ g ≠ gw ∧ lv.ownBlock ≠ some g := by
  obtain ⟨j, hj, e⟩ := List.getElem_of_mem hg
  obtain ⟨h1, p, _, hB⟩ := h.bl j g (by rw [List.getElem?_eq_getElem hj, e])
  obtain ⟨cu, hb, _⟩ := hB.blk
  obtain ⟨cw, hw, _⟩ := h.ow
  refine ⟨h1, blk_lt hb, ne_ty9 hb hw (by decide), fun e => ?_⟩
  obtain ⟨cl, hl⟩ := own_ty9 h.ls e
  exact ne_ty9 hb hl (by decide) rfl
theorem L2.gw_ls {w1 w : World} {P : List (Tbl × Value)} {gw i q : Nat} {gs : List Nat} {lv : Value} (h : L2 w1 w P gw i gs q lv) : lv.ownBlock ≠ some gw := fun e => by
  obtain ⟨cl, hl⟩ := own_ty9 h.ls e
  obtain ⟨cw, hw, _⟩ := h.ow
  exact ne_ty9 hw hl (by decide) rfl
/-- The five cells of a table of one's own are written. -/
theorem L2.lend {w1 w w2 w3 w4 : World} {P : List (Tbl × Value)} {gw i q : Nat} {gs : List Nat} {lo : Option Addr} {lc : Nat} (h : L2 w1 w P gw i gs q (.slice lo i lc)) {p : Tbl × Value} (hp : P[i]? = some p) {g : Nat} (t2 : Tch (fun _ => False) w w2) (hB : LB w2 g (p.1.cols.length + 8) p.1.cols (p.1.cols.length + 8)) (hg : w.heap.size ≤ g) (hw3 : w3 = w2.alloc (.cells #[.int .i64 p.1.id, .int .i64 p.1.ver, .string p.1.nm, .slice (some ⟨g, 0, none⟩) p.1.cols.length (p.1.cols.length + 8), .int .i64 p.1.key] 36))
    (hw4 : w4 = ((((w3.setCell ⟨gw, i * 5, none⟩ (.int .i64 p.1.id)).setCell ⟨gw, i * 5 + 1, none⟩ (.int .i64 p.1.ver)).setCell ⟨gw, i * 5 + 2, none⟩ (.string p.1.nm)).setCell ⟨gw, i * 5 + 3, none⟩ (.slice (some ⟨g, 0, none⟩) p.1.cols.length (p.1.cols.length + 8))).setCell ⟨gw, i * 5 + 4, none⟩ (.int .i64 p.1.key)) (hl : P.length ≤ 1048576) (hq : q = P.length) :
    ∃ lo' lc' w6, (Builtin.append_ #[55, 55] 55 #[.slice lo i lc, .slice (some ⟨w4.heap.size, 0, none⟩) 1 1]).run Try.prog (w4.alloc (.cells #[.slice (some ⟨g, 0, none⟩) (p.1.cols.length + 8) (p.1.cols.length + 8)] 34)) = .ok (.slice lo' (i + 1) lc') w6 ∧ L2 w1 w6 P gw (i + 1) (gs ++ [g]) q (.slice lo' (i + 1) lc') := by
  have hi : i < P.length := (List.getElem?_eq_some_iff.1 hp).1
  have h2 := h.no t2
  have t3 : Tch (fun _ => False) w2 w3 := by rw [hw3]; exact Tch.alloc _ _ _
  have h3 := h2.no t3
  have hB3 := hB.tch t3 (fun e => e)
  have t4 : Tch (fun k => k = gw) w3 w4 := by
    rw [hw4]
    exact ((((Tch.setCell (fun k => k = gw) w3 ⟨gw, i * 5, none⟩ _ rfl).setCellR _ _ rfl).setCellR _ _ rfl).setCellR _ _ rfl).setCellR _ _ rfl
  obtain ⟨cu, c1, c2, c3, c4⟩ := h3.ow
  have hxl : (tcl (List.zipWith zpv P gs)).length = i * 5 := by
    rw [tcl_len, List.length_zipWith, h.gl, Nat.min_eq_right h.le]
  have b4 : w4.heap[gw]? = some (.cells (((((cu.setIfInBounds (i * 5) (.int .i64 p.1.id)).setIfInBounds (i * 5 + 1) (.int .i64 p.1.ver)).setIfInBounds (i * 5 + 2) (.string p.1.nm)).setIfInBounds (i * 5 + 3) (.slice (some ⟨g, 0, none⟩) p.1.cols.length (p.1.cols.length + 8))).setIfInBounds (i * 5 + 4) (.int .i64 p.1.key)) 36 (0, 0)) := by
    rw [hw4]
    exact blk_set (blk_set (blk_set (blk_set (blk_set c1 _) _) _) _) _
  have hz : List.zipWith zpv P (gs ++ [g]) = List.zipWith zpv P gs ++ [zpv p g] := zip_snoc _ _ _ _ _ (by rw [h.gl]; exact hp)
  have hz2 : List.zipWith llv P (gs ++ [g]) = List.zipWith llv P gs ++ [llv p g] := zip_snoc _ _ _ _ _ (by rw [h.gl]; exact hp)
  have ow4 : OW w4 gw P.length (tcl (List.zipWith zpv P (gs ++ [g]))) q := by
    refine ⟨_, b4, by simp [c2], ?_, fun j h1 h2 => by omega⟩
    have e5 : tcl [zpv p g] = [.int .i64 p.1.id, .int .i64 p.1.ver, .string p.1.nm, .slice (some ⟨g, 0, none⟩) p.1.cols.length (p.1.cols.length + 8), .int .i64 p.1.key] := by simp [tcl, tcs, zpv]
    rw [hz, tcl_append, e5, List.length_append, hxl]
    show List.take (i * 5 + 5) _ = _
    rw [show i * 5 + 5 = (i + 1) * 5 by omega]
    exact set5_step cu i (P.length + 8) (tcl (List.zipWith zpv P gs)) _ _ _ _ _ c2 (by omega) hxl (by rw [← hxl]; exact c3)
  obtain ⟨w5, hw5⟩ : ∃ w5, w5 = w4.alloc (.cells #[.slice (some ⟨g, 0, none⟩) (p.1.cols.length + 8) (p.1.cols.length + 8)] 34) := ⟨_, rfl⟩
  have t5 : Tch (fun _ => False) w4 w5 := by rw [hw5]; exact Tch.alloc _ _ _
  have b5 : w5.heap[w4.heap.size]? = some (.cells #[.slice (some ⟨g, 0, none⟩) (p.1.cols.length + 8) (p.1.cols.length + 8)] 34 (0, 0)) := by rw [hw5]; exact alloc_new _ _
  rw [← hw5]
  have T15 : Tch (fun _ => False) w1 w5 := (h3.t.trans t4 (fun k hk e => by have e' : k = gw := e; have := h.gw1; omega)).trans' t5
  have ls5 : w5.ownsRow w1.heap.size 34 1 (.slice lo i lc) i (List.zipWith llv P gs) := own_tch (own_tch h3.ls t4 (fun k hk e => by have e' : k = gw := e; exact h3.gw_ls (by rw [← e']; exact hk))) t5 (fun _ _ e => e)
  obtain ⟨i0, hi0, hz0, hz1, hz2'⟩ := info_parts info_cols
  obtain ⟨v6, w6, hr6, hown6, hgr6, _, hat6⟩ := run_append_own_at (P := Try.prog) w5 w1.heap.size 55 55 34 i0 _ 1 24 Try.underlying55 hi0 hz0 hz1 hz2' rfl (by decide) _ _ _ ls5 ⟨w4.heap.size, 0, none⟩ 1 1 [.slice (some ⟨g, 0, none⟩) (p.1.cols.length + 8) (p.1.cols.length + 8)] rfl (fun j u hu => by rw [add_plain, Nat.zero_add, blk_cell b5, ← Array.getElem?_toList]; exact hu) (fun u hu => by
      rw [List.mem_singleton.1 hu]; rfl) (by unfold maxLen; omega) (by omega) T15.size
  obtain ⟨o6, c6, rfl⟩ := row_slice hown6
  have t6 : Tch (fun k => (Value.slice lo i lc).ownBlock = some k) w5 w6 := Tch.of_grown hgr6 (fun k e => e)
  refine ⟨o6, c6, w6, hr6, T15.trans t6 (fun k hk e => by have := (ls5.lt k e).1; omega), h.gw1, (ow4.tch t5 (fun e => e)).tch t6 h3.gw_ls, by rw [List.length_append, h.gl]; rfl, by omega, fun j g' hj => ?_, ?_, by rw [hz2]; exact hown6⟩
  · have hsz : w1.heap.size ≤ w.heap.size := h.t.size
    rcases Nat.lt_or_ge j gs.length with hjl | hjl
    · rw [List.getElem?_append_left hjl] at hj
      obtain ⟨h1, p', hp', hB'⟩ := h3.bl j g' hj
      have hm : g' ∈ gs := List.mem_of_getElem? hj
      obtain ⟨_, _, n1, n2⟩ := h3.gs_lt hm
      exact ⟨h1, p', hp', ((hB'.tch t4 (fun e => n1 e)).tch t5 (fun e => e)).tch t6 n2⟩
    · rw [List.getElem?_append_right hjl] at hj
      have e0 : j - gs.length = 0 := by
        rcases Nat.eq_zero_or_pos (j - gs.length) with e | e
        · exact e
        · rw [List.getElem?_eq_none (by simp; omega)] at hj; cases hj
      rw [e0] at hj
      have e1 : g = g' := by simpa using hj
      subst e1
      have e2 : j = i := by have := h.gl; omega
      obtain ⟨cg, hbg, _⟩ := hB3.blk
      have n1 : g ≠ gw := ne_ty9 hbg c1 (by decide)
      have n2 : (Value.slice lo i lc).ownBlock ≠ some g := fun e => by
        obtain ⟨cl, hl'⟩ := own_ty9 h3.ls e
        exact ne_ty9 hbg hl' (by decide) rfl
      exact ⟨by omega, p, by rw [e2]; exact hp, ((hB3.tch t4 (fun e => n1 e)).tch t5 (fun e => e)).tch t6 n2⟩
  · rw [List.nodup_append]
    refine ⟨h.nd, by simp, fun a ha b hb e => ?_⟩
    have e1 : b = g := by simpa using hb
    have := (h.gs_lt ha).2.1
    omega
/-- A place behind the tables is marked. -/
theorem L2.mark {w1 w : World} {P : List (Tbl × Value)} {gw q : Nat} {gs : List Nat} {lv : Value} (h : L2 w1 w P gw P.length gs q lv) (h1 : P.length ≤ q) (h2 : q < P.length + 8) : L2 w1 (w.setCell ⟨gw, q * 5, none⟩ (.int .i64 (71 + (q : Int)))) P gw P.length gs (q + 1) lv := by
  have t : Tch (fun k => k = gw) w (w.setCell ⟨gw, q * 5, none⟩ (.int .i64 (71 + (q : Int)))) := Tch.setCell (fun k => k = gw) w ⟨gw, q * 5, none⟩ _ rfl
  obtain ⟨cu, c1, c2, c3, c4⟩ := h.ow
  have hxl : (tcl (List.zipWith zpv P gs)).length = P.length * 5 := by
    rw [tcl_len, List.length_zipWith, h.gl, Nat.min_self]
  refine ⟨h.t.trans t (fun k hk e => by have e' : k = gw := e; have := h.gw1; omega), h.gw1, ⟨_, blk_set c1 _, by simp [c2], ?_, fun j h3 h4 => ?_⟩, h.gl, h.le, fun j g hj => ?_, h.nd, own_tch h.ls t (fun k hk e => by have e' : k = gw := e; exact h.gw_ls (by rw [← e']; exact hk))⟩
  · apply List.ext_getElem?
    intro j
    rw [List.getElem?_take]
    rcases Nat.lt_or_ge j (tcl (List.zipWith zpv P gs)).length with hj | hj
    · rw [if_pos hj, Array.getElem?_toList, Array.getElem?_setIfInBounds_ne (by omega), ← Array.getElem?_toList]
      have := congrArg (fun l => l[j]?) c3
      simp only [List.getElem?_take, if_pos hj] at this
      exact this
    · rw [if_neg (by omega), List.getElem?_eq_none hj]
  · rcases Nat.lt_or_ge j q with hj | hj
    · rw [Array.getElem?_setIfInBounds_ne (by omega)]; exact c4 j h3 hj
    · have e : j = q := by omega
      subst e
      rw [Array.getElem?_setIfInBounds_self_of_lt (by omega)]
  · obtain ⟨h5, p, h6, h7⟩ := h.bl j g hj
    exact ⟨h5, p, h6, h7.tch t (fun e => (h.gs_lt (List.mem_of_getElem? hj)).2.2.1 e)⟩
theorem L2.tl {w1 w : World} {P : List (Tbl × Value)} {gw q : Nat} {gs : List Nat} {lv : Value} (h : L2 w1 w P gw P.length gs q lv) : TL w (fun _ => False) (some ⟨gw, 0, none⟩) (List.zipWith zpv P gs) := by
  have hzl : (List.zipWith zpv P gs).length = P.length := by rw [List.length_zipWith, h.gl, Nat.min_self]
  refine ⟨fun _ => ⟨gw, 0, rfl, fun j u hu => ?_⟩, fun _ _ _ _ e => e, fun i hi => ?_⟩
  · obtain ⟨cu, c1, c2, c3, c4⟩ := h.ow
    rw [Nat.zero_add, blk_cell c1, ← Array.getElem?_toList]
    have hj := (List.getElem?_eq_some_iff.1 hu).1
    have := congrArg (fun l => l[j]?) c3
    simp only [List.getElem?_take, if_pos hj] at this
    rw [this]; exact hu
  · obtain ⟨g, hg⟩ : ∃ g, gs[i]? = some g := ⟨_, List.getElem?_eq_getElem (by have := h.gl; omega)⟩
    obtain ⟨h1, p, hp, hB⟩ := h.bl i g hg
    have e : (List.zipWith zpv P gs)[i] = zpv p g := by
      have := zip_get zpv P gs hp hg
      rw [List.getElem?_eq_getElem hi] at this
      simpa using this
    rw [e]
    obtain ⟨cu, hb, _⟩ := hB.blk
    exact ⟨some ⟨g, 0, none⟩, p.1.cols.length + 8, ⟨rfl, hB.sl, (fun e => by cases e), (by show p.1.cols.length ≤ p.1.cols.length + 8; omega), fun _ g' o e => ⟨fun e => e, by injection e with e; injection e with e; rw [← e]; exact blk_lt hb⟩⟩⟩
/-- What is read of what was lent, while it is given back. -/
theorem L2.reads {w1 w wr : World} {P : List (Tbl × Value)} {gw q i : Nat} {gs : List Nat} {lo : Option Addr} {lc : Nat} (h : L2 w1 w P gw P.length gs q (.slice lo P.length lc)) (t : Tch (fun g => ∃ j, j < i ∧ gs[j]? = some g) w wr) :
    (∀ p : Tbl × Value, P[i]? = some p → ∃ g lg, gs[i]? = some g ∧ lo = some ⟨lg, 0, none⟩ ∧ wr.cell? ⟨lg, i, none⟩ = some (llv p g) ∧ LB wr g (p.1.cols.length + 8) p.1.cols (p.1.cols.length + 8) ∧ w1.heap.size ≤ g ∧ g < w.heap.size ∧ ∀ j u, j < 5 → (tcs (zpv p g))[j]? = some u → wr.cell? ⟨gw, i * 5 + j, none⟩ = some u) ∧ (∀ j, P.length ≤ j → j < q → wr.cell? ⟨gw, j * 5, none⟩ = some (.int .i64 (71 + (j : Int)))) := by
  have hgw : ¬ ∃ j, j < i ∧ gs[j]? = some gw := fun ⟨j, _, e⟩ => (h.gs_lt (List.mem_of_getElem? e)).2.2.1 rfl
  obtain ⟨cu, c1, c2, c3, c4⟩ := h.ow
  have b1 := (t.block gw (blk_lt c1) hgw).trans c1
  refine ⟨fun p hp => ?_, fun j h1 h2 => by rw [blk_cell b1]; exact c4 j h1 h2⟩
  have hi : i < P.length := (List.getElem?_eq_some_iff.1 hp).1
  obtain ⟨g, hg⟩ : ∃ g, gs[i]? = some g := ⟨_, List.getElem?_eq_getElem (by have := h.gl; omega)⟩
  obtain ⟨h1, p', hp', hB⟩ := h.bl i g hg
  have e : p' = p := by rw [hp] at hp'; injection hp' with e; exact e.symm
  subst e
  have hng : ¬ ∃ j, j < i ∧ gs[j]? = some g := fun ⟨j, hj, e⟩ => by
    have hil : i < gs.length := by have := h.gl; omega
    have hjl : j < gs.length := by omega
    have := List.pairwise_iff_getElem.1 h.nd j i hjl hil hj
    rw [List.getElem?_eq_getElem hjl] at e
    rw [List.getElem?_eq_getElem hil] at hg
    exact this (Option.some.inj (e.trans hg.symm))
  obtain ⟨lg, e1, _, ha⟩ := own_at h.ls (by omega)
  obtain ⟨cg, hbg, _⟩ := hB.blk
  have c5 := ha i (llv p' g) (zip_get llv P gs hp hg)
  rw [Nat.zero_add] at c5
  have hnl : ¬ ∃ j, j < i ∧ gs[j]? = some lg := fun ⟨j, _, e⟩ => (h.gs_lt (List.mem_of_getElem? e)).2.2.2 (by rw [e1]; rfl)
  refine ⟨g, lg, hg, e1, (t.cell (p := ⟨lg, i, none⟩) (cell_lt c5) hnl).trans c5, hB.tch t hng, h1, blk_lt hbg, fun j u hj hu => ?_⟩
  rw [blk_cell b1, ← Array.getElem?_toList]
  have hzl : (List.zipWith zpv P gs).length = P.length := by rw [List.length_zipWith, h.gl, Nat.min_self]
  have hin : i < (List.zipWith zpv P gs).length := by omega
  have hgt := tcl_get (List.zipWith zpv P gs) i j hin hj
  have e2 : (List.zipWith zpv P gs)[i] = zpv p' g := by
    have := zip_get zpv P gs hp hg
    rw [List.getElem?_eq_getElem hin] at this
    simpa using this
  rw [e2, hu] at hgt
  have hlt := (List.getElem?_eq_some_iff.1 hgt).1
  have := congrArg (fun l => l[i * 5 + j]?) c3
  simp only [List.getElem?_take, if_pos hlt] at this
  rw [this]; exact hgt
end Go.Proofs.Ytkcmpipipelgoaa
/- HistoryPlays: the state while the histories are made. -/
namespace Go.Proofs.Ytkcmpipipelgoaa
open Go.RowKit Go

theorem PQ.sides {K : Nat → Prop} {w w' : World} {o o' : Nat → Nat} {b : Nat} {cur : Array Value} {C T : List Value} {cv tv : Value} {lo : Option Addr} {n lc : Nat} {L : List Fr} {TB p : Nat} (h : PQ w o b cur C T cv tv lo n lc L TB) (hp : p < 2) (e : Ev K w o w' o') (hk : ∀ j, 1 ≤ j → j ≤ 11 → K j → j = 1 + p ∨ j = 3 + p) {hv rv : Value} (s : Side w' o' (1 + p) (3 + p) TB hv rv) :
    PQ ((w'.setCell ⟨b, p, none⟩ hv).setCell ⟨b, 2 + p, none⟩ rv) o' b ((cur.setIfInBounds p hv).setIfInBounds (2 + p) rv) C T cv tv lo n lc L TB ∧ Ev (fun j => j = 5) w' o' ((w'.setCell ⟨b, p, none⟩ hv).setCell ⟨b, 2 + p, none⟩ rv) o' := by
  have hl := h.lw.ev e (fun j h1 h2 h3 => by have := hk j (by omega) (by omega) h3; omega)
  have e1 := Ev.setb (w := w') hl.own p hv
  have hl1 := hl.put p hv (by omega)
  have e2 := Ev.setb (w := w'.setCell ⟨b, p, none⟩ hv) hl.own (2 + p) rv
  have e12 := e1.trans e2
  have hsz := h.lw.sz
  refine ⟨⟨hl1.put (2 + p) rv (by omega), fun q hq => ?_, ?_⟩, e12⟩
  · by_cases hqp : q = p
    · subst hqp
      exact ⟨hv, rv, by rw [Array.getElem?_setIfInBounds_ne (by omega), Array.getElem?_setIfInBounds_self_of_lt (by omega)], by rw [Array.getElem?_setIfInBounds_self_of_lt (by rw [Array.size_setIfInBounds]; omega)], s.ev e12 (by omega) (by omega)⟩
    · obtain ⟨hv', rv', c1, c2, s'⟩ := h.sd q hq
      refine ⟨hv', rv', by rw [Array.getElem?_setIfInBounds_ne (by omega), Array.getElem?_setIfInBounds_ne (by omega)]; exact c1, by rw [Array.getElem?_setIfInBounds_ne (by omega), Array.getElem?_setIfInBounds_ne (by omega)]; exact c2, (s'.ev e ?_ ?_).ev e12 (by omega) (by omega)⟩
      · intro h3; have := hk _ (by omega) (by omega) h3; omega
      · intro h3; have := hk _ (by omega) (by omega) h3; omega
  · obtain ⟨mv, c1, m⟩ := h.me
    refine ⟨mv, by rw [Array.getElem?_setIfInBounds_ne (by omega), Array.getElem?_setIfInBounds_ne (by omega)]; exact c1, (m.ev e ?_).ev e12 (by omega)⟩
    intro h3; have := hk _ (by omega) (by omega) h3; omega
/-- A world without histories. -/
theorem PQ.zero {w : World} {o : Nat → Nat} {b TB : Nat} (hb : w.heap[b]? = some (.cells #[.pointer none, .pointer none, .pointer none, .pointer none, .slice none 0 0, .slice none 0 0, .slice none 0 0, .slice none 0 0] 59 (0, 0))) (ho : o b = 5) :
    PQ w o b #[.pointer none, .pointer none, .pointer none, .pointer none, .slice none 0 0, .slice none 0 0, .slice none 0 0, .slice none 0 0] [] [] (.slice none 0 0) (.slice none 0 0) none 0 0 [] TB := by
  have hz : ∀ {le : TypeId} {F : Nat → Prop} {mk : Nat → List Value}, LSb le w F b mk [] (.slice none 0 0) := ⟨World.ownsRow_nil _ _ _ _, (fun g e => by cases e), (fun j hj => by cases hj)⟩
  refine ⟨⟨hb, rfl, ho, rfl, rfl, rfl, hz, hz, rfl, rfl, World.ownsRow_nil _ _ _ _, (fun g e => by cases e), rfl, (fun f hf => by cases hf), List.Pairwise.nil⟩, fun p hp => ?_, ⟨_, rfl, .inl rfl⟩⟩
  rcases (by omega : p = 0 ∨ p = 1) with rfl | rfl
  · exact ⟨_, _, rfl, rfl, .inl ⟨rfl, rfl⟩⟩
  · exact ⟨_, _, rfl, rfl, .inl ⟨rfl, rfl⟩⟩
/-- While the histories are made. -/
structure P1 (W w : World) (o : Nat → Nat) (b n : Nat) (tv so : Option Addr) (P : List (Tbl × Value)) (ops : List Opd) (cur : Array Value) : Prop where
  pq : PQ w o b cur [] [] (.slice none 0 0) (.slice none 0 0) none 0 0 [] n
  sc : SC w o so ops
  tl : TL w (fun i => ¬ i < W.heap.size) tv P
  t : Tch (fun _ => False) W w
  own : ∀ i, i < W.heap.size → o i = 15
theorem P1.bW {W w : World} {o : Nat → Nat} {b n : Nat} {tv so : Option Addr} {P : List (Tbl × Value)} {ops : List Opd} {cur : Array Value} (h : P1 W w o b n tv so P ops cur) : W.heap.size ≤ b := by
  rcases Nat.lt_or_ge b W.heap.size with hb | hb
  · have := h.own b hb
    rw [h.pq.lw.own] at this
    omega
  · exact hb
theorem P1.done {W w : World} {o : Nat → Nat} {b n : Nat} {tv so : Option Addr} {P : List (Tbl × Value)} {ops : List Opd} {cur : Array Value} (h : P1 W w o b n tv so P ops cur) : PL W w o b n 0 so ops :=
  ⟨⟨_, _, _, _, _, _, _, _, _, h.pq, by simp, by simp⟩, h.sc, h.t, h.own⟩
theorem P1.round {W w1 wA wB wC wD wE : World} {o : Nat → Nat} {b n : Nat} {tv so : Option Addr} {P : List (Tbl × Value)} {ops : List Opd} {cur : Array Value} (h : P1 W w1 o b n tv so P ops cur) {p : Nat} (hp : p < 2) {gw q : Nat} {gs : List Nat} {lv : Value} (J : L2 w1 wA P gw P.length gs q lv) {hv rv : Value} (tB : Tch (fun _ => False) wA wB) (tC : Tch (fun _ => False) wB wC) (tD : Tch (fun g => g ∈ gs) wC wD) (tE : Tch (fun g => g = gw) wD wE)
    (hS : (hv = .pointer none ∧ rv = .pointer none) ∨ ∃ hb rb hh dd, hv = .pointer (some ⟨hb, 0, none⟩) ∧ rv = .pointer (some ⟨rb, 0, none⟩) ∧ HF wB (fun g => g < wA.heap.size) hb hh ∧ DF wC (fun g => g < wB.heap.size) rb dd ∧ Lk hh dd ∧ hh.T ≤ n) :
    wE.heap[b]? = w1.heap[b]? ∧ ∃ o', P1 W ((wE.setCell ⟨b, p, none⟩ hv).setCell ⟨b, 2 + p, none⟩ rv) o' b n tv so P ops ((cur.setIfInBounds p hv).setIfInBounds (2 + p) rv) := by
  have hgwA : gw < wA.heap.size := by obtain ⟨cu, h1, _⟩ := J.ow; exact blk_lt h1
  have tCE : Tch (fun g => g ∈ gs ∨ g = gw) wC wE := (tD.mono (fun i _ e => .inl e)).trans (tE.mono (fun i _ e => .inr e)) (fun i _ e => e)
  have hS1 : ∀ g, (g ∈ gs ∨ g = gw) → w1.heap.size ≤ g ∧ g < wA.heap.size := fun g e => by
    rcases e with e | e
    · exact ⟨(J.gs_lt e).1, (J.gs_lt e).2.1⟩
    · rw [e]; exact ⟨J.gw1, hgwA⟩
  have T1E : Tch (fun _ => False) w1 wE := ((J.t.trans' tB).trans' tC).trans tCE (fun i hi e => by have := hS1 i e; omega)
  have z1 := J.t.size
  have z2 := tB.size
  have z3 := tC.size
  have z4 := tCE.size
  obtain ⟨o', ho'⟩ : ∃ o' : Nat → Nat, o' = fun i => if i < w1.heap.size then o i else if i < wA.heap.size then 0 else if i < wB.heap.size then 1 + p else if i < wC.heap.size then 3 + p else 0 := ⟨_, rfl⟩
  have o1 : ∀ i, i < w1.heap.size → o' i = o i := fun i hi => by rw [ho']; exact if_pos hi
  have o2 : ∀ i, wA.heap.size ≤ i → i < wB.heap.size → o' i = 1 + p := fun i h1 h2 => by
    rw [ho']; show (if _ then _ else _) = _; rw [if_neg (by omega), if_neg (by omega), if_pos h2]
  have o3 : ∀ i, wB.heap.size ≤ i → i < wC.heap.size → o' i = 3 + p := fun i h1 h2 => by
    rw [ho']; show (if _ then _ else _) = _; rw [if_neg (by omega), if_neg (by omega), if_neg (by omega), if_pos h2]
  have o4 : ∀ i, w1.heap.size ≤ i → o' i = 0 ∨ o' i = 1 + p ∨ o' i = 3 + p := fun i h1 => by
    rw [ho']
    show (if _ then _ else _) = _ ∨ (if _ then _ else _) = _ ∨ (if _ then _ else _) = _
    rw [if_neg (by omega)]
    split
    · exact .inl rfl
    · split
      · exact .inr (.inl rfl)
      · split
        · exact .inr (.inr rfl)
        · exact .inl rfl
  have ev : Ev (fun j => j = 0 ∨ j = 1 + p ∨ j = 3 + p) w1 o wE o' := ⟨T1E.mono (fun _ _ e => e.elim), fun i hi _ => o1 i hi, fun i hi e => by rw [o1 i hi]; exact e, fun i hi _ => o4 i hi⟩
  have hSd : Side wE o' (1 + p) (3 + p) n hv rv := by
    rcases hS with hS | ⟨hb, rb, hh, dd, e1, e2, H, D, hL, hT⟩
    · exact .inl hS
    · have H1 : HF wB (fun g => g < wA.heap.size ∨ wB.heap.size ≤ g) hb hh := H.mono (fun g hg e => by omega)
      have H2 := (H1.no tC).tch tCE (fun g _ e => .inl (hS1 g e).2)
      have D1 : DF wC (fun g => g < wB.heap.size ∨ wC.heap.size ≤ g) rb dd := D.mono (fun g hg e => by omega)
      have D2 := D1.tch tCE (fun g _ e => .inl (by have := (hS1 g e).2; omega))
      refine .inr ⟨hb, rb, hh, dd, e1, e2, H2.mono (fun g _ e => ?_), D2.mono (fun g _ e => ?_), hL, hT⟩
      · rcases Nat.lt_or_ge g wA.heap.size with h1 | h1
        · exact .inl h1
        · rcases Nat.lt_or_ge g wB.heap.size with h2 | h2
          · exact absurd (o2 g h1 h2) e.2
          · exact .inr h2
      · rcases Nat.lt_or_ge g wB.heap.size with h1 | h1
        · exact .inl h1
        · rcases Nat.lt_or_ge g wC.heap.size with h2 | h2
          · exact absurd (o3 g h1 h2) e.2
          · exact .inr h2
  obtain ⟨hq, e5⟩ := h.pq.sides hp ev (fun j h1 h2 h3 => by omega) hSd
  have hbW := h.bW
  have tb : Tch (fun g => g = b) wE ((wE.setCell ⟨b, p, none⟩ hv).setCell ⟨b, 2 + p, none⟩ rv) := (Tch.setCell (fun g => g = b) wE ⟨b, p, none⟩ _ rfl).setCellR _ _ rfl
  refine ⟨T1E.block b (blk_lt h.pq.lw.blk) (fun e => e), o', hq, (h.sc.ev ev (by omega)).ev e5 (by omega), (h.tl.tch T1E (fun _ _ e => e.elim)).tch tb (fun i _ e => by have e' : i = b := e; omega), (h.t.trans' T1E).trans tb (fun i hi e => by have e' : i = b := e; omega), fun i hi => ?_⟩
  rw [o1 i (Nat.lt_of_lt_of_le hi h.t.size)]
  exact h.own i hi
/-- What both New tell. -/
theorem new_both {F : Nat → Prop} {T : List Tbl} {x : Int} {r : Ending} {w' : World} (h : NewOut F T x r w') : ∃ hv, r = .returned (.tuple #[hv, .int .i64 (newE T x)]) ∧ ((newE T x = 1 ∧ hv = .pointer none) ∨ (newE T x = 0 ∧ ∃ b l, hv = .pointer (some ⟨b, 0, none⟩) ∧ NotesOf x T l ∧ HF w' F b ((hs0 x).adds l))) := by
  rcases h with ⟨e, rfl⟩ | ⟨e, b, l, rfl, h1, h2⟩
  · exact ⟨_, by rw [e], .inl ⟨e, rfl⟩⟩
  · exact ⟨_, by rw [e], .inr ⟨e, b, l, rfl, h1, h2⟩⟩
theorem dnew_both {T : List Tbl} {x : Int} {N : Nat} {r : Ending} {w' : World} (h : DNewOut T x N r w') : ∃ hv, r = .returned (.tuple #[hv, .int .i64 (newE T x)]) ∧ ((newE T x = 1 ∧ hv = .pointer none) ∨ (newE T x = 0 ∧ ∃ b L, hv = .pointer (some ⟨b, 0, none⟩) ∧ DNotesOf x T L ∧ DF w' (fun g => g < N) b ⟨x, x, L⟩)) := by
  rcases h with ⟨e, rfl⟩ | ⟨e, b, L, rfl, h1, h2⟩
  · exact ⟨_, by rw [e], .inl ⟨e, rfl⟩⟩
  · exact ⟨_, by rw [e], .inr ⟨e, b, L, rfl, h1, h2⟩⟩
/-- What is to be done, as it came in. -/
structure OpA (W : World) (d : Opd) : Prop where
  on : inR d.on
  i : inR d.i
  sl : SL W d.ao (ccl d.t.cols)
  no : d.ao = none → d.t.cols = [] ∧ d.c = 0
  le : d.t.cols.length ≤ 100000000
theorem sl_lt {W : World} {ao : Option Addr} {cs : List Value} (h : SL W ao cs) (hc : cs ≠ []) {g q : Nat} (e : ao = some ⟨g, q, none⟩) : g < W.heap.size := by
  obtain ⟨g', q', e1, ha⟩ := h hc
  rw [e1] at e
  injection e with e
  injection e with e
  rw [← e]; exact ha.lt hc
theorem sc_of {W w : World} {o : Nat → Nat} {so : Option Addr} {ops : List Opd} (hs : SL W so (ocl ops)) (hop : ∀ d ∈ ops, OpA W d) (t : Tch (fun _ => False) W w) (own : ∀ i, i < W.heap.size → o i = 15) : SC w o so ops :=
  ⟨hs.no t, fun hne g _ e => own g (sl_lt hs (ocl_nil hne) e), fun d hd => ⟨(hop d hd).on, (hop d hd).i, (hop d hd).sl.no t, (hop d hd).no, fun hne g _ e => own g (sl_lt (hop d hd).sl (f3_nil _ _ _ hne) e), (hop d hd).le⟩⟩
end Go.Proofs.Ytkcmpipipelgoaa
