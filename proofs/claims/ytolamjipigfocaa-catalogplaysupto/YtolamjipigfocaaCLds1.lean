import Derived.Test.YtolamjipigfocaaCPuts
/- loads: what lies in the world on the way. -/
namespace Go.Proofs.Ytolamjipigfocaa
open Go.RowKit Go

theorem make_tblB (n : Nat) (w : World) (hn : n ≤ 2000000) :
    (Instr.makeSlice 37 (.int .i64 (n : Int)) (.int .i64 (n : Int))).run Try.prog w = .ok (.slice (some ⟨w.heap.size, 0, none⟩) n n) (w.alloc (.cells (madeCells #[.int .i64 0, .int .i64 0, .string ⟨#[]⟩, .slice none 0 0, .int .i64 0] (n * 5)) 36)) := by
  obtain ⟨i0, hi, hz0, hz1, hz2⟩ := info_parts info_tbl
  have h := run_make (P := Try.prog) w 37 36 i0 (.agg #[.int .i64 0, .int .i64 0, .string ⟨#[]⟩, .slice none 0 0, .int .i64 0]) Try.underlying37 hi hz0 .i64 .i64 n n (by omega) (Int.le_refl _) (by rw [hz2]; omega) (by omega)
  simpa [hz1, Value.cells] using h
theorem zw_snoc {α β γ : Type} (f : α → β → γ) : ∀ (l : List α) (G : List β) (g : β) (h : G.length < l.length), List.zipWith f l (G ++ [g]) = List.zipWith f l G ++ [f l[G.length] g]
  | [], _, _, h => by simp at h
  | a :: l, [], g, _ => by simp
  | a :: l, b :: G, g, h => by
    have h1 : G.length < l.length := by simpa using h
    simp only [List.cons_append, List.zipWith_cons_cons, zw_snoc f l G g h1, List.length_cons, List.getElem_cons_succ]
/-- The tables as they are lent: their columns lie in the blocks G. -/
def lqE (p : Tbl × Value) (g : Nat) : Tbl × Value := (p.1, .slice (some ⟨g, 0, none⟩) p.1.cols.length (p.1.cols.length + 2))
def lq (l : List (Tbl × Value)) (G : List Nat) : List (Tbl × Value) := List.zipWith lqE l G
def rcE (p : Tbl × Value) (g : Nat) : Value := .slice (some ⟨g, 0, none⟩) (p.1.cols.length + 2) (p.1.cols.length + 2)
def rcl (l : List (Tbl × Value)) (G : List Nat) : List Value := List.zipWith rcE l G
theorem lq_len {l : List (Tbl × Value)} {G : List Nat} (h : G.length ≤ l.length) : (lq l G).length = G.length := by simp [lq]; omega
theorem rcl_len {l : List (Tbl × Value)} {G : List Nat} (h : G.length ≤ l.length) : (rcl l G).length = G.length := by simp [rcl]; omega
theorem lq_fst {l : List (Tbl × Value)} {G : List Nat} (h : G.length = l.length) : (lq l G).map Prod.fst = l.map Prod.fst := by
  apply List.ext_getElem
  · simp [lq]; omega
  · intro i h1 h2
    simp [lq, lqE]
/-- Behind k rounds of the first loop. -/
structure LdS (w : World) (n k : Nat) (l : List (Tbl × Value)) (G : List Nat) (rv : Value) (W : World) : Prop where
  t : Tch (fun _ => False) w W
  bx : W.heap[w.heap.size]? = some (.cells #[.pointer none, .pointer none] 28 (0, 0))
  len : G.length = k
  own : ∃ cur : Array Value, W.heap[w.heap.size + 1]? = some (.cells cur 36 (0, 0)) ∧ cur.size = (n + 1) * 5 ∧ cur.toList.take (k * 5) = tcl (lq l G)
  lent : ∀ j (hj : j < G.length) (hl : j < l.length), W.heap[G[j]]? = some (.cells (ccl (lentC l[j].1.cols)).toArray 43 (0, 0)) ∧ w.heap.size + 1 < G[j]
  dis : ∀ i j (hi : i < G.length) (hj : j < G.length), i ≠ j → G[i] ≠ G[j]
  room : W.ownsRow 0 34 1 rv k (rcl l G)
  rag : ∀ g, rv.ownBlock = some g → w.heap.size + 1 < g ∧ ∀ j (hj : j < G.length), G[j] ≠ g
theorem set3_more (cur : Array Value) (L : List Value) (k : Nat) (a b c d e v : Value) (hL : L.length = k * 5) (h : cur.toList.take ((k + 1) * 5) = L ++ [a, b, c, d, e]) : (cur.setIfInBounds (k * 5 + 3) v).toList.take ((k + 1) * 5) = L ++ [a, b, c, v, e] := by
  rw [Array.toList_setIfInBounds, List.take_set, h, List.set_append_right _ _ (by omega)]
  congr 1
  rw [show k * 5 + 3 - L.length = 3 by omega]
  rfl
theorem LdS.step {w W Wa Wb Wc Wd We : World} {n k : Nat} {l : List (Tbl × Value)} {G : List Nat} {rv rv' v : Value} (h : LdS w n k l G rv W) (hk : k < l.length) (hn : l.length = n) {t0 : Tbl} (ht : t0 = l[k].1)
    (ha : Wa = ((((W.setCell ⟨w.heap.size + 1, k * 5, none⟩ (.int .i64 t0.id)).setCell ⟨w.heap.size + 1, k * 5 + 1, none⟩ (.int .i64 t0.ver)).setCell ⟨w.heap.size + 1, k * 5 + 2, none⟩ (.string t0.nm)).setCell ⟨w.heap.size + 1, k * 5 + 3, none⟩ v).setCell ⟨w.heap.size + 1, k * 5 + 4, none⟩ (.int .i64 t0.key))
    (tb : Tch (fun _ => False) Wa Wb) (hb : Wb.heap[Wa.heap.size]? = some (.cells (ccl (lentC t0.cols)).toArray 43 (0, 0)))
    (hc : Wc = Wb.setCell ⟨w.heap.size + 1, k * 5 + 3, none⟩ (.slice (some ⟨Wa.heap.size, 0, none⟩) t0.cols.length (t0.cols.length + 2))) (td : Tch (fun _ => False) Wc Wd) (hgr : Wd.grownBy We rv.ownBlock)
    (hown : We.ownsRow 0 34 1 rv' (k + 1) (rcl l G ++ [rcE l[k] Wa.heap.size])) (hat : rv'.ownBlock = rv.ownBlock ∨ rv'.ownBlock = some Wd.heap.size) : LdS w n (k + 1) l (G ++ [Wa.heap.size]) rv' We := by
  obtain ⟨A, hA⟩ : ∃ A, A = w.heap.size + 1 := ⟨_, rfl⟩
  rw [← hA] at ha hc
  obtain ⟨cur, b1, b2, b3⟩ := h.own
  rw [← hA] at b1
  have hlW : A < W.heap.size := blk_lt b1
  have ta : Tch (fun i => i = A) W Wa := by rw [ha]; exact ((((Tch.setCell (fun i => i = A) W ⟨A, k * 5, none⟩ _ rfl).setCellR ⟨A, k * 5 + 1, none⟩ _ rfl).setCellR ⟨A, k * 5 + 2, none⟩ _ rfl).setCellR ⟨A, k * 5 + 3, none⟩ _ rfl).setCellR ⟨A, k * 5 + 4, none⟩ _ rfl
  have tc : Tch (fun i => i = A) Wb Wc := by rw [hc]; exact Tch.setCell (fun i => i = A) Wb ⟨A, k * 5 + 3, none⟩ _ rfl
  have ba : Wa.heap[A]? = some (.cells (((((cur.setIfInBounds (k * 5) (.int .i64 t0.id)).setIfInBounds (k * 5 + 1) (.int .i64 t0.ver)).setIfInBounds (k * 5 + 2) (.string t0.nm)).setIfInBounds (k * 5 + 3) v).setIfInBounds (k * 5 + 4) (.int .i64 t0.key)) 36 (0, 0)) := by
    rw [ha]
    have a1 := blk_set (i := k * 5) b1 (.int .i64 t0.id)
    have a2 := blk_set (i := k * 5 + 1) a1 (.int .i64 t0.ver)
    have a3 := blk_set (i := k * 5 + 2) a2 (.string t0.nm)
    have a4 := blk_set (i := k * 5 + 3) a3 v
    exact blk_set (i := k * 5 + 4) a4 (.int .i64 t0.key)
  have hll := lq_len (l := l) (G := G) (by rw [h.len]; omega)
  have hLL : (tcl (lq l G)).length = k * 5 := by rw [tcl_len, hll, h.len]
  have h5 := set5_step cur k (n + 1) (tcl (lq l G)) (.int .i64 t0.id) (.int .i64 t0.ver) (.string t0.nm) v (.int .i64 t0.key) b2 (by omega) hLL b3
  obtain ⟨cua, hcua⟩ : ∃ cua, cua = (((((cur.setIfInBounds (k * 5) (.int .i64 t0.id)).setIfInBounds (k * 5 + 1) (.int .i64 t0.ver)).setIfInBounds (k * 5 + 2) (.string t0.nm)).setIfInBounds (k * 5 + 3) v).setIfInBounds (k * 5 + 4) (.int .i64 t0.key)) := ⟨_, rfl⟩
  have hsa : cua.size = (n + 1) * 5 := by rw [hcua]; simp [b2]
  rw [← hcua] at ba h5
  have h6 := set3_more cua _ k _ _ _ _ _ (.slice (some ⟨Wa.heap.size, 0, none⟩) t0.cols.length (t0.cols.length + 2)) hLL h5
  have sa := ta.size
  have sb := tb.size
  have sc := tc.size
  have sd := td.size
  have hlA : A < Wa.heap.size := blk_lt ba
  have bb : Wb.heap[A]? = some (.cells cua 36 (0, 0)) := by rw [tb.block A hlA (fun h => h)]; exact ba
  have bc := blk_set (i := k * 5 + 3) bb (.slice (some ⟨Wa.heap.size, 0, none⟩) t0.cols.length (t0.cols.length + 2))
  rw [← hc] at bc
  have Te := grown_at td hgr
  have hrv : ∀ g, rv.ownBlock = some g → A < g ∧ ∀ j (hj : j < G.length), G[j] ≠ g := fun g e => by rw [hA]; exact h.rag g e
  have hrl : ∀ g, rv.ownBlock = some g → g < W.heap.size := fun g e => (h.room.lt g e).2
  have be : We.heap[A]? = some (.cells (cua.setIfInBounds (k * 5 + 3) (.slice (some ⟨Wa.heap.size, 0, none⟩) t0.cols.length (t0.cols.length + 2))) 36 (0, 0)) := by
    rw [Te.block A (by omega) (fun e => by have := (hrv A e).1; omega)]; exact bc
  -- a block of W that is neither the tables' nor the rooms'
  have key : ∀ i, i < W.heap.size → i ≠ A → rv.ownBlock ≠ some i → We.heap[i]? = W.heap[i]? := fun i hi h1 h2 => by
    rw [Te.block i (by omega) h2, tc.block i (by omega) h1, tb.block i (by omega) (fun h => h), ta.block i hi h1]
  have hse := Te.size
  have hMW : W.heap.size ≤ Wa.heap.size := sa
  have hge : ∀ i (hi : i < (G ++ [Wa.heap.size]).length), (∃ hi' : i < G.length, (G ++ [Wa.heap.size])[i] = G[i]) ∨ (i = k ∧ (G ++ [Wa.heap.size])[i] = Wa.heap.size) := fun i hi => by
    rw [List.length_append, List.length_singleton] at hi
    rcases Nat.lt_or_ge i G.length with hl | hl
    · exact Or.inl ⟨hl, List.getElem_append_left hl⟩
    · obtain rfl : i = G.length := by omega
      exact Or.inr ⟨h.len, by simp⟩
  have hGl : ∀ i (hi : i < G.length), A < G[i] ∧ G[i] < W.heap.size := fun i hi => by
    have h1 := h.lent i hi (by have := h.len; omega)
    exact ⟨by rw [hA]; exact h1.2, blk_lt h1.1⟩
  have tA : Tch (fun _ => False) w We := by
    have t1 : Tch (fun _ => False) w Wa := h.t.trans ta (fun i hi e => by omega)
    have t2 : Tch (fun _ => False) w Wb := t1.trans' tb
    have t3 : Tch (fun _ => False) w Wc := t2.trans tc (fun i hi e => by omega)
    exact t3.trans Te (fun i hi e => by have := (hrv i e).1; omega)
  refine ⟨tA, ?_, by simp [h.len], ⟨_, by rw [← hA]; exact be, by simp [hsa], ?_⟩, fun j hj hl => ?_, fun i j hi hj hij => ?_, ?_, fun g e => ?_⟩
  · rw [key _ (blk_lt h.bx) (by omega) (fun e => by have := (hrv _ e).1; omega)]; exact h.bx
  · have hGk : lq l (G ++ [Wa.heap.size]) = lq l G ++ [(t0, .slice (some ⟨Wa.heap.size, 0, none⟩) t0.cols.length (t0.cols.length + 2))] := by
      have h7 := zw_snoc lqE l G Wa.heap.size (by rw [h.len]; exact hk)
      have h8 : l[G.length]'(by rw [h.len]; exact hk) = l[k] := by congr 1; exact h.len
      rw [h8] at h7
      rw [ht]; exact h7
    rw [h6, hGk, tcl_append]; rfl
  · rcases hge j hj with ⟨hj', e⟩ | ⟨hj', e⟩
    · obtain ⟨h1, h2⟩ := h.lent j hj' hl
      rw [e]
      refine ⟨?_, h2⟩
      rw [key _ (hGl j hj').2 (by have := (hGl j hj').1; omega) (fun e2 => (hrv _ e2).2 j hj' rfl)]
      exact h1
    · subst hj'
      rw [e]
      refine ⟨?_, by omega⟩
      have hlb := blk_lt hb
      rw [Te.block _ (by omega) (fun e2 => by have := hrl _ e2; omega), tc.block _ hlb (by omega), hb, ht]
  · rcases hge i hi with ⟨hi', e⟩ | ⟨hi', e⟩ <;> rcases hge j hj with ⟨hj', e2⟩ | ⟨hj', e2⟩
    · rw [e, e2]; exact h.dis i j hi' hj' hij
    · rw [e, e2]; have := (hGl i hi').2; omega
    · rw [e, e2]; have := (hGl j hj').2; omega
    · omega
  · have h7 := zw_snoc rcE l G Wa.heap.size (by rw [h.len]; exact hk)
    have h8 : l[G.length]'(by rw [h.len]; exact hk) = l[k] := by congr 1; exact h.len
    rw [h8] at h7
    show We.ownsRow 0 34 1 rv' (k + 1) (List.zipWith rcE l (G ++ [Wa.heap.size]))
    rw [h7]; exact hown
  · have hlb := blk_lt hb
    rw [← hA]
    rcases hat with e1 | e1
    · rw [e1] at e
      refine ⟨(hrv g e).1, fun j hj e2 => ?_⟩
      rcases hge j hj with ⟨hj', e3⟩ | ⟨hj', e3⟩
      · rw [e3] at e2; exact (hrv g e).2 j hj' e2
      · rw [e3] at e2; have := hrl g e; omega
    · rw [e1] at e; injection e with e
      refine ⟨by omega, fun j hj e2 => ?_⟩
      rcases hge j hj with ⟨hj', e3⟩ | ⟨hj', e3⟩
      · rw [e3] at e2; have := (hGl j hj').2; omega
      · rw [e3] at e2; omega
/-- The tables as they are lent, for reading. -/
theorem LdS.tl {w W : World} {n : Nat} {l : List (Tbl × Value)} {G : List Nat} {rv : Value} (h : LdS w n n l G rv W) (hn : l.length = n) {W' : World} (t : Tch (fun i => i = w.heap.size + 1) W W') {cur : Array Value} (hb : W'.heap[w.heap.size + 1]? = some (.cells cur 36 (0, 0))) (hc : cur.toList.take (n * 5) = tcl (lq l G)) : TL W' (fun _ => False) (some ⟨w.heap.size + 1, 0, none⟩) (lq l G) := by
  have hlen : G.length = l.length := by rw [h.len, hn]
  refine ⟨fun _ => ⟨_, _, rfl, fun j u hu => ?_⟩, fun _ _ _ _ h => h, fun i hi => ?_⟩
  · rw [Nat.zero_add, blk_cell hb, ← Array.getElem?_toList]
    rw [← hc, List.getElem?_take] at hu
    split at hu
    · exact hu
    · simp at hu
  · have hi' : i < G.length := by rw [lq_len (by omega)] at hi; exact hi
    obtain ⟨h1, h2⟩ := h.lent i hi' (by omega)
    have e : (lq l G)[i] = lqE (l[i]'(by omega)) G[i] := by simp [lq]
    rw [e]
    have h3 : W'.heap[G[i]]? = some (.cells (ccl (lentC (l[i]'(by omega)).1.cols)).toArray 43 (0, 0)) := by rw [t.block _ (blk_lt h1) (by omega)]; exact h1
    refine ⟨some ⟨G[i], 0, none⟩, (l[i]'(by omega)).1.cols.length + 2, rfl, lent_sl h3, (fun e => by cases e), Nat.le_add_right _ 2, fun _ g o e => ⟨fun h => h, ?_⟩⟩
    injection e with e; injection e with e _
    rw [← e]; exact blk_lt h3
end Go.Proofs.Ytolamjipigfocaa
/- loads: behind both Loads. -/
namespace Go.Proofs.Ytolamjipigfocaa
open Go.RowKit Go

theorem ldGo_gi (next : Int) : ∀ (r acc : List Tbl), LG0 acc next → ldGo next acc r = 0 → LG0 (acc ++ r) next
  | [], acc, h, _ => by simpa using h
  | t :: r, acc, h, e => by
    unfold ldGo at e
    split at e
    · rename_i h1; exact absurd e h1
    · rename_i h1
      have h2 := ldGo_gi next r (acc ++ [t]) (h.snoc (Classical.byContradiction h1)) e
      simpa using h2
theorem ldE_gi {L : List Tbl} {next : Int} (h : ldE L next = 0) : GI L (next - 1) := by
  unfold ldE at h
  split at h
  · simp at h
  rename_i h1
  split at h
  · simp at h
  rename_i h2
  have h3 := ldGo_gi next L [] (LG0.nil next) h
  exact LG0.gi (by simpa using h3) (by omega) (by omega) (by omega)
/-- Whose blocks loads may turn or make: its own and those of the two catalogs. -/
def K3 (k : Nat) : Nat → Prop := fun j => j = 4 ∨ j = k ∨ j = k + 1
/-- Behind q rounds of the second loop. -/
structure LdT (w : World) (o : Nat → Nat) (k n q : Nat) (l : List (Tbl × Value)) (G : List Nat) (rv : Value) (X : World → (Nat → Nat) → Prop) (W : World) (o' : Nat → Nat) : Prop where
  t : Tch (fun _ => False) w W
  bx : W.heap[w.heap.size]? = some (.cells #[.pointer none, .pointer none] 28 (0, 0))
  own : ∃ cur : Array Value, W.heap[w.heap.size + 1]? = some (.cells cur 36 (0, 0)) ∧ cur.size = (n + 1) * 5 ∧ ∀ j (hj : j < l.length), q ≤ j → cur[j * 5 + 2]? = some (.string l[j].1.nm)
  lent : ∀ j (hj : j < G.length) (hl : j < l.length), q ≤ j → W.heap[G[j]]? = some (.cells (ccl (lentC l[j].1.cols)).toArray 43 (0, 0))
  room : W.ownsRow 0 34 1 rv n (rcl l G)
  ev : Ev (K3 k) w o W o'
  l0 : o' w.heap.size = 4
  l1 : o' (w.heap.size + 1) = 4
  lg : ∀ j (hj : j < G.length), o' G[j] = 4
  x : X W o'
/-- What stays. -/
structure LdG (w : World) (n : Nat) (l : List (Tbl × Value)) (G : List Nat) (rv : Value) : Prop where
  len : G.length = n
  hi : ∀ j (hj : j < G.length), w.heap.size + 1 < G[j]
  dis : ∀ i j (hi : i < G.length) (hj : j < G.length), i ≠ j → G[i] ≠ G[j]
  rag : ∀ g, rv.ownBlock = some g → w.heap.size + 1 < g ∧ ∀ j (hj : j < G.length), G[j] ≠ g
theorem LdS.g {w W : World} {n : Nat} {l : List (Tbl × Value)} {G : List Nat} {rv : Value} (h : LdS w n n l G rv W) (hn : l.length = n) : LdG w n l G rv :=
  ⟨h.len, fun j hj => (h.lent j hj (by have := h.len; omega)).2, h.dis, h.rag⟩
theorem tcl_nm (l : List (Tbl × Value)) (G : List Nat) (h : G.length = l.length) (j : Nat) (hj : j < l.length) : (tcl (lq l G))[j * 5 + 2]? = some (.string l[j].1.nm) := by
  rw [tcl_get (lq l G) j 2 (by rw [lq_len (by omega)]; omega) (by omega)]
  simp [lq, lqE, tcs]
/-- Ahead of the second loop: W is the world of the first loop's end, with the name behind; what came then turned nothing. -/
theorem LdT.begin {w W Wb W' : World} {o o' : Nat → Nat} {k n : Nat} {l : List (Tbl × Value)} {G : List Nat} {rv v : Value} {X : World → (Nat → Nat) → Prop} (h : LdS w n n l G rv W) (hn : l.length = n) (hb : Wb = W.setCell ⟨w.heap.size + 1, n * 5 + 2, none⟩ v) (t : Tch (fun _ => False) Wb W')
    (ho : ∀ i, i < Wb.heap.size → o' i = ext w o 4 i) (hnew : ∀ i, Wb.heap.size ≤ i → i < W'.heap.size → K3 k (o' i)) (hx : X W' o') : LdT w o k n 0 l G rv X W' o' := by
  have tS : Tch (fun i => i = w.heap.size + 1) W Wb := by rw [hb]; exact Tch.setCell _ _ _ _ rfl
  obtain ⟨cur, b1, b2, b3⟩ := h.own
  have hlen : G.length = l.length := by rw [h.len, hn]
  have bb := blk_set (i := n * 5 + 2) b1 v
  rw [← hb] at bb
  have hs1 := tS.size
  have hlA := blk_lt b1
  have hlG : ∀ j (hj : j < G.length), G[j] < W.heap.size ∧ w.heap.size + 1 < G[j] := fun j hj => ⟨blk_lt (h.lent j hj (by omega)).1, (h.lent j hj (by omega)).2⟩
  have hT : Tch (fun i => i = w.heap.size + 1) W W' := tS.trans' (t.mono (fun _ _ h => h.elim))
  have tw : Tch (fun _ => False) w W' := h.t.trans hT (fun i hi e => by omega)
  have h4 : ∀ i, w.heap.size ≤ i → i < Wb.heap.size → o' i = 4 := fun i h1 h2 => by rw [ho i h2]; exact if_neg (by omega)
  have hrl : ∀ g, rv.ownBlock = some g → g < W.heap.size := fun g e => (h.room.lt g e).2
  refine ⟨tw, ?_, ⟨_, by rw [t.block _ (by omega) (fun h => h)]; exact bb, by simp [b2], fun j hj _ => ?_⟩, fun j hj hl _ => ?_, own_tch h.room hT (fun g e e2 => by have := (h.rag g e).1; omega), ⟨tw.mono (fun _ _ h => h.elim), fun i hi _ => ?_, fun i hi hk => ?_, fun i hi hl => ?_⟩, h4 _ (Nat.le_refl _) (by omega), h4 _ (by omega) (by omega), fun j hj => h4 _ (by have := (hlG j hj).2; omega) (by have := (hlG j hj).1; omega), hx⟩
  · rw [hT.block _ (blk_lt h.bx) (by omega)]; exact h.bx
  · rw [Array.getElem?_setIfInBounds_ne (by omega), ← Array.getElem?_toList]
    have h1 := tcl_nm l G hlen j hj
    rw [← b3, List.getElem?_take] at h1
    split at h1
    · exact h1
    · simp at h1
  · rw [hT.block _ (hlG j hj).1 (by have := (hlG j hj).2; omega)]; exact (h.lent j hj hl).1
  · have hsz := h.t.size
    rw [ho i (by omega)]; exact if_pos hi
  · have hsz := h.t.size
    rw [ho i (by omega), show ext w o 4 i = o i from if_pos hi]; exact hk
  · rcases Nat.lt_or_ge i Wb.heap.size with h1 | h1
    · exact Or.inl (h4 i hi h1)
    · exact hnew i h1 hl
/-- A round of the second loop. -/
theorem LdT.step {w W Wb Wc We : World} {o o' : Nat → Nat} {k n q : Nat} {l : List (Tbl × Value)} {G : List Nat} {rv : Value} {X : World → (Nat → Nat) → Prop} (h : LdT w o k n q l G rv X W o') (s : LdG w n l G rv) (hq : q < l.length) (hn : l.length = n) (hX : ∀ W W' o' o'', X W o' → Ev (fun j => j = 4) W o' W' o'' → X W' o'')
    (tb : Tch (fun i => i = G[q]'(by rw [s.len]; omega)) W Wb) (tc : Tch (fun _ => False) Wb Wc) {v0 v1 v2 v3 v4 : Value}
    (he : We = ((((Wc.setCell ⟨w.heap.size + 1, q * 5, none⟩ v0).setCell ⟨w.heap.size + 1, q * 5 + 1, none⟩ v1).setCell ⟨w.heap.size + 1, q * 5 + 2, none⟩ v2).setCell ⟨w.heap.size + 1, q * 5 + 3, none⟩ v3).setCell ⟨w.heap.size + 1, q * 5 + 4, none⟩ v4) : ∃ o'', LdT w o k n (q + 1) l G rv X We o'' := by
  obtain ⟨A, hA⟩ : ∃ A, A = w.heap.size + 1 := ⟨_, rfl⟩
  rw [← hA] at he
  have hql : q < G.length := by rw [s.len]; omega
  obtain ⟨cur, b1, b2, b3⟩ := h.own
  rw [← hA] at b1
  have hqA : G[q] ≠ A := by have := s.hi q hql; omega
  have te : Tch (fun i => i = A) Wc We := by rw [he]; exact ((((Tch.setCell (fun i => i = A) Wc ⟨A, q * 5, none⟩ _ rfl).setCellR ⟨A, q * 5 + 1, none⟩ _ rfl).setCellR ⟨A, q * 5 + 2, none⟩ _ rfl).setCellR ⟨A, q * 5 + 3, none⟩ _ rfl).setCellR ⟨A, q * 5 + 4, none⟩ _ rfl
  have T : Tch (fun i => i = G[q] ∨ i = A) W We := ((tb.mono (fun _ _ h => Or.inl h)).trans' (tc.mono (fun _ _ h => h.elim))).trans' (te.mono (fun _ _ h => Or.inr h))
  have hA4 : o' A = 4 := by rw [hA]; exact h.l1
  have e : Ev (fun j => j = 4) W o' We (ext W o' 4) := Ev.own1 T (fun i _ hi => by
    rcases hi with hi | hi
    · rw [hi]; exact h.lg q hql
    · rw [hi]; exact hA4)
  have bc : Wc.heap[A]? = some (.cells cur 36 (0, 0)) := by
    rw [tc.block A (Nat.lt_of_lt_of_le (blk_lt b1) tb.size) (fun h => h), tb.block A (blk_lt b1) (fun e => hqA e.symm)]; exact b1
  have be : We.heap[A]? = some (.cells (((((cur.setIfInBounds (q * 5) v0).setIfInBounds (q * 5 + 1) v1).setIfInBounds (q * 5 + 2) v2).setIfInBounds (q * 5 + 3) v3).setIfInBounds (q * 5 + 4) v4) 36 (0, 0)) := by
    rw [he]
    have a1 := blk_set (i := q * 5) bc v0
    have a2 := blk_set (i := q * 5 + 1) a1 v1
    have a3 := blk_set (i := q * 5 + 2) a2 v2
    have a4 := blk_set (i := q * 5 + 3) a3 v3
    exact blk_set (i := q * 5 + 4) a4 v4
  have hkeep : ∀ i, i < W.heap.size → ext W o' 4 i = o' i := fun i hi => if_pos hi
  have hlt : ∀ j (hj : j < G.length), ext W o' 4 G[j] = 4 := fun j hj => by
    unfold ext
    split
    · exact h.lg j hj
    · rfl
  refine ⟨_, h.t.trans T (fun i hi h1 => ?_), ?_, ⟨_, by rw [← hA]; exact be, by simp [b2], fun j hj hqj => ?_⟩, fun j hj hl hqj => ?_, own_tch h.room T (fun g e2 h1 => ?_), h.ev.trans (e.mono (fun j hj => Or.inl hj)), ?_, ?_, hlt, hX _ _ _ _ h.x e⟩
  · rcases h1 with h1 | h1
    · have := s.hi q hql; omega
    · omega
  · rw [T.block _ (blk_lt h.bx) (fun h1 => by
      rcases h1 with h1 | h1
      · have := s.hi q hql; omega
      · omega)]; exact h.bx
  · rw [Array.getElem?_setIfInBounds_ne (by omega), Array.getElem?_setIfInBounds_ne (by omega), Array.getElem?_setIfInBounds_ne (by omega), Array.getElem?_setIfInBounds_ne (by omega), Array.getElem?_setIfInBounds_ne (by omega)]
    exact b3 j hj (by omega)
  · have h1 := h.lent j hj hl (by omega)
    rw [T.block _ (blk_lt h1) (fun h2 => by
      rcases h2 with h2 | h2
      · exact s.dis j q hj hql (by omega) h2
      · have := s.hi j hj; omega)]
    exact h1
  · rcases h1 with h1 | h1
    · exact (s.rag g e2).2 q hql h1.symm
    · have := (s.rag g e2).1; omega
  · rw [hkeep _ (blk_lt h.bx)]; exact h.l0
  · rw [hkeep _ (by rw [← hA]; exact blk_lt b1)]; exact h.l1
/-- What loads leaves. -/
def LdX (k : Nat) (L : List Tbl) (next : Int) (pc pr : Option Addr) (W : World) (o' : Nat → Nat) : Prop := ldE L next = 0 → ∃ d e, pc = some ⟨d, 0, none⟩ ∧ pr = some ⟨e, 0, none⟩ ∧ CF W o' k d L (next - 1) ∧ RF W o' (k + 1) e L (next - 1)
theorem LdX.ev {k : Nat} {L : List Tbl} {next : Int} {pc pr : Option Addr} {W W' : World} {o' o'' : Nat → Nat} (h : LdX k L next pc pr W o') (hk : 20 ≤ k) (e : Ev (fun j => j = 4) W o' W' o'') : LdX k L next pc pr W' o'' := fun hE => by
  obtain ⟨d, e2, h1, h2, h3, h4⟩ := h hE
  exact ⟨d, e2, h1, h2, h3.ev e (by omega), h4.ev e (by omega)⟩
def LdOut (w : World) (o : Nat → Nat) (k : Nat) (L : List Tbl) (next : Int) (x : Ending) (w' : World) : Prop := ∃ pc pr o', x = .returned (.tuple #[.agg #[.pointer pc, .pointer pr], .bool true]) ∧ Tch (fun _ => False) w w' ∧ Ev (K3 k) w o w' o' ∧ LdX k L next pc pr w' o' ∧ (ldE L next ≠ 0 → pc = none ∧ pr = none)
theorem res_pairB {fn : Func} {tmps : Array Value} {W : World} {B k j : Nat} {E : Bool} {a b : Value} (hrs : fn.results = #[.cell k 28, .tmp j]) (hk : tmps[k]?.getD undef = .pointer (some ⟨B, 0, none⟩)) (hj : tmps[j]?.getD undef = .bool E)
    (c0 : W.cell? ⟨B, 0, none⟩ = some a) (c1 : W.cell? ⟨B, 1, none⟩ = some b) :
    (results fn tmps).run Try.prog W = .ok (.tuple #[.agg #[a, b], .bool E]) W := by
  simp only [results, hrs]
  go_simp
end Go.Proofs.Ytolamjipigfocaa
