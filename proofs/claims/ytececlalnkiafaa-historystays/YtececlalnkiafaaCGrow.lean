import Derived.Test.YtececlalnkiafaaKeeps
/- Lists that are grown by their owner, all that they were on the way being kept. -/
namespace Go.Proofs.Ytececlalnkiafaa
open Go.RowKit

theorem blk_lt {w : World} {b : Nat} {o : Obj} (h : w.heap[b]? = some o) : b < w.heap.size := (Array.getElem?_eq_some_iff.1 h).1
theorem blk_cell {w : World} {b : Nat} {cs : Array Value} {t : TypeId} {fr : Nat × Nat} (h : w.heap[b]? = some (.cells cs t fr)) (i : Nat) : w.cell? ⟨b, i, none⟩ = cs[i]? := by
  simp [World.cell?, h]
theorem blk_frozen {w : World} {b : Nat} {cs : Array Value} {t : TypeId} (h : w.heap[b]? = some (.cells cs t (0, 0))) (i : Nat) : w.frozen? ⟨b, i, none⟩ = false := by
  simp [World.frozen?, h]
theorem blk_set {w : World} {b i : Nat} {cs : Array Value} {t : TypeId} {fr : Nat × Nat} (h : w.heap[b]? = some (.cells cs t fr)) (v : Value) : (w.setCell ⟨b, i, none⟩ v).heap[b]? = some (.cells (cs.setIfInBounds i v) t fr) := by
  have hl := blk_lt h
  simp only [World.setCell]
  rw [Array.getElem?_modify]
  simp [h]
theorem alloc_new (w : World) (o : Obj) : (w.alloc o).heap[w.heap.size]? = some o := by show (w.heap.push o)[w.heap.size]? = _; simp
theorem row_slice {w : World} {base : Nat} {t : TypeId} {sz n : Nat} {v : Value} {xs : List Value} (h : w.ownsRow base t sz v n xs) : ∃ ao c, v = .slice ao n c := by
  rcases h.2 with ⟨h1, h2⟩ | ⟨g, c, cur, h1, _⟩
  · exact ⟨none, 0, by rw [h1, h2]⟩
  · exact ⟨_, c, h1⟩
theorem own_tch {S : Nat → Prop} {W W' : World} {base sz n : Nat} {t : TypeId} {v : Value} {xs : List Value} (h : W.ownsRow base t sz v n xs) (tc : Tch S W W') (hS : ∀ g, v.ownBlock = some g → ¬ S g) : W'.ownsRow base t sz v n xs := by
  obtain ⟨h1, h2⟩ := h
  refine ⟨h1, ?_⟩
  rcases h2 with h2 | ⟨g, c, cur, hv, hb, hh, hr⟩
  · exact Or.inl h2
  · exact Or.inr ⟨g, c, cur, hv, hb, by rw [tc.block g (blk_lt hh) (hS g (by rw [hv]; rfl))]; exact hh, hr⟩
theorem grown_at {W W1 w1 : World} {row : Option Nat} (t : Tch (fun _ => False) W W1) (h : W1.grownBy w1 row) : Tch (fun i => row = some i) W w1 :=
  (t.mono (fun _ _ h => h.elim)).trans' ⟨h.os, h.tape, h.output, h.size, fun k hk hn => h.block k hk (fun e => hn e.symm)⟩
theorem own_at {W : World} {base sz n : Nat} {t : TypeId} {ao : Option Addr} {c : Nat} {xs : List Value} (h : W.ownsRow base t sz (.slice ao n c) n xs) (hn : 0 < n) : ∃ g, ao = some ⟨g, 0, none⟩ ∧ g < W.heap.size ∧ At W g 0 xs := by
  rcases h.2 with ⟨_, h2⟩ | ⟨g, c', cur, hv, hb, hh, hc, hm, hs, ht⟩
  · omega
  · injection hv with h1
    subst h1
    refine ⟨g, rfl, blk_lt hh, fun j u hu => ?_⟩
    rw [Nat.zero_add, blk_cell hh, ← Array.getElem?_toList]
    rw [← ht, List.getElem?_take] at hu
    split at hu
    · exact hu
    · simp at hu

/-- So many times these cells. -/
def rep (n : Nat) (cs : List Value) : List Value := (List.replicate n cs).flatten
theorem rep_len (n : Nat) (cs : List Value) : (rep n cs).length = n * cs.length := by simp [rep]
theorem rep_succ (n : Nat) (cs : List Value) : rep (n + 1) cs = rep n cs ++ cs := by
  unfold rep
  rw [List.replicate_succ', List.flatten_append]; simp
theorem rep_get (cs : List Value) : ∀ (n q j : Nat), q < n → j < cs.length → (rep n cs)[q * cs.length + j]? = cs[j]?
  | 0, q, j, h, _ => by omega
  | n + 1, q, j, h, hj => by
    rw [rep_succ]
    rcases Nat.lt_or_ge q n with hq | hq
    · have h1 : q * cs.length + j < (rep n cs).length := by
        rw [rep_len]
        have : (q + 1) * cs.length ≤ n * cs.length := Nat.mul_le_mul_right _ hq
        rw [Nat.add_mul] at this
        omega
      rw [List.getElem?_append_left h1]
      exact rep_get cs n q j hq hj
    · obtain rfl : q = n := by omega
      rw [List.getElem?_append_right (by rw [rep_len]; omega), rep_len]
      congr 1
      omega
theorem rep_one {cs : List Value} (h : ∀ u ∈ cs, u.oneCell' = true) (n : Nat) : ∀ u ∈ rep n cs, u.oneCell' = true := fun u hu => by
  unfold rep at hu
  rw [List.mem_flatten] at hu
  obtain ⟨l, hl, hu⟩ := hu
  rw [List.mem_replicate] at hl
  exact h u (hl.2 ▸ hu)

/-- A slice that is kept: all its elements are a mark. -/
def MV (W : World) (v : Value) (cs : List Value) (P : Nat → Nat → Prop) : Prop := ∃ ao m c, v = .slice ao m c ∧ m ≤ 100 ∧ (0 < m → ∃ g, ao = some ⟨g, 0, none⟩ ∧ g < W.heap.size ∧ P g m ∧ At W g 0 (rep m cs))
theorem MV.up {W W' : World} {v : Value} {cs : List Value} {P P' : Nat → Nat → Prop} (h : MV W v cs P) (hsz : W.heap.size ≤ W'.heap.size) (hP : ∀ g m, g < W.heap.size → P g m → P' g m ∧ ∀ j, j < m * cs.length → W'.cell? ⟨g, j, none⟩ = W.cell? ⟨g, j, none⟩) : MV W' v cs P' := by
  obtain ⟨ao, m, c, hv, hm, h⟩ := h
  refine ⟨ao, m, c, hv, hm, fun h0 => ?_⟩
  obtain ⟨g, ha, hg, hp, hc⟩ := h h0
  obtain ⟨h1, h2⟩ := hP g m hg hp
  refine ⟨g, ha, by omega, h1, fun j u hu => ?_⟩
  have hj : j < m * cs.length := by rw [← rep_len]; exact (List.getElem?_eq_some_iff.1 hu).1
  rw [Nat.zero_add, h2 j hj]
  simpa using hc j u hu
theorem MV.of {W : World} {base n : Nat} {e : TypeId} {v : Value} {cs : List Value} {P : Nat → Nat → Prop} (h : W.ownsRow base e cs.length v n (rep n cs)) (hn : n ≤ 100) (hP : ∀ g, v.ownBlock = some g → P g n) : MV W v cs P := by
  obtain ⟨ao, c, rfl⟩ := row_slice h
  refine ⟨ao, n, c, rfl, hn, fun h0 => ?_⟩
  obtain ⟨g, rfl, hg, ha⟩ := own_at h h0
  exact ⟨g, rfl, hg, hP g rfl, ha⟩
/-- A list of such slices, in a book at block b; none of the blocks F is theirs. -/
structure LS (le : TypeId) (W : World) (F : Nat → Prop) (b : Nat) (mk : Nat → List Value) (A : List Value) (rv : Value) : Prop where
  all : W.ownsRow 0 le 1 rv A.length A
  ag : ∀ g, rv.ownBlock = some g → g ≠ b ∧ ¬ F g
  mv : ∀ j (hj : j < A.length), MV W A[j] (mk j) (fun g _ => g ≠ b ∧ ¬ F g ∧ rv.ownBlock ≠ some g)
/-- While one is grown. -/
structure LG (le e : TypeId) (W : World) (F : Nat → Prop) (b : Nat) (mk : Nat → List Value) (A : List Value) (rv x : Value) (cs : List Value) (nx : Nat) : Prop where
  all : W.ownsRow 0 le 1 rv A.length A
  xr : W.ownsRow 0 e cs.length x nx (rep nx cs)
  ag : ∀ g, rv.ownBlock = some g → g ≠ b ∧ ¬ F g
  xg : ∀ g, x.ownBlock = some g → rv.ownBlock ≠ some g ∧ g ≠ b ∧ ¬ F g
  mv : ∀ j (hj : j < A.length), MV W A[j] (mk j) (fun g m => g ≠ b ∧ ¬ F g ∧ rv.ownBlock ≠ some g ∧ (x.ownBlock = some g → m ≤ nx))
theorem LS.tch {S : Nat → Prop} {le : TypeId} {W W' : World} {F : Nat → Prop} {b : Nat} {mk : Nat → List Value} {A : List Value} {rv : Value} (h : LS le W F b mk A rv) (t : Tch S W W') (hS : ∀ i, S i → i = b ∨ F i) : LS le W' F b mk A rv := by
  refine ⟨own_tch h.all t (fun g e hs => ?_), h.ag, fun j hj => (h.mv j hj).up t.size (fun g m hg hP => ⟨hP, fun k _ => t.cell (p := ⟨g, k, none⟩) hg (fun hs => (hS g hs).elim hP.1 hP.2.1)⟩)⟩
  exact (hS g hs).elim (h.ag g e).1 (h.ag g e).2
theorem LS.fresh {le : TypeId} {W : World} {F F' : Nat → Prop} {b : Nat} {mk : Nat → List Value} {A : List Value} {rv : Value} (h : LS le W F b mk A rv) (hF : ∀ i, i < W.heap.size → F' i → F i) : LS le W F' b mk A rv := by
  refine ⟨h.all, fun g e => ⟨(h.ag g e).1, fun hf => (h.ag g e).2 (hF g (h.all.lt g e).2 hf)⟩, fun j hj => (h.mv j hj).up (Nat.le_refl _) (fun g m hg hP => ⟨⟨hP.1, fun hf => hP.2.1 (hF g hg hf), hP.2.2⟩, fun _ _ => rfl⟩)⟩
theorem LS.enter {le e : TypeId} {W : World} {F : Nat → Prop} {b n : Nat} {mk : Nat → List Value} {A : List Value} {rv x : Value} {cs : List Value} (h : LS le W (fun i => F i ∨ x.ownBlock = some i) b mk A rv) (hx : W.ownsRow 0 e cs.length x n (rep n cs)) (hg : ∀ g, x.ownBlock = some g → g ≠ b ∧ ¬ F g) : LG le e W F b mk A rv x cs n :=
  ⟨h.all, hx, fun g e => ⟨(h.ag g e).1, fun hf => (h.ag g e).2 (Or.inl hf)⟩, fun g e => ⟨fun e2 => (h.ag g e2).2 (Or.inr e), hg g e⟩, fun j hj => (h.mv j hj).up (Nat.le_refl _) (fun _ _ _ hP => ⟨⟨hP.1, fun hf => hP.2.1 (Or.inl hf), hP.2.2, fun e => absurd (Or.inr e) hP.2.1⟩, fun _ _ => rfl⟩)⟩
theorem LG.leave {le e : TypeId} {W : World} {F : Nat → Prop} {b n : Nat} {mk : Nat → List Value} {A : List Value} {rv x : Value} {cs : List Value} (h : LG le e W F b mk A rv x cs n) : LS le W F b mk A rv :=
  ⟨h.all, h.ag, fun j hj => (h.mv j hj).up (Nat.le_refl _) (fun _ _ _ hP => ⟨⟨hP.1, hP.2.1, hP.2.2.1⟩, fun _ _ => rfl⟩)⟩
theorem LG.tch {S : Nat → Prop} {le e : TypeId} {W W' : World} {F : Nat → Prop} {b n : Nat} {mk : Nat → List Value} {A : List Value} {rv x : Value} {cs : List Value} (h : LG le e W F b mk A rv x cs n) (t : Tch S W W') (hS : ∀ i, S i → i = b ∨ F i) : LG le e W' F b mk A rv x cs n := by
  refine ⟨own_tch h.all t (fun g e hs => (hS g hs).elim (h.ag g e).1 (h.ag g e).2), own_tch h.xr t (fun g e hs => (hS g hs).elim (h.xg g e).2.1 (h.xg g e).2.2), h.ag, h.xg, fun j hj => (h.mv j hj).up t.size (fun g m hg hP => ⟨hP, fun k _ => t.cell (p := ⟨g, k, none⟩) hg (fun hs => (hS g hs).elim hP.1 hP.2.1)⟩)⟩
theorem LG.one {le e : TypeId} {W W1 w1 : World} {F : Nat → Prop} {b nx : Nat} {mk : Nat → List Value} {A : List Value} {rv x rv' : Value} {cs : List Value} (h : LG le e W F b mk A rv x cs nx) (t : Tch (fun _ => False) W W1) (hgr : W1.grownBy w1 rv.ownBlock) (hown : w1.ownsRow 0 le 1 rv' (A.length + 1) (A ++ [x])) (hat : rv'.ownBlock = rv.ownBlock ∨ rv'.ownBlock = some W1.heap.size) (hmk : mk A.length = cs) (hnx : nx ≤ 100) (hb : b < W.heap.size) (hF : ∀ i, F i → i < W.heap.size) :
    LG le e w1 F b mk (A ++ [x]) rv' x cs nx := by
  have T := grown_at t hgr
  have hne : ∀ g, g < W.heap.size → rv.ownBlock ≠ some g → rv'.ownBlock ≠ some g := fun g hg h1 h2 => by
    rcases hat with e | e
    · exact h1 (e ▸ h2)
    · rw [e] at h2; injection h2 with h2; have := t.size; omega
  have hxlt : ∀ g, x.ownBlock = some g → g < W.heap.size := fun g e => (h.xr.lt g e).2
  have xr' := own_tch h.xr T (fun g e e2 => (h.xg g e).1 e2)
  refine ⟨by rw [List.length_append]; exact hown, xr', fun g e => ?_, fun g e => ⟨hne g (hxlt g e) (h.xg g e).1, (h.xg g e).2⟩, fun j hj => ?_⟩
  · rcases hat with e1 | e1
    · rw [e1] at e; exact h.ag g e
    · rw [e1] at e; injection e with e
      have := t.size
      exact ⟨by omega, fun hf => by have := hF g hf; omega⟩
  · rw [List.length_append, List.length_singleton] at hj
    rcases Nat.lt_or_ge j A.length with hjl | hjl
    · rw [List.getElem_append_left hjl]
      exact (h.mv j hjl).up T.size (fun g m hg hP => ⟨⟨hP.1, hP.2.1, hne g hg hP.2.2.1, hP.2.2.2⟩, fun k _ => T.cell (p := ⟨g, k, none⟩) hg hP.2.2.1⟩)
    · obtain rfl : j = A.length := by omega
      rw [List.getElem_append_right (Nat.le_refl _)]
      simp only [Nat.sub_self, List.getElem_cons_zero]
      rw [hmk]
      exact MV.of xr' hnx (fun g e => ⟨(h.xg g e).2.1, (h.xg g e).2.2, hne g (hxlt g e) (h.xg g e).1, fun _ => Nat.le_refl _⟩)
theorem LG.two {le e : TypeId} {W W1 w1 : World} {F : Nat → Prop} {b nx : Nat} {mk : Nat → List Value} {A : List Value} {rv x x' : Value} {cs : List Value} (h : LG le e W F b mk A rv x cs nx) (t : Tch (fun _ => False) W W1) (hgr : W1.grownBy w1 x.ownBlock) (hown : w1.ownsRow 0 e cs.length x' (nx + 1) (rep (nx + 1) cs)) (hat : x'.ownBlock = x.ownBlock ∨ x'.ownBlock = some W1.heap.size)
    (hk : ∀ b j, b < W1.heap.size → (x.ownBlock = some b → j < nx * cs.length) → w1.cell? ⟨b, j, none⟩ = W1.cell? ⟨b, j, none⟩) (hb : b < W.heap.size) (hF : ∀ i, F i → i < W.heap.size) (hmk : ∀ j, (mk j).length = cs.length) : LG le e w1 F b mk A rv x' cs (nx + 1) := by
  have T := grown_at t hgr
  have hne : ∀ g, g < W.heap.size → x.ownBlock ≠ some g → x'.ownBlock ≠ some g := fun g hg h1 h2 => by
    rcases hat with e | e
    · exact h1 (e ▸ h2)
    · rw [e] at h2; injection h2 with h2; have := t.size; omega
  refine ⟨own_tch h.all T (fun g e e2 => (h.xg g e2).1 e), hown, h.ag, fun g e => ?_, fun j hj => ?_⟩
  · rcases hat with e1 | e1
    · rw [e1] at e; exact h.xg g e
    · rw [e1] at e
      injection e with e
      have := t.size
      exact ⟨fun e2 => by have := (h.all.lt _ e2).2; omega, by omega, fun hf => by have := hF g hf; omega⟩
  · refine (h.mv j hj).up T.size (fun g m hg hP => ⟨⟨hP.1, hP.2.1, hP.2.2.1, fun e => ?_⟩, fun k hkm => ?_⟩)
    · by_cases hx : x.ownBlock = some g
      · have := hP.2.2.2 hx; omega
      · exact absurd e (hne g hg hx)
    · rw [hk g k (Nat.lt_of_lt_of_le hg t.size) (fun e => by
        have h1 := hP.2.2.2 e
        rw [hmk] at hkm
        exact Nat.lt_of_lt_of_le hkm (Nat.mul_le_mul_right _ h1))]
      exact t.cell (p := ⟨g, k, none⟩) hg (fun h => h)
end Go.Proofs.Ytececlalnkiafaa
