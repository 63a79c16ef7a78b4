import Derived.Test.YtkcmpipipelgoaaCTO
/- Lists that are grown by their owner, of any length; owners of blocks. -/
namespace Go.Proofs.Ytkcmpipipelgoaa
open Go.RowKit Go

theorem wrap_of {n : Int} (h1 : -9223372036854775808 ≤ n) (h2 : n ≤ 9223372036854775807) : IntKind.i64.wrap n = n := by
  simp [IntKind.wrap, IntKind.signed, IntKind.bits]; omega
/-- A slice that is kept: all its elements are a mark. -/
def MVb (W : World) (v : Value) (cs : List Value) (P : Nat → Nat → Prop) : Prop := ∃ ao m c, v = .slice ao m c ∧ m ≤ 1099511627776 ∧ (0 < m → ∃ g, ao = some ⟨g, 0, none⟩ ∧ g < W.heap.size ∧ P g m ∧ At W g 0 (rep m cs))
theorem MVb.up {W W' : World} {v : Value} {cs : List Value} {P P' : Nat → Nat → Prop} (h : MVb W v cs P) (hsz : W.heap.size ≤ W'.heap.size) (hP : ∀ g m, g < W.heap.size → P g m → P' g m ∧ ∀ j, j < m * cs.length → W'.cell? ⟨g, j, none⟩ = W.cell? ⟨g, j, none⟩) : MVb W' v cs P' := by
  obtain ⟨ao, m, c, hv, hm, h⟩ := h
  refine ⟨ao, m, c, hv, hm, fun h0 => ?_⟩
  obtain ⟨g, ha, hg, hp, hc⟩ := h h0
  obtain ⟨h1, h2⟩ := hP g m hg hp
  refine ⟨g, ha, by omega, h1, fun j u hu => ?_⟩
  have hj : j < m * cs.length := by rw [← rep_len]; exact (List.getElem?_eq_some_iff.1 hu).1
  rw [Nat.zero_add, h2 j hj]
  simpa using hc j u hu
theorem MVb.of {W : World} {base n : Nat} {e : TypeId} {v : Value} {cs : List Value} {P : Nat → Nat → Prop} (h : W.ownsRow base e cs.length v n (rep n cs)) (hn : n ≤ 1099511627776) (hP : ∀ g, v.ownBlock = some g → P g n) : MVb W v cs P := by
  obtain ⟨ao, c, rfl⟩ := row_slice h
  refine ⟨ao, n, c, rfl, hn, fun h0 => ?_⟩
  obtain ⟨g, rfl, hg, ha⟩ := own_at h h0
  exact ⟨g, rfl, hg, hP g rfl, ha⟩
/-- A list of such slices, in a book at block b; none of the blocks F is theirs. -/
structure LSb (le : TypeId) (W : World) (F : Nat → Prop) (b : Nat) (mk : Nat → List Value) (A : List Value) (rv : Value) : Prop where
  all : W.ownsRow 0 le 1 rv A.length A
  ag : ∀ g, rv.ownBlock = some g → g ≠ b ∧ ¬ F g
  mv : ∀ j (hj : j < A.length), MVb W A[j] (mk j) (fun g _ => g ≠ b ∧ ¬ F g ∧ rv.ownBlock ≠ some g)
/-- While one is grown. -/
structure LGb (le e : TypeId) (W : World) (F : Nat → Prop) (b : Nat) (mk : Nat → List Value) (A : List Value) (rv x : Value) (cs : List Value) (nx : Nat) : Prop where
  all : W.ownsRow 0 le 1 rv A.length A
  xr : W.ownsRow 0 e cs.length x nx (rep nx cs)
  ag : ∀ g, rv.ownBlock = some g → g ≠ b ∧ ¬ F g
  xg : ∀ g, x.ownBlock = some g → rv.ownBlock ≠ some g ∧ g ≠ b ∧ ¬ F g
  mv : ∀ j (hj : j < A.length), MVb W A[j] (mk j) (fun g m => g ≠ b ∧ ¬ F g ∧ rv.ownBlock ≠ some g ∧ (x.ownBlock = some g → m ≤ nx))
theorem LSb.tch {S : Nat → Prop} {le : TypeId} {W W' : World} {F : Nat → Prop} {b : Nat} {mk : Nat → List Value} {A : List Value} {rv : Value} (h : LSb le W F b mk A rv) (t : Tch S W W') (hS : ∀ i, S i → i = b ∨ F i) : LSb le W' F b mk A rv := by
  refine ⟨own_tch h.all t (fun g e hs => ?_), h.ag, fun j hj => (h.mv j hj).up t.size (fun g m hg hP => ⟨hP, fun k _ => t.cell (p := ⟨g, k, none⟩) hg (fun hs => (hS g hs).elim hP.1 hP.2.1)⟩)⟩
  exact (hS g hs).elim (h.ag g e).1 (h.ag g e).2
theorem LSb.fresh {le : TypeId} {W : World} {F F' : Nat → Prop} {b : Nat} {mk : Nat → List Value} {A : List Value} {rv : Value} (h : LSb le W F b mk A rv) (hF : ∀ i, i < W.heap.size → F' i → F i) : LSb le W F' b mk A rv := by
  refine ⟨h.all, fun g e => ⟨(h.ag g e).1, fun hf => (h.ag g e).2 (hF g (h.all.lt g e).2 hf)⟩, fun j hj => (h.mv j hj).up (Nat.le_refl _) (fun g m hg hP => ⟨⟨hP.1, fun hf => hP.2.1 (hF g hg hf), hP.2.2⟩, fun _ _ => rfl⟩)⟩
theorem LSb.enter {le e : TypeId} {W : World} {F : Nat → Prop} {b n : Nat} {mk : Nat → List Value} {A : List Value} {rv x : Value} {cs : List Value} (h : LSb le W (fun i => F i ∨ x.ownBlock = some i) b mk A rv) (hx : W.ownsRow 0 e cs.length x n (rep n cs)) (hg : ∀ g, x.ownBlock = some g → g ≠ b ∧ ¬ F g) : LGb le e W F b mk A rv x cs n :=
  ⟨h.all, hx, fun g e => ⟨(h.ag g e).1, fun hf => (h.ag g e).2 (Or.inl hf)⟩, fun g e => ⟨fun e2 => (h.ag g e2).2 (Or.inr e), hg g e⟩, fun j hj => (h.mv j hj).up (Nat.le_refl _) (fun _ _ _ hP => ⟨⟨hP.1, fun hf => hP.2.1 (Or.inl hf), hP.2.2, fun e => absurd (Or.inr e) hP.2.1⟩, fun _ _ => rfl⟩)⟩
theorem LGb.leave {le e : TypeId} {W : World} {F : Nat → Prop} {b n : Nat} {mk : Nat → List Value} {A : List Value} {rv x : Value} {cs : List Value} (h : LGb le e W F b mk A rv x cs n) : LSb le W F b mk A rv :=
  ⟨h.all, h.ag, fun j hj => (h.mv j hj).up (Nat.le_refl _) (fun _ _ _ hP => ⟨⟨hP.1, hP.2.1, hP.2.2.1⟩, fun _ _ => rfl⟩)⟩
theorem LGb.tch {S : Nat → Prop} {le e : TypeId} {W W' : World} {F : Nat → Prop} {b n : Nat} {mk : Nat → List Value} {A : List Value} {rv x : Value} {cs : List Value} (h : LGb le e W F b mk A rv x cs n) (t : Tch S W W') (hS : ∀ i, S i → i = b ∨ F i) : LGb le e W' F b mk A rv x cs n := by
  refine ⟨own_tch h.all t (fun g e hs => (hS g hs).elim (h.ag g e).1 (h.ag g e).2), own_tch h.xr t (fun g e hs => (hS g hs).elim (h.xg g e).2.1 (h.xg g e).2.2), h.ag, h.xg, fun j hj => (h.mv j hj).up t.size (fun g m hg hP => ⟨hP, fun k _ => t.cell (p := ⟨g, k, none⟩) hg (fun hs => (hS g hs).elim hP.1 hP.2.1)⟩)⟩
theorem LGb.one {le e : TypeId} {W W1 w1 : World} {F : Nat → Prop} {b nx : Nat} {mk : Nat → List Value} {A : List Value} {rv x rv' : Value} {cs : List Value} (h : LGb le e W F b mk A rv x cs nx) (t : Tch (fun _ => False) W W1) (hgr : W1.grownBy w1 rv.ownBlock) (hown : w1.ownsRow 0 le 1 rv' (A.length + 1) (A ++ [x])) (hat : rv'.ownBlock = rv.ownBlock ∨ rv'.ownBlock = some W1.heap.size) (hmk : mk A.length = cs) (hnx : nx ≤ 1099511627776) (hb : b < W.heap.size) (hF : ∀ i, F i → i < W.heap.size) :
    LGb le e w1 F b mk (A ++ [x]) rv' x cs nx := by
  have T := grown_at t hgr
  have hne : ∀ g, g < W.heap.size → rv.ownBlock ≠ some g → rv'.ownBlock ≠ some g := fun g hg h1 h2 => by
    rcases hat with e | e
    · exact h1 (e ▸ h2)
    · rw [e] at h2; injection h2 with h2; have := t.size; omega
  have hxlt : ∀ g, x.ownBlock = some g → g < W.heap.size := fun g e => (h.xr.lt g e).2
  have xr' := own_tch h.xr T (fun g e e2 => (h.xg g e).1 e2)
  refine ⟨by rw [List.length_append]; exact hown, xr', fun g e => ?_, fun g e => ⟨hne g (hxlt g e) (h.xg g e).1, (h.xg g e).2⟩, fun j hj => ?_⟩
  · rcases hat with e1 | e1
    · rw [e1] at e; exact h.ag g e
    · rw [e1] at e; injection e with e
      have := t.size
      exact ⟨by omega, fun hf => by have := hF g hf; omega⟩
  · rw [List.length_append, List.length_singleton] at hj
    rcases Nat.lt_or_ge j A.length with hjl | hjl
    · rw [List.getElem_append_left hjl]
      exact (h.mv j hjl).up T.size (fun g m hg hP => ⟨⟨hP.1, hP.2.1, hne g hg hP.2.2.1, hP.2.2.2⟩, fun k _ => T.cell (p := ⟨g, k, none⟩) hg hP.2.2.1⟩)
    · obtain rfl : j = A.length := by omega
      rw [List.getElem_append_right (Nat.le_refl _)]
      simp only [Nat.sub_self, List.getElem_cons_zero]
      rw [hmk]
      exact MVb.of xr' hnx (fun g e => ⟨(h.xg g e).2.1, (h.xg g e).2.2, hne g (hxlt g e) (h.xg g e).1, fun _ => Nat.le_refl _⟩)
theorem LGb.two {le e : TypeId} {W W1 w1 : World} {F : Nat → Prop} {b nx : Nat} {mk : Nat → List Value} {A : List Value} {rv x x' : Value} {cs : List Value} (h : LGb le e W F b mk A rv x cs nx) (t : Tch (fun _ => False) W W1) (hgr : W1.grownBy w1 x.ownBlock) (hown : w1.ownsRow 0 e cs.length x' (nx + 1) (rep (nx + 1) cs)) (hat : x'.ownBlock = x.ownBlock ∨ x'.ownBlock = some W1.heap.size)
    (hk : ∀ b j, b < W1.heap.size → (x.ownBlock = some b → j < nx * cs.length) → w1.cell? ⟨b, j, none⟩ = W1.cell? ⟨b, j, none⟩) (hb : b < W.heap.size) (hF : ∀ i, F i → i < W.heap.size) (hmk : ∀ j, (mk j).length = cs.length) : LGb le e w1 F b mk A rv x' cs (nx + 1) := by
  have T := grown_at t hgr
  have hne : ∀ g, g < W.heap.size → x.ownBlock ≠ some g → x'.ownBlock ≠ some g := fun g hg h1 h2 => by
    rcases hat with e | e
    · exact h1 (e ▸ h2)
    · rw [e] at h2; injection h2 with h2; have := t.size; omega
  refine ⟨own_tch h.all T (fun g e e2 => (h.xg g e2).1 e), hown, h.ag, fun g e => ?_, fun j hj => ?_⟩
  · rcases hat with e1 | e1
    · rw [e1] at e; exact h.xg g e
    · rw [e1] at e
      injection e with e
      have := t.size
      exact ⟨fun e2 => by have := (h.all.lt _ e2).2; omega, by omega, fun hf => by have := hF g hf; omega⟩
  · refine (h.mv j hj).up T.size (fun g m hg hP => ⟨⟨hP.1, hP.2.1, hP.2.2.1, fun e => ?_⟩, fun k hkm => ?_⟩)
    · by_cases hx : x.ownBlock = some g
      · have := hP.2.2.2 hx; omega
      · exact absurd e (hne g hg hx)
    · rw [hk g k (Nat.lt_of_lt_of_le hg t.size) (fun e => by
        have h1 := hP.2.2.2 e
        rw [hmk] at hkm
        exact Nat.lt_of_lt_of_le hkm (Nat.mul_le_mul_right _ h1))]
      exact t.cell (p := ⟨g, k, none⟩) hg (fun h => h)
theorem mark_step (cur : Array Value) (q c : Nat) (a b d : Value) (hs : cur.size = c * 3) (hq : q < c) (h : cur.toList.take (q * 3) = rep q [a, b, d]) : (((cur.setIfInBounds (q * 3) a).setIfInBounds (q * 3 + 1) b).setIfInBounds (q * 3 + 2) d).toList.take ((q + 1) * 3) = rep (q + 1) [a, b, d] := by
  rw [rep_succ, ← h]
  apply List.ext_getElem?
  intro j
  rw [List.getElem?_take]
  have hl : cur.toList.length = c * 3 := by simpa using hs
  rcases Nat.lt_or_ge j (q * 3) with h1 | h1
  · rw [if_pos (by omega), List.getElem?_append_left (by rw [List.length_take]; omega), List.getElem?_take, if_pos h1, Array.getElem?_toList, Array.getElem?_toList, Array.getElem?_setIfInBounds_ne (by omega), Array.getElem?_setIfInBounds_ne (by omega), Array.getElem?_setIfInBounds_ne (by omega)]
  · rw [List.getElem?_append_right (by rw [List.length_take]; omega), List.length_take, show min (q * 3) cur.toList.length = q * 3 by omega]
    rcases Nat.lt_or_ge j ((q + 1) * 3) with h2 | h2
    · rw [if_pos h2, Array.getElem?_toList]
      rcases (by omega : j = q * 3 ∨ j = q * 3 + 1 ∨ j = q * 3 + 2) with rfl | rfl | rfl
      · rw [Array.getElem?_setIfInBounds_ne (by omega), Array.getElem?_setIfInBounds_ne (by omega), Array.getElem?_setIfInBounds_self_of_lt (by omega)]; simp
      · rw [Array.getElem?_setIfInBounds_ne (by omega), Array.getElem?_setIfInBounds_self_of_lt (by simp; omega), show q * 3 + 1 - q * 3 = 1 by omega]; rfl
      · rw [Array.getElem?_setIfInBounds_self_of_lt (by simp; omega), show q * 3 + 2 - q * 3 = 2 by omega]; rfl
    · rw [if_neg (by omega), List.getElem?_eq_none (by simp; omega)]
/-- A slice of one's own, its first places marked. -/
def MC (e : TypeId) (W : World) (v : Value) (n : Nat) (cs : List Value) (q : Nat) : Prop := (v = .slice none 0 0 ∧ n = 0) ∨ ∃ g c cur, v = .slice (some ⟨g, 0, none⟩) n c ∧ W.heap[g]? = some (.cells cur e (0, 0)) ∧ n ≤ c ∧ c ≤ maxLen ∧ cur.size = c * 3 ∧ cur.toList.take (q * 3) = rep q cs
theorem MC.of {e : TypeId} {W : World} {v : Value} {n : Nat} {cs xs : List Value} (h : W.ownsRow 0 e 3 v n xs) : MC e W v n cs 0 := by
  rcases h.2 with h | ⟨g, c, cur, h1, _, h2, h3, h4, h5, _⟩
  · exact Or.inl h
  · exact Or.inr ⟨g, c, cur, h1, h2, h3, h4, h5, by simp [rep]⟩
theorem MC.tch {S : Nat → Prop} {e : TypeId} {W W' : World} {v : Value} {n : Nat} {cs : List Value} {q : Nat} (h : MC e W v n cs q) (t : Tch S W W') (hS : ∀ g, v.ownBlock = some g → ¬ S g) : MC e W' v n cs q := by
  rcases h with h | ⟨g, c, cur, h1, h2, h3⟩
  · exact Or.inl h
  · exact Or.inr ⟨g, c, cur, h1, by rw [t.block g (blk_lt h2) (hS g (by rw [h1]; rfl))]; exact h2, h3⟩
theorem MC.own {e : TypeId} {W : World} {v : Value} {n : Nat} {cs : List Value} (h : MC e W v n cs n) (hcs : cs.length = 3) : W.ownsRow 0 e cs.length v n (rep n cs) := by
  refine ⟨rep_len _ _, ?_⟩
  rw [hcs]
  rcases h with h | ⟨g, c, cur, h1, h2, h3, h4, h5, h6⟩
  · exact Or.inl h
  · exact Or.inr ⟨g, c, cur, h1, Nat.zero_le _, h2, h3, h4, h5, h6⟩
theorem set3_cells {W : World} {g c q : Nat} {t : TypeId} {cur : Array Value} (hh : W.heap[g]? = some (.cells cur t (0, 0))) (hs : cur.size = c * 3) (hq : q < c) (v0 v1 : Value) :
    (∃ y, W.cell? ⟨g, q * 3, none⟩ = some y) ∧ (∃ y, (W.setCell ⟨g, q * 3, none⟩ v0).cell? ⟨g, q * 3 + 1, none⟩ = some y) ∧ (∃ y, ((W.setCell ⟨g, q * 3, none⟩ v0).setCell ⟨g, q * 3 + 1, none⟩ v1).cell? ⟨g, q * 3 + 2, none⟩ = some y) ∧ ∀ j, W.frozen? ⟨g, j, none⟩ = false := by
  refine ⟨⟨cur[q * 3]'(by omega), by rw [blk_cell hh]; exact Array.getElem?_eq_getElem _⟩, ⟨cur[q * 3 + 1]'(by omega), ?_⟩, ⟨cur[q * 3 + 2]'(by omega), ?_⟩, fun j => blk_frozen hh j⟩
  · rw [World.cell?_setCell_other (h := by intro e; injection e; omega), blk_cell hh]; exact Array.getElem?_eq_getElem _
  · rw [World.cell?_setCell_other (h := by intro e; injection e; omega), World.cell?_setCell_other (h := by intro e; injection e; omega), blk_cell hh]; exact Array.getElem?_eq_getElem _
/-- The mark of the columns, of the tables at this place. -/
def mkC (j : Nat) : List Value := [.string ⟨#[]⟩, .int .i64 (-7 - ((j / 20 * 20 : Nat) : Int)), .bool false]
def mkT (j : Nat) : List Value := [.int .i64 (-7 - ((j / 20 * 20 : Nat) : Int)), .int .i64 0, .string ⟨#[]⟩, .slice none 0 0, .int .i64 0]
/-- The slices of a list, for reading. -/
theorem LSb.read {le : TypeId} {W : World} {F : Nat → Prop} {b : Nat} {mk : Nat → List Value} {A : List Value} {rv : Value} (h : LSb le W F b mk A rv) : ∃ ao c, rv = .slice ao A.length c ∧ ∀ j, j < A.length → ∃ G xo m xc, ao = some ⟨G, 0, none⟩ ∧ W.cell? ⟨G, j, none⟩ = some (.slice xo m xc) ∧ m ≤ 1099511627776 ∧ ∀ q, q < m → ∃ g, xo = some ⟨g, 0, none⟩ ∧ ∀ i u, (mk j)[i]? = some u → W.cell? ⟨g, q * (mk j).length + i, none⟩ = some u := by
  obtain ⟨ao, c, hv⟩ := row_slice h.all
  refine ⟨ao, c, hv, fun j hj => ?_⟩
  have hall := h.all
  rw [hv] at hall
  obtain ⟨G, rfl, _, hG⟩ := own_at hall (by omega)
  obtain ⟨xo, m, xc, hx, hm, hg⟩ := h.mv j hj
  refine ⟨G, xo, m, xc, rfl, ?_, hm, fun q hq => ?_⟩
  · have := hG j _ (List.getElem?_eq_getElem hj)
    rw [Nat.zero_add, hx] at this
    exact this
  · obtain ⟨g, e, _, _, ha⟩ := hg (by omega)
    refine ⟨g, e, fun i u hu => ?_⟩
    have hi : i < (mk j).length := (List.getElem?_eq_some_iff.1 hu).1
    have := ha (q * (mk j).length + i) u (by rw [rep_get (mk j) m q i hq hi]; exact hu)
    rwa [Nat.zero_add] at this

/-- Owners: what a step of the owners K does. -/
structure Ev (K : Nat → Prop) (w : World) (o : Nat → Nat) (w' : World) (o' : Nat → Nat) : Prop where
  tch : Tch (fun i => K (o i)) w w'
  old : ∀ i, i < w.heap.size → ¬ K (o i) → o' i = o i
  own : ∀ i, i < w.heap.size → K (o i) → K (o' i)
  new : ∀ i, w.heap.size ≤ i → i < w'.heap.size → K (o' i)
def Oth (w : World) (o : Nat → Nat) (k : Nat) : Nat → Prop := fun i => i < w.heap.size ∧ o i ≠ k
theorem Ev.oth {K : Nat → Prop} {w w' : World} {o o' : Nat → Nat} (e : Ev K w o w' o') {k : Nat} (hk : ¬ K k) {i : Nat} (h : Oth w' o' k i) : Oth w o k i ∨ (w.heap.size ≤ i ∧ i < w'.heap.size) := by
  rcases Nat.lt_or_ge i w.heap.size with hi | hi
  · refine Or.inl ⟨hi, fun e1 => h.2 ?_⟩
    rw [e.old i hi (by rw [e1]; exact hk), e1]
  · exact Or.inr ⟨hi, h.1⟩
theorem Ev.trans {K : Nat → Prop} {a b c : World} {o o1 o2 : Nat → Nat} (h : Ev K a o b o1) (g : Ev K b o1 c o2) : Ev K a o c o2 := by
  refine ⟨?_, fun i hi hn => ?_, fun i hi hk => g.own i (Nat.lt_of_lt_of_le hi h.tch.size) (h.own i hi hk), fun i hi hc => ?_⟩
  · refine h.tch.trans g.tch (fun i hi hk => Classical.byContradiction fun hn => ?_)
    rw [h.old i hi hn] at hk
    exact hn hk
  · have := h.old i hi hn
    rw [g.old i (Nat.lt_of_lt_of_le hi h.tch.size) (by rw [this]; exact hn), this]
  · rcases Nat.lt_or_ge i b.heap.size with hb | hb
    · exact g.own i hb (h.new i hi hb)
    · exact g.new i hb hc
theorem Ev.mono {K M : Nat → Prop} {a b : World} {o o1 : Nat → Nat} (h : Ev K a o b o1) (hM : ∀ k, K k → M k) : Ev M a o b o1 := by
  refine ⟨h.tch.mono (fun i _ hk => hM _ hk), fun i hi hn => h.old i hi (fun hk => hn (hM _ hk)), fun i hi hk => ?_, fun i hi hb => hM _ (h.new i hi hb)⟩
  by_cases hK : K (o i)
  · exact hM _ (h.own i hi hK)
  · rw [h.old i hi hK]; exact hk
theorem Ev.refl {K : Nat → Prop} (w : World) (o : Nat → Nat) : Ev K w o w o := ⟨Tch.refl _ _, fun _ _ _ => rfl, fun _ _ h => h, fun i hi hl => by omega⟩
theorem Ev.drew {K : Nat → Prop} (w : World) (o : Nat → Nat) (q : Nat) : Ev K w o (w.drewN q) o :=
  ⟨(Tch.refl (fun _ => False) w).drewN q |>.mono (fun _ _ h => h.elim), fun _ _ _ => rfl, fun _ _ h => h, fun i hi hl => by simp at hl; omega⟩
def ext (w : World) (o : Nat → Nat) (k : Nat) : Nat → Nat := fun i => if i < w.heap.size then o i else k
/-- Nothing was turned, something may have been made. -/
theorem Ev.quiet {w w' : World} {o : Nat → Nat} (k : Nat) (t : Tch (fun _ => False) w w') : Ev (fun j => j = k) w o w' (ext w o k) :=
  ⟨t.mono (fun _ _ h => h.elim), fun i hi _ => if_pos hi, fun i hi e => by show ext w o k i = k; unfold ext; rw [if_pos hi]; exact e, fun i hi _ => if_neg (by omega)⟩
def extv (w : World) (o : Nat → Nat) (k : Nat) (v : Value) (kv : Nat) : Nat → Nat := fun i => if v.ownBlock = some i then kv else if i < w.heap.size then o i else k
theorem extv_old {w : World} {o : Nat → Nat} {k kv : Nat} {v : Value} {i : Nat} (h1 : v.ownBlock ≠ some i) (h2 : i < w.heap.size) : extv w o k v kv i = o i := by
  unfold extv; rw [if_neg h1, if_pos h2]
theorem extv_v {w : World} {o : Nat → Nat} {k kv : Nat} {v : Value} {i : Nat} (h1 : v.ownBlock = some i) : extv w o k v kv i = kv := if_pos h1
theorem extv_new {w : World} {o : Nat → Nat} {k kv : Nat} {v : Value} {i : Nat} (h1 : v.ownBlock ≠ some i) (h2 : w.heap.size ≤ i) : extv w o k v kv i = k := by
  unfold extv; rw [if_neg h1, if_neg (by omega)]
theorem Ev.extv {w w' : World} {o : Nat → Nat} {k kv : Nat} {v : Value} {S : Nat → Prop} (t : Tch S w w') (hS : ∀ i, i < w.heap.size → S i → o i = k) (hv : ∀ g, v.ownBlock = some g → o g = k ∨ w.heap.size ≤ g) : Ev (fun j => j = k ∨ j = kv) w o w' (extv w o k v kv) := by
  refine ⟨t.mono (fun i hi h => Or.inl (hS i hi h)), fun i hi hn => ?_, fun i hi hk => ?_, fun i hi hl => ?_⟩
  · refine extv_old (fun e => ?_) hi
    rcases hv i e with h | h
    · exact hn (Or.inl h)
    · omega
  · by_cases e : v.ownBlock = some i
    · exact Or.inr (extv_v e)
    · show Go.Proofs.Ytkcmpipipelgoaa.extv w o k v kv i = k ∨ Go.Proofs.Ytkcmpipipelgoaa.extv w o k v kv i = kv
      rw [extv_old e hi]; exact hk
  · by_cases e : v.ownBlock = some i
    · exact Or.inr (extv_v e)
    · exact Or.inl (extv_new e hi)
/-- Columns that an owner has alone. -/
structure RowC (w : World) (o : Nat → Nat) (k : Nat) (v : Value) (l : List Col) : Prop where
  row : w.ownsRow 0 80 3 v l.length (ccl l)
  lab : ∀ g, v.ownBlock = some g → o g = k
theorem RowC.ev {K : Nat → Prop} {w w' : World} {o o' : Nat → Nat} {k : Nat} {v : Value} {l : List Col} (h : RowC w o k v l) (e : Ev K w o w' o') (hk : ¬ K k) : RowC w' o' k v l := by
  refine ⟨own_tch h.row e.tch (fun g hg hs => hk (by rw [← h.lab g hg]; exact hs)), fun g hg => ?_⟩
  rw [e.old g (h.row.lt g hg).2 (by rw [h.lab g hg]; exact hk), h.lab g hg]
theorem RowC.nil (w : World) (o : Nat → Nat) (k : Nat) : RowC w o k (.slice none 0 0) [] := ⟨⟨rfl, Or.inl ⟨rfl, rfl⟩⟩, fun g e => by cases e⟩
theorem LSb.lt {le : TypeId} {W : World} {F : Nat → Prop} {b : Nat} {mk : Nat → List Value} {A : List Value} {rv : Value} (h : LSb le W F b mk A rv) : ∀ g, rv.ownBlock = some g → g < W.heap.size := fun g e => (h.all.lt g e).2
theorem LSb.ev {K : Nat → Prop} {w w' : World} {o o' : Nat → Nat} {k b : Nat} {le : TypeId} {mk : Nat → List Value} {A : List Value} {rv : Value} (h : LSb le w (fun i => o i ≠ k) b mk A rv) (e : Ev K w o w' o') (hk : ¬ K k) : LSb le w' (fun i => o' i ≠ k) b mk A rv := by
  have h1 : LSb le w' (fun i => o i ≠ k) b mk A rv := h.tch e.tch (fun i hi => Or.inr (fun e1 => hk (by rw [← e1]; exact hi)))
  have hlt : ∀ g, g < w.heap.size → o g = k → o' g = k := fun g hg e1 => by rw [e.old g hg (by rw [e1]; exact hk), e1]
  refine ⟨h1.all, fun g hg => ⟨(h1.ag g hg).1, fun hn => hn (hlt g (h.lt g hg) (Classical.byContradiction fun e1 => (h.ag g hg).2 e1))⟩, fun j hj => ?_⟩
  obtain ⟨ao, m, c, hv, hm, hg⟩ := h1.mv j hj
  obtain ⟨ao', m', c', hv', _, hg'⟩ := h.mv j hj
  refine ⟨ao, m, c, hv, hm, fun h0 => ?_⟩
  obtain ⟨g, ha, hgl, hP, hat⟩ := hg h0
  rw [hv] at hv'
  injection hv' with e1 e2 e3
  subst e1 e2
  obtain ⟨g2, ha2, hgl2, hP2, _⟩ := hg' h0
  rw [ha] at ha2
  injection ha2 with ha2
  injection ha2 with ha2
  subst ha2
  exact ⟨g, ha, hgl, ⟨hP.1, fun hn => hn (hlt g hgl2 (Classical.byContradiction fun e1 => hP2.2.1 e1)), hP.2.2⟩, hat⟩
theorem LSb.ext {le : TypeId} {W : World} {F F' : Nat → Prop} {b : Nat} {mk : Nat → List Value} {A : List Value} {rv : Value} (h : LSb le W F b mk A rv) (hF : ∀ i, i < W.heap.size → i ≠ b → F' i → F i) : LSb le W F' b mk A rv :=
  ⟨h.all, fun g e => ⟨(h.ag g e).1, fun hf => (h.ag g e).2 (hF g (h.all.lt g e).2 (h.ag g e).1 hf)⟩, fun j hj => (h.mv j hj).up (Nat.le_refl _) (fun g _ hg hP => ⟨⟨hP.1, fun hf => hP.2.1 (hF g hg hP.1 hf), hP.2.2⟩, fun _ _ => rfl⟩)⟩
/-- Another owner. -/
def rlb (o : Nat → Nat) (a b : Nat) : Nat → Nat := fun i => if o i = a then b else o i
theorem Ev.relab (w : World) (o : Nat → Nat) (a b : Nat) : Ev (fun k => k = a ∨ k = b) w o w (rlb o a b) := by
  refine ⟨Tch.refl _ _, fun i _ hn => if_neg (fun e => hn (Or.inl e)), fun i _ hk => ?_, fun i hi hl => by omega⟩
  show rlb o a b i = a ∨ rlb o a b i = b
  unfold rlb
  split
  · exact Or.inr rfl
  · rename_i hne
    exact hk.elim (fun e => absurd e hne) Or.inr
theorem RowC.relab {w : World} {o : Nat → Nat} {a : Nat} {v : Value} {l : List Col} (h : RowC w o a v l) (b : Nat) : RowC w (rlb o a b) b v l := ⟨h.row, fun g hg => if_pos (h.lab g hg)⟩
end Go.Proofs.Ytkcmpipipelgoaa
