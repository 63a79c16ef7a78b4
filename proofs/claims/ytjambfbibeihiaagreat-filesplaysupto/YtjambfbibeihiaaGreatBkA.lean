import Derived.Test.YtjambfbibeihiaaGreatBk
import Derived.Maps.AppendAt
/- Append, and what the row was before; lists and views with their owners; the book. -/
namespace Go.Proofs.YtjambfbibeihiaaGreat
set_option maxRecDepth 100000
open Go.RowKit Go.ChangeMaps Go.Sort

section
variable {P : Program} (w : World)
/-- Append: as the library has it; and every cell of the row as it was reads as before. -/
theorem run_append_keeps (base : Nat) (t ty e : TypeId) (i : TypeInfo) (z : Value) (size bytes : Nat) (ht : P.underlying t = some (.slice e)) (hi : P.info? e = some i) (hz : i.zero = some z)
    (hsize : i.size = size) (hby : i.bytes = bytes) (hzs : z.cells.size = size) (hsz : 0 < size)
    (v : Value) (n : Nat) (xs : List Value) (hown : w.ownsRow base e size v n xs)
    (a : Addr) (m c : Nat) (news : List Value) (hl : news.length = m * size) (hnews : ∀ j u, news[j]? = some u → w.cell? (a.add j) = some u) (h1 : ∀ u ∈ news, u.oneCell' = true)
    (h63 : n + m ≤ maxLen) (hbytes : (n + m) * bytes ≤ 140737488355328) (hbase : base ≤ w.heap.size) :
    ∃ v' w', (Builtin.append_ #[t, t] ty #[v, .slice (some a) m c]).run P w = .ok v' w' ∧ w'.ownsRow base e size v' (n + m) (xs ++ news) ∧ w.grownBy w' v.ownBlock ∧ (v'.ownBlock = v.ownBlock ∨ v'.ownBlock = some w.heap.size) ∧
      ∀ b j, b < w.heap.size → (v.ownBlock = some b → j < n * size) → w'.cell? ⟨b, j, none⟩ = w.cell? ⟨b, j, none⟩ := by
  obtain ⟨v', w', hr, h2, h3, _, h5⟩ := run_append_own_at (P := P) w base t ty e i z size bytes ht hi hz hsize hby hzs hsz v n xs hown a m c news hl hnews h1 h63 hbytes hbase
  refine ⟨v', w', hr, h2, h3, h5, fun b j hb hj => ?_⟩
  by_cases hvb : v.ownBlock = some b
  · rcases hown.2 with ⟨rfl, rfl⟩ | ⟨g, cap, cur, rfl, hbg, hg, hnc, hcm, hcs, htake⟩
    · cases hvb
    · have hgb : g = b := by simpa [Value.ownBlock] using hvb
      subst hgb
      have hj' := hj hvb
      by_cases hroom : n + m ≤ cap
      · have hfit : n * i.size + news.length ≤ cur.size := by rw [hl, hcs, hsize, ← Nat.add_mul]; exact Nat.mul_le_mul_right _ hroom
        have hr2 := run_append_room (P := P) w t ty e i ht hi g n cap cur hg a m c news (by rw [hsize]; exact hl) hnews h1 hroom hfit
        rw [hr] at hr2
        simp only [Result.ok.injEq] at hr2
        obtain ⟨rfl, rfl⟩ := hr2
        rw [h2.cellAt j (by rw [Nat.add_mul]; omega), hown.cellAt j hj', List.getElem?_append_left (by rw [hown.1]; exact hj')]
      · have holds : ∀ j u, xs[j]? = some u → w.cell? ((⟨g, 0, none⟩ : Addr).add j) = some u := hown.cells (g := g) rfl
        have hr2 := run_append_grow (P := P) w t ty e i z ht hi hz ⟨g, 0, none⟩ n cap xs (by rw [hsize]; exact hown.1) holds a m c news (by rw [hsize]; exact hl) hnews (by omega) (by simp only [maxLen] at h63; omega) (by rw [hby]; exact growslice_fits (by omega) hbytes)
        rw [hr] at hr2
        simp only [Result.ok.injEq] at hr2
        obtain ⟨_, rfl⟩ := hr2
        exact World.cell?_of_block (heap_alloc_old w.drew _ hb)
  · exact World.cell?_of_block (h3.block b hb (fun e => hvb e.symm))
end
theorem wpList_append_keeps {P : Program} (w : World) {ops : Array Oper} {rest : List Oper} {o : Oper} {a : Act} {Q : Exit → Act → World → Prop} (hgd : o.guard = none) (s x : Operand) (t : TypeId)
    (ho : o.op = .call { callee := .builtin .append, args := #[s, x], argTypes := #[t, t] })
    (base : Nat) (e : TypeId) (i : TypeInfo) (z : Value) (size bytes : Nat) (ht : P.underlying t = some (.slice e)) (hi : P.info? e = some i) (hz : i.zero = some z)
    (hsize : i.size = size) (hby : i.bytes = bytes) (hzs : z.cells.size = size) (hsz : 0 < size)
    (v : Value) (n : Nat) (xs : List Value) (hs : a.eval s = v) (hown : w.ownsRow base e size v n xs)
    (ad : Addr) (m c : Nat) (news : List Value) (hx : a.eval x = .slice (some ad) m c) (hl : news.length = m * size) (hnews : ∀ j u, news[j]? = some u → w.cell? (ad.add j) = some u) (h1 : ∀ u ∈ news, u.oneCell' = true)
    (h63 : n + m ≤ maxLen) (hbytes : (n + m) * bytes ≤ 140737488355328) (hbase : base ≤ w.heap.size)
    (h : ∀ v' w', w'.ownsRow base e size v' (n + m) (xs ++ news) → w.grownBy w' v.ownBlock → (v'.ownBlock = v.ownBlock ∨ v'.ownBlock = some w.heap.size) → (∀ b j, b < w.heap.size → (v.ownBlock = some b → j < n * size) → w'.cell? ⟨b, j, none⟩ = w.cell? ⟨b, j, none⟩) → wpList P ops Q rest (a.put o.dst v') w') :
    wpList P ops Q (o :: rest) a w := by
  refine wpList_plain hgd fun K hK => ?_
  obtain ⟨v', w', hr, h2, h3, h4, h5⟩ := run_append_keeps (P := P) w base t o.type e i z size bytes ht hi hz hsize hby hzs hsz v n xs hown ad m c news hl hnews h1 h63 hbytes hbase
  unfold Oper.wp execOp
  simp only [ho, resolve, invoke, builtin, Sem.run_bind, Sem.run_pure, Result.andThen_ok, List.map_toArray, List.map_cons, List.map_nil, hs, hx, hr]
  exact hK _ _ (h v' w' h2 h3 h4 h5)

/-- A list that its owner k has alone. -/
def LO (w : World) (ω : Nat → Nat) (k : Nat) (e : TypeId) (sz : Nat) (v : Value) (n : Nat) (xs : List Value) : Prop := w.ownsRow 0 e sz v n xs ∧ ∀ g, v.ownBlock = some g → ω g = k
theorem LO.ev {K : Nat → Prop} {w w' : World} {ω ω' : Nat → Nat} {k : Nat} {e : TypeId} {sz : Nat} {v : Value} {n : Nat} {xs : List Value} (h : LO w ω k e sz v n xs) (ev : Ev K w ω w' ω') (hk : ¬ K k) : LO w' ω' k e sz v n xs := by
  refine ⟨rowN_tch h.1 ev.tch (fun g hg hK => hk (h.2 g hg ▸ hK)), fun g hg => ?_⟩
  rcases ev.old g (h.1.lt g hg).2 with e1 | e1
  · rw [e1]; exact h.2 g hg
  · exact absurd (h.2 g hg ▸ e1.1) hk
theorem LO.tch {S : Nat → Prop} {w w' : World} {ω : Nat → Nat} {k : Nat} {e : TypeId} {sz : Nat} {v : Value} {n : Nat} {xs : List Value} (h : LO w ω k e sz v n xs) (t : Tch S w w') (hS : ∀ i, i < w.heap.size → S i → ω i ≠ k) : LO w' ω k e sz v n xs :=
  ⟨rowN_tch h.1 t (fun g hg hs => hS g (h.1.lt g hg).2 hs (h.2 g hg)), h.2⟩

def rep (pat : List Value) (k : Nat) : List Value := (List.replicate k pat).flatten
theorem rep_succ (pat : List Value) (k : Nat) : rep pat (k + 1) = rep pat k ++ pat := by
  unfold rep
  rw [List.replicate_succ', List.flatten_append]; simp
theorem rep_len (pat : List Value) : ∀ k, (rep pat k).length = k * pat.length
  | 0 => by simp [rep]
  | k + 1 => by rw [rep_succ, List.length_append, rep_len pat k, Nat.add_mul, Nat.one_mul]
theorem rep_get (pat : List Value) : ∀ (k q r : Nat) (u : Value), q < k → pat[r]? = some u → (rep pat k)[q * pat.length + r]? = some u
  | 0, q, r, u, h, _ => by omega
  | k + 1, q, r, u, h, hr => by
    have hrl := (List.getElem?_eq_some_iff.1 hr).1
    have hl := rep_len pat k
    rw [rep_succ]
    rcases Nat.lt_or_ge q k with h1 | h1
    · have h2 : q * pat.length + r < k * pat.length := by
        have : (q + 1) * pat.length ≤ k * pat.length := Nat.mul_le_mul_right _ h1
        rw [Nat.add_mul, Nat.one_mul] at this
        omega
      rw [List.getElem?_append_left (by omega)]
      exact rep_get pat k q r u h1 hr
    · obtain rfl : q = k := by omega
      rw [List.getElem?_append_right (by omega), hl, Nat.add_sub_cancel_left]
      exact hr

/-- A list of the book as its owner wrote it: each element reads pat; its block is c's. -/
def MV (w : World) (ω : Nat → Nat) (c L : Nat) (pat : List Value) (v : Value) : Prop := ∃ ao len cap, v = .slice ao len cap ∧ len ≤ L ∧ ∀ q, q < len → ∃ b, ao = some ⟨b, 0, none⟩ ∧ (b < w.heap.size ∧ ω b = c) ∧ ∀ r u, pat[r]? = some u → w.cell? ⟨b, q * pat.length + r, none⟩ = some u
theorem MV.tch {S : Nat → Prop} {w w' : World} {ω ω' : Nat → Nat} {c c' L : Nat} {pat : List Value} {v : Value} (h : MV w ω c L pat v) (t : Tch S w w') (hS : ∀ i, i < w.heap.size → ω i = c → ¬ S i ∧ ω' i = c') : MV w' ω' c' L pat v := by
  obtain ⟨ao, len, cap, h1, h2, h3⟩ := h
  refine ⟨ao, len, cap, h1, h2, fun q hq => ?_⟩
  obtain ⟨b, e1, ⟨e2, e3⟩, e4⟩ := h3 q hq
  obtain ⟨k1, k2⟩ := hS b e2 e3
  exact ⟨b, e1, ⟨Nat.lt_of_lt_of_le e2 t.size, k2⟩, fun r u hu => (t.cell (p := ⟨b, _, none⟩) e2 k1).trans (e4 r u hu)⟩
theorem MV.keeps {w w' : World} {ω ω' : Nat → Nat} {c L n : Nat} {pat : List Value} {v l : Value} (h : MV w ω c L pat v) (hk : ∀ b j, b < w.heap.size → (l.ownBlock = some b → j < n * pat.length) → w'.cell? ⟨b, j, none⟩ = w.cell? ⟨b, j, none⟩) (hL : L ≤ n) (hz : w.heap.size ≤ w'.heap.size) (hω : ∀ i, i < w.heap.size → ω' i = ω i) : MV w' ω' c L pat v := by
  obtain ⟨ao, len, cap, h1, h2, h3⟩ := h
  refine ⟨ao, len, cap, h1, h2, fun q hq => ?_⟩
  obtain ⟨b, e1, ⟨e2, e3⟩, e4⟩ := h3 q hq
  refine ⟨b, e1, ⟨by omega, by rw [hω b e2]; exact e3⟩, fun r u hu => (hk b _ e2 (fun _ => ?_)).trans (e4 r u hu)⟩
  have hrl := (List.getElem?_eq_some_iff.1 hu).1
  have : (q + 1) * pat.length ≤ n * pat.length := Nat.mul_le_mul_right _ (by omega)
  rw [Nat.add_mul, Nat.one_mul] at this
  omega
theorem MV.up {w : World} {ω : Nat → Nat} {c L L' : Nat} {pat : List Value} {v : Value} (h : MV w ω c L pat v) (hL : L ≤ L') : MV w ω c L' pat v := by
  obtain ⟨ao, len, cap, h1, h2, h3⟩ := h
  exact ⟨ao, len, cap, h1, by omega, h3⟩
theorem LO.view {w : World} {ω : Nat → Nat} {k : Nat} {e : TypeId} {v : Value} {n : Nat} {pat : List Value} (h : LO w ω k e pat.length v n (rep pat n)) : MV w ω k n pat v := by
  obtain ⟨ao, cp, hv⟩ := rowN_of h.1
  subst hv
  refine ⟨ao, n, cp, rfl, Nat.le_refl _, fun q hq => ?_⟩
  obtain ⟨g, cp', e1, _, hlt⟩ := h.1.form (by omega)
  simp only [Value.slice.injEq] at e1
  obtain ⟨rfl, _, _⟩ := e1
  refine ⟨g, rfl, ⟨hlt, h.2 g rfl⟩, fun r u hu => ?_⟩
  have := h.1.cells (g := g) rfl _ _ (rep_get pat n q r u hq hu)
  rwa [Addr.add_lit, Nat.zero_add] at this

def patN (m : Nat) : List Value := [.string (markB m)]
def patF (m : Nat) : List Value := [.string (markB m), .string ⟨#[]⟩]
/-- The lists of the book: a row of them (c's), each as its owner wrote it (5's). -/
def NR (w : World) (ω : Nat → Nat) (c : Nat) (e : TypeId) (pat : Nat → List Value) (nv : Value) (kn : Nat) : Prop := ∃ vs, LO w ω c e 1 nv kn vs ∧ ∀ i v, vs[i]? = some v → MV w ω 5 1099511627776 (pat (i / 20 * 20)) v
theorem NR.tch {S : Nat → Prop} {w w' : World} {ω ω' : Nat → Nat} {c : Nat} {e : TypeId} {pat : Nat → List Value} {nv : Value} {kn : Nat} (h : NR w ω c e pat nv kn) (t : Tch S w w') (hS : ∀ i, i < w.heap.size → ω i = c ∨ ω i = 5 → ¬ S i ∧ ω' i = ω i) : NR w' ω' c e pat nv kn := by
  obtain ⟨vs, h1, h2⟩ := h
  refine ⟨vs, ⟨rowN_tch h1.1 t (fun g hg => (hS g (h1.1.lt g hg).2 (Or.inl (h1.2 g hg))).1), fun g hg => ((hS g (h1.1.lt g hg).2 (Or.inl (h1.2 g hg))).2).trans (h1.2 g hg)⟩, fun i v hv => (h2 i v hv).tch t (fun j hj e => ⟨(hS j hj (Or.inr e)).1, (hS j hj (Or.inr e)).2.trans e⟩)⟩
/-- The book. -/
structure BK (w : World) (ω : Nat → Nat) (bb kn kf : Nat) (hN wN hF wF : Value) : Prop where
  row : ∃ nv fv, w.heap[bb]? = some (.cells #[nv, fv, hN, wN, hF, wF] 38 (0, 0)) ∧ NR w ω 7 36 patN nv kn ∧ NR w ω 8 32 patF fv kf
  own : ω bb = 6
theorem BK.ev {K : Nat → Prop} {w w' : World} {ω ω' : Nat → Nat} {bb kn kf : Nat} {hN wN hF wF : Value} (h : BK w ω bb kn kf hN wN hF wF) (e : Ev K w ω w' ω') (hk : ∀ i, 5 ≤ i → i ≤ 8 → ¬ K i) : BK w' ω' bb kn kf hN wN hF wF := by
  obtain ⟨nv, fv, hb, h1, h2⟩ := h.row
  have key : ∀ i, i < w.heap.size → 5 ≤ ω i → ω i ≤ 8 → ¬ K (ω i) ∧ ω' i = ω i := fun i hi a b => by
    refine ⟨hk _ a b, ?_⟩
    rcases e.old i hi with e1 | e1
    · exact e1
    · exact absurd e1.1 (hk _ a b)
  have hbb := key bb (blk_lt hb) (by rw [h.own]; omega) (by rw [h.own]; omega)
  refine ⟨⟨nv, fv, (e.tch.block bb (blk_lt hb) hbb.1).trans hb, h1.tch e.tch (fun i hi e => key i hi (by omega) (by omega)), h2.tch e.tch (fun i hi e => key i hi (by omega) (by omega))⟩, by rw [hbb.2]; exact h.own⟩
end Go.Proofs.YtjambfbibeihiaaGreat
