import Derived.Test.YtolamjipigfocaaCAllM
import Derived.Test.YtolamjipigfocaaCRights
/- The book in the world, by owners: 6 lists of columns, 7 lists of tables, 8 rows (lists, held, was), 10 the book itself, 11 held, 12 was, 13 heldL, 14 wasL, 15 to 18 what is at hand, 19 what else is made. -/
namespace Go.Proofs.Ytolamjipigfocaa
open Go.RowKit Go

abbrev Fb (w : World) (o : Nat → Nat) (b : Nat) : Nat → Prop := fun i => i < w.heap.size ∧ o i ≠ 8 ∧ i ≠ b
theorem BKr.evb {K : Nat → Prop} {w w' : World} {o o' : Nat → Nat} {b : Nat} {cur cur' : Array Value} {R : List Value} {rv hv wv : Value} {xs : List Val} (h : BKr w (Fb w o b) b cur R rv hv wv xs) (e : Ev K w o w' o') (hk : ¬ K 8) (hb : w'.heap[b]? = some (.cells cur' 41 (0, 0))) (hs : cur'.size = 17) (c2 : cur'[2]? = some rv) (c15 : cur'[15]? = some hv) (c16 : cur'[16]? = some wv) : BKr w' (Fb w' o' b) b cur' R rv hv wv xs := by
  have hsz := e.tch.size
  have hF : ∀ i, i < w.heap.size → Fb w' o' b i → Fb w o b i := fun i hi hf => ⟨hi, fun e8 => hf.2.1 (by rw [e.old i hi (by rw [e8]; exact hk), e8]), hf.2.2⟩
  have hSF : ∀ i, i < w.heap.size → K (o i) → i = b ∨ Fb w' o' b i := fun i hi hs => by
    by_cases hib : i = b
    · exact Or.inl hib
    · exact Or.inr ⟨by omega, fun e8 => hk (by rw [← e8]; exact e.own i hi hs), hib⟩
  have t' : Tch (fun i => i < w.heap.size ∧ K (o i)) w w' := e.tch.mono (fun i hi h => ⟨hi, h⟩)
  have hnf : ∀ g, g < w.heap.size → g ≠ b → ¬ Fb w o b g → ¬ (g < w.heap.size ∧ K (o g)) := fun g hg hgb hf hs => hf ⟨hg, fun e8 => hk (by rw [← e8]; exact hs.2), hgb⟩
  have h2 := h.ls.fresh (F' := fun i => (Fb w' o' b i ∨ wv.ownBlock = some i) ∨ hv.ownBlock = some i) (fun i hi hf => hf.imp (fun hf => hf.imp (hF i hi) id) id)
  refine ⟨hb, hs, c2, c15, c16, h.l14, h.len, h2.tch t' (fun i hs => (hSF i hs.1 hs.2).imp id (fun h => Or.inl (Or.inl h))), own_tch h.hown t' (fun g eg => hnf g (h.hown.lt g eg).2 (h.hg g eg).1 (h.hg g eg).2.1), own_tch h.wown t' (fun g eg => hnf g (h.wown.lt g eg).2 (h.wg g eg).1 (h.wg g eg).2), fun g eg => ⟨(h.hg g eg).1, fun hf => (h.hg g eg).2.1 (hF g (h.hown.lt g eg).2 hf), (h.hg g eg).2.2⟩, fun g eg => ⟨(h.wg g eg).1, fun hf => (h.wg g eg).2 (hF g (h.wown.lt g eg).2 hf)⟩, fun hf => hf.2.2 rfl⟩
/-- The book's cells. -/
abbrev bkA (cv tv rv : Value) (h : Tbl) (hc : Value) (u : Tbl) (wc hl wl hr wr : Value) : Array Value := #[cv, tv, rv, .int .i64 h.id, .int .i64 h.ver, .string h.nm, hc, .int .i64 h.key, .int .i64 u.id, .int .i64 u.ver, .string u.nm, wc, .int .i64 u.key, hl, wl, hr, wr]
/-- The book but for held, was, heldL, wasL. -/
structure B0 (w : World) (o : Nat → Nat) (b : Nat) (cur : Array Value) (C T R : List Value) (cv tv rv hr wr : Value) (xs : List Val) : Prop where
  rows : BKr w (Fb w o b) b cur R rv hr wr xs
  ob : o b = 10
  c0 : cur[0]? = some cv
  c1 : cur[1]? = some tv
  cs : LS 34 w (fun i => o i ≠ 6) b mkC C cv
  ts : LS 37 w (fun i => o i ≠ 7) b mkT T tv
  c14 : C.length % 14 = 0
  t14 : T.length % 14 = 0
theorem B0.blk {w : World} {o : Nat → Nat} {b : Nat} {cur : Array Value} {C T R : List Value} {cv tv rv hr wr : Value} {xs : List Val} (h : B0 w o b cur C T R cv tv rv hr wr xs) : w.heap[b]? = some (.cells cur 41 (0, 0)) := h.rows.blk
theorem B0.ev {K : Nat → Prop} {w w' : World} {o o' : Nat → Nat} {b : Nat} {cur : Array Value} {C T R : List Value} {cv tv rv hr wr : Value} {xs : List Val} (h : B0 w o b cur C T R cv tv rv hr wr xs) (e : Ev K w o w' o') (hk : ¬ K 6 ∧ ¬ K 7 ∧ ¬ K 8 ∧ ¬ K 10) : B0 w' o' b cur C T R cv tv rv hr wr xs := by
  have hbl := blk_lt h.blk
  have hKb : ¬ K (o b) := by rw [h.ob]; exact hk.2.2.2
  exact ⟨h.rows.evb e hk.2.2.1 (by rw [e.tch.block b hbl hKb]; exact h.blk) h.rows.size h.rows.c2 h.rows.c15 h.rows.c16, by rw [e.old b hbl hKb, h.ob], h.c0, h.c1, h.cs.ev e hk.1, h.ts.ev e hk.2.1, h.c14, h.t14⟩
/-- The book's cells are turned, but for those that B0 knows. -/
theorem B0.put {w w' : World} {o : Nat → Nat} {b : Nat} {cur cur' : Array Value} {C T R : List Value} {cv tv rv hr wr : Value} {xs : List Val} (h : B0 w o b cur C T R cv tv rv hr wr xs) (t : Tch (fun i => i = b) w w') (hs : w'.heap.size = w.heap.size) (hb : w'.heap[b]? = some (.cells cur' 41 (0, 0))) (hsz : cur'.size = 17) (c0 : cur'[0]? = some cv) (c1 : cur'[1]? = some tv) (c2 : cur'[2]? = some rv) (c15 : cur'[15]? = some hr) (c16 : cur'[16]? = some wr) : B0 w' o b cur' C T R cv tv rv hr wr xs ∧ Ev (fun j => j = 10) w o w' o := by
  have e : Ev (fun j => j = 10) w o w' o := ⟨t.mono (fun i _ hi => by rw [show i = b from hi]; exact h.ob), fun _ _ _ => rfl, fun _ _ h => h, fun i hi hl => by omega⟩
  exact ⟨⟨h.rows.evb e (by omega) hb hsz c2 c15 c16, h.ob, c0, c1, h.cs.ev e (by omega), h.ts.ev e (by omega), h.c14, h.t14⟩, e⟩
/-- The book. -/
structure BB (w : World) (o : Nat → Nat) (b : Nat) (C T R : List Value) (cv tv rv hr wr : Value) (xs : List Val) (h : Tbl) (hc wc : Value) (hl wl : Value) (Ph Pw : List (Tbl × Value)) : Prop where
  b0 : B0 w o b (bkA cv tv rv h hc h wc hl wl hr wr) C T R cv tv rv hr wr xs
  held : RowC w o 11 hc h.cols
  was : RowC w o 12 wc h.cols
  c8 : h.cols.length ≤ 8
  hlO : TabsO w o 13 hl Ph
  wlO : TabsO w o 14 wl Pw
  same : Ph.map Prod.fst = Pw.map Prod.fst
  len : Ph.length ≤ 16
  p8 : ∀ i (hi : i < Ph.length), Ph[i].1.cols.length ≤ 8
def BE (w : World) (o : Nat → Nat) (b n : Nat) : Prop := ∃ C T R cv tv rv hr wr xs h hc wc hl wl Ph Pw, BB w o b C T R cv tv rv hr wr xs h hc wc hl wl Ph Pw ∧ C.length ≤ n ∧ T.length ≤ n ∧ R.length ≤ n
theorem BB.ev {K : Nat → Prop} {w w' : World} {o o' : Nat → Nat} {b : Nat} {C T R : List Value} {cv tv rv hr wr : Value} {xs : List Val} {h : Tbl} {hc wc hl wl : Value} {Ph Pw : List (Tbl × Value)} (s : BB w o b C T R cv tv rv hr wr xs h hc wc hl wl Ph Pw) (e : Ev K w o w' o') (hk : ∀ j, 6 ≤ j → j ≤ 14 → ¬ K j) : BB w' o' b C T R cv tv rv hr wr xs h hc wc hl wl Ph Pw :=
  ⟨s.b0.ev e ⟨hk 6 (by omega) (by omega), hk 7 (by omega) (by omega), hk 8 (by omega) (by omega), hk 10 (by omega) (by omega)⟩, s.held.ev e (hk 11 (by omega) (by omega)), s.was.ev e (hk 12 (by omega) (by omega)), s.c8, s.hlO.ev e (hk 13 (by omega) (by omega)), s.wlO.ev e (hk 14 (by omega) (by omega)), s.same, s.len, s.p8⟩
theorem BE.ev {K : Nat → Prop} {w w' : World} {o o' : Nat → Nat} {b n : Nat} (s : BE w o b n) (e : Ev K w o w' o') (hk : ∀ j, 6 ≤ j → j ≤ 14 → ¬ K j) : BE w' o' b n := by
  obtain ⟨C, T, R, cv, tv, rv, hr, wr, xs, h, hc, wc, hl, wl, Ph, Pw, s, h1⟩ := s
  exact ⟨C, T, R, cv, tv, rv, hr, wr, xs, h, hc, wc, hl, wl, Ph, Pw, s.ev e hk, h1⟩
theorem BE.mono {w : World} {o : Nat → Nat} {b n m : Nat} (s : BE w o b n) (h : n ≤ m) : BE w o b m := by
  obtain ⟨C, T, R, cv, tv, rv, hr, wr, xs, h', hc, wc, hl, wl, Ph, Pw, s, h1, h2, h3⟩ := s
  exact ⟨C, T, R, cv, tv, rv, hr, wr, xs, h', hc, wc, hl, wl, Ph, Pw, s, by omega, by omega, by omega⟩
/-- Another owner. -/
def rlb (o : Nat → Nat) (a b : Nat) : Nat → Nat := fun i => if o i = a then b else o i
theorem Ev.relab (w : World) (o : Nat → Nat) (a b : Nat) : Ev (fun k => k = a ∨ k = b) w o w (rlb o a b) := by
  refine ⟨Tch.refl _ _, fun i _ hn => if_neg (fun e => hn (Or.inl e)), fun i _ hk => ?_, fun i hi hl => by omega⟩
  show rlb o a b i = a ∨ rlb o a b i = b
  unfold rlb
  split
  · exact Or.inr rfl
  · rename_i hne
    exact hk.elim (fun e => absurd e hne) Or.inr
theorem RowC.relab {w : World} {o : Nat → Nat} {a : Nat} {v : Value} {l : List Col} (h : RowC w o a v l) (b : Nat) : RowC w (rlb o a b) b v l := ⟨h.row, fun g hg => if_pos (h.lab g hg)⟩
theorem TabsO.relab {w : World} {o : Nat → Nat} {a : Nat} {v : Value} {P : List (Tbl × Value)} (h : TabsO w o a v P) (b : Nat) : TabsO w (rlb o a b) b v P := ⟨h.to, fun g hg => if_pos (h.lab g hg)⟩
theorem RowC.sl {w : World} {o : Nat → Nat} {k : Nat} {ao : Option Addr} {c : Nat} {l : List Col} (h : RowC w o k (.slice ao l.length c) l) : SL w ao (ccl l) := own_sl h.row
theorem RowC.slice {w : World} {o : Nat → Nat} {k : Nat} {v : Value} {l : List Col} (h : RowC w o k v l) : ∃ ao c, v = .slice ao l.length c := row_slice h.row
end Go.Proofs.Ytolamjipigfocaa
