import Derived.Test.YtclfaflmjgpbhaaUMl4
/- MergeLists: behind the book's loop. -/
namespace Go.Proofs.Ytclfaflmjgpbhaa
open Go.RowKit Go

theorem Lw.rl {W : World} {gO : Nat} {w : World} {g cp : Nat} {u u' : List Rc} (hw : Lw W gO w g cp u u') : RL (DW w) w.heap.size w (some ⟨g, 0, none⟩) cp u' ∧ u.length + 1 ≤ cp ∧ cp ≤ 9223372036854775807 := by
  have hlen := hw.el.len
  obtain ⟨cu, hc⟩ := own_ty hw.own (g := g) rfl
  obtain ⟨h1, h2⟩ := own_cap hw.own
  refine ⟨⟨by omega, h2, fun _ => ⟨g, 0, blk_lt hc, rfl, fun j v hv => ?_⟩, fun c' hc' => ?_⟩, h1, h2⟩
  · have := hw.own.cells (g := g) rfl j v (by rw [kcl_snoc, List.getElem?_append_left (List.getElem?_eq_some_iff.1 hv).1]; exact hv)
    rw [add_plain] at this; exact this
  · obtain ⟨i, hi⟩ := List.getElem?_of_mem hc'
    obtain ⟨c, _, r⟩ := hw.el.get' hi
    have e := r.dw
    refine ⟨by rw [e]; exact r.ro, by rw [e]; exact r.rn, fun a ha _ => ?_, fun a ha _ => ?_⟩
    · rcases id r.own.o.2 with ⟨e2, _⟩ | ⟨g2, _, _, e2, _, hg2, _⟩
      · simp [ha] at e2
      · simp only [Value.slice.injEq] at e2
        rw [ha] at e2
        have : a = ⟨g2, 0, none⟩ := by simpa using e2.1
        subst this
        exact blk_lt hg2
    · rcases id r.own.n.2 with ⟨e2, _⟩ | ⟨g2, _, _, e2, _, hg2, _⟩
      · simp [ha] at e2
      · simp only [Value.slice.injEq] at e2
        rw [ha] at e2
        have : a = ⟨g2, 0, none⟩ := by simpa using e2.1
        subst this
        exact blk_lt hg2
theorem P4.still {W w3 : World} {N2 : Nat} {outr out' : List Rc} {aa : Option Addr} {ca : Nat} {ba : Option Addr} {cb : Nat} (h0 : B0 W w3 N2 outr out' aa ca ba cb) {i : Nat} {wr wq : World} {rv : Value} {cur : Array Value} {A : List Value} (h : P4 w3 N2 out' aa ca i wr rv cur A) (t : Tch (fun g => (Value.slice aa out'.length ca).ownBlock = some g ∨ wr.heap.size ≤ g) wr wq) (hi : i ≤ 2000000) :
    Calls Try.prog 19 #[.pointer (some ⟨w3.heap.size, 0, none⟩)] wq fun e w' => e = .returned (.bool true) ∧ w' = wq := by
  have hal := h.al
  have t' : Tch (fun g => (Value.slice aa out'.length ca).ownBlock = some g) wr wq := t.mono (fun g hg e => e.elim id (fun e => by omega))
  have aFq : ∀ g, (Value.slice aa out'.length ca).ownBlock = some g → Fq w3.heap.size out' i g := fun g e => ⟨(h0.a.lt g e).2, fun j d hd _ hb => by
    obtain ⟨cd, _, rd⟩ := h0.out hd
    obtain ⟨cu, hcu⟩ := rd.own.bty hb
    obtain ⟨cv, hcv⟩ := own_ty h0.a e
    exact ne_ty hcu hcv (by decide) rfl⟩
  exact still_any w3.heap.size cur A rv (Fq w3.heap.size out' i) wq ((t'.block _ (blk_lt h.blk) (fun e => by have := (h0.a.lt _ e).2; omega)).trans h.blk) h.c0 (h.ls.tch t' (fun g e => .inr (aFq g e))) (by omega)
theorem P4.all {W w3 : World} {N2 : Nat} {outr out' : List Rc} {aa : Option Addr} {ca : Nat} {ba : Option Addr} {cb : Nat} (h0 : B0 W w3 N2 outr out' aa ca ba cb) {i : Nat} {wr wq : World} {rv : Value} {cur : Array Value} {A : List Value} (h : P4 w3 N2 out' aa ca i wr rv cur A) (t : Tch (fun g => (Value.slice aa out'.length ca).ownBlock = some g ∨ wr.heap.size ≤ g) wr wq) {w0 : World} (t0 : Tch (fun _ => False) w0 w3) (hN : N2 = w0.heap.size) : Tch (fun g => w0.heap.size ≤ g) w0 wq := by
  rw [← hN]
  refine ((t0.mono (fun _ _ h => h.elim)).trans (P4.low h0 h.tch) (fun _ _ e => e)).trans t (fun g hg e => ?_)
  rcases e with e | e
  · exact (h0.a.lt g e).1
  · have h1 := t0.size
    have h2 := h.tch.size
    show N2 ≤ g
    omega
/-- A list of the law, in the last loop. -/
structure At7 (W : World) (gO : Nat) (w8 : World) (lo ra : Option Addr) (q : Nat) (u u' : List Rc) (g cp gr gl ol : Nat) (ua : Option Addr) (ucp : Nat) : Prop where
  rr : ra = some ⟨gr, 0, none⟩
  ll : lo = some ⟨gl, ol, none⟩
  len : u'.length = u.length
  le : u.length + 1 ≤ cp
  mx : cp ≤ 9223372036854775807
  uc : u.length ≤ ucp
  um : ucp ≤ 9223372036854775807
  el : ∀ Wy, Tch (fun _ => False) w8 Wy → Wy.cell? ⟨gr, q, none⟩ = some (.slice (some ⟨g, 0, none⟩) (u.length + 1) cp) ∧ Wy.cell? ⟨gO, q, none⟩ = some (.slice (some ⟨g, 0, none⟩) u.length cp) ∧ Wy.cell? ⟨g, u.length * 6, none⟩ = some (.int .i64 (-77)) ∧ Wy.cell? ⟨gl, ol + q, none⟩ = some (.slice ua u.length ucp) ∧ Lw W gO Wy g cp u u' ∧ RL (DW W) W.heap.size Wy ua ucp u ∧ Tch (fun g => W.heap.size ≤ g) W Wy
theorem P1.at {W : World} {gO : Nat} {ls : List (List Rc)} {n : Nat} {w8 : World} {oc : Array Value} {hr : List Value} {ls' : List (List Rc)} (h : P1 W gO ls n w8 oc hr ls') {ra : Option Addr} {rc : Nat} (hR : w8.ownsRow (gO + 1) 28 1 (.slice ra n rc) n hr) (hg : gO = W.heap.size) (hn : n = ls.length) {lo : Option Addr} {hd : List Value} (hL : LLs (DW W) W.heap.size W lo hd ls) {q : Nat} (hq : q < n) :
    ∃ u u' g cp gr gl ol ua ucp, ls[q]? = some u ∧ At7 W gO w8 lo ra q u u' g cp gr gl ol ua ucp := by
  have tw : Tch (fun g => W.heap.size ≤ g) W w8 := h.tch.mono (fun k _ e => by show W.heap.size ≤ k; omega)
  have hu : ls[q]? = some (ls[q]'(by omega)) := List.getElem?_eq_getElem (by omega)
  have hu' : ls'[q]? = some (ls'[q]'(by rw [h.len]; exact hq)) := List.getElem?_eq_getElem (by rw [h.len]; exact hq)
  obtain ⟨g, cp, e1, e2, hw⟩ := h.el q _ _ hu hu'
  obtain ⟨hrl, h1, h2⟩ := hw.rl
  obtain ⟨gl, ol, ua, ucp, hlo, cl, hul⟩ := (hL.tch tw).get (i := q) (by omega)
  obtain ⟨gr, rcap, hra, _, _, _, hc, _⟩ := own_at hR (by omega)
  simp only [Value.slice.injEq] at hra
  obtain ⟨rfl, _, rfl⟩ := hra
  have x1 : w8.cell? ⟨gr, q, none⟩ = some (.slice (some ⟨g, 0, none⟩) ((ls[q]'(by omega)).length + 1) cp) := by have := hc q _ e2; rwa [Nat.zero_add] at this
  have x2 : w8.cell? ⟨gO, q, none⟩ = some (.slice (some ⟨g, 0, none⟩) (ls[q]'(by omega)).length cp) := (blk_cell h.blk q).trans e1
  have x3 : w8.cell? ⟨g, (ls[q]'(by omega)).length * 6, none⟩ = some (.int .i64 (-77)) := by
    obtain ⟨g', eg, _, hx⟩ := own_nth hw.own (k := (ls[q]'(by omega)).length) (c := r77) (by rw [hw.el.len, List.getElem?_append_right (Nat.le_refl _)]; simp)
    have : g = g' := by simpa using eg
    subst this
    exact hx 0 _ rfl
  refine ⟨_, _, g, cp, gr, gl, ol, ua, ucp, hu, ⟨rfl, hlo, hw.el.len.symm, h1, h2, hul.len, hul.cap, fun Wy t => ⟨?_, ?_, ?_, ?_, hw.tch t (fun _ _ _ h => h) (fun _ _ _ h => h), hul.no t, tw.trans t (fun _ _ h => h.elim)⟩⟩⟩
  · exact (t.cell (p := ⟨gr, q, none⟩) (cell_lt x1) (fun h => h)).trans x1
  · exact (t.cell (p := ⟨gO, q, none⟩) (cell_lt x2) (fun h => h)).trans x2
  · exact (t.cell (p := ⟨g, (ls[q]'(by omega)).length * 6, none⟩) (cell_lt x3) (fun h => h)).trans x3
  · exact (t.cell (p := ⟨gl, ol + q, none⟩) (cell_lt cl) (fun h => h)).trans cl
def lit (a : Int) : Rc := ⟨a, 0, 0, 0, none, 0, 0, none, 0, 0⟩
theorem rising_lit (a b : Int) (w : World) : Calls Try.prog 21 #[.slice (some ⟨w.heap.size, 0, none⟩) 2 2] (w.alloc (.cells #[.int .i64 a, .int .i64 0, .int .i64 0, .int .i64 0, .slice none 0 0, .slice none 0 0, .int .i64 b, .int .i64 0, .int .i64 0, .int .i64 0, .slice none 0 0, .slice none 0 0] 27)) fun e w' => e = .returned (.bool (decide (a < b))) ∧ Tch (fun _ => False) w w' := by
  obtain ⟨w1, hw1⟩ : ∃ w1, w1 = w.alloc (.cells #[.int .i64 a, .int .i64 0, .int .i64 0, .int .i64 0, .slice none 0 0, .slice none 0 0, .int .i64 b, .int .i64 0, .int .i64 0, .int .i64 0, .slice none 0 0, .slice none 0 0] 27) := ⟨_, rfl⟩
  have t1 : Tch (fun _ => False) w w1 := by rw [hw1]; exact Tch.alloc _ _ _
  have hb : w1.heap[w.heap.size]? = some (.cells (kcl [lit a, lit b]).toArray 27 (0, 0)) := by rw [hw1]; exact alloc_new _ _
  have hnil : ∀ w : World, RdR w none 0 0 [] := fun w => ⟨rfl, fun _ h => (by cases h), by omega, .inl ⟨rfl, rfl, rfl⟩⟩
  have hrl : RL (fun _ => ([], [])) (w.heap.size + 1) w1 (some ⟨w.heap.size, 0, none⟩) 2 [lit a, lit b] := by
    refine ⟨by simp, by omega, fun _ => ⟨w.heap.size, 0, by omega, rfl, fun j v hv => ?_⟩, fun c hc => ?_⟩
    · rw [Nat.zero_add, blk_cell hb, List.getElem?_toArray]; exact hv
    · simp only [List.mem_cons, List.not_mem_nil, or_false] at hc
      rcases hc with rfl | rfl
      · exact ⟨hnil w1, hnil w1, fun _ h => (by cases h), fun _ h => (by cases h)⟩
      · exact ⟨hnil w1, hnil w1, fun _ h => (by cases h), fun _ h => (by cases h)⟩
  rw [← hw1]
  refine (rising_any _ _ [lit a, lit b] _ 2 w1 hrl (by simp)).mono ?_
  rintro e w' ⟨⟨d, rfl, hd⟩, t⟩
  have hR : Ris ([lit a, lit b].map Rc.l) ↔ a < b := by
    constructor
    · intro h; exact h 0 a b rfl rfl
    · intro h i x y hx hy
      match i, hx, hy with
      | 0, hx, hy =>
        have e1 : a = x := by simpa [lit] using hx
        have e2 : b = y := by simpa [lit] using hy
        subst e1 e2; exact h
      | i + 1, hx, hy => simp at hy
  refine ⟨?_, t1.trans' t⟩
  by_cases h : a < b
  · rw [hd.2 (hR.2 h), decide_eq_true h]
  · have : d = false := by
      cases d with
      | false => rfl
      | true => exact absurd (hR.1 (hd.1 rfl)) h
    rw [this, decide_eq_false h]
end Go.Proofs.Ytclfaflmjgpbhaa
