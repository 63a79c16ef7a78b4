import Derived.Test.YtkcmpipipelgoaaCTO
import Derived.Test.YtkcmpipipelgoaaKFr
import Derived.Test.YtkcmpipipelgoaaKMarks
/- The law's same, of two that are the same. -/
namespace Go.Proofs.Ytkcmpipipelgoaa
open Go.RowKit Go

set_option maxHeartbeats 2000000 in
set_option maxRecDepth 100000 in
theorem same_true (t : Tbl) (ao bo : Option Addr) (ac bc : Nat) (w : World) (hA : SL w ao (ccl t.cols)) (hB : SL w bo (ccl t.cols)) (hl : t.cols.length ≤ 1099511627776) :
    Calls Try.prog 31 #[tA t.id t.ver t.nm (.slice ao t.cols.length ac) t.key, tA t.id t.ver t.nm (.slice bo t.cols.length bc) t.key] w fun x w' => x = .returned (.bool true) ∧ Tch (fun _ => False) w w' := by
  obtain ⟨n, hn⟩ : ∃ n, n = t.cols.length := ⟨_, rfl⟩
  obtain ⟨N, hN⟩ : ∃ N, N = w.heap.size := ⟨_, rfl⟩
  obtain ⟨w0, hw0⟩ : ∃ w0, w0 = (w.alloc (.cells #[.int .i64 t.id, .int .i64 t.ver, .string t.nm, .slice ao n ac, .int .i64 t.key] 36)).alloc (.cells #[.int .i64 t.id, .int .i64 t.ver, .string t.nm, .slice bo n bc, .int .i64 t.key] 36) := ⟨_, rfl⟩
  have t0 : Tch (fun _ => False) w w0 := by rw [hw0]; exact (Tch.alloc _ _ _).allocR _
  have hX : w0.heap[N]? = some (.cells #[.int .i64 t.id, .int .i64 t.ver, .string t.nm, .slice ao n ac, .int .i64 t.key] 36 (0, 0)) := by
    rw [hw0, hN]; exact (Tch.alloc (fun _ => False) _ _).block _ (by simp) (fun h => h) |>.trans (alloc_new _ _)
  have hY : w0.heap[N + 1]? = some (.cells #[.int .i64 t.id, .int .i64 t.ver, .string t.nm, .slice bo n bc, .int .i64 t.key] 36 (0, 0)) := by
    rw [hw0, hN, ← World.size_alloc]; exact alloc_new _ _
  have HB : Hid (∀ W, Tch (fun _ => False) w0 W → W.cell? ⟨N, 3, none⟩ = some (.slice ao n ac) ∧ W.cell? ⟨N + 1, 3, none⟩ = some (.slice bo n bc) ∧ SL W ao (ccl t.cols) ∧ SL W bo (ccl t.cols)) := fun W tW => by
    have h1 : W.heap[N]? = _ := (tW.block N (blk_lt hX) (fun h => h)).trans hX
    have h2 : W.heap[N + 1]? = _ := (tW.block (N + 1) (blk_lt hY) (fun h => h)).trans hY
    exact ⟨by rw [blk_cell h1]; rfl, by rw [blk_cell h2]; rfl, hA.no (t0.trans' tW), hB.no (t0.trans' tW)⟩
  have HT0 : Hid (Tch (fun _ => False) w w0) := t0
  have Hw0 : Hid _ := hw0
  have HN : Hid (N = w.heap.size) := hN
  have Hn : Hid (n = t.cols.length) := hn
  have hn8 : n ≤ 1099511627776 := by omega
  rw [← hn]
  clear hA hB hw0 hN hX hY t0 hn
  go_enter Try.func31, Try.ntmps31
  go_wp2_with fail
  have hw0 := Hw0.out
  rw [← hw0]
  rw [← HN.out]
  clear hw0
  go_loopw [5] (fun i wr => ∃ k : Nat, i = .int .i64 k ∧ k ≤ n ∧ Hid (Tch (fun _ => False) w0 wr)) (fun i _ => n - (intOf i).toNat)
  case atStart => exact ⟨0, rfl, by omega, Tch.refl _ _⟩
  case round =>
    obtain ⟨k, rfl, hk, HT⟩ := hrel
    obtain ⟨wV, hwV⟩ : ∃ wV, wV = wr := ⟨_, rfl⟩
    subst hwV
    obtain ⟨b3, b4, s1, s2⟩ := HB.out wV HT.out
    by_cases hlt : (k : Int) < n
    · have hkl : k < t.cols.length := by have := Hn.out; omega
      obtain ⟨ga, oa, rfl, ha⟩ := s1.col hkl
      obtain ⟨gb, ob, rfl, hb⟩ := s2.col hkl
      obtain ⟨c0, c1, c2⟩ := ha.col k hkl
      obtain ⟨d0, d1, d2⟩ := hb.col k hkl
      obtain ⟨x, hx⟩ : ∃ x, x = t.cols[k] := ⟨_, rfl⟩
      rw [← hx] at c0 c1 c2 d0 d1 d2
      obtain ⟨dd, hdd, hnd⟩ := ne_col x x
      obtain rfl : dd = false := by cases dd with
        | false => rfl
        | true => exact absurd rfl (hdd.1 rfl)
      have HTQ : Hid (∀ nq, Tch (fun _ => False) w0 (wV.drewN nq)) := fun nq => HT.out.drewN _
      clear hdd ha hb hx s1 s2 hkl
      go_wp2_with fail
      go_quiet (fail)
      clear c0 c1 c2 d0 d1 d2 hnd b3 b4
      have HTq := HTQ.out nq
      go_wp2_with fail
      go_roundw
      case rel => exact ⟨k + 1, by go_num, by omega, HTq⟩
      case measure => simp [intOf]; omega
    · go_wp2_with fail
      go_ret
      exact ⟨rfl, HT0.out.trans' HT.out⟩
end Go.Proofs.Ytkcmpipipelgoaa
/- The law's world, by owners: 1, 2 the code's histories, 3, 4 the document's, 5 the world itself, 6 lists of columns, 7 lists of tables, 8 the list of what is untouched still, 9 columns of that, 10 what they must read as, 11 the memory that is lent, 12, 13, 14 lists at hand, 0 what else there is. -/
namespace Go.Proofs.Ytkcmpipipelgoaa
open Go.RowKit Go

structure LW (w : World) (o : Nat → Nat) (b : Nat) (cur : Array Value) (C T : List Value) (cv tv : Value) (lo : Option Addr) (n lc : Nat) (L : List Fr) : Prop where
  blk : w.heap[b]? = some (.cells cur 59 (0, 0))
  sz : cur.size = 8
  own : o b = 5
  c4 : cur[4]? = some cv
  c5 : cur[5]? = some tv
  c6 : cur[6]? = some (.slice lo n lc)
  cs : LSb 34 w (fun i => o i ≠ 6) b mkC C cv
  ts : LSb 41 w (fun i => o i ≠ 7) b mkT T tv
  c20 : C.length % 20 = 0
  t20 : T.length % 20 = 0
  fl : w.ownsRow 0 108 11 (.slice lo n lc) n (fcl L)
  fo : ∀ g, ob lo = some g → o g = 8
  len : n = L.length
  fv : ∀ f ∈ L, RowC w o 9 f.v f.t.cols ∧ RowC w o 10 f.u f.t.cols ∧ f.t.cols.length ≤ 8 ∧ 0 ≤ f.a ∧ f.a ≤ 1
  ap : L.Pairwise (fun a c => ∀ g, a.v.ownBlock = some g → c.v.ownBlock ≠ some g)
theorem LW.ev {K : Nat → Prop} {w w' : World} {o o' : Nat → Nat} {b : Nat} {cur : Array Value} {C T : List Value} {cv tv : Value} {lo : Option Addr} {n lc : Nat} {L : List Fr} (h : LW w o b cur C T cv tv lo n lc L) (e : Ev K w o w' o') (hk : ∀ j, 5 ≤ j → j ≤ 10 → ¬ K j) : LW w' o' b cur C T cv tv lo n lc L := by
  have hbl := blk_lt h.blk
  have hKb : ¬ K (o b) := by rw [h.own]; exact hk 5 (by omega) (by omega)
  refine ⟨(e.tch.block b hbl hKb).trans h.blk, h.sz, by rw [e.old b hbl hKb, h.own], h.c4, h.c5, h.c6, h.cs.ev e (hk 6 (by omega) (by omega)), h.ts.ev e (hk 7 (by omega) (by omega)), h.c20, h.t20, own_tch h.fl e.tch (fun g hg hs => ?_), fun g hg => ?_, h.len, fun f hf => ?_, h.ap⟩
  · rw [ob_eq] at hg
    rw [h.fo g hg] at hs
    exact hk 8 (by omega) (by omega) hs
  · rw [e.old g (h.fl.lt g (by rw [ob_eq]; exact hg)).2 (by rw [h.fo g hg]; exact hk 8 (by omega) (by omega)), h.fo g hg]
  · obtain ⟨h1, h2, h3⟩ := h.fv f hf
    exact ⟨h1.ev e (hk 9 (by omega) (by omega)), h2.ev e (hk 10 (by omega) (by omega)), h3⟩
/-- One of the world's own cells is turned: none of those that LW knows. -/
theorem LW.put {w : World} {o : Nat → Nat} {b : Nat} {cur : Array Value} {C T : List Value} {cv tv : Value} {lo : Option Addr} {n lc : Nat} {L : List Fr} (h : LW w o b cur C T cv tv lo n lc L) (i : Nat) (v : Value) (hi : i ≠ 4 ∧ i ≠ 5 ∧ i ≠ 6) : LW (w.setCell ⟨b, i, none⟩ v) o b (cur.setIfInBounds i v) C T cv tv lo n lc L := by
  have t : Tch (fun g => g = b) w (w.setCell ⟨b, i, none⟩ v) := Tch.setCell (fun g => g = b) w ⟨b, i, none⟩ _ rfl
  have hr : ∀ {k : Nat} {v : Value} {l : List Col}, k ≠ 5 → RowC w o k v l → RowC (w.setCell ⟨b, i, none⟩ v) o k v l := fun {k v l} hk hR => ⟨own_tch hR.row (Tch.setCell (fun g => g = b) w ⟨b, i, none⟩ _ rfl) (fun g hg e => by have e' : g = b := e; have := hR.lab g hg; rw [e', h.own] at this; exact hk this.symm), hR.lab⟩
  refine ⟨blk_set h.blk v, by rw [Array.size_setIfInBounds]; exact h.sz, h.own, ?_, ?_, ?_, h.cs.tch t (fun g e => .inl e), h.ts.tch t (fun g e => .inl e), h.c20, h.t20, own_tch h.fl t (fun g hg e => ?_), h.fo, h.len, fun f hf => ?_, h.ap⟩
  · rw [Array.getElem?_setIfInBounds_ne hi.1]; exact h.c4
  · rw [Array.getElem?_setIfInBounds_ne hi.2.1]; exact h.c5
  · rw [Array.getElem?_setIfInBounds_ne hi.2.2]; exact h.c6
  · rw [ob_eq] at hg
    have e' : g = b := e
    have := h.fo g hg
    rw [e', h.own] at this
    omega
  · obtain ⟨h1, h2, h3⟩ := h.fv f hf
    have g1 : RowC (w.setCell ⟨b, i, none⟩ v) o 9 f.v f.t.cols := ⟨own_tch h1.row t (fun g hg e => by have e' : g = b := e; have := h1.lab g hg; rw [e', h.own] at this; omega), h1.lab⟩
    have g2 : RowC (w.setCell ⟨b, i, none⟩ v) o 10 f.u f.t.cols := ⟨own_tch h2.row t (fun g hg e => by have e' : g = b := e; have := h2.lab g hg; rw [e', h.own] at this; omega), h2.lab⟩
    exact ⟨g1, g2, h3⟩
/-- Blocks V have come to the columns of what is untouched still. -/
structure Ow (w : World) (o : Nat → Nat) (w' : World) (o' : Nat → Nat) (V : Nat → Prop) : Prop where
  tch : Tch (fun i => o i = 5 ∨ o i = 8) w w'
  old : ∀ i, i < w.heap.size → ¬ V i → o' i = o i
  vs : ∀ i, V i → o' i = 9
  new : ∀ i, w.heap.size ≤ i → i < w'.heap.size → o' i = 0 ∨ o' i = 8 ∨ o' i = 10
theorem Ow.ev {w w' : World} {o o' : Nat → Nat} {V : Nat → Prop} (h : Ow w o w' o' V) {k : Nat} (hV : ∀ i, V i → o i = k) : Ev (fun j => j = 0 ∨ j = 5 ∨ j = 8 ∨ j = 9 ∨ j = 10 ∨ j = k) w o w' o' := by
  refine ⟨h.tch.mono (fun i _ hi => by rcases hi with e | e <;> omega), fun i hi hn => h.old i hi (fun hv => hn (by have := hV i hv; omega)), fun i hi hk => ?_, fun i hi hl => by have := h.new i hi hl; omega⟩
  by_cases hv : V i
  · have := h.vs i hv; omega
  · rw [h.old i hi hv]; exact hk

theorem owned_o {w : World} {o : Nat → Nat} {b : Nat} {cur : Array Value} {C T : List Value} {cv tv : Value} {lo : Option Addr} {n lc : Nat} {L : List Fr} (h : LW w o b cur C T cv tv lo n lc L) (t : Tbl) (v : Value) (k : Nat) (hv : RowC w o k v t.cols) (hk : k < 5 ∨ 10 < k) (h8 : t.cols.length ≤ 8) (hl : n ≤ 1000000000000) :
    Calls Try.prog 35 #[.pointer (some ⟨b, 0, none⟩), tA t.id t.ver t.nm v t.key] w fun x w' => x = .returned (.tuple #[]) ∧ ∃ o' u lo' lc', LW w' o' b (cur.setIfInBounds 6 (.slice lo' (n + 1) lc')) C T cv tv lo' (n + 1) lc' (L ++ [⟨t, v, u, 0⟩]) ∧ Ow w o w' o' (fun i => v.ownBlock = some i) := by
  obtain ⟨ao, c, rfl⟩ := row_slice hv.row
  have hlb : ob lo ≠ some b := fun e => by have := h.fo b e; rw [h.own] at this; omega
  refine (owned_any b cur lo n lc L t ao c w h.blk h.sz h.c6 h.fl h.len hl hlb (own_sl hv.row) (fun e => ?_) (by omega)).mono ?_
  · subst e
    obtain ⟨e1, e2, _⟩ := own_none hv.row
    exact ⟨List.eq_nil_of_length_eq_zero e1, e2⟩
  · rintro x w' ⟨rfl, ⟨u, lo', lc', hb', hf', hu', hat, hne⟩, t'⟩
    obtain ⟨o', ho'⟩ : ∃ o' : Nat → Nat, o' = fun i => if (Value.slice ao t.cols.length c).ownBlock = some i then 9 else if i < w.heap.size then o i else if ob lo' = some i then 8 else if u.ownBlock = some i then 10 else 0 := ⟨_, rfl⟩
    have o1 : ∀ i, (Value.slice ao t.cols.length c).ownBlock = some i → o' i = 9 := fun i e => by rw [ho']; exact if_pos e
    have o2 : ∀ i, i < w.heap.size → ¬ (Value.slice ao t.cols.length c).ownBlock = some i → o' i = o i := fun i hi e => by rw [ho']; show (if _ then _ else _) = _; rw [if_neg e, if_pos hi]
    have hvlt : ∀ g, (Value.slice ao t.cols.length c).ownBlock = some g → g < w.heap.size := fun g e => (hv.row.lt g e).2
    have o3 : ∀ i, w.heap.size ≤ i → ob lo' = some i → o' i = 8 := fun i hi e => by rw [ho']; show (if _ then _ else _) = _; rw [if_neg (fun e2 => by have := hvlt i e2; omega), if_neg (by omega), if_pos e]
    have o4 : ∀ i, u.ownBlock = some i → o' i = 10 := fun i e => by
      have := (hu'.lt i e).1
      rw [ho']; show (if _ then _ else _) = _
      rw [if_neg (fun e2 => by have := hvlt i e2; omega), if_neg (by omega), if_neg (hne i e), if_pos e]
    have hOw : Ow w o w' o' (fun i => (Value.slice ao t.cols.length c).ownBlock = some i) := by
      refine ⟨t'.mono (fun i _ e => ?_), o2, o1, fun i hi _ => ?_⟩
      · rcases e with e | e
        · left; rw [e, h.own]
        · right; exact h.fo i e
      · rw [ho']
        show (if _ then _ else _) = 0 ∨ (if _ then _ else _) = 8 ∨ (if _ then _ else _) = 10
        rw [if_neg (fun e2 => by have := hvlt i e2; omega), if_neg (by omega)]
        by_cases e1 : ob lo' = some i
        · rw [if_pos e1]; omega
        · rw [if_neg e1]
          by_cases e2 : u.ownBlock = some i
          · rw [if_pos e2]; omega
          · rw [if_neg e2]; omega
    have hsz := t'.size
    have hnv : ∀ i j, o i = j → j ≠ k → ¬ (Value.slice ao t.cols.length c).ownBlock = some i := fun i j e hj e2 => hj (by rw [← e]; exact hv.lab i e2)
    have hev := hOw.ev (k := k) hv.lab
    have hrow : ∀ (j : Nat) (x : Value) (l : List Col), j ≠ k → j ≠ 5 → j ≠ 8 → RowC w o j x l → RowC w' o' j x l := fun j x l h1 h2 h3 hR => ⟨own_tch hR.row hOw.tch (fun g hg e => by have := hR.lab g hg; omega), fun g hg => by rw [o2 g (hR.row.lt g hg).2 (hnv g j (hR.lab g hg) h1)]; exact hR.lab g hg⟩
    refine ⟨rfl, o', u, lo', lc', ⟨hb', by rw [Array.size_setIfInBounds]; exact h.sz, by rw [o2 b (blk_lt h.blk) (hnv b 5 h.own (by omega)), h.own], by rw [Array.getElem?_setIfInBounds_ne (by decide)]; exact h.c4, by rw [Array.getElem?_setIfInBounds_ne (by decide)]; exact h.c5, by rw [Array.getElem?_setIfInBounds_self_of_lt (by rw [h.sz]; decide)], ?_, ?_, h.c20, h.t20, hf', fun g e => ?_, by rw [List.length_append, ← h.len]; rfl, fun f hf => ?_, ?_⟩, hOw⟩
    · exact h.cs.ev hev (by omega)
    · exact h.ts.ev hev (by omega)
    · rcases hat with e1 | ⟨g', e1, e2, _⟩
      · rw [e1] at e
        rw [o2 g (h.fl.lt g (by rw [ob_eq]; exact e)).2 (hnv g 8 (h.fo g e) (by omega)), h.fo g e]
      · have : g = g' := by rw [e1] at e; injection e with e; exact e.symm
        exact o3 g (by omega) e
    · rcases List.mem_append.1 hf with e | e
      · obtain ⟨h1, h2, h3⟩ := h.fv f e
        exact ⟨hrow 9 _ _ (by omega) (by omega) (by omega) h1, hrow 10 _ _ (by omega) (by omega) (by omega) h2, h3⟩
      · rw [List.mem_singleton.1 e]
        exact ⟨⟨own_tch hv.row hOw.tch (fun g hg e2 => by have := hv.lab g hg; omega), o1⟩, ⟨own_low hu' (Nat.zero_le _), o4⟩, h8, by show (0 : Int) ≤ 0; omega, by show (0 : Int) ≤ 1; omega⟩
    · refine List.pairwise_append.2 ⟨h.ap, List.pairwise_singleton _ _, fun a ha d hd g e e2 => ?_⟩
      rw [List.mem_singleton.1 hd] at e2
      have h1 := (h.fv a ha).1.lab g e
      have h2 := hv.lab g e2
      omega
/-- Blocks V have come to the lists of columns. -/
structure Mk (w : World) (o : Nat → Nat) (w' : World) (o' : Nat → Nat) (V : Nat → Prop) : Prop where
  tch : Tch (fun i => o i = 5 ∨ o i = 6 ∨ V i) w w'
  old : ∀ i, i < w.heap.size → ¬ V i → o' i = o i
  vs : ∀ i, V i → o' i = 6
  new : ∀ i, w.heap.size ≤ i → o' i = 6
theorem marks_o (w : World) (o : Nat → Nat) (b : Nat) (cur : Array Value) (C : List Value) (cv v : Value) (cols : List Col) (a0 a1 : Int) (a2 : ByteArray) (a4 : Int)
    (hb : w.heap[b]? = some (.cells cur 59 (0, 0))) (hs : cur.size = 8) (ho : o b = 5) (hc : cur[4]? = some cv) (hL : LSb 34 w (fun i => o i ≠ 6) b mkC C cv) (hv : w.ownsRow 0 80 3 v cols.length (ccl cols)) (hn : cols.length ≤ 8) (hg : ∀ g, v.ownBlock = some g → o g = 9) (hA : C.length ≤ 1099511627776) (h20 : C.length % 20 = 0) :
    Calls Try.prog 53 #[.pointer (some ⟨b, 0, none⟩), tA a0 a1 a2 v a4] w fun x w' => x = .returned (.tuple #[]) ∧ ∃ o' cv' C', C'.length = C.length + 20 ∧ w'.heap[b]? = some (.cells (cur.setIfInBounds 4 cv') 59 (0, 0)) ∧ LSb 34 w' (fun i => o' i ≠ 6) b mkC C' cv' ∧ Mk w o w' o' (fun i => v.ownBlock = some i) := by
  refine (marks_any b cur C cv v cols.length (ccl cols) (fun i => i < w.heap.size ∧ o i ≠ 6 ∧ v.ownBlock ≠ some i) a0 a1 a2 a4 w hb hs hc (hL.fresh (fun i hi hf => ?_)) hv hn (fun g e => ⟨fun e2 => ?_, fun hf => hf.2.2 e⟩) (fun i hi => hi.1) hA h20).mono ?_
  · rcases hf with h1 | h1
    · exact h1.2.1
    · rw [hg i h1]; decide
  · have := hg g e
    rw [e2, ho] at this
    omega
  · rintro x w' ⟨rfl, ⟨cv', C', hC', hb', hL'⟩, t⟩
    let o' : Nat → Nat := fun i => if v.ownBlock = some i then 6 else if i < w.heap.size then o i else 6
    refine ⟨rfl, o', cv', C', hC', hb', hL'.ext (fun i hi hib hf => ?_), ⟨t.mono (fun i _ h => ?_), fun i hi hn => ?_, fun i hV => if_pos hV, fun i hi => ?_⟩⟩
    · have hf' : (if v.ownBlock = some i then 6 else if i < w.heap.size then o i else 6) ≠ 6 := hf
      split at hf'
      · exact absurd rfl hf'
      · rename_i h1
        split at hf'
        · rename_i h2; exact ⟨h2, hf', h1⟩
        · exact absurd rfl hf'
    · rcases h with h | h | h
      · left; rw [h, ho]
      · exact Or.inr (Or.inl (Classical.byContradiction fun e => (hL.ag i h).2 e))
      · exact Or.inr (Or.inr h)
    · show (if v.ownBlock = some i then 6 else if i < w.heap.size then o i else 6) = o i
      rw [if_neg hn, if_pos hi]
    · show (if v.ownBlock = some i then 6 else if i < w.heap.size then o i else 6) = 6
      split
      · rfl
      · rw [if_neg (by omega)]
end Go.Proofs.Ytkcmpipipelgoaa
