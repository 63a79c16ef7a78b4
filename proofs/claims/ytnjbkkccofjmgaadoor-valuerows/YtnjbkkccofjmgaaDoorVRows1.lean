/- ValueRows: lent, asLent, copy, with the block's shape. -/
import Derived.Test.YtnjbkkccofjmgaaDoorVRows0
import Derived.Test.YtnjbkkccofjmgaaDoorVRDec
namespace Go.Proofs.YtnjbkkccofjmgaaDoor
open Go.RowKit Go.Sort

/-- A row that is lent: its block. -/
def LB (base : Nat) (W : World) (xo : Option Addr) (cx n : Nat) : Prop :=
  (xo = none ∧ n = 0 ∧ cx = 0) ∨ ∃ g cur, xo = some ⟨g, 0, none⟩ ∧ base ≤ g ∧ W.heap[g]? = some (.cells cur 23 (0, 0)) ∧ cur.size = cx * 3 ∧ n + 4 ≤ cx
theorem LB.tch {S : Nat → Prop} {base : Nat} {W W' : World} {xo : Option Addr} {cx n : Nat} (h : LB base W xo cx n) (t : Tch S W W') (hS : ∀ i, base ≤ i → ¬ S i) : LB base W' xo cx n := by
  rcases h with h | ⟨g, cur, h1, h2, h3, h4⟩
  · exact Or.inl h
  · exact Or.inr ⟨g, cur, h1, h2, by rw [t.block g (blk_lt h3) (hS g h2)]; exact h3, h4⟩
theorem LB.lt {base : Nat} {W : World} {xo : Option Addr} {cx n i : Nat} (h : LB base W xo cx n) (e : xo = some ⟨i, 0, none⟩) : base ≤ i ∧ i < W.heap.size := by
  rcases h with ⟨h, _⟩ | ⟨g, cur, h1, h2, h3, h4⟩
  · rw [h] at e; cases e
  · rw [h1] at e; injection e with e; injection e with e; subst e; exact ⟨h2, blk_lt h3⟩
theorem lent_b (l : List Val) (ro : Option Addr) (c : Nat) (w : World) (hr : RowOf w ro l) (hn : ro = none → l = [] ∧ c = 0) (hlen : l.length * 32 ≤ 140737488351232) :
    Calls Tryd.prog 17 #[.slice ro l.length c] w fun x w' => ∃ xo cx, x = .returned (.slice xo l.length cx) ∧ (LX w.heap.size w' xo cx ro c l ∧ LB w.heap.size w' xo cx l.length) ∧ Tch (fun _ => False) w w' := by
  cases ro with
  | none =>
    obtain ⟨rfl, rfl⟩ := hn rfl
    refine (rlent_nil w).mono ?_
    rintro x w' ⟨rfl, rfl⟩
    exact ⟨none, 0, rfl, ⟨Or.inl ⟨rfl, rfl, rfl, rfl, rfl⟩, Or.inl ⟨rfl, rfl, rfl⟩⟩, Tch.refl _ _⟩
  | some ad =>
    refine (rlent_any l ad c w (fun j u hu => ?_) hlen).mono ?_
    · obtain ⟨g, o, e, h⟩ := hr (by rintro rfl; simp [rcl] at hu)
      injection e with e
      subst e
      have hadd : (⟨g, o, none⟩ : Addr).add j = ⟨g, o + j, none⟩ := by unfold Addr.add; split <;> simp_all
      rw [hadd]
      exact rowAt_cells h j u hu
    · rintro x w' ⟨g, cap, cur, rfl, hg, hcap, hh, hcs, hct, ht⟩
      refine ⟨some ⟨g, 0, none⟩, cap, rfl, ⟨Or.inr ⟨ad, g, rfl, rfl, hg, blk_lt hh, hcap, rowAt_of (fun j u hu => ?_), fun j => ?_⟩, Or.inr ⟨g, cur, rfl, hg, hh, hcs, hcap⟩⟩, ht⟩
      · rw [blk_cell hh, ← Array.getElem?_toList]
        have hj : j < (l.length + 4) * 3 := by rw [← lentV_len, ← rcl_len]; exact (List.getElem?_eq_some_iff.1 hu).1
        rw [← hct, List.getElem?_take_of_lt hj] at hu
        exact hu
      · simp [World.frozen?, hh]
theorem asLent_b (l : List Val) (ro : Option Addr) (c base : Nat) (xo : Option Addr) (cx : Nat) (w : World) (hx : LX base w xo cx ro c l) (hB : LB base w xo cx l.length) (hr : RowOf w ro l) (hb : l ≠ [] → ∀ g o, ro = some ⟨g, o, none⟩ → g < base) (hlen : l.length * 32 ≤ 140737488351232) :
    Calls Tryd.prog 19 #[.slice xo l.length cx, .slice ro l.length c] w fun x w' => x = .returned (.bool true) ∧ Tch (fun i => base ≤ i) w w' ∧ LB base w' xo cx l.length := by
  rcases hx with ⟨rfl, rfl, rfl, rfl, rfl⟩ | ⟨ad, g, rfl, rfl, h3, h4, h5, h6, h7⟩
  · refine (rasLent_nil _ w).mono ?_
    rintro x w' ⟨rfl, rfl⟩
    exact ⟨rfl, Tch.refl _ _, hB⟩
  · refine (rasLent_blk l ad c g cx w hr (fun h gl o e => by have := hb h gl o (by rw [e]); omega) hlen h5 h6 h7).mono ?_
    rintro x w' ⟨rfl, ht, hs⟩
    refine ⟨rfl, ht.mono (fun i _ h => by subst h; exact h3), ?_⟩
    rcases hB with ⟨h, _⟩ | ⟨g', cur, e1, e2, e3, e4, e5⟩
    · cases h
    · injection e1 with e1
      injection e1 with e1
      subst e1
      obtain ⟨cur', k1, k2⟩ := hs cur e3
      exact Or.inr ⟨g, cur', rfl, e2, k1, by rw [k2]; exact e4, e5⟩
theorem info_val3 : (Tryd.prog.info? 23).map (·.size) = some 3 := by kernel_rfl
theorem copy_none (ty : TypeId) (xo so : Option Addr) (cx cs : Nat) (W : World) (hx : xo = none → cx = 0) (hs : so = none → cs = 0) : (Builtin.copy_ #[36, 36] ty #[.slice xo 0 cx, .slice so 0 cs]).run Tryd.prog W = .ok (.int .i64 0) W := by
  cases hq : Tryd.prog.info? 23 with
  | none => have := info_val3; simp [hq] at this
  | some i =>
    cases xo with
    | none =>
      obtain rfl := hx rfl
      cases so with
      | none => obtain rfl := hs rfl; simp [Builtin.copy_, run_underlying Tryd.underlying36, Builtin.lenOf, Builtin.firstCells, sizeOf, typeInfo, hq, goInt]
      | some s => simp [Builtin.copy_, run_underlying Tryd.underlying36, Builtin.lenOf, Builtin.firstCells, sizeOf, typeInfo, hq, goInt, loadCells, loadCellsFrom]
    | some a =>
      cases so with
      | none => obtain rfl := hs rfl; simp [Builtin.copy_, run_underlying Tryd.underlying36, Builtin.lenOf, Builtin.firstCells, sizeOf, typeInfo, hq, storeCells, goInt]
      | some s => simp [Builtin.copy_, run_underlying Tryd.underlying36, Builtin.lenOf, Builtin.firstCells, sizeOf, typeInfo, hq, storeCells, goInt, loadCells, loadCellsFrom]
theorem copy_rows (xo so : Option Addr) (cx cs base b2 : Nat) (us : List Val) (W : World) (hB : LB base W xo cx us.length) (hown : W.ownsRow b2 23 3 (.slice so us.length cs) us.length (rcl us)) :
    ∃ W', (∀ ty, (Builtin.copy_ #[36, 36] ty #[.slice xo us.length cx, .slice so us.length cs]).run Tryd.prog W = .ok (.int .i64 us.length) W') ∧ Tch (fun i => xo = some ⟨i, 0, none⟩) W W' ∧ RowOf W' xo us := by
  by_cases h0 : us = []
  · subst h0
    refine ⟨W, fun ty => copy_none ty xo so cx cs W (fun e => ?_) (fun e => ?_), Tch.refl _ _, fun h => absurd rfl h⟩
    · rcases hB with ⟨_, _, h⟩ | ⟨g, cur, h1, _⟩
      · exact h
      · rw [e] at h1; cases h1
    · rcases hown.2 with ⟨h, _⟩ | ⟨g, cap, cur, h1, _⟩
      · simp only [Value.slice.injEq] at h; exact h.2.2
      · rw [e] at h1; simp at h1
  · have hl : 0 < us.length := List.length_pos_iff.2 h0
    rcases hB with ⟨_, h, _⟩ | ⟨g, cur, rfl, hb, hh, hs, hc⟩
    · omega
    · obtain ⟨gs, rfl, _, hra⟩ := row_at hown h0
      have hn : (rcl us).length = Nat.min us.length us.length * 3 := by rw [rcl_len]; simp
      have hcells : ∀ j v, (rcl us)[j]? = some v → W.cell? ((⟨gs, 0, none⟩ : Addr).add j) = some v := fun j v hv => by
        have hadd : (⟨gs, 0, none⟩ : Addr).add j = ⟨gs, 0 + j, none⟩ := by unfold Addr.add; split <;> simp_all
        rw [hadd]; exact rowAt_cells hra j v hv
      have hfit : 0 + (rcl us).length ≤ cur.size := by rw [rcl_len, hs]; omega
      have hr := fun ty => run_copy_row3 (P := Tryd.prog) W 36 36 ty 23 g 0 us.length cx ⟨gs, 0, none⟩ us.length cs cur 23 (rcl us) Tryd.underlying36 info_val3 hh hn hcells hfit (rcl_one us)
      refine ⟨W.setRow g (cur.toList.take 0 ++ rcl us ++ cur.toList.drop (0 + (rcl us).length)).toArray, fun ty => ?_, ?_, fun _ => ⟨g, 0, rfl, ?_⟩⟩
      · have e : Nat.min us.length us.length = us.length := Nat.min_self _
        rw [hr ty, e]; rfl
      · refine ⟨rfl, rfl, rfl, by simp [World.setRow], fun k _ hk => setRow_other W g k _ (fun e => hk (by rw [e]))⟩
      · have h2 := setRow_heap W g cur (cur.toList.take 0 ++ rcl us ++ cur.toList.drop (0 + (rcl us).length)).toArray 23 (0, 0) hh
        refine rowAt_of (fun j u hu => ?_)
        rw [blk_cell h2]
        have hj := (List.getElem?_eq_some_iff.1 hu).1
        simp only [List.take_zero, List.nil_append, List.getElem?_toArray]
        rw [List.getElem?_append_left hj]
        exact hu
end Go.Proofs.YtnjbkkccofjmgaaDoor
