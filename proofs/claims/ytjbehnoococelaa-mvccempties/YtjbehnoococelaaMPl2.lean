import Derived.Test.YtjbehnoococelaaMPl
/- place, newest. -/
namespace Go.Proofs.Ytjbehnoococelaa
open Go.RowKit Go Go.Shelf
attribute [local go_sem] Oper.semAt_some

/-- What place tells. -/
def PlOut (p : VV → Bool) (zs : List VV) (r : Int) : Prop :=
  (r = -1 ∧ ∀ z ∈ zs, p z = false) ∨ ∃ (k : Nat) (z : VV), r = k ∧ zs[k]? = some z ∧ p z = true ∧ ∀ (j : Nat) (u : VV), k < j → zs[j]? = some u → p u = false
theorem keeps_tch {B : Nat} {W W' : World} (h : Tch (fun _ => False) W W') : KeepsFrom B W W' := ⟨h.size, fun k _ _ hk _ => (h.block k (blk_lt hk) (fun h => h)).trans hk⟩
theorem below_tch {n₀ : Nat} {W W' : World} (h : Tch (fun _ => False) W W') (hn : n₀ ≤ W.heap.size) : Below n₀ W W' := h.below hn (fun _ _ h => h)

/-- A function value that tells whether something holds of a version. -/
structure Holds (w : World) (zs : List VV) (p : VV → Bool) (fn : Nat) (first caps : Array Value) : Prop where
  enters : ∀ args w, (callFunc fn args).run Try.prog w = .ok (.enter fn args) w
  calls : ∀ (z : VV) (W : World), z ∈ zs → Tch (fun _ => False) w W → Calls Try.prog fn (first ++ #[.agg #[.int .i64 z.1.wr, .bool z.1.th, .slice z.2.1 z.1.n z.2.2]] ++ caps) W fun e W' => e = .returned (.bool (p z)) ∧ Tch (fun _ => False) W W'

set_option maxRecDepth 100000 in
set_option maxHeartbeats 4000000 in
theorem place_in (n : Nat) (hn : 5 ≤ n) (ao : Option Addr) (cap : Nat) (zs : List VV) (hreach : zs.length ≤ 1000000) (w : World) (hc : VRd w.heap.size w ao zs) (p : VV → Bool) (fn : Nat) (first caps : Array Value) (hH : Holds w zs p fn first caps) :
    CallsIn Fence.wide n Try.prog 52 #[.slice ao zs.length cap, .func (.func fn) first caps] w fun e W' => (∃ r, e = .returned (.int .i64 r) ∧ PlOut p zs r) ∧ Tch (fun _ => False) w W' := by
  have h1 : 1 ≤ n := by omega
  refine callsIn_of_wp_marks Try.func52 rfl trivial ?_ rfl
  simp only [Try.ntmps52, List.size_toArray, List.length_cons, List.length_nil, Nat.reduceAdd, Nat.reduceSub, Array.replicate_succ, Array.replicate_zero, List.push_toArray, List.append_toArray, List.nil_append, List.cons_append]
  gi_wp2_with (refine ⟨trivial, ?_⟩; gi_at_call 60; refine (back_in Fence.wide (n - 1) trivial rfl _ _ _ _).mono ?_; rintro e w' ⟨rfl, rfl⟩)
  have bH := ((Boxed.new w 85 (.func (.func fn) first caps)).alloc (.cells #[.int .i64 0] 3)).alloc (.cells #[.slice ao zs.length cap] 82)
  have bR := (Boxed.new (w.alloc (.cells #[.func (.func fn) first caps] 85)) 3 (.int .i64 0)).alloc (.cells #[.slice ao zs.length cap] 82)
  have bS := Boxed.new ((w.alloc (.cells #[.func (.func fn) first caps] 85)).alloc (.cells #[.int .i64 0] 3)) 82 (.slice ao zs.length cap)
  have t0 : Tch (fun _ => False) w (((w.alloc (.cells #[.func (.func fn) first caps] 85)).alloc (.cells #[.int .i64 0] 3)).alloc (.cells #[.slice ao zs.length cap] 82)) := ((Tch.alloc _ _ _).allocR _).allocR _
  simp only [World.size_alloc] at bR bS
  have hsz : (((w.alloc (.cells #[.func (.func fn) first caps] 85)).alloc (.cells #[.int .i64 0] 3)).alloc (.cells #[.slice ao zs.length cap] 82)).heap.size = w.heap.size + 3 := by simp
  obtain ⟨W0, hW0⟩ : ∃ W0, ((w.alloc (.cells #[.func (.func fn) first caps] 85)).alloc (.cells #[.int .i64 0] 3)).alloc (.cells #[.slice ao zs.length cap] 82) = W0 := ⟨_, rfl⟩
  rw [hW0] at bH bR bS t0 hsz ⊢
  clear hW0
  obtain ⟨B, hB⟩ : ∃ B, B = w.heap.size := ⟨_, rfl⟩
  rw [← hB] at bH bR bS hsz hc ⊢
  have HB : Hid (B = w.heap.size) := hB
  have t0b : Below B w W0 := t0.below (by omega) (fun _ _ h => h)
  have hc0 : VRd (B + 3) W0 ao zs := by
    rcases hc.below t0b with e | ⟨g, e, hg, h⟩
    · exact .inl e
    · exact .inr ⟨g, e, by omega, h⟩
  clear hB hc
  refine wpIn_rangeFunc_ownH rfl h1 (gf := 66) (lb := #[.pointer (some ⟨B + 1 + 1, 0, none⟩)]) rfl trivial (enters_of Try.func66 (by kernel_rfl) rfl)
    (back_stops Fence.wide (n - 1) trivial rfl (by omega) (B + 1 + 1) (B + 3) cap ao zs hreach W0 (by omega) (by omega) bS.cell hc0) belowK_t (belowK_b (by omega)) (Below.refl _ _) (fun _ => rfl)
    (fun pre W => (∀ x ∈ pre, p x.1.2 = false) ∧ Below (B + 3) W0 W)
    (fun c pre W => (c = .ret ∧ ∃ ini last, pre = ini ++ [last] ∧ (∀ x ∈ ini, p x.1.2 = false) ∧ p last.1.2 = true ∧ W.cell? ⟨B + 1, 0, none⟩ = some (.int .i64 (last.1.1 : Int))) ∧ Below B w W)
    (OwnFrom.and (ownFrom_pure _ _) (ownFrom_below (by omega) (by omega)))
    (fun c => OwnFrom.and (Own.from (fun s A B row hs hg hr => by obtain ⟨hc, ini, last, e1, e2, e3, e4⟩ := hs; exact ⟨hc, ini, last, e1, e2, e3, cell_kept e4 hg hr⟩) _) (ownFrom_below (by have := HB.out; omega) (by omega)))
    ⟨(by simp), Below.refl _ _⟩
    (fun x a' W => ∃ Bx, B + 3 ≤ Bx ∧ W.heap[Bx]? = some (.cells #[.int .i64 x.1.2.1.wr, .bool x.1.2.1.th, .slice x.1.2.2.1 x.1.2.1.n x.1.2.2.2] 84 (0, 0)) ∧ a' = { tmps := #[.slice ao zs.length cap, .func (.func fn) first caps, undef, .pointer (some ⟨B, 0, none⟩), .pointer (some ⟨B + 1, 0, none⟩), .int .i64 (x.1.1 : Int), .pointer (some ⟨Bx, 0, none⟩), .slice ao zs.length cap, .func (.func 66) #[] #[.pointer (some ⟨B + 1 + 1, 0, none⟩)], .int .i64 (x.1.1 : Int), .agg #[.int .i64 x.1.2.1.wr, .bool x.1.2.1.th, .slice x.1.2.2.1 x.1.2.1.n x.1.2.2.2], undef, undef, undef, undef], defers := [] })
    (fun x a' => ?hAx) ?assign ?body ?done ?stop
  case hAx =>
    rintro ⟨⟩ A C row ⟨Bx, h2, h3, h4⟩ hg hr
    refine ⟨Bx, h2, ?_, h4⟩
    rw [hg.block Bx (blk_lt h3) (fun e => by obtain ⟨_, o, ho, hoc⟩ := hr Bx e.symm; rw [h3] at ho; cases ho; cases hoc)]; exact h3
  case assign =>
    rintro l pre x W K ⟨hi1, hi2⟩ hK
    have hS : B + 3 ≤ W.heap.size := by have := hi2.size; omega
    gi_wp2
    exact hK _ _ (keeps_tch (Tch.alloc _ _ _)) (below_tch (Tch.alloc _ _ _) hS) ⟨hi1, hi2.trans (below_tch (Tch.alloc _ _ _) hS)⟩ ⟨W.heap.size, hS, alloc_new _ _, rfl⟩
  case body =>
    rintro l pre x a' W hl ⟨r, hr⟩ ⟨hi1, hi2⟩ ⟨Bx, hBx, hb, rfl⟩ hlt
    have c0 : W.cell? ⟨Bx, 0, none⟩ = some (.int .i64 x.1.2.1.wr) := by rw [blk_cell hb]; rfl
    have c1 : W.cell? ⟨Bx, 1, none⟩ = some (.bool x.1.2.1.th) := by rw [blk_cell hb]; rfl
    have c2 : W.cell? ⟨Bx, 2, none⟩ = some (.slice x.1.2.2.1 x.1.2.1.n x.1.2.2.2) := by rw [blk_cell hb]; rfl
    have cH : W.cell? ⟨B, 0, none⟩ = some (.func (.func fn) first caps) := (hi2.cell (p := ⟨B, 0, none⟩) (by show B < _; omega)).trans bH.cell
    have hd : 1 ≤ n - 1 - 1 := by omega
    have hen := hH.enters
    have hS : B + 3 ≤ W.heap.size := by have := hi2.size; omega
    have tW : Tch (fun _ => False) w W := Tch.of_below (t0b.trans (hi2.mono (by omega))) (by have := HB.out; omega)
    have q := hH.calls x.1.2 W (List.mem_of_getElem? x.2) tW
    have fR : ∀ W', Below (B + 3) W0 W' → W'.frozen? ⟨B + 1, 0, none⟩ = false := fun W' h => (h.frozen (p := ⟨B + 1, 0, none⟩) (by show B + 1 < _; omega)).trans bR.frozen
    have cR : ∀ W', Below (B + 3) W0 W' → W'.cell? ⟨B + 1, 0, none⟩ = some (.int .i64 0) := fun W' h => (h.cell (p := ⟨B + 1, 0, none⟩) (by show B + 1 < _; omega)).trans bR.cell
    rw [Array.append_singleton] at q
    gi_wp2
    refine ⟨trivial, ?_⟩
    refine (CallsIn.inRound l (callsIn_wide.2 q)).mono ?_
    rintro e W1 ⟨rfl, t1⟩
    have hi3 := hi2.trans (below_tch t1 hS)
    have fR1 := fR W1 hi3
    have cR1 := cR W1 hi3
    clear fR cR q
    cases hp : p x.1.2
    · gi_wp2
      exact ⟨keeps_tch t1, below_tch t1 hS, ⟨fun y hy => (List.mem_append.1 hy).elim (hi1 y) (fun e => by simp at e; subst e; exact hp), hi3⟩⟩
    · gi_wp2
      exact ⟨(keeps_tch t1).trans ((KeepsOthers.setCell _ _ _).from _), ⟨rfl, pre, x, rfl, hi1, hp, World.cell?_setCell_same' _ _ _ (by rw [cR1]; rfl)⟩, (t0b.trans (hi3.mono (by omega))).setCell (p := ⟨B + 1, 0, none⟩) (by show B ≤ B + 1; omega) _⟩
  case done =>
    rintro D ys W hD hS ⟨hi1, hi2⟩ hK
    have cR : W.cell? ⟨B + 1, 0, none⟩ = some (.int .i64 0) := (hi2.cell (p := ⟨B + 1, 0, none⟩) (by show B + 1 < _; omega)).trans bR.cell
    have fR : W.frozen? ⟨B + 1, 0, none⟩ = false := (hi2.frozen (p := ⟨B + 1, 0, none⟩) (by show B + 1 < _; omega)).trans bR.frozen
    gi_wp2
    have hK' := (KeepsOthers.setCell W ⟨B + 1, 0, none⟩ (.int .i64 (-1))).same D _ hK rfl
    refine ⟨by simp, .inl ⟨_, _, rfl, run_takeDeferred hK', ?_⟩⟩
    have hc5 := cell_kept (World.cell?_setCell_same' W ⟨B + 1, 0, none⟩ (.int .i64 (-1)) (by rw [cR]; rfl)) (grownBy_putObj' _ D (.deferred none)) (fun r e => by cases e; exact ⟨_, hK', rfl⟩)
    refine ⟨.int .i64 (-1), ?_, ⟨_, rfl, .inl ⟨rfl, fun z hz => ?_⟩⟩, ?_⟩
    · simp [results, Try.f52, go_sem, hc5]
    · obtain ⟨i, hi⟩ := List.mem_iff_getElem?.1 hz
      have : (i, z) ∈ dn zs 0 := dn_mem.2 ⟨Nat.zero_le _, hi⟩
      rw [← hS] at this
      obtain ⟨y, hy, e⟩ := List.mem_map.1 this
      have := hi1 y hy
      rw [e] at this
      exact this
    · have hE : Below B w (W.setCell ⟨B + 1, 0, none⟩ (.int .i64 (-1))) := (t0b.trans (hi2.mono (by omega))).setCell (p := ⟨B + 1, 0, none⟩) (by show B ≤ B + 1; omega) _
      exact Tch.of_below (hE.trans (belowK_b (w := w) (by have := HB.out; omega) _ D _ _ (by have := HB.out; omega) hK' rfl rfl)) (by have := HB.out; omega)
  case stop =>
    rintro D c pre W hD ⟨k, hk, hpre⟩ ⟨⟨rfl, ini, last, e1, e2, e3, hcr⟩, hB⟩ hK
    gi_wp2
    refine ⟨by simp, .inl ⟨_, _, rfl, run_takeDeferred hK, ?_⟩⟩
    have hc5 := cell_kept hcr (grownBy_putObj' _ D (.deferred none)) (fun r e => by cases e; exact ⟨_, hK, rfl⟩)
    refine ⟨.int .i64 (last.1.1 : Int), ?_, ⟨_, rfl, .inr ⟨last.1.1, last.1.2, rfl, last.2, e3, fun j u hj hu => ?_⟩⟩, ?_⟩
    · simp [results, Try.f52, go_sem, hc5]
    · have hl : last.1.1 = k := by
        rw [e1, List.map_append] at hpre
        rcases Nat.lt_or_ge k zs.length with h | h
        · rw [dn_step zs k _ (List.getElem?_eq_getElem h)] at hpre
          have := (List.append_inj' hpre rfl).2
          simp only [List.map_cons, List.map_nil, List.cons.injEq, and_true] at this
          rw [this]
        · have : k = zs.length := by omega
          rw [this, dn_all] at hpre
          simp at hpre
      have : (j, u) ∈ pre.map (·.1) := by rw [hpre]; exact dn_mem.2 ⟨by show k ≤ j; omega, hu⟩
      rw [e1] at this
      obtain ⟨y, hy, e⟩ := List.mem_map.1 this
      rcases List.mem_append.1 hy with hy | hy
      · have := e2 y hy
        rw [e] at this
        exact this
      · simp only [List.mem_cons, List.not_mem_nil, or_false] at hy
        subst hy
        rw [e] at hj
        exact absurd hj (Nat.lt_irrefl _)
    · exact Tch.of_below (hB.trans (belowK_b (w := w) (by have := HB.out; omega) W D _ _ (by have := HB.out; omega) hK rfl rfl)) (by have := HB.out; omega)
end Go.Proofs.Ytjbehnoococelaa
