import Derived.Test.YtjambfbibeihiaaGreatStH
/- A step: Load of what Files tells. -/
namespace Go.Proofs.YtjambfbibeihiaaGreat
set_option maxRecDepth 100000
open Go.RowKit Go.ChangeMaps Go.Sort

/-- The stages: s: what Files and loads have told (and that it was stored), p: the box. -/
def CF (w0 : World) (N : Int) (L : Nat) (nm bs : Nat → ByteArray) (s : List Value) (p : Option Value) (W : World) : Prop :=
  Tch (fun _ => False) w0 W ∧ ∃ B mbs, w0.heap.size ≤ B ∧
    ((p = none ∧ mbs = none) ∨ ∃ mb, mbs = some mb ∧ p = some (.pointer (some ⟨mb, 0, none⟩)) ∧ w0.heap.size ≤ mb ∧ ∃ bc, W.heap[mb]? = some (.cells bc 26 (0, 0)) ∧ bc.size = 3 ∧ ∀ v dv rv x, s = [v, .tuple #[.agg #[dv, rv, .int .i64 N], .bool true], x] → bc = #[dv, rv, .int .i64 N]) ∧
    (∀ v, s = [v] → ∃ ao cp, v = .slice ao L cp ∧ FLs W ao L nm bs ∧ (ao = none → L = 0 ∧ cp = 0)) ∧
    (∀ v u r, s = v :: u :: r → ∃ dv rv, u = .tuple #[.agg #[dv, rv, .int .i64 N], .bool true] ∧ BB N L nm bs W B mbs dv rv)
section
variable {w0 W W' : World} {N : Int} {L : Nat} {nm bs : Nat → ByteArray} {p : Option Value}
theorem CF.start : CF w0 N L nm bs [] none w0.drew := ⟨(Tch.refl _ _).drew, w0.heap.size, none, Nat.le_refl _, Or.inl ⟨rfl, rfl⟩, (fun v h => by simp at h), (fun v u r h => by simp at h)⟩
theorem CF.files (h : CF w0 N L nm bs [] p W) {ao : Option Addr} {cp : Nat} (hf : FLs W' ao L nm bs) (hn : ao = none → L = 0 ∧ cp = 0) (t : Tch (fun _ => False) W W') : CF w0 N L nm bs [.slice ao L cp] p W' := by
  obtain ⟨t0, B, mbs, hB, hp, _, _⟩ := h
  refine ⟨t0.trans' t, B, mbs, hB, ?_, fun v e => ?_, fun v u r e => by simp at e⟩
  · rcases hp with hp | ⟨mb, h1, h2, h3, bc, h4, h5, _⟩
    · exact Or.inl hp
    · exact Or.inr ⟨mb, h1, h2, h3, bc, (t.block _ (blk_lt h4) (fun h => h)).trans h4, h5, fun v dv rv x e => by simp at e⟩
  · simp only [List.cons.injEq, and_true] at e
    exact ⟨ao, cp, e.symm, hf, hn⟩
theorem CF.loads {v : Value} (h : CF w0 N L nm bs [v] p W) {dv rv : Value} {e : Int} (hb : Both N L nm bs W' W.heap.size dv rv e) (t : Tch (fun _ => False) W W') : CF w0 N L nm bs [v, .tuple #[.agg #[dv, rv, .int .i64 N], .bool true]] p W' := by
  obtain ⟨t0, B, mbs, hB, hp, _, _⟩ := h
  have hm : ∀ i, mbs = some i → i < W.heap.size := fun i hi => by
    rcases hp with ⟨_, hp⟩ | ⟨mb, h1, _, _, bc, h4, _⟩
    · rw [hp] at hi; cases hi
    · rw [h1] at hi; cases hi; exact blk_lt h4
  refine ⟨t0.trans' t, W.heap.size, mbs, t0.size, ?_, fun v' e => by simp at e, fun v' u r e => ?_⟩
  · rcases hp with hp | ⟨mb, h1, h2, h3, bc, h4, h5, _⟩
    · exact Or.inl hp
    · exact Or.inr ⟨mb, h1, h2, h3, bc, (t.block _ (blk_lt h4) (fun h => h)).trans h4, h5, fun v dv rv x e => by simp at e⟩
  · simp only [List.cons.injEq] at e
    exact ⟨dv, rv, e.2.1.symm, BB.ofBoth hb mbs hm⟩
theorem CF.box {s : List Value} (hs : s.length ≤ 2) (h : CF w0 N L nm bs s none W) : CF w0 N L nm bs s (some (.pointer (some ⟨W.heap.size, 0, none⟩))) (W.alloc (.cells #[.pointer none, .pointer none, .int .i64 0] 26)) := by
  obtain ⟨t0, B, mbs, hB, hp, hv, hu⟩ := h
  have hm : mbs = none := by
    rcases hp with ⟨_, hp⟩ | ⟨mb, _, h2, _⟩
    · exact hp
    · cases h2
  subst hm
  have t : Tch (fun _ => False) W (W.alloc (.cells #[.pointer none, .pointer none, .int .i64 0] 26)) := Tch.alloc _ _ _
  refine ⟨t0.trans' t, B, some W.heap.size, hB, Or.inr ⟨W.heap.size, rfl, rfl, t0.size, _, box_one W _, rfl, fun v dv rv x e => ?_⟩, fun v e => ?_, fun v u r e => ?_⟩
  · rw [e] at hs; simp at hs
  · obtain ⟨ao, cp, h1, h2, h3⟩ := hv v e
    exact ⟨ao, cp, h1, h2.no t, h3⟩
  · obtain ⟨dv, rv, h1, h2⟩ := hu v u r e
    exact ⟨dv, rv, h1, h2.alloc _⟩
theorem CF.store {v dv rv x : Value} {mb : Nat} (h : CF w0 N L nm bs [v, .tuple #[.agg #[dv, rv, .int .i64 N], .bool true]] (some (.pointer (some ⟨mb, 0, none⟩))) W) : CF w0 N L nm bs [v, .tuple #[.agg #[dv, rv, .int .i64 N], .bool true], x] (some (.pointer (some ⟨mb, 0, none⟩))) (((W.setCell ⟨mb, 0, none⟩ dv).setCell ⟨mb, 1, none⟩ rv).setCell ⟨mb, 2, none⟩ (.int .i64 N)) ∧ ((∃ y, W.cell? ⟨mb, 0, none⟩ = some y) ∧ (∃ y, W.cell? ⟨mb, 1, none⟩ = some y) ∧ ∃ y, W.cell? ⟨mb, 2, none⟩ = some y) ∧ ∀ j, W.frozen? ⟨mb, j, none⟩ = false := by
  obtain ⟨t0, B, mbs, hB, hp, hv, hu⟩ := h
  rcases hp with ⟨hp, _⟩ | ⟨mb', h1, h2, h3, bc, h4, h5, _⟩
  · cases hp
  · simp only [Option.some.injEq, Value.pointer.injEq, Addr.mk.injEq, and_true] at h2
    subst h2
    have t : Tch (fun i => i = mb) W (((W.setCell ⟨mb, 0, none⟩ dv).setCell ⟨mb, 1, none⟩ rv).setCell ⟨mb, 2, none⟩ (.int .i64 N)) := ((Tch.setCell (fun i => i = mb) W ⟨mb, 0, none⟩ dv rfl).setCellR ⟨mb, 1, none⟩ rv rfl).setCellR ⟨mb, 2, none⟩ (.int .i64 N) rfl
    have hb := blk_set (blk_set (blk_set h4 (i := 0) dv) (i := 1) rv) (i := 2) (.int .i64 N)
    have hrc : ((bc.setIfInBounds 0 dv).setIfInBounds 1 rv).setIfInBounds 2 (.int .i64 N) = #[dv, rv, .int .i64 N] := by
      apply Array.ext
      · simp [h5]
      · intro i g1 g2
        have g3 : i < 3 := by simpa using g2
        rcases (show i = 0 ∨ i = 1 ∨ i = 2 by omega) with rfl | rfl | rfl <;> simp [h5]
    rw [hrc] at hb
    refine ⟨⟨t0.trans t (fun i hi e => by omega), B, mbs, hB, Or.inr ⟨mb, h1, rfl, h3, _, hb, rfl, fun v' dv' rv' x' e => ?_⟩, fun v' e => by simp at e, fun v' u r e => ?_⟩, ⟨⟨bc[0], by rw [blk_cell h4]; exact Array.getElem?_eq_getElem _⟩, ⟨bc[1], by rw [blk_cell h4]; exact Array.getElem?_eq_getElem _⟩, ⟨bc[2], by rw [blk_cell h4]; exact Array.getElem?_eq_getElem _⟩⟩, fun j => blk_frozen h4 j⟩
    · simp at e
      rw [e.2.1.1, e.2.1.2]
    · obtain ⟨dv', rv', g1, g2⟩ := hu v _ [] rfl
      simp at g1
      obtain ⟨rfl, rfl⟩ := g1
      simp only [List.cons.injEq] at e
      refine ⟨dv, rv, e.2.1.symm, ?_⟩
      rw [h1] at g2 ⊢
      exact g2.put t
end
end Go.Proofs.YtjambfbibeihiaaGreat
