import Derived.Test.YtmnhkgibplnnnaaVSt9
import Derived.Test.YtmnhkgibplnnnaaUCp
import Derived.Test.YtmnhkgibplnnnaaOrdv
/- MergePlays: the script. -/
namespace Go.Proofs.Ytmnhkgibplnnnaa
open Go.RowKit Go

/-- A step: its kind, its list. -/
structure Opd where
  k : Int
  ua : Option Addr
  uc : Nat
  u : List Rc
def opc (p : Opd) : List Value := [.int .i64 p.k, .slice p.ua p.u.length p.uc]
def opcl (l : List Opd) : List Value := l.flatMap opc
theorem opcl_len (l : List Opd) : (opcl l).length = l.length * 2 := by
  induction l with
  | nil => rfl
  | cons a l ih => show (opc a ++ opcl l).length = _; rw [List.length_append, ih, List.length_cons]; show 2 + _ = _; omega
theorem opcl_get (l : List Opd) : ∀ i p, l[i]? = some p → ∀ j v, (opc p)[j]? = some v → (opcl l)[i * 2 + j]? = some v := by
  induction l with
  | nil => intro i p h; simp at h
  | cons a l ih =>
    intro i p h j v hv
    have hj : j < 2 := (List.getElem?_eq_some_iff.1 hv).1
    cases i with
    | zero =>
      obtain rfl : a = p := by simpa using h
      show (opc a ++ opcl l)[0 * 2 + j]? = _
      rw [Nat.zero_mul, Nat.zero_add, List.getElem?_append_left (by show j < 2; exact hj)]; exact hv
    | succ i =>
      show (opc a ++ opcl l)[(i + 1) * 2 + j]? = _
      rw [List.getElem?_append_right (by show 2 ≤ _; omega)]
      rw [show (i + 1) * 2 + j - (opc a).length = i * 2 + j by show (i + 1) * 2 + j - 2 = _; omega]
      exact ih i p (by simpa using h) j v hv
/-- A step's list, for reading: its blocks are frozen. -/
structure OpS (V : World) (Z : Nat → Prop) (W : World) (p : Opd) : Prop where
  len : p.u.length ≤ p.uc
  cap : p.uc ≤ 9223372036854775807
  bd : p.u.length ≤ 1048576
  at' : p.u ≠ [] → ∃ g o, Z g ∧ p.ua = some ⟨g, o, none⟩ ∧ ∀ j v, (kcl p.u)[j]? = some v → V.cell? ⟨g, o + j, none⟩ = some v
  ch : ∀ c ∈ p.u, ChIn W c ∧ RdR V c.oa c.ol c.oc (DW W c).1 ∧ RdR V c.na c.nl c.nc (DW W c).2 ∧ (∀ a, c.oa = some a → 0 < c.ol → Z a.block) ∧ (∀ a, c.na = some a → 0 < c.nl → Z a.block)
/-- The script. -/
structure SC (V : World) (Z : Nat → Prop) (W : World) (gs : Nat) (ops : List Opd) : Prop where
  zg : Z gs
  at' : ∀ j v, (opcl ops)[j]? = some v → V.cell? ⟨gs, j, none⟩ = some v
  el : ∀ p ∈ ops, OpS V Z W p
theorem SC.get {V : World} {Z : Nat → Prop} {W : World} {gs : Nat} {ops : List Opd} (h : SC V Z W gs ops) {i : Nat} {p : Opd} (hp : ops[i]? = some p) {w : World} (t : Tch (fun b => ¬ Z b) V w) : w.cell? ⟨gs, i * 2, none⟩ = some (.int .i64 p.k) ∧ w.cell? ⟨gs, i * 2 + 1, none⟩ = some (.slice p.ua p.u.length p.uc) := by
  have x0 := h.at' _ _ (opcl_get ops i p hp 0 _ rfl)
  have x1 := h.at' _ _ (opcl_get ops i p hp 1 _ rfl)
  exact ⟨(t.cell (p := ⟨gs, i * 2 + 0, none⟩) (cell_lt x0) (fun hn => hn h.zg)).trans x0, (t.cell (p := ⟨gs, i * 2 + 1, none⟩) (cell_lt x1) (fun hn => hn h.zg)).trans x1⟩
theorem OpS.get {V : World} {Z : Nat → Prop} {W : World} {p : Opd} (h : OpS V Z W p) {k : Nat} {c : Rc} (hc : p.u[k]? = some c) {w : World} (t : Tch (fun b => ¬ Z b) V w) : ∃ g o, Z g ∧ p.ua = some ⟨g, o, none⟩ ∧ (∀ j v, (kc6 c)[j]? = some v → w.cell? ⟨g, o + k * 6 + j, none⟩ = some v) ∧ ChIn W c ∧ RdR w c.oa c.ol c.oc (DW W c).1 ∧ RdR w c.na c.nl c.nc (DW W c).2 := by
  obtain ⟨g, o, hz, e, hx⟩ := h.at' (fun e => by rw [e] at hc; simp at hc)
  obtain ⟨h1, h2, h3, h4, h5⟩ := h.ch c (List.mem_of_getElem? hc)
  refine ⟨g, o, hz, e, fun j v hv => ?_, h1, h2.tch t (fun a ha h0 hn => hn (h4 a ha h0)), h3.tch t (fun a ha h0 hn => hn (h5 a ha h0))⟩
  have x := hx _ _ (kcl_get p.u k c hc j v hv)
  rw [← Nat.add_assoc] at x
  exact (t.cell (p := ⟨g, o + k * 6 + j, none⟩) (cell_lt x) (fun hn => hn hz)).trans x
theorem StQ.vz {V : World} {Z : Nat → Prop} {W w w' : World} {mb rb nb T : Nat} {s : Sv} (h : StQ V Z W w mb rb nb T s) (t : Tch (fun b => w.heap.size ≤ b) w w') : Tch (fun b => ¬ Z b) V w' := h.w0.trans t (fun b hb e => by have := h.w0.size; have e' : w.heap.size ≤ b := e; omega)
def PLaw : Prop := ∀ (W : World) (ao : Option Addr) (cap : Nat) (ops : List Opd), (ops ≠ [] → ∃ g o, ao = some ⟨g, o, none⟩ ∧ g < W.heap.size ∧ ∀ j v, (opcl ops)[j]? = some v → W.cell? ⟨g, o + j, none⟩ = some v) → (ops = [] → ao = none → cap = 0) → (∀ p ∈ ops, RL (DW W) W.heap.size W p.ua p.uc p.u ∧ (∀ c ∈ p.u, ChIn W c) ∧ p.u.length ≤ 1048576) → ops.length ≤ 1048576 → ops.length ≤ cap → cap ≤ maxLen →
  Calls Try.prog 4 #[.slice ao ops.length cap] W fun e W' => e = .returned (.bool true) ∧ Tch (fun _ => False) W W'
/-- The three steps ahead. -/
def lt1 : Rc := ⟨5, 1, 0, 0, none, 0, 0, none, 0, 0⟩
def lt2 : Rc := ⟨9, 0, 0, 0, none, 0, 0, none, 0, 0⟩
def lits (g : Nat) : List Opd := [⟨1, some ⟨g, 0, none⟩, 2, [lt1, lt2]⟩, ⟨3, none, 0, []⟩, ⟨2, none, 0, []⟩]
theorem info_op : (Try.prog.info? 45).map (fun i => (i.zero, i.size, i.bytes)) = some (some (.agg #[.int .i64 0, .slice none 0 0]), 2, 32) := by kernel_rfl
theorem opcl_one (l : List Opd) : ∀ u ∈ opcl l, u.oneCell' = true := fun u hu => by
  obtain ⟨p, _, hv⟩ := List.mem_flatMap.1 hu
  simp only [opc, List.mem_cons, List.not_mem_nil, or_false] at hv
  rcases hv with rfl | rfl <;> rfl
/-- The script is put together. -/
theorem scr_app (w : World) (n : Nat) (ao : Option Addr) (cap : Nat) (ops : List Opd) (hb : w.heap[n + 5]? = some (.cells (opcl (lits (n + 4))).toArray 45 (0, 0))) (hat : ops ≠ [] → ∃ g o, ao = some ⟨g, o, none⟩ ∧ ∀ j v, (opcl ops)[j]? = some v → w.cell? ⟨g, o + j, none⟩ = some v) (h0 : ops = [] → ao = none → cap = 0) (hl : ops.length ≤ 1048576) :
    ∃ gs sc V, (Builtin.append_ #[33, 33] 33 #[.slice (some ⟨n + 5, 0, none⟩) 3 3, .slice ao ops.length cap]).run Try.prog w = .ok (.slice (some ⟨gs, 0, none⟩) (3 + ops.length) sc) V ∧ 3 + ops.length ≤ sc ∧ sc ≤ 9223372036854775807 ∧ (∀ j v, (opcl (lits (n + 4) ++ ops))[j]? = some v → V.cell? ⟨gs, j, none⟩ = some v) ∧ (gs = n + 5 ∨ w.heap.size ≤ gs) ∧ gs < V.heap.size ∧ Tch (fun b => b = n + 5) w V := by
  obtain ⟨i0, hi0, hz0, hz1, hz2⟩ := info_parts info_op
  have own : w.ownsRow 0 45 2 (.slice (some ⟨n + 5, 0, none⟩) 3 3) 3 (opcl (lits (n + 4))) := ⟨rfl, .inr ⟨n + 5, 3, _, rfl, Nat.zero_le _, hb, Nat.le_refl _, by decide, rfl, rfl⟩⟩
  have eo : opcl (lits (n + 4) ++ ops) = opcl (lits (n + 4)) ++ opcl ops := by simp [opcl]
  have fin : ∀ (v : Value) (V : World), V.ownsRow 0 45 2 v (3 + ops.length) (opcl (lits (n + 4)) ++ opcl ops) → (v.ownBlock = some (n + 5) ∨ v.ownBlock = some w.heap.size) → ∃ gs sc, v = .slice (some ⟨gs, 0, none⟩) (3 + ops.length) sc ∧ 3 + ops.length ≤ sc ∧ sc ≤ 9223372036854775807 ∧ (∀ j v, (opcl (lits (n + 4) ++ ops))[j]? = some v → V.cell? ⟨gs, j, none⟩ = some v) ∧ (gs = n + 5 ∨ w.heap.size ≤ gs) ∧ gs < V.heap.size := fun v V ho hat => by
    obtain ⟨gs, sc, cur, rfl, _, hg, h1, h2, _⟩ := own_open ho (by omega)
    refine ⟨gs, sc, rfl, h1, h2, fun j u hu => ?_, ?_, blk_lt hg⟩
    · rw [eo] at hu
      have := ho.cells (g := gs) rfl j u hu
      rw [add_plain, Nat.zero_add] at this; exact this
    · rcases hat with e | e
      · exact .inl (by simpa [Value.ownBlock] using e)
      · have : gs = w.heap.size := by simpa [Value.ownBlock] using e
        exact .inr (by omega)
  cases ao with
  | none =>
    have hn : ops = [] := Decidable.by_contra (fun hn => by obtain ⟨g, o, e, _⟩ := hat hn; cases e)
    subst hn
    obtain rfl := h0 rfl rfl
    have hr := run_append_owned_none (P := Try.prog) (w := w) 0 33 33 45 i0 2 Try.underlying33 hi0 _ 3 _ own
    obtain ⟨gs, sc, e, h1, h2, h3, h4, h5⟩ := fin _ w (by simpa [opcl] using own) (.inl rfl)
    exact ⟨gs, sc, w, by rw [← e]; exact hr, h1, h2, h3, h4, h5, Tch.refl _ _⟩
  | some a =>
    have hc : ∀ j v, (opcl ops)[j]? = some v → w.cell? (a.add j) = some v := fun j v hv => by
      have hn : ops ≠ [] := fun e => by rw [e] at hv; simp [opcl] at hv
      obtain ⟨g, o, e, hx⟩ := hat hn
      obtain rfl : a = ⟨g, o, none⟩ := by simpa using e
      rw [add_plain]; exact hx j v hv
    obtain ⟨v1, V, hr, ho, hg, _, hat1⟩ := run_append_own_at (P := Try.prog) w 0 33 33 45 i0 _ 2 32 Try.underlying33 hi0 hz0 hz1 hz2 rfl (by decide) _ _ _ own a ops.length cap (opcl ops) (opcl_len ops) hc (opcl_one ops) (by unfold maxLen; omega) (by omega) (Nat.zero_le _)
    obtain ⟨gs, sc, rfl, h1, h2, h3, h4, h5⟩ := fin v1 V ho (hat1.imp (fun e => e.trans rfl) id)
    exact ⟨gs, sc, V, hr, h1, h2, h3, h4, h5, Tch.of_grown hg (fun b e => by simpa [Value.ownBlock] using e.symm)⟩
/-- What the law asks of the rows behind a step. -/
theorem StP.chk {V : World} {Z : Nat → Prop} {W w : World} {mb rb nb : Nat} {so : Option Addr} {m sc T : Nat} {s : Sv} (h : StP V Z W w mb rb nb so m sc T s) : ∃ loA lcA, w.cell? ⟨rb, 1, none⟩ = some (.slice loA m lcA) ∧ ∀ q, q < m → ∃ gA gr sb nq, loA = some ⟨gA, 0, none⟩ ∧ so = some ⟨gr, 0, none⟩ ∧ nq ≤ 2000000 ∧ w.cell? ⟨gA, q, none⟩ = some (.int .i64 (nq : Nat)) ∧ w.cell? ⟨gr, q, none⟩ = some (.pointer (some ⟨sb, 0, none⟩)) ∧ w.cell? ⟨sb, 1, none⟩ = some (.int .i64 ((nq : Int) + 1)) ∧ w.cell? ⟨sb, 2, none⟩ = some (.bool false) := by
  have rv := h.q.cr.rv
  have hml := h.cs.ml
  obtain ⟨loA, lcA, hvA⟩ := row_slice rv.oA
  rw [← hml] at hvA
  refine ⟨loA, lcA, by rw [blk_cell rv.blk]; show some s.vA = _; rw [hvA], fun q hq => ?_⟩
  obtain ⟨sb, nq, v, e1, e2, hb, hblk⟩ := h.row_at hq
  obtain ⟨gA, cA, eA, _, _, _, hcA, _⟩ := own_at rv.oA (by omega)
  rw [hvA] at eA
  simp only [Value.slice.injEq] at eA
  obtain ⟨gr, cr, er, _, _, _, hcr, _⟩ := own_at h.cs.own (by omega)
  simp only [Value.slice.injEq] at er
  have x1 := hcA q (.int .i64 (nq : Nat)) (by show (s.nx.map _)[q]? = _; rw [List.getElem?_map, e2]; rfl)
  have x2 := hcr q (.pointer (some ⟨sb, 0, none⟩)) (by show (s.sbs.map _)[q]? = _; rw [List.getElem?_map, e1]; rfl)
  rw [Nat.zero_add] at x1 x2
  exact ⟨gA, gr, sb, nq, eA.1, er.1, hb, x1, x2, blk_cell hblk 1, blk_cell hblk 2⟩
end Go.Proofs.Ytmnhkgibplnnnaa
