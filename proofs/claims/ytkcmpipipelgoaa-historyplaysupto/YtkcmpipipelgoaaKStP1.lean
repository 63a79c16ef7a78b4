import Derived.Test.YtkcmpipipelgoaaKSt0
import Derived.Test.YtkcmpipipelgoaaFloO
import Derived.Test.YtkcmpipipelgoaaCArg
/- What the law's Put step needs. -/
namespace Go.Proofs.Ytkcmpipipelgoaa
open Go.RowKit Go

theorem Lk.put {h h' : Hs} {d d' : Dh} {x : Int} {t : Tbl} (H : Lk h d) (a1 : Go.Proofs.Ytkcmpipipelgoaa.putE h x t ≠ 0 → h' = h) (a2 : Go.Proofs.Ytkcmpipipelgoaa.putE h x t = 0 → ∃ n : Nt, n.l = x ∧ n.th = true ∧ n.t = t ∧ h' = h.add t.id n) (b1 : dputE d x t ≠ 0 → d' = d) (b2 : dputE d x t = 0 → ∃ n : Dn, n.l = x ∧ n.i = t.id ∧ n.g = false ∧ n.t = t ∧ d' = ⟨d.b, x, d.L ++ [n]⟩) : Lk h' d' ∧ h'.T ≤ h.T + 1 := by
  by_cases e : Go.Proofs.Ytkcmpipipelgoaa.putE h x t = 0
  · obtain ⟨n, n1, n2, n3, rfl⟩ := a2 e
    obtain ⟨m, m1, m2, m3, m4, rfl⟩ := b2 (by rw [← H.putE]; exact e)
    refine ⟨?_, Nat.le_refl _⟩
    have := H.note (i := t.id) (n := n) (m := m) m2 (by unfold core Dn.nt; simp only [n1, n2, n3, m1, m3, m4, Bool.not_false])
    rw [m1] at this
    exact this
  · rw [a1 e, b1 (by rw [← H.putE]; exact e)]
    exact ⟨H, by omega⟩
theorem Ev.setb {w : World} {o : Nat → Nat} {b : Nat} (hb : o b = 5) (i : Nat) (v : Value) : Ev (fun j => j = 5) w o (w.setCell ⟨b, i, none⟩ v) o :=
  ⟨(Tch.setCell (fun g => g = b) w ⟨b, i, none⟩ v rfl).mono (fun g _ e => by rw [show g = b from e]; exact hb), fun _ _ _ => rfl, fun _ _ h => h, fun g hg hl => by rw [World.size_setCell] at hl; omega⟩
/-- New memory to be lent. -/
theorem PQ.mem {w : World} {o : Nat → Nat} {b : Nat} {cur : Array Value} {C T : List Value} {cv tv : Value} {lo : Option Addr} {n lc : Nat} {L : List Fr} {TB : Nat} (h : PQ w o b cur C T cv tv lo n lc L TB) (m : Nat) (cu : Array Value) (hs : cu.size = m * 3) (h0 : 0 < m) (hm : m ≤ 200000000) :
    PQ ((w.alloc (.cells cu 80)).setCell ⟨b, 7, none⟩ (.slice (some ⟨w.heap.size, 0, none⟩) m m)) (ext w o 11) b (cur.setIfInBounds 7 (.slice (some ⟨w.heap.size, 0, none⟩) m m)) C T cv tv lo n lc L TB ∧ Ev (fun j => j = 5 ∨ j = 11) w o ((w.alloc (.cells cu 80)).setCell ⟨b, 7, none⟩ (.slice (some ⟨w.heap.size, 0, none⟩) m m)) (ext w o 11) := by
  have ta : Tch (fun _ => False) w (w.alloc (.cells cu 80)) := Tch.alloc _ _ _
  have ea := Ev.quiet (o := o) 11 ta
  have hl := (h.lw.ev ea (by omega)).put 7 (.slice (some ⟨w.heap.size, 0, none⟩) m m) (by omega)
  have hb := h.lw.ev ea (by omega)
  have es := Ev.setb hb.own (w := w.alloc (.cells cu 80)) 7 (.slice (some ⟨w.heap.size, 0, none⟩) m m)
  refine ⟨⟨hl, fun p hp => ?_, ⟨_, by rw [Array.getElem?_setIfInBounds_self_of_lt (by rw [h.lw.sz]; decide)], .inr ⟨w.heap.size, m, cu, rfl, if_neg (by omega), ?_, hs, h0, hm⟩⟩⟩, (ea.mono (fun j e => .inr e)).trans (es.mono (fun j e => .inl e))⟩
  · obtain ⟨hv, rv, e1, e2, s⟩ := h.sd p hp
    exact ⟨hv, rv, by rw [Array.getElem?_setIfInBounds_ne (by omega)]; exact e1, by rw [Array.getElem?_setIfInBounds_ne (by omega)]; exact e2, (s.ev ea (by omega) (by omega)).ev es (by omega) (by omega)⟩
  · have h1 := alloc_new w (.cells cu 80)
    have hne : w.heap.size ≠ b := by have := blk_lt h.lw.blk; omega
    exact ((Tch.setCell (fun g => g = b) (w.alloc (.cells cu 80)) ⟨b, 7, none⟩ (.slice (some ⟨w.heap.size, 0, none⟩) m m) rfl).block w.heap.size (blk_lt h1) hne).trans h1
/-- The memory that is lent was written. -/
theorem PQ.memK {w w' : World} {o o' : Nat → Nat} {b : Nat} {cur : Array Value} {C T : List Value} {cv tv : Value} {lo : Option Addr} {n lc : Nat} {L : List Fr} {TB : Nat} (h : PQ w o b cur C T cv tv lo n lc L TB) (e : Ev (fun j => j = 0 ∨ j = 11) w o w' o') {mv : Value} (hc : cur[7]? = some mv) (hm : MemO w' o' mv) : PQ w' o' b cur C T cv tv lo n lc L TB := by
  refine ⟨h.lw.ev e (by omega), fun p hp => ?_, ⟨mv, hc, hm⟩⟩
  obtain ⟨hv, rv, e1, e2, s⟩ := h.sd p hp
  exact ⟨hv, rv, e1, e2, s.ev e (by omega) (by omega)⟩
theorem DF.own {w : World} {o : Nat → Nat} {k b : Nat} {h : Dh} (H : DF w (Oth w o k) b h) : o b = k := by
  obtain ⟨lo, lc, H⟩ := H
  exact Classical.byContradiction fun e => H.fb ⟨blk_lt H.blk, e⟩
end Go.Proofs.Ytkcmpipipelgoaa
/- The law's lending within a step: stages of its region. -/
namespace Go.Proofs.Ytkcmpipipelgoaa
open Go.RowKit Go

abbrev lnT (t : Tbl) (gm m mc : Nat) : Value := .tuple #[tA t.id t.ver t.nm (.slice (some ⟨gm, 0, none⟩) m mc) t.key, .slice (some ⟨gm, 0, none⟩) (m + 8) mc]
/-- The box that floats. -/
def Bx9 (w4 : World) (p : Option Value) (W : World) : Prop := ∀ v, p = some v → ∃ mb, v = .pointer (some ⟨mb, 0, none⟩) ∧ w4.heap.size ≤ mb ∧ ∃ z0 z1 z2 z3 z4, W.heap[mb]? = some (.cells #[z0, z1, z2, z3, z4] 36 (0, 0))
def C9 (w4 : World) (t : Tbl) (gm m mc : Nat) (s : List Value) (p : Option Value) (W : World) : Prop :=
  Tch (fun i => i = gm) w4 W ∧ Bx9 w4 p W ∧ ((s = [] ∧ Tch (fun _ => False) w4 W) ∨ (s = [lnT t gm m mc] ∧ LB W gm mc t.cols (m + 8)) ∨ (s.length = 2 ∧ LB W gm mc t.cols (m + 8) ∧ ∃ mb, p = some (.pointer (some ⟨mb, 0, none⟩)) ∧ W.heap[mb]? = some (.cells #[.int .i64 t.id, .int .i64 t.ver, .string t.nm, .slice (some ⟨gm, 0, none⟩) m mc, .int .i64 t.key] 36 (0, 0))))
section
variable {w4 W : World} {t : Tbl} {gm m mc : Nat} {s : List Value} {p : Option Value}
theorem C9.zero (w4 : World) (t : Tbl) (gm m mc : Nat) : C9 w4 t gm m mc [] none w4.drew := ⟨(Tch.refl _ _).drew, fun v hv => (by cases hv), .inl ⟨rfl, (Tch.refl _ _).drew⟩⟩
theorem C9.fl (h : C9 w4 t gm m mc s none W) : C9 w4 t gm m mc s (some (.pointer (some ⟨W.heap.size, 0, none⟩))) (W.alloc (.cells #[.int .i64 0, .int .i64 0, .string ⟨#[]⟩, .slice none 0 0, .int .i64 0] 36)) := by
  obtain ⟨h1, h2, h3⟩ := h
  have ta : Tch (fun _ => False) W (W.alloc (.cells #[.int .i64 0, .int .i64 0, .string ⟨#[]⟩, .slice none 0 0, .int .i64 0] 36)) := Tch.alloc _ _ _
  refine ⟨h1.trans' (ta.mono (fun _ _ e => e.elim)), fun v hv => ?_, ?_⟩
  · injection hv with hv
    exact ⟨W.heap.size, hv.symm, h1.size, _, _, _, _, _, alloc_new W (.cells #[.int .i64 0, .int .i64 0, .string ⟨#[]⟩, .slice none 0 0, .int .i64 0] 36)⟩
  · rcases h3 with ⟨e, h3⟩ | ⟨e, h3⟩ | ⟨_, _, mb, e, _⟩
    · exact .inl ⟨e, h3.trans' ta⟩
    · exact .inr (.inl ⟨e, h3.tch ta (fun e => e)⟩)
    · cases e
theorem C9.call {cu : Array Value} {ao : Option Addr} {c : Nat} (h : C9 w4 t gm m mc [] p W) (hg : w4.heap[gm]? = some (.cells cu 80 (0, 0))) (hs : cu.size = mc * 3) (hm : m = t.cols.length) (h8 : m + 8 ≤ mc) (h9 : m ≤ 100000000) (hS : SL w4 ao (ccl t.cols)) (hno : ao = none → t.cols = [] ∧ c = 0) :
    Calls Try.prog 28 #[.slice (some ⟨gm, 0, none⟩) (m + 8) mc, tA t.id t.ver t.nm (.slice ao m c) t.key] W fun r w' => r = .returned (lnT t gm m mc) ∧ C9 w4 t gm m mc [lnT t gm m mc] p w' := by
  obtain ⟨h1, h2, h3⟩ := h
  have h3' : Tch (fun _ => False) w4 W := by
    rcases h3 with ⟨_, h3⟩ | ⟨e, _⟩ | ⟨e, _⟩
    · exact h3
    · cases e
    · cases e
  have hg' := (h3'.block gm (blk_lt hg) (fun e => e)).trans hg
  have hgl := blk_lt hg
  have hq := lentIn_any gm mc (m + 8) cu t ao c W hg' hs (by omega) h8 (by omega) (by omega) (hS.no h3') hno
  rw [← hm] at hq
  refine hq.mono ?_
  rintro r w' ⟨rfl, hB, t'⟩
  refine ⟨rfl, h1.trans t' (fun _ _ e => e), fun v hv => ?_, .inr (.inl ⟨rfl, hB⟩)⟩
  obtain ⟨mb, e, h5, z0, z1, z2, z3, z4, h7⟩ := h2 v hv
  exact ⟨mb, e, h5, z0, z1, z2, z3, z4, (t'.block mb (blk_lt h7) (fun e => by have e' : mb = gm := e; omega)).trans h7⟩
theorem C9.one {y : Value} (h : C9 w4 t gm m mc [y] p W) : y = lnT t gm m mc := by
  rcases h.2.2 with ⟨e, _⟩ | ⟨e, _⟩ | ⟨e, _⟩
  · cases e
  · injection e
  · cases e
theorem C9.ptr {v : Value} (h : C9 w4 t gm m mc s (some v) W) : ∃ mb, v = .pointer (some ⟨mb, 0, none⟩) := by
  obtain ⟨mb, e, _⟩ := h.2.1 v rfl
  exact ⟨mb, e⟩
theorem C9.st {y z : Value} {mb : Nat} (h : C9 w4 t gm m mc [y] (some (.pointer (some ⟨mb, 0, none⟩))) W) (hgm : gm < w4.heap.size) : (∃ z0 z1 z2 z3 z4, W.heap[mb]? = some (.cells #[z0, z1, z2, z3, z4] 36 (0, 0))) ∧ C9 w4 t gm m mc [y, z] (some (.pointer (some ⟨mb, 0, none⟩))) (((((W.setCell ⟨mb, 0, none⟩ (.int .i64 t.id)).setCell ⟨mb, 1, none⟩ (.int .i64 t.ver)).setCell ⟨mb, 2, none⟩ (.string t.nm)).setCell ⟨mb, 3, none⟩ (.slice (some ⟨gm, 0, none⟩) m mc)).setCell ⟨mb, 4, none⟩ (.int .i64 t.key)) := by
  obtain ⟨h1, h2, h3⟩ := h
  obtain ⟨mb', e, h5, z0, z1, z2, z3, z4, h7⟩ := h2 _ rfl
  injection e with e; injection e with e; injection e with e
  subst e
  have h4 : LB W gm mc t.cols (m + 8) := by
    rcases h3 with ⟨e, _⟩ | ⟨_, h⟩ | ⟨e, _⟩
    · cases e
    · exact h
    · cases e
  have hb5 := set5 h7 (.int .i64 t.id) (.int .i64 t.ver) (.string t.nm) (.slice (some ⟨gm, 0, none⟩) m mc) (.int .i64 t.key)
  have t5 := tch5 W mb (.int .i64 t.id) (.int .i64 t.ver) (.string t.nm) (.slice (some ⟨gm, 0, none⟩) m mc) (.int .i64 t.key)
  refine ⟨⟨z0, z1, z2, z3, z4, h7⟩, h1.trans t5 (fun i hi e => by have e' : i = mb := e; omega), fun v hv => ?_, .inr (.inr ⟨rfl, h4.tch t5 (fun e => by have e' : gm = mb := e; omega), mb, rfl, hb5⟩)⟩
  injection hv with hv
  exact ⟨mb, hv.symm, h5, _, _, _, _, _, hb5⟩
theorem C9.fin {y z : Value} {mb : Nat} (h : C9 w4 t gm m mc [y, z] (some (.pointer (some ⟨mb, 0, none⟩))) W) : Tch (fun i => i = gm) w4 W ∧ LB W gm mc t.cols (m + 8) ∧ W.heap[mb]? = some (.cells #[.int .i64 t.id, .int .i64 t.ver, .string t.nm, .slice (some ⟨gm, 0, none⟩) m mc, .int .i64 t.key] 36 (0, 0)) ∧ w4.heap.size ≤ mb := by
  obtain ⟨h1, h2, h3⟩ := h
  rcases h3 with ⟨e, _⟩ | ⟨e, _⟩ | ⟨_, hB, mb', e, h4⟩
  · cases e
  · cases e
  · injection e with e; injection e with e; injection e with e; injection e with e
    subst e
    obtain ⟨mb2, e, h5, _⟩ := h2 _ rfl
    injection e with e; injection e with e; injection e with e
    subst e
    exact ⟨h1, hB, h4, h5⟩
end
end Go.Proofs.Ytkcmpipipelgoaa
