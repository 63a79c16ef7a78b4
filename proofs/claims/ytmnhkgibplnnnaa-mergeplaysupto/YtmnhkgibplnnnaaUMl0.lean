import Derived.Test.YtmnhkgibplnnnaaUMlL
import Derived.Test.YtmnhkgibplnnnaaUR2
import Derived.Test.YtmnhkgibplnnnaaUStill
import Derived.Test.YtmnhkgibplnnnaaURi
/- MergeLists: the worlds of the law's walk. -/
namespace Go.Proofs.Ytmnhkgibplnnnaa
open Go.RowKit Go

theorem Sm.trans {a b c : Rc} (h : Sm a b) (k : Sm b c) : Sm a c := ⟨k.l.trans h.l, k.x.trans h.x, k.k.trans h.k, k.t.trans h.t, k.o.trans h.o, k.n.trans h.n⟩
theorem Sm.symm {a b : Rc} (h : Sm a b) : Sm b a := ⟨h.l.symm, h.x.symm, h.k.symm, h.t.symm, h.o.symm, h.n.symm⟩
theorem rdv_eq {w : World} {ao : Option Addr} {n c : Nat} {l : List Vl} (h : RdR w ao n c (vcl l)) (hl : l.length = n) : rdv w ao n = l := by
  rcases h.at' with ⟨rfl, rfl, rfl⟩ | ⟨a, rfl, hc⟩
  · exact (List.length_eq_zero_iff.1 hl).symm
  · apply List.ext_getElem?
    intro i
    by_cases hi : i < n
    · obtain ⟨v, hv⟩ : ∃ v, l[i]? = some v := ⟨_, List.getElem?_eq_getElem (by omega)⟩
      obtain ⟨g, o, e, x0, x1, x2⟩ := h.nth hv
      obtain rfl : a = ⟨g, o, none⟩ := by simpa using e
      rw [hv]
      simp only [rdv, List.getElem?_map]
      rw [List.getElem?_range hi]
      simp only [Option.map_some, add_plain]
      rw [x0, x1, x2]
      rfl
    · rw [List.getElem?_eq_none (l := rdv w (some a) n) (by simp [rdv]; omega), List.getElem?_eq_none (l := l) (by omega)]
theorem RdR.own {w : World} {base : Nat} {ao : Option Addr} {n c : Nat} {cs : List Value} (h : w.ownsRow base 76 3 (.slice ao n c) n cs) (ho : ∀ u ∈ cs, u.oneCell' = true) (hs : n ≤ 1000000000000) : RdR w ao n c cs := by
  refine ⟨h.1, ho, hs, ?_⟩
  rcases id h.2 with ⟨e, _⟩ | ⟨g, cap, cur, e, _⟩
  · simp only [Value.slice.injEq] at e
    exact .inl e
  · simp only [Value.slice.injEq] at e
    obtain ⟨rfl, _, rfl⟩ := e
    exact .inr ⟨_, rfl, h.cells (g := g) rfl⟩
/-- c' is c, with rows of its own. -/
structure Cpy (W : World) (base : Nat) (w : World) (c c' : Rc) : Prop where
  sm : Sm c c'
  own : OwnC base w c' (DW W c).1 (DW W c).2
  ch : ChIn W c
theorem Cpy.ro {W : World} {base : Nat} {w : World} {c c' : Rc} (h : Cpy W base w c c') : RdR w c'.oa c'.ol c'.oc (vcl (rdv W c.oa c.ol)) := RdR.own h.own.o (vcl_one _) (by rw [h.sm.o]; exact h.ch.o.rd.sm)
theorem Cpy.rn {W : World} {base : Nat} {w : World} {c c' : Rc} (h : Cpy W base w c c') : RdR w c'.na c'.nl c'.nc (vcl (rdv W c.na c.nl)) := RdR.own h.own.n (vcl_one _) (by rw [h.sm.n]; exact h.ch.n.rd.sm)
theorem Cpy.dw {W : World} {base : Nat} {w : World} {c c' : Rc} (h : Cpy W base w c c') : DW w c' = DW W c := by
  unfold DW
  rw [rdv_eq h.ro (by rw [h.ch.o.len, h.sm.o]), rdv_eq h.rn (by rw [h.ch.n.len, h.sm.n])]
theorem Cpy.tch {S : Nat → Prop} {W : World} {base : Nat} {w w' : World} {c c' : Rc} (h : Cpy W base w c c') (t : Tch S w w') (hS : ∀ g cur, w.heap[g]? = some (.cells cur 76 (0, 0)) → ¬ S g) : Cpy W base w' c c' := ⟨h.sm, h.own.tch t hS, h.ch⟩
theorem A2.mono {α β : Type} {R R' : α → β → Prop} {l : List α} {m : List β} (h : A2 R l m) (hR : ∀ a b, R a b → R' a b) : A2 R' l m := ⟨h.len, fun i a b x y => hR a b (h.el i a b x y)⟩
theorem A2.snoc {α β : Type} {R : α → β → Prop} {u : List α} {m : List β} {k : Nat} {a : α} {b : β} (h : A2 R (u.take k) m) (ha : u[k]? = some a) (r : R a b) : A2 R (u.take (k + 1)) (m ++ [b]) := by
  have hk : k < u.length := (List.getElem?_eq_some_iff.1 ha).1
  have hm : m.length = k := by rw [← h.len, List.length_take]; omega
  refine ⟨by simp [hm]; omega, fun i x y hx hy => ?_⟩
  rcases Nat.lt_trichotomy i k with h1 | h1 | h1
  · rw [List.getElem?_append_left (by omega)] at hy
    rw [List.getElem?_take_of_lt (by omega)] at hx
    exact h.el i x y (by rw [List.getElem?_take_of_lt h1]; exact hx) hy
  · subst h1
    rw [List.getElem?_append_right (by omega), hm, Nat.sub_self] at hy
    rw [List.getElem?_take_of_lt (by omega), ha] at hx
    simp at hx hy; subst hx hy; exact r
  · rw [List.getElem?_eq_none (by simp; omega)] at hy; cases hy
def r77 : Rc := ⟨-77, 0, 0, 0, none, 0, 0, none, 0, 0⟩
def r9 : Rc := ⟨-9, 0, 0, 0, none, 0, 0, none, 0, 0⟩
theorem kc6_one (c : Rc) : ∀ u ∈ kc6 c, u.oneCell' = true := fun u hu => by
  simp only [kc6, List.mem_cons, List.not_mem_nil, or_false] at hu; rcases hu with rfl | rfl | rfl | rfl | rfl | rfl <;> rfl
/-- A list u as the law has it: u', and one change more behind it. -/
structure Lw (W : World) (gO : Nat) (w : World) (g cp : Nat) (u u' : List Rc) : Prop where
  own : w.ownsRow (gO + 1) 27 6 (.slice (some ⟨g, 0, none⟩) (u.length + 1) cp) (u.length + 1) (kcl (u' ++ [r77]))
  el : A2 (Cpy W (gO + 1) w) u u'
theorem Lw.tch {S : Nat → Prop} {W : World} {gO : Nat} {w w' : World} {g cp : Nat} {u u' : List Rc} (h : Lw W gO w g cp u u') (t : Tch S w w') (hC : ∀ g cur, w.heap[g]? = some (.cells cur 27 (0, 0)) → ¬ S g) (hV : ∀ g cur, w.heap[g]? = some (.cells cur 76 (0, 0)) → ¬ S g) : Lw W gO w' g cp u u' :=
  ⟨own_tch h.own t (fun g e => by obtain ⟨cur, hg⟩ := own_ty h.own e; exact hC g cur hg), h.el.mono (fun a b r => r.tch t hV)⟩
/-- The first loop's state, i lists done. -/
structure P1 (W : World) (gO : Nat) (ls : List (List Rc)) (i : Nat) (wr : World) (oc : Array Value) (hr : List Value) (ls' : List (List Rc)) : Prop where
  blk : wr.heap[gO]? = some (.cells oc 28 (0, 0))
  osz : oc.size = ls.length + 1
  oz : ∀ j, i ≤ j → j ≤ ls.length → oc[j]? = some (.slice none 0 0)
  hl : hr.length = i
  len : ls'.length = i
  el : ∀ (j : Nat) (u u' : List Rc), ls[j]? = some u → ls'[j]? = some u' → ∃ g cp, oc[j]? = some (.slice (some ⟨g, 0, none⟩) u.length cp) ∧ hr[j]? = some (.slice (some ⟨g, 0, none⟩) (u.length + 1) cp) ∧ Lw W gO wr g cp u u'
  tch : Tch (fun g => gO ≤ g) W wr
/-- The inner loop's state. -/
structure P2 (W : World) (gO : Nat) (i : Nat) (u : List Rc) (wr : World) (oc : Array Value) (wq : World) (ao : Option Addr) (k cp : Nat) (u' : List Rc) : Prop where
  blk : wq.heap[gO]? = some (.cells (oc.setIfInBounds i (.slice ao k cp)) 28 (0, 0))
  own : wq.ownsRow wr.heap.size 27 6 (.slice ao k cp) k (kcl u')
  el : A2 (Cpy W (gO + 1) wq) (u.take k) u'
  tch : Tch (fun g => g = gO ∨ wr.heap.size ≤ g) wr wq
theorem P1.enter {W : World} {gO : Nat} {ls : List (List Rc)} {i : Nat} {wr : World} {oc : Array Value} {hr : List Value} {ls' : List (List Rc)} (h : P1 W gO ls i wr oc hr ls') {u : List Rc} (hu : ls[i]? = some u) : P2 W gO i u wr oc wr none 0 0 [] := by
  have hi : i < ls.length := (List.getElem?_eq_some_iff.1 hu).1
  refine ⟨?_, World.ownsRow_nil _ _ _ _, A2.nil _, Tch.refl _ _⟩
  have e : oc.setIfInBounds i (.slice none 0 0) = oc := by
    apply Array.ext_getElem?
    intro j
    have h0 := h.oz i (Nat.le_refl _) (by omega)
    rw [Array.getElem?_setIfInBounds]
    split
    · rename_i e; subst e; rw [if_pos (by rw [h.osz]; omega), h0]
    · rfl
  rw [e]; exact h.blk
/-- A step of the inner loop: what the append has given is stored. -/
theorem P2.step {W : World} {gO i : Nat} {u : List Rc} {wr : World} {oc : Array Value} {wq : World} {ao : Option Addr} {k cp : Nat} {u' : List Rc} (h : P2 W gO i u wr oc wq ao k cp u') (hgO : gO < wr.heap.size) {W3 : World} {v3 : Value} {c' : Rc}
    (ho : W3.ownsRow wr.heap.size 27 6 v3 (k + 1) (kcl (u' ++ [c']))) (ha : A2 (Cpy W (gO + 1) W3) (u.take (k + 1)) (u' ++ [c'])) (t : Tch (fun g => (Value.slice ao k cp).ownBlock = some g) wq W3) {o3 : Option Addr} {c3 : Nat} (e3 : v3 = .slice o3 (k + 1) c3) :
    W3.cell? ⟨gO, i, none⟩ = (oc.setIfInBounds i (.slice ao k cp))[i]? ∧ (∀ j, W3.frozen? ⟨gO, j, none⟩ = false) ∧ P2 W gO i u wr oc (W3.setCell ⟨gO, i, none⟩ v3) o3 (k + 1) c3 (u' ++ [c']) := by
  have hb : W3.heap[gO]? = some (.cells (oc.setIfInBounds i (.slice ao k cp)) 28 (0, 0)) := (t.block gO (blk_lt h.blk) (fun e => by have := (h.own.lt gO e).1; omega)).trans h.blk
  have ts : Tch (fun g => g = gO) W3 (W3.setCell ⟨gO, i, none⟩ v3) := Tch.setCell (fun g => g = gO) _ _ _ rfl
  refine ⟨blk_cell hb i, blk_frozen hb, ⟨?_, ?_, ?_, ?_⟩⟩
  · rw [blk_set hb, e3]; simp
  · rw [← e3]; exact own_tch ho ts (fun g e e2 => by have := (ho.lt g e).1; omega)
  · exact ha.mono (fun a b r => r.tch ts (fun g cur hg e => by subst e; exact ne_ty hg hb (by decide) rfl))
  · exact (h.tch.trans t (fun g hg e => .inr (h.own.lt g e).1)).trans ts (fun g hg e => .inl e)
end Go.Proofs.Ytmnhkgibplnnnaa
