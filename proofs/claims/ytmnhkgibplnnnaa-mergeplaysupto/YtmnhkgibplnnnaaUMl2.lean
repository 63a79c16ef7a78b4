import Derived.Test.YtmnhkgibplnnnaaUMl1
/- MergeLists: behind the first loop. -/
namespace Go.Proofs.Ytmnhkgibplnnnaa
open Go.RowKit Go

theorem own_nth {base n : Nat} {w : World} {ao : Option Addr} {cp m : Nat} {u : List Rc} (h : w.ownsRow base 27 6 (.slice ao n cp) m (kcl u)) {k : Nat} {c : Rc} (hk : u[k]? = some c) : ∃ g, ao = some ⟨g, 0, none⟩ ∧ n = m ∧ ∀ j v, (kc6 c)[j]? = some v → w.cell? ⟨g, k * 6 + j, none⟩ = some v := by
  have hl := h.1
  rw [kcl_len] at hl
  have hk' := (List.getElem?_eq_some_iff.1 hk).1
  rcases id h.2 with ⟨_, e⟩ | ⟨g, cap, cur, e, _⟩
  · omega
  · simp only [Value.slice.injEq] at e
    obtain ⟨rfl, rfl, rfl⟩ := e
    refine ⟨g, rfl, rfl, fun j v hv => ?_⟩
    have := h.cells (g := g) rfl _ _ (kcl_get u k c hk j v hv)
    rw [add_plain, Nat.zero_add] at this; exact this
theorem P1.lls {W : World} {gO : Nat} {ls : List (List Rc)} {n : Nat} {wr : World} {oc : Array Value} {hr : List Value} {ls' : List (List Rc)} (h : P1 W gO ls n wr oc hr ls') (hn : n = ls.length) : LLs (DW wr) wr.heap.size wr (some ⟨gO, 0, none⟩) (oc.toList.take n) ls' := by
  have hz := h.osz
  have hl := h.len
  refine ⟨by simp; omega, fun _ => ⟨gO, 0, rfl, blk_lt h.blk, fun j v hv => ?_⟩, fun j u' hu' => ?_⟩
  · have hj : j < n := by have := (List.getElem?_eq_some_iff.1 hv).1; simp at this; omega
    rw [List.getElem?_take_of_lt hj, Array.getElem?_toList] at hv
    rw [Nat.zero_add, blk_cell h.blk]; exact hv
  · have hj : j < n := by have := (List.getElem?_eq_some_iff.1 hu').1; omega
    have hu : ls[j]? = some (ls[j]'(by omega)) := List.getElem?_eq_getElem (by omega)
    obtain ⟨g, cp, e1, _, hw⟩ := h.el j _ u' hu hu'
    have hlen := hw.el.len
    obtain ⟨cu, hc⟩ := own_ty hw.own (g := g) rfl
    obtain ⟨g', cp', cu', e, _, _, h1, h2, _⟩ := own_open hw.own (by omega)
    simp only [Value.slice.injEq] at e
    obtain ⟨_, _, rfl⟩ := e
    refine ⟨some ⟨g, 0, none⟩, cp, by rw [List.getElem?_take_of_lt hj, Array.getElem?_toList, ← hlen]; exact e1, ⟨by omega, by unfold maxLen at h2; omega, fun _ => ⟨g, 0, blk_lt hc, rfl, fun j v hv => ?_⟩, fun c' hc' => ?_⟩⟩
    · have := hw.own.cells (g := g) rfl j v (by rw [kcl_snoc, List.getElem?_append_left (List.getElem?_eq_some_iff.1 hv).1]; exact hv)
      rw [add_plain] at this; exact this
    · obtain ⟨i, hi⟩ := List.getElem?_of_mem hc'
      obtain ⟨c, _, r⟩ := hw.el.get' hi
      have e := r.dw
      refine ⟨by rw [e]; exact r.ro, by rw [e]; exact r.rn, fun a ha h0 => ?_, fun a ha h0 => ?_⟩
      · rcases id r.own.o.2 with ⟨e2, _⟩ | ⟨g2, _, _, e2, _, hg2, _⟩
        · simp [ha] at e2
        · simp only [Value.slice.injEq] at e2
          rw [ha] at e2
          have : a = ⟨g2, 0, none⟩ := by simpa using e2.1
          subst this
          exact blk_lt hg2
      · rcases id r.own.n.2 with ⟨e2, _⟩ | ⟨g2, _, _, e2, _, hg2, _⟩
        · simp [ha] at e2
        · simp only [Value.slice.injEq] at e2
          rw [ha] at e2
          have : a = ⟨g2, 0, none⟩ := by simpa using e2.1
          subst this
          exact blk_lt hg2
theorem P1.rel {W : World} {gO : Nat} {ls : List (List Rc)} {n : Nat} {wr : World} {oc : Array Value} {hr : List Value} {ls' : List (List Rc)} (h : P1 W gO ls n wr oc hr ls') (hn : n = ls.length) : A2 (A2 (Cpy W (gO + 1) wr)) ls ls' :=
  ⟨by rw [h.len, hn], fun i u u' hu hu' => by obtain ⟨_, _, _, _, hw⟩ := h.el i u u' hu hu'; exact hw.el⟩
theorem P1.later {W : World} {gO : Nat} {ls : List (List Rc)} {n : Nat} {wr w' : World} {oc : Array Value} {hr : List Value} {ls' : List (List Rc)} (h : P1 W gO ls n wr oc hr ls') (t : Tch (fun k => wr.heap.size ≤ k) wr w') : P1 W gO ls n w' oc hr ls' := by
  have no : ∀ k o, wr.heap[k]? = some o → ¬ wr.heap.size ≤ k := fun k o hk => by have := blk_lt hk; omega
  refine ⟨(t.block gO (blk_lt h.blk) (no _ _ h.blk)).trans h.blk, h.osz, h.oz, h.hl, h.len, fun j u u' hu hu' => ?_, h.tch.trans t (fun k hk e => ?_)⟩
  · obtain ⟨g, cp, e1, e2, hw⟩ := h.el j u u' hu hu'
    exact ⟨g, cp, e1, e2, hw.tch t (fun k cur hk => no _ _ hk) (fun k cur hk => no _ _ hk)⟩
  · have := blk_lt h.blk; have := h.tch.size; show gO ≤ k; omega
/-- The merge of the copies, as the merge of the lists. -/
theorem both {W w w2 : World} {base N : Nat} {ls ls' : List (List Rc)} {outr out out' : List Rc} (hA : A2 (A2 (Cpy W base w)) ls ls') (m : Mrg Rc.l ls outr) (m' : Mrg Rc.l ls' out) (td : Td (DW w) N w2 out out') : Td (DW W) N w2 outr out' ∧ ∀ c ∈ outr, ChIn W c := by
  obtain ⟨out2, m2, a2⟩ := Mrg.rel (k' := Rc.l) (fun a b h => h.sm.l.symm) m hA
  obtain rfl := m2.uniq m'
  refine ⟨⟨td.len.trans a2.len.symm, fun i c c' hc hc' => ?_, td.dis⟩, fun c hc => ?_⟩
  · obtain ⟨d, hd, r⟩ := a2.get hc
    obtain ⟨s, o⟩ := td.el i d c' hd hc'
    rw [r.dw] at o
    exact ⟨r.sm.trans s, o⟩
  · obtain ⟨i, hi⟩ := List.getElem?_of_mem hc
    obtain ⟨d, _, r⟩ := a2.get hi
    exact r.ch
theorem RowIn.later {W w : World} {ao : Option Addr} {n c : Nat} (h : RowIn W ao n c) (t : Tch (fun g => W.heap.size ≤ g) W w) : RdR w ao n c (vcl (rdv W ao n)) := h.rd.tch t (fun a e h0 e2 => by have := h.lt a e h0; omega)
theorem own_cap {w : World} {base sz n : Nat} {t : TypeId} {ao : Option Addr} {l c : Nat} {xs : List Value} (h : w.ownsRow base t sz (.slice ao l c) n xs) : n ≤ c ∧ c ≤ 9223372036854775807 := by
  rcases id h.2 with ⟨e, h0⟩ | ⟨g, cap, cur, e, _, _, h1, h2, _⟩
  · simp only [Value.slice.injEq] at e
    omega
  · simp only [Value.slice.injEq] at e
    unfold maxLen at h2
    omega
theorem alike_pair {W w : World} {base : Nat} {c c' : Rc} (r : Cpy W base w c c') (t : Tch (fun g => W.heap.size ≤ g) W w) : Calls Try.prog 15 #[rcV c', rcV c] w fun e w' => e = .returned (.bool true) ∧ Tch (fun _ => False) w w' := by
  have hco := own_cap r.own.o
  have hcn := own_cap r.own.n
  have h1 := r.ch.o.le
  have h2 := r.ch.o.cap
  have h3 := r.ch.n.le
  have h4 := r.ch.n.cap
  unfold maxLen at h2 h4
  have so := r.sm.o
  have sn := r.sm.n
  refine alike_same c' c (rdv W c.oa c.ol) (rdv W c.na c.nl) w r.sm.symm (by rw [r.ch.o.len, so]) (by rw [r.ch.n.len, sn]) r.ro ?_ r.rn ?_ ⟨by omega, by omega, by omega, by omega⟩ ⟨by omega, by omega, by omega, by omega⟩
  · rw [so]; exact r.ch.o.later t
  · rw [sn]; exact r.ch.n.later t
theorem kc6_len (c : Rc) : (kc6 c).length = 6 := rfl
theorem kcl_at (u : List Rc) (q r : Nat) (hr : r < 6) : (kcl u)[q * 6 + r]? = (u[q]?).bind (fun c => (kc6 c)[r]?) := by
  by_cases hq : q < u.length
  · rw [List.getElem?_eq_getElem hq]
    have h6 : r < (kc6 u[q]).length := by rw [kc6_len]; exact hr
    rw [kcl_get u q _ (List.getElem?_eq_getElem hq) r _ (List.getElem?_eq_getElem h6)]
    simp [List.getElem?_eq_getElem h6]
  · rw [List.getElem?_eq_none (l := kcl u) (by rw [kcl_len]; omega), List.getElem?_eq_none (l := u) (by omega)]; rfl
/-- A change of a row of one's own is written over. -/
theorem own_set {base n : Nat} {w : World} {g cp m : Nat} {u : List Rc} (h : w.ownsRow base 27 6 (.slice (some ⟨g, 0, none⟩) n cp) m (kcl u)) {k : Nat} (hk : k < u.length) (c : Rc) :
    ((((((w.setCell ⟨g, k * 6, none⟩ (.int .i64 c.l)).setCell ⟨g, k * 6 + 1, none⟩ (.int .i64 c.x)).setCell ⟨g, k * 6 + 2, none⟩ (.int .i64 c.k)).setCell ⟨g, k * 6 + 3, none⟩ (.int .i64 c.t)).setCell ⟨g, k * 6 + 4, none⟩ (.slice c.oa c.ol c.oc)).setCell ⟨g, k * 6 + 5, none⟩ (.slice c.na c.nl c.nc)).ownsRow base 27 6 (.slice (some ⟨g, 0, none⟩) n cp) m (kcl (u.set k c)) := by
  have hl := h.1
  rw [kcl_len] at hl
  rcases id h.2 with ⟨e, _⟩ | ⟨g', cap, cur, e, hb, hg, h1, h2, h3, h4⟩
  · simp at e
  · simp only [Value.slice.injEq] at e
    obtain ⟨e, rfl, rfl⟩ := e
    have eg : g = g' := by simpa using e
    subst eg
    refine ⟨by rw [kcl_len, List.length_set]; exact hl, .inr ⟨g, cp, _, rfl, hb, blk_set (blk_set (blk_set (blk_set (blk_set (blk_set hg _) _) _) _) _) _, h1, h2, by simpa using h3, ?_⟩⟩
    apply List.ext_getElem?
    intro j
    by_cases hj : j < n * 6
    · obtain ⟨q, r, rfl, hr⟩ : ∃ q r, j = q * 6 + r ∧ r < 6 := ⟨j / 6, j % 6, by omega, by omega⟩
      rw [List.getElem?_take_of_lt hj, kcl_at _ _ _ hr, List.getElem?_set]
      have hold : cur.toList[q * 6 + r]? = (u[q]?).bind (fun c => (kc6 c)[r]?) := by
        rw [← kcl_at _ _ _ hr, ← h4, List.getElem?_take_of_lt hj]
      rw [Array.getElem?_toList] at hold ⊢
      have hsz : k * 6 + 5 < cur.size := by omega
      simp only [Array.getElem?_setIfInBounds, Array.size_setIfInBounds]
      by_cases hq : k = q
      · subst hq
        rw [if_pos rfl, if_pos hk]
        simp only [Option.bind_some]
        rcases (by omega : r = 0 ∨ r = 1 ∨ r = 2 ∨ r = 3 ∨ r = 4 ∨ r = 5) with rfl | rfl | rfl | rfl | rfl | rfl <;> simp [kc6] <;> omega
      · rw [if_neg hq, if_neg (by omega), if_neg (by omega), if_neg (by omega), if_neg (by omega), if_neg (by omega), if_neg (by omega)]
        exact hold
    · rw [List.getElem?_eq_none (by simp; omega), List.getElem?_eq_none (by rw [kcl_len, List.length_set]; omega)]
end Go.Proofs.Ytmnhkgibplnnnaa
