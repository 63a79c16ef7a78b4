import Derived.Test.YtmnhkgibplnnnaaUR1
import Derived.Test.YtmnhkgibplnnnaaUMl2
/- MergePlays: the document's merge over lists of the law's own: Add. -/
namespace Go.Proofs.Ytmnhkgibplnnnaa
open Go.RowKit Go

/-- A list of changes of one's own. -/
def VL (w : World) (ao : Option Addr) (cp : Nat) (l : List Rc) : Prop := w.ownsRow 0 27 6 (.slice ao l.length cp) l.length (kcl l)
theorem VL.no {w w' : World} {ao : Option Addr} {cp : Nat} {l : List Rc} (h : VL w ao cp l) (t : Tch (fun _ => False) w w') : VL w' ao cp l := own_tch h t (fun _ _ h => h)
theorem VL.ty {S : Nat → Prop} {w w' : World} {ao : Option Addr} {cp : Nat} {l : List Rc} (h : VL w ao cp l) (t : Tch S w w') (hS : ∀ g cur, w.heap[g]? = some (.cells cur 27 (0, 0)) → ¬ S g) : VL w' ao cp l := own_tch h t (fun g e => by obtain ⟨cu, hcu⟩ := own_ty h e; exact hS g cu hcu)
theorem VL.nth {w : World} {ao : Option Addr} {cp : Nat} {l : List Rc} (h : VL w ao cp l) {n : Nat} {c : Rc} (hn : l[n]? = some c) : ∃ g o, ao = some ⟨g, o, none⟩ ∧ ∀ j v, (kc6 c)[j]? = some v → w.cell? ⟨g, o + n * 6 + j, none⟩ = some v := by
  obtain ⟨g, e, _, hx⟩ := own_nth h hn
  exact ⟨g, 0, e, fun j v hv => by rw [Nat.zero_add]; exact hx j v hv⟩
theorem VL.len {w : World} {ao : Option Addr} {cp : Nat} {l : List Rc} (h : VL w ao cp l) : l.length ≤ cp := (own_cap h).1
theorem VL.cap {w : World} {ao : Option Addr} {cp : Nat} {l : List Rc} (h : VL w ao cp l) : cp ≤ 9223372036854775807 := (own_cap h).2
/-- The document's merge in the world: its lists, and where each of them stands. -/
structure RV (base : Nat) (w : World) (rb : Nat) (vL vA : Value) (hd : List Value) (ls : List (List Rc)) (nx : List Nat) : Prop where
  blk : w.heap[rb]? = some (.cells #[vL, vA] 38 (0, 0))
  oL : w.ownsRow base 28 1 vL ls.length hd
  oA : w.ownsRow base 3 1 vA ls.length (ncl nx)
  el : ∀ (j : Nat) (l : List Rc), ls[j]? = some l → ∃ (ao : Option Addr) (cp : Nat), hd[j]? = some (Value.slice ao l.length cp) ∧ VL w ao cp l
  nl : nx.length = ls.length
  le : ∀ (j : Nat) (l : List Rc) (n : Nat), ls[j]? = some l → nx[j]? = some n → n ≤ l.length
  lo : base ≤ rb
theorem RV.no {base : Nat} {w w' : World} {rb : Nat} {vL vA : Value} {hd : List Value} {ls : List (List Rc)} {nx : List Nat} (h : RV base w rb vL vA hd ls nx) (t : Tch (fun _ => False) w w') : RV base w' rb vL vA hd ls nx :=
  ⟨(t.block rb (blk_lt h.blk) (fun h => h)).trans h.blk, own_tch h.oL t (fun _ _ h => h), own_tch h.oA t (fun _ _ h => h), fun j l e => by
    obtain ⟨ao, cp, e2, hr⟩ := h.el j l e
    exact ⟨ao, cp, e2, hr.no t⟩, h.nl, h.le, h.lo⟩
set_option maxHeartbeats 4000000 in
set_option maxRecDepth 100000 in
theorem rvadd_any (base : Nat) (w : World) (rb : Nat) (vL vA : Value) (hd : List Value) (ls : List (List Rc)) (nx : List Nat) (h : RV base w rb vL vA hd ls nx) (l0 : List Rc) (ao : Option Addr) (cp : Nat) (hl : VL w ao cp l0) (hbw : base ≤ w.heap.size) (hs : ls.length ≤ 1000000000) :
    Calls Try.prog 12 #[.pointer (some ⟨rb, 0, none⟩), .slice ao l0.length cp] w fun e w' => e = .returned (.tuple #[]) ∧ (∃ vL' vA', RV base w' rb vL' vA' (hd ++ [.slice ao l0.length cp]) (ls ++ [l0]) (nx ++ [0]) ∧ (∀ b, vL'.ownBlock = some b → vL.ownBlock = some b ∨ w.heap.size ≤ b) ∧ (∀ b, vA'.ownBlock = some b → vA.ownBlock = some b ∨ w.heap.size ≤ b)) ∧ Tch (fun i => i = rb ∨ vL.ownBlock = some i ∨ vA.ownBlock = some i) w w' := by
  obtain ⟨i0, hi0, hz0, hz1, hz2⟩ := info_parts info_sl
  obtain ⟨i1, hi1, hy0, hy1, hy2⟩ := info_parts info_int
  obtain ⟨loL, lcL, rfl⟩ := row_slice h.oL
  obtain ⟨loA, lcA, rfl⟩ := row_slice h.oA
  obtain ⟨n, hn⟩ : ∃ n, n = ls.length := ⟨_, rfl⟩
  obtain ⟨m, hm⟩ : ∃ m, m = l0.length := ⟨_, rfl⟩
  -- the first append
  obtain ⟨wa, hwa⟩ : ∃ wa, wa = w.alloc (.cells #[.slice ao m cp] 28) := ⟨_, rfl⟩
  have ta : Tch (fun _ => False) w wa := by rw [hwa]; exact Tch.alloc _ _ _
  have ba : wa.heap[w.heap.size]? = some (.cells #[.slice ao m cp] 28 (0, 0)) := by rw [hwa]; exact alloc_new _ _
  obtain ⟨v1, w1, hr1, ho1, hg1, _, hat1⟩ := run_append_own_at (P := Try.prog) wa base 23 23 28 i0 _ 1 24 Try.underlying23 hi0 hz0 hz1 hz2 rfl (by decide) _ _ _ (own_tch h.oL ta (fun _ _ h => h)) ⟨w.heap.size, 0, none⟩ 1 1 [.slice ao m cp] rfl (fun j u hu => by
    rw [add_plain, Nat.zero_add, blk_cell ba, show (#[.slice ao m cp] : Array Value) = [.slice ao m cp].toArray from rfl, List.getElem?_toArray]; exact hu) (fun u hu => by simp only [List.mem_cons, List.not_mem_nil, or_false] at hu; rw [hu]; rfl) (by unfold maxLen; omega) (by omega) (Nat.le_trans hbw ta.size)
  have t1 : Tch (fun i => (Value.slice loL ls.length lcL).ownBlock = some i) wa w1 := Tch.of_grown hg1 (fun g e => e)
  obtain ⟨o1, c1, rfl⟩ := row_slice ho1
  have hbla := (ta.block rb (blk_lt h.blk) (fun h => h)).trans h.blk
  have hbl1 : w1.heap[rb]? = some (.cells #[.slice loL ls.length lcL, .slice loA ls.length lcA] 38 (0, 0)) := (t1.block rb (blk_lt hbla) (fun e => by
    obtain ⟨cur, hc⟩ := own_ty (own_tch h.oL ta (fun _ _ h => h)) e
    exact ne_ty hbla hc (by decide) rfl)).trans hbla
  obtain ⟨w2, hw2⟩ : ∃ w2, w2 = w1.setCell ⟨rb, 0, none⟩ (.slice o1 (ls.length + 1) c1) := ⟨_, rfl⟩
  have t2 : Tch (fun i => i = rb) w1 w2 := by rw [hw2]; exact Tch.setCell (fun i => i = rb) _ _ _ rfl
  have hbl2 : w2.heap[rb]? = some (.cells #[.slice o1 (ls.length + 1) c1, .slice loA ls.length lcA] 38 (0, 0)) := by rw [hw2, blk_set hbl1]; rfl
  -- the second append
  obtain ⟨wc, hwc⟩ : ∃ wc, wc = w2.alloc (.cells #[.int .i64 0] 3) := ⟨_, rfl⟩
  have tc : Tch (fun _ => False) w2 wc := by rw [hwc]; exact Tch.alloc _ _ _
  have bc : wc.heap[w2.heap.size]? = some (.cells #[.int .i64 0] 3 (0, 0)) := by rw [hwc]; exact alloc_new _ _
  have noA : ∀ {W : World} {g : Nat}, W.ownsRow base 3 1 (.slice loA ls.length lcA) ls.length (ncl nx) → (Value.slice loA ls.length lcA).ownBlock = some g → ∀ {cur : Array Value} {t : TypeId}, W.heap[g]? = some (.cells cur t (0, 0)) → t = 3 := fun {W g} hW e {cur t} hc => by
    obtain ⟨cur2, hc2⟩ := own_ty hW e
    rw [hc] at hc2
    simp only [Option.some.injEq, Obj.cells.injEq] at hc2
    exact hc2.2.1
  have hA1 := own_tch (own_tch h.oA ta (fun _ _ h => h)) t1 (fun g e e2 => by
    obtain ⟨cur, hc⟩ := own_ty (own_tch h.oL ta (fun _ _ h => h)) e2
    exact absurd (noA (own_tch h.oA ta (fun _ _ h => h)) e hc) (by decide))
  have hA2 := own_tch hA1 t2 (fun g e e2 => by
    subst e2
    exact absurd (noA hA1 e hbl1) (by decide))
  have hAc := own_tch hA2 tc (fun _ _ h => h)
  have hbw2 : base ≤ wc.heap.size := Nat.le_trans hbw (Nat.le_trans ta.size (Nat.le_trans t1.size (Nat.le_trans t2.size tc.size)))
  obtain ⟨v3, w3, hr3, ho3, hg3, _, hat3⟩ := run_append_own_at (P := Try.prog) wc base 29 29 3 i1 _ 1 8 Try.underlying29 hi1 hy0 hy1 hy2 rfl (by decide) _ _ _ hAc ⟨w2.heap.size, 0, none⟩ 1 1 [.int .i64 0] rfl (cell_one_new' bc) (fun u hu => by simp only [List.mem_cons, List.not_mem_nil, or_false] at hu; rw [hu]; rfl) (by unfold maxLen; omega) (by omega) hbw2
  have t3 : Tch (fun i => (Value.slice loA ls.length lcA).ownBlock = some i) wc w3 := Tch.of_grown hg3 (fun g e => e)
  obtain ⟨o3, c3, rfl⟩ := row_slice ho3
  have hblc := (tc.block rb (blk_lt hbl2) (fun h => h)).trans hbl2
  have hbl3 : w3.heap[rb]? = some (.cells #[.slice o1 (ls.length + 1) c1, .slice loA ls.length lcA] 38 (0, 0)) := (t3.block rb (blk_lt hblc) (fun e => absurd (noA hAc e hblc) (by decide))).trans hblc
  obtain ⟨w4, hw4⟩ : ∃ w4, w4 = w3.setCell ⟨rb, 1, none⟩ (.slice o3 (ls.length + 1) c3) := ⟨_, rfl⟩
  have t4 : Tch (fun i => i = rb) w3 w4 := by rw [hw4]; exact Tch.setCell (fun i => i = rb) _ _ _ rfl
  have hbl4 : w4.heap[rb]? = some (.cells #[.slice o1 (ls.length + 1) c1, .slice o3 (ls.length + 1) c3] 38 (0, 0)) := by rw [hw4, blk_set hbl3]; rfl
  have noL : ∀ {W : World} {g : Nat}, W.ownsRow base 28 1 (.slice o1 (ls.length + 1) c1) (ls.length + 1) (hd ++ [.slice ao m cp]) → (Value.slice o1 (ls.length + 1) c1).ownBlock = some g → ∀ {cur : Array Value} {t : TypeId}, W.heap[g]? = some (.cells cur t (0, 0)) → t = 28 := fun {W g} hW e {cur t} hc => by
    obtain ⟨cur2, hc2⟩ := own_ty hW e
    rw [hc] at hc2
    simp only [Option.some.injEq, Obj.cells.injEq] at hc2
    exact hc2.2.1
  have hL2 := own_tch ho1 t2 (fun g e e2 => by subst e2; exact absurd (noL ho1 e hbl1) (by decide))
  have hLc := own_tch hL2 tc (fun _ _ h => h)
  have hL3 := own_tch hLc t3 (fun g e e2 => by
    obtain ⟨cur, hc⟩ := own_ty hAc e2
    exact absurd (noL hLc e hc) (by decide))
  have hL4 := own_tch hL3 t4 (fun g e e2 => by subst e2; exact absurd (noL hL3 e hbl3) (by decide))
  have hA4 := own_tch ho3 t4 (fun g e e2 => by
    subst e2
    obtain ⟨cur, hc⟩ := own_ty ho3 e
    exact ne_ty hbl3 hc (by decide) rfl)
  have tw : Tch (fun i => i = rb ∨ (Value.slice loL ls.length lcL).ownBlock = some i ∨ (Value.slice loA ls.length lcA).ownBlock = some i) w w4 := (((((ta.mono (T := fun i => i = rb ∨ (Value.slice loL ls.length lcL).ownBlock = some i ∨ (Value.slice loA ls.length lcA).ownBlock = some i) (fun _ _ h => h.elim)).trans t1 (fun i hi e => .inr (.inl e))).trans t2 (fun i hi e => .inl e)).trans tc (fun _ _ h => h.elim)).trans t3 (fun i hi e => .inr (.inr e))).trans t4 (fun i hi e => .inl e)
  have HE : Hid ((∃ vL' vA', RV base w4 rb vL' vA' (hd ++ [.slice ao m cp]) (ls ++ [l0]) (nx ++ [0]) ∧ (∀ b, vL'.ownBlock = some b → (Value.slice loL ls.length lcL).ownBlock = some b ∨ w.heap.size ≤ b) ∧ (∀ b, vA'.ownBlock = some b → (Value.slice loA ls.length lcA).ownBlock = some b ∨ w.heap.size ≤ b)) ∧ Tch (fun i => i = rb ∨ (Value.slice loL ls.length lcL).ownBlock = some i ∨ (Value.slice loA ls.length lcA).ownBlock = some i) w w4) := by
    have hlen : hd.length = ls.length := by have := h.oL.1; omega
    refine ⟨⟨_, _, ⟨hbl4, by rw [List.length_append, List.length_singleton]; exact hL4, ?_, ?_, by simp [h.nl], ?_, h.lo⟩, fun b e => ?_, fun b e => ?_⟩, tw⟩
    rotate_left 3
    · rcases hat1 with e1 | e1
      · rw [e1] at e; exact .inl e
      · rw [e1] at e; injection e with e; have := ta.size; exact .inr (by omega)
    · rcases hat3 with e3 | e3
      · rw [e3] at e; exact .inl e
      · rw [e3] at e; injection e with e; have := ta.size; have := t1.size; have := t2.size; have := tc.size; exact .inr (by omega)
    · rw [List.length_append, List.length_singleton]
      have : ncl (nx ++ [0]) = ncl nx ++ [.int .i64 0] := by simp [ncl]
      rw [this]; exact hA4
    · intro j l e
      have hin : ∀ {a : Option Addr} {k : Nat} {l : List Rc}, VL w a k l → VL w4 a k l := fun hr => (((((hr.no ta).ty t1 (fun g cur hg e => by obtain ⟨cu, hcu⟩ := own_ty (own_tch h.oL ta (fun _ _ h => h)) e; exact ne_ty hg hcu (by decide) rfl)).ty t2 (fun g cur hg e => by subst e; exact ne_ty hg hbl1 (by decide) rfl)).no tc).ty t3 (fun g cur hg e => by obtain ⟨cu, hcu⟩ := own_ty hAc e; exact ne_ty hg hcu (by decide) rfl)).ty t4 (fun g cur hg e => by subst e; exact ne_ty hg hbl3 (by decide) rfl)
      rcases Nat.lt_trichotomy j ls.length with h1 | h1 | h1
      · rw [List.getElem?_append_left h1] at e
        obtain ⟨a, k, e2, hr⟩ := h.el j l e
        exact ⟨a, k, by rw [List.getElem?_append_left (by omega)]; exact e2, hin hr⟩
      · subst h1
        rw [List.getElem?_append_right (Nat.le_refl _), Nat.sub_self] at e
        obtain rfl : l0 = l := by simpa using e
        exact ⟨ao, cp, by rw [List.getElem?_append_right (by omega), show ls.length - hd.length = 0 by omega, ← hm]; rfl, hin hl⟩
      · rw [List.getElem?_eq_none (by simp; omega)] at e; cases e
    · intro j l k e e2
      rcases Nat.lt_trichotomy j ls.length with h1 | h1 | h1
      · rw [List.getElem?_append_left h1] at e
        rw [List.getElem?_append_left (by rw [h.nl]; exact h1)] at e2
        exact h.le j l k e e2
      · subst h1
        rw [List.getElem?_append_right (by rw [h.nl]; exact Nat.le_refl _), h.nl, Nat.sub_self] at e2
        obtain rfl : 0 = k := by simpa using e2
        exact Nat.zero_le _
      · rw [List.getElem?_eq_none (by simp; omega)] at e; cases e
  rw [← hm]
  have a0 : w.cell? ⟨rb, 0, none⟩ = some (.slice loL n lcL) := by rw [blk_cell h.blk, hn]; rfl
  have x0 : w1.cell? ⟨rb, 0, none⟩ = some (.slice loL n lcL) := by rw [blk_cell hbl1, hn]; rfl
  have y1 : w2.cell? ⟨rb, 1, none⟩ = some (.slice loA n lcA) := by rw [blk_cell hbl2, hn]; rfl
  have z1 : w3.cell? ⟨rb, 1, none⟩ = some (.slice loA n lcA) := by rw [blk_cell hbl3, hn]; rfl
  have f1 := blk_frozen hbl1
  have f3 := blk_frozen hbl3
  have HW2 : Hid (w2 = _) := hw2
  have HW4 : Hid (w4 = _) := hw4
  rw [hwa] at hr1
  rw [hwc] at hr3
  rw [← hn] at hr1 hr3 HW2 HW4
  clear h hl hbw hs hn hm hwa ta ba ho1 hg1 hat1 hat3 t1 hbla hbl1 hw2 t2 hbl2 hwc tc bc noA hA1 hA2 hAc hbw2 ho3 hg3 t3 hblc hbl3 hw4 t4 hbl4 noL hL2 hLc hL3 hL4 hA4 tw hi0 hz0 hz1 hz2 hi1 hy0 hy1 hy2
  go_enter Try.func12, Try.ntmps12
  go_upto_region 1 with (at_builtin; refine wpList_app _ rfl _ _ 23 rfl rfl _ _ rfl rfl hr1 ?_)
  rw [← HW2.out]
  clear a0 x0 f1 hr1
  go_wp2_with (at_builtin; refine wpList_app _ rfl _ _ 29 rfl rfl _ _ rfl rfl hr3 ?_)
  go_end0
  rw [← HW4.out]
  exact ⟨rfl, HE.out⟩
end Go.Proofs.Ytmnhkgibplnnnaa
