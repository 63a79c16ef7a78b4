import Derived.Test.YtnjiiebjdpipjaaTMap1
/- The document's map: Put. -/
namespace Go.Proofs.Ytnjiiebjdpipjaa
open Go.RowKit Go

theorem info_strm : (Try.prog.info? 9).map (fun i => (i.zero, i.size, i.bytes)) = some (some (.string ⟨#[]⟩), 1, 16) := by kernel_rfl
theorem info_intm : (Try.prog.info? 3).map (fun i => (i.zero, i.size, i.bytes)) = some (some (.int .i64 0), 1, 8) := by kernel_rfl
/-- A slice for reading: its elements, one cell each. -/
def Src (W : World) (u : Value) (ys : List Value) : Prop := (u = .slice none 0 0 ∧ ys = []) ∨ ∃ a c, u = .slice (some a) ys.length c ∧ ∀ j x, ys[j]? = some x → W.cell? (a.add j) = some x
theorem Src.no {W W' : World} {u : Value} {ys : List Value} (h : Src W u ys) (t : Tch (fun _ => False) W W') : Src W' u ys := by
  rcases h with h | ⟨a, c, e, h⟩
  · exact .inl h
  · exact .inr ⟨a, c, e, fun j x hx => by rw [t.cell (cell_lt (h j x hx)) (fun h => h)]; exact h j x hx⟩
theorem app_any {P : Program} (W : World) (base : Nat) (t e : TypeId) (i : TypeInfo) (z : Value) (bytes : Nat) (ht : P.underlying t = some (.slice e)) (hi : P.info? e = some i) (hz : i.zero = some z) (hsize : i.size = 1) (hby : i.bytes = bytes) (hzs : z.cells.size = 1) (hbs : bytes ≤ 1000)
    (v u : Value) (n : Nat) (xs ys : List Value) (hv : W.ownsRow base e 1 v n xs) (hu : Src W u ys) (h1 : ∀ x ∈ ys, x.oneCell' = true) (hn : n + ys.length < 1000000000) (hb : base ≤ W.heap.size) :
    ∃ v' w', (Builtin.append_ #[t, t] t #[v, u]).run P W = .ok v' w' ∧ w'.ownsRow base e 1 v' (n + ys.length) (xs ++ ys) ∧ (v'.ownBlock = v.ownBlock ∨ v'.ownBlock = some W.heap.size) ∧ Tch (fun i => v.ownBlock = some i) W w' := by
  rcases hu with ⟨rfl, rfl⟩ | ⟨a, c, rfl, hc⟩
  · exact ⟨v, W, run_append_owned_none (P := P) (w := W) base t t e i 1 ht hi v n xs hv, by rw [List.append_nil]; exact hv, Or.inl rfl, Tch.refl _ _⟩
  · obtain ⟨v', w', hr, hown, hgr, hat, -⟩ := run_append_keeps (P := P) W base t t e i z 1 bytes ht hi hz hsize hby hzs (by omega) v n xs hv a ys.length c ys (by omega) hc h1 (by unfold maxLen; omega) (by
        have : (n + ys.length) * bytes ≤ 1000000000 * 1000 := Nat.mul_le_mul (by omega) hbs
        omega) hb
    exact ⟨v', w', hr, hown, hat, Tch.of_grown hgr (fun g e => e)⟩
theorem wpList_app {P : Program} (w : World) {ops : Array Oper} {rest : List Oper} {o : Oper} {a : Act} {Q : Exit → Act → World → Prop} (hgd : o.guard = none) (s x : Operand) (t : TypeId)
    (ho : o.op = .call { callee := .builtin .append, args := #[s, x], argTypes := #[t, t] }) (hty : o.type = t) (v u : Value) (hs : a.eval s = v) (hx : a.eval x = u) {v' : Value} {w' : World}
    (hr : (Builtin.append_ #[t, t] t #[v, u]).run P w = .ok v' w') (h : wpList P ops Q rest (a.put o.dst v') w') : wpList P ops Q (o :: rest) a w := by
  refine wpList_plain hgd fun K hK => ?_
  unfold Oper.wp execOp
  simp only [ho, hty, resolve, invoke, builtin, Sem.run_bind, Sem.run_pure, Result.andThen_ok, List.map_toArray, List.map_cons, List.map_nil, hs, hx, hr]
  exact hK _ _ h
theorem own_set1 {w : World} {base g n c i : Nat} {e : TypeId} {xs : List Value} {u : Value} (h : w.ownsRow base e 1 (.slice (some ⟨g, 0, none⟩) n c) n xs) (hi : i < n) : (w.setCell ⟨g, i, none⟩ u).ownsRow base e 1 (.slice (some ⟨g, 0, none⟩) n c) n (xs.set i u) := by
  obtain ⟨g', cap, cur, ev, hb, hg, h1, h2, h3, h4⟩ := own_open h (by omega)
  injection ev with ev1 ev2 ev3
  injection ev1 with ev1
  injection ev1 with ev1
  subst ev1
  subst ev3
  refine ⟨by rw [List.length_set]; exact h.1, .inr ⟨g, c, cur.setIfInBounds i u, rfl, hb, blk_set hg u, h1, h2, by simp [h3], ?_⟩⟩
  rw [Array.toList_setIfInBounds, List.take_set, h4]
/-- Three appends onto nothing. -/
theorem app3 {P : Program} (W : World) (t e : TypeId) (i : TypeInfo) (z : Value) (bytes : Nat) (ht : P.underlying t = some (.slice e)) (hi : P.info? e = some i) (hz : i.zero = some z) (hsize : i.size = 1) (hby : i.bytes = bytes) (hzs : z.cells.size = 1) (hbs : bytes ≤ 1000)
    (u1 u3 x : Value) (A B : List Value) (hu1 : Src W u1 A) (hu3 : Src W u3 B) (hA : ∀ y ∈ A, y.oneCell' = true) (hx : x.oneCell' = true) (hB : ∀ y ∈ B, y.oneCell' = true) (hn : A.length + B.length < 100000000) :
    ∃ v1 w1 v2 w2 g c w3, (Builtin.append_ #[t, t] t #[.slice none 0 0, u1]).run P W = .ok v1 w1 ∧ (Builtin.append_ #[t, t] t #[v1, .slice (some ⟨w1.heap.size, 0, none⟩) 1 1]).run P (w1.alloc (.cells #[x] e)) = .ok v2 w2 ∧
      (Builtin.append_ #[t, t] t #[v2, u3]).run P w2 = .ok (.slice (some ⟨g, 0, none⟩) (A.length + 1 + B.length) c) w3 ∧ w3.ownsRow 0 e 1 (.slice (some ⟨g, 0, none⟩) (A.length + 1 + B.length) c) (A.length + 1 + B.length) (A ++ [x] ++ B) ∧ W.heap.size ≤ g ∧
      Tch (fun _ => False) W w1 ∧ Tch (fun _ => False) W w2 ∧ Tch (fun _ => False) W w3 := by
  have lift : ∀ {v : Value} {w w' : World}, (∀ g, v.ownBlock = some g → W.heap.size ≤ g) → Tch (fun _ => False) W w → Tch (fun i => v.ownBlock = some i) w w' → Tch (fun _ => False) W w' := fun hv h1 h2 => h1.trans h2 (fun i hi hs => by have := hv i hs; omega)
  obtain ⟨v1, w1, r1, o1, a1, t1⟩ := app_any (P := P) W W.heap.size t e i z bytes ht hi hz hsize hby hzs hbs (.slice none 0 0) u1 0 [] A ⟨rfl, .inl ⟨rfl, rfl⟩⟩ hu1 hA (by omega) (Nat.le_refl _)
  have b1 : ∀ g, v1.ownBlock = some g → W.heap.size ≤ g := fun g hg => (o1.lt g hg).1
  have T1 : Tch (fun _ => False) W w1 := t1.mono (fun i _ h => by cases h)
  obtain ⟨v2, w2, r2, o2, a2, t2⟩ := app_any (P := P) (w1.alloc (.cells #[x] e)) W.heap.size t e i z bytes ht hi hz hsize hby hzs hbs v1 (.slice (some ⟨w1.heap.size, 0, none⟩) 1 1) _ _ [x] (by
      have := o1.alloc (.cells #[x] e)
      exact this) (.inr ⟨⟨w1.heap.size, 0, none⟩, 1, rfl, fun j y hy => by
        have hj : j = 0 := by
          rcases Nat.eq_zero_or_pos j with h | h
          · exact h
          · rw [List.getElem?_eq_none (by simp; omega)] at hy; cases hy
        subst hj
        have hy' : y = x := by simpa using hy.symm
        subst hy'
        rw [add_plain, blk_cell (alloc_new _ _)]
        rfl⟩) (fun y hy => by rw [List.mem_singleton.1 hy]; exact hx) (by simp; omega) (by have := T1.size; simp; omega)
  have b2 : ∀ g, v2.ownBlock = some g → W.heap.size ≤ g := fun g hg => (o2.lt g hg).1
  have T2 : Tch (fun _ => False) W w2 := lift b1 (T1.allocR _) t2
  obtain ⟨v3, w3, r3, o3, a3, t3⟩ := app_any (P := P) w2 W.heap.size t e i z bytes ht hi hz hsize hby hzs hbs v2 u3 _ _ B o2 (hu3.no T2) hB (by simp; omega) T2.size
  have T3 : Tch (fun _ => False) W w3 := lift b2 T2 t3
  have hl : 0 + A.length + [x].length + B.length = A.length + 1 + B.length := by simp
  rw [hl] at o3
  obtain ⟨g, c, cur, e3, hb, _⟩ := own_open o3 (by omega)
  subst e3
  exact ⟨v1, w1, v2, w2, g, c, w3, r1, r2, r3, own_low o3 (Nat.zero_le _), hb, T1, T2, T3⟩
theorem ins_sorted {k : ByteArray} {v : GV} {x y : List It} (hs : Sorted (x ++ y)) (hx : ∀ e ∈ x, Lo k e) (hy : ∀ e ∈ y, Hi k e) : Sorted (x ++ (k, v) :: y) := by
  obtain ⟨p1, p2, p3⟩ := List.pairwise_append.1 hs
  refine List.pairwise_append.2 ⟨p1, List.pairwise_cons.2 ⟨fun e he => ?_, p2⟩, fun a ha b hb => ?_⟩
  · have := hy e he
    unfold Hi at this
    unfold KL
    have := kc_flip k e.1
    simp only
    omega
  · rcases List.mem_cons.1 hb with rfl | hb
    · exact hx a ha
    · exact p3 a ha b hb
theorem cnt_cons2 (a b c x : Nat) : ([a, b, c] : List Nat).count x = (if a = x then 1 else 0) + (if b = x then 1 else 0) + (if c = x then 1 else 0) := by
  simp only [List.count_cons, List.count_nil, beq_iff_eq]
  omega
/-- A map whose rows are new. -/
theorem MW.new {W w3 w6 : World} {mb : Nat} {l l' : List It} {F : List Nat} {g3 g6 N c3 c6 : Nat} {kv0 vv0 : Value} (hM : MW W mb l F) (h6 : w6.heap[mb]? = some (.cells #[kv0, vv0] 51 (0, 0)))
    (o3 : w3.ownsRow 0 9 1 (.slice (some ⟨g3, 0, none⟩) N c3) N (kcl l')) (b3 : W.heap.size ≤ g3) (T3 : Tch (fun _ => False) W w3) (o6 : w6.ownsRow 0 3 1 (.slice (some ⟨g6, 0, none⟩) N c6) N (vcl l')) (b6 : w3.heap.size ≤ g6) (T6 : Tch (fun _ => False) w3 w6) (hN : N = l'.length) (so : Sorted l') :
    ∃ F', MW ((w6.setCell ⟨mb, 0, none⟩ (.slice (some ⟨g3, 0, none⟩) N c3)).setCell ⟨mb, 1, none⟩ (.slice (some ⟨g6, 0, none⟩) N c6)) mb l' F' ∧ Fits W.heap.size F F' ∧ Tch (fun i => i ∈ F) W ((w6.setCell ⟨mb, 0, none⟩ (.slice (some ⟨g3, 0, none⟩) N c3)).setCell ⟨mb, 1, none⟩ (.slice (some ⟨g6, 0, none⟩) N c6)) := by
  have hmF : mb ∈ F := by obtain ⟨_, _, _, _, _, e, _⟩ := hM.rows; rw [e]; simp
  have hml := hM.lt mb hmF
  have hg3 := (o3.lt g3 rfl).2
  have t8 : Tch (fun i => i = mb) w6 ((w6.setCell ⟨mb, 0, none⟩ (.slice (some ⟨g3, 0, none⟩) N c3)).setCell ⟨mb, 1, none⟩ (.slice (some ⟨g6, 0, none⟩) N c6)) := (Tch.setCell (fun i => i = mb) w6 ⟨mb, 0, none⟩ (.slice (some ⟨g3, 0, none⟩) N c3) rfl).setCellR ⟨mb, 1, none⟩ _ rfl
  have e8 := blk_set (i := 1) (blk_set (i := 0) h6 (.slice (some ⟨g3, 0, none⟩) N c3)) (.slice (some ⟨g6, 0, none⟩) N c6)
  refine ⟨[mb, g3, g6], ⟨so, fun x => ?_, .slice (some ⟨g3, 0, none⟩) N c3, .slice (some ⟨g6, 0, none⟩) N c6, e8, ?_, ?_, rfl, ?_⟩, fun x => ⟨fun hx => ?_, fun hx => ?_⟩, (T3.trans' T6 |>.mono (fun _ _ h => h.elim)).trans t8 (fun i _ h => by rw [h]; exact hmF)⟩
  · rw [cnt_cons2]
    by_cases h1 : mb = x <;> by_cases h2 : g3 = x <;> by_cases h3 : g6 = x <;> simp [h1, h2, h3] <;> omega
  · rw [← hN]
    exact own_tch (own_tch o3 T6 (fun _ _ h => h)) t8 (fun g hg e => by
      injection hg with hg
      have : g3 = g := hg
      omega)
  · rw [← hN]
    exact own_tch o6 t8 (fun g hg e => by
      injection hg with hg
      have : g6 = g := hg
      omega)
  · constructor
    · intro e; cases e
    · intro e; cases e
  · rw [cnt_cons2]
    have : 1 ≤ F.count mb := List.count_pos_iff.2 hmF
    by_cases h1 : mb = x
    · subst h1
      rw [if_pos rfl, if_neg (by omega), if_neg (by omega)]
      omega
    · rw [if_neg h1, if_neg (by omega), if_neg (by omega)]
      omega
  · rw [cnt_cons2]
    by_cases h1 : mb = x <;> by_cases h2 : g3 = x <;> by_cases h3 : g6 = x <;> simp [h1, h2, h3] <;> omega
theorem kcl_one (l : List It) : ∀ y ∈ kcl l, y.oneCell' = true := fun y hy => by
  obtain ⟨e, _, rfl⟩ := List.mem_map.1 hy
  rfl
theorem vcl_one (l : List It) : ∀ y ∈ vcl l, y.oneCell' = true := fun y hy => by
  obtain ⟨e, _, rfl⟩ := List.mem_map.1 hy
  rfl
theorem src_head {W : World} {e : TypeId} {g n c r : Nat} {xs : List Value} (h : W.ownsRow 0 e 1 (.slice (some ⟨g, 0, none⟩) n c) n xs) (hr : r ≤ n) : Src W (.slice (some ⟨g, 0, none⟩) r c) (xs.take r) := by
  have hl : xs.length = n := by have := h.1; omega
  refine .inr ⟨⟨g, 0, none⟩, c, by rw [List.length_take, hl, Nat.min_eq_left hr], fun j x hx => ?_⟩
  have hj : j < r := by
    have := (List.getElem?_eq_some_iff.1 hx).1
    rw [List.length_take] at this
    omega
  obtain ⟨g', c', e', _, _, _, hA, _⟩ := own_at h (by omega)
  injection e' with e'
  injection e' with e'
  injection e' with e'
  subst e'
  rw [add_plain]
  refine hA j x ?_
  rw [List.getElem?_take, if_pos hj] at hx
  exact hx
theorem src_tail {W : World} {e : TypeId} {g n c r : Nat} {xs : List Value} (h : W.ownsRow 0 e 1 (.slice (some ⟨g, 0, none⟩) n c) n xs) (hr : r ≤ n) : ∃ A : Addr, (if c = r then some (⟨g, 0, none⟩ : Addr) else some ⟨g, r, none⟩) = some A ∧ Src W (.slice (some A) (n - r) (c - r)) (xs.drop r) := by
  have hl : xs.length = n := by have := h.1; omega
  have key : ∀ j x, (xs.drop r)[j]? = some x → W.cell? ((⟨g, r, none⟩ : Addr).add j) = some x ∧ r < n := fun j x hx => by
    have hj : r + j < n := by
      have := (List.getElem?_eq_some_iff.1 hx).1
      rw [List.length_drop] at this
      omega
    obtain ⟨g', c', e', _, _, _, hA, _⟩ := own_at h (by omega)
    injection e' with e'
    injection e' with e'
    injection e' with e'
    subst e'
    rw [add_plain]
    have := hA (r + j) x (by rw [List.getElem?_drop] at hx; exact hx)
    rw [Nat.zero_add] at this
    exact ⟨this, by omega⟩
  by_cases hc : c = r
  · refine ⟨⟨g, 0, none⟩, by rw [if_pos hc], .inr ⟨⟨g, 0, none⟩, c - r, by rw [List.length_drop, hl], fun j x hx => ?_⟩⟩
    have h9 := (key j x hx).2
    obtain ⟨g', c', cur, e', _, _, hnc, _⟩ := own_open h (by omega)
    injection e' with _ _ e'
    omega
  · exact ⟨⟨g, r, none⟩, by rw [if_neg hc], .inr ⟨⟨g, r, none⟩, c - r, by rw [List.length_drop, hl], fun j x hx => (key j x hx).1⟩⟩
end Go.Proofs.Ytnjiiebjdpipjaa
