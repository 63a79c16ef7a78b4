import Derived.Test.YtmnhkgibplnnnaaGSink
import Derived.Maps.AppendAt
/- push: an item more. -/
namespace Go.Proofs.Ytmnhkgibplnnnaa
open Go.RowKit Go

/-- append into room, whatever type the block has. -/
theorem run_append_roomT {P : Program} (w : World) (t ty e tb : TypeId) (i : TypeInfo) (ht : P.underlying t = some (.slice e)) (hi : P.info? e = some i)
    (g sLen sCap : Nat) (cur : Array Value) (hg : w.heap[g]? = some (.cells cur tb (0, 0)))
    (a : Addr) (m c : Nat) (news : List Value) (hl : news.length = m * i.size) (hnews : ∀ j u, news[j]? = some u → w.cell? (a.add j) = some u) (h1 : ∀ u ∈ news, u.oneCell' = true)
    (hroom : sLen + m ≤ sCap) (hfit : sLen * i.size + news.length ≤ cur.size) :
    (Builtin.append_ #[t, t] ty #[.slice (some ⟨g, 0, none⟩) sLen sCap, .slice (some a) m c]).run P w =
      .ok (.slice (some ⟨g, 0, none⟩) (sLen + m) sCap) (w.setRow g (cur.toList.take (sLen * i.size) ++ news ++ cur.toList.drop (sLen * i.size + news.length)).toArray) := by
  have hf := run_firstCells_some (P := P) w i.size m a m c news hl hnews
  have hst := run_storeCells_at P g (sLen * i.size) tb news 0 cur w hg (by simpa using hfit) h1
  simp only [Nat.add_zero] at hst
  simp [Builtin.append_, run_underlying ht, sizeOf, typeInfo, hi, Builtin.lenOf, hroom, hf, Addr.add_lit, hst]
theorem info_it : (Try.prog.info? 72).map (fun i => (i.zero, i.size, i.bytes)) = some (some (.agg #[.int .i64 0, .int .i64 0, .pointer none]), 3, 24) := by kernel_rfl
theorem info_parts {P : Program} {e : TypeId} {z : Value} {s b : Nat} (h : (P.info? e).map (fun i => (i.zero, i.size, i.bytes)) = some (some z, s, b)) : ∃ i, P.info? e = some i ∧ i.zero = some z ∧ i.size = s ∧ i.bytes = b := by
  cases hi : P.info? e with
  | none => rw [hi] at h; cases h
  | some i =>
    rw [hi] at h
    simp only [Option.map_some, Option.some.injEq, Prod.mk.injEq] at h
    exact ⟨i, rfl, h.1, h.2.1, h.2.2⟩
theorem HR.app {w : World} {g cap : Nat} {l : List It} (h : HR w g cap l) (x : It) (b : Nat) (hb : w.heap[b]? = some (.cells (ic x).toArray 72 (0, 0))) (hs : l.length ≤ 1000000000000) :
    ∃ g' cap' w', (Builtin.append_ #[62, 62] 62 #[hV g cap l, .slice (some ⟨b, 0, none⟩) 1 1]).run Try.prog w = .ok (hV g' cap' (l ++ [x])) w' ∧ HR w' g' cap' (l ++ [x]) ∧ (g' = g ∨ g' = w.heap.size) ∧ Tch (fun i => i = g) w w' := by
  obtain ⟨i, hi, hz0, hz1, hz2⟩ := info_parts info_it
  obtain ⟨cur, ty, h1, h2, h3⟩ := h.blk
  have hl : (ic x).length = 1 * i.size := by rw [hz1]; rfl
  have hnews : ∀ j u, (ic x)[j]? = some u → w.cell? ((⟨b, 0, none⟩ : Addr).add j) = some u := fun j u hu => by
    rw [add_plain, Nat.zero_add, blk_cell hb, List.getElem?_toArray]; exact hu
  have h1c : ∀ u ∈ ic x, u.oneCell' = true := fun u hu => by
    simp only [ic, List.mem_cons, List.not_mem_nil, or_false] at hu
    rcases hu with rfl | rfl | rfl <;> rfl
  have hlen := h.len
  have hcap := h.cap
  have hcl : cur.toList.length = cap * 3 := by simpa using h2
  have e3 : (ic x).length = 3 := rfl
  unfold hV
  rw [List.length_append, List.length_singleton]
  by_cases hroom : l.length + 1 ≤ cap
  · have hr := run_append_roomT (P := Try.prog) w 62 62 72 ty i Try.underlying62 hi g l.length cap cur h1 ⟨b, 0, none⟩ 1 1 (ic x) hl hnews h1c hroom (by rw [hz1, e3, h2]; omega)
    rw [hz1] at hr
    refine ⟨g, cap, _, hr, ⟨⟨_, ty, setRow_blk h1, ?_, ?_⟩, by rw [List.length_append, List.length_singleton]; exact hroom, h.cap, ty_of (setRow_blk h1) (h.ty _ _ _ h1)⟩, .inl rfl, setRow_tch _ _ _⟩
    · simp only [List.size_toArray, List.length_append, List.length_take, List.length_drop, hcl, e3]
      omega
    · rw [icl_append, List.length_append, List.length_singleton, h3]
      have e4 : icl [x] = ic x := by simp [icl]
      rw [e4]
      show List.take _ (icl l ++ ic x ++ _) = _
      have : (l.length + 1) * 3 = (icl l ++ ic x).length := by rw [List.length_append, icl_len, e3]; omega
      rw [this, List.take_left]
  · have holds : ∀ j u, (icl l)[j]? = some u → w.cell? ((⟨g, 0, none⟩ : Addr).add j) = some u := fun j u hu => by
      have hj : j < l.length * 3 := by rw [← icl_len]; exact (List.getElem?_eq_some_iff.1 hu).1
      rw [add_plain, Nat.zero_add, blk_cell h1, ← Array.getElem?_toList]
      rw [← h3, List.getElem?_take, if_pos hj] at hu
      exact hu
    have hr := run_append_grow (P := Try.prog) w 62 62 72 i _ Try.underlying62 hi hz0 ⟨g, 0, none⟩ l.length cap (icl l) (by rw [hz1]; exact icl_len l) holds ⟨b, 0, none⟩ 1 1 (ic x) hl hnews (by omega) (by omega) (growslice_fits (by omega) (by rw [hz2]; omega))
    refine ⟨w.heap.size, _, _, hr, ⟨⟨_, 72, heap_alloc_new w.drew _, ?_, ?_⟩, ?_, ?_, ty_of (heap_alloc_new w.drew _) (.inl rfl)⟩, .inr rfl, ⟨rfl, rfl, rfl, by simp, fun k hk _ => heap_alloc_old w.drew _ hk⟩⟩
    · have hge := grownCap_ge w (l.length + 1) cap 72
      simp only [Array.size_append, List.size_toArray, size_zeroCells, icl_len, e3]
      show _ + _ * 3 = _
      omega
    · simp only [Array.toList_append, List.append_assoc]
      have e4 : icl (l ++ [x]) = icl l ++ ic x := by rw [icl_append]; simp [icl]
      rw [← List.append_assoc, e4]
      have : (l ++ [x]).length * 3 = (icl l ++ ic x).length := by rw [List.length_append, List.length_append, icl_len, e3, List.length_singleton]; omega
      rw [this, List.take_left]
    · rw [List.length_append, List.length_singleton]; exact grownCap_ge _ _ _ _
    · exact grownCap_le_maxLen _ _ _ _ (by unfold maxLen; omega)
theorem wpList_app {P : Program} (w : World) {ops : Array Oper} {rest : List Oper} {o : Oper} {a : Act} {Q : Exit → Act → World → Prop} (hgd : o.guard = none) (s x : Operand) (t : TypeId)
    (ho : o.op = .call { callee := .builtin .append, args := #[s, x], argTypes := #[t, t] }) (hty : o.type = t) (v u : Value) (hs : a.eval s = v) (hx : a.eval x = u) {v' : Value} {w' : World}
    (hr : (Builtin.append_ #[t, t] t #[v, u]).run P w = .ok v' w') (h : wpList P ops Q rest (a.put o.dst v') w') : wpList P ops Q (o :: rest) a w := by
  refine wpList_plain hgd fun K hK => ?_
  unfold Oper.wp execOp
  simp only [ho, hty, resolve, invoke, builtin, Sem.run_bind, Sem.run_pure, Result.andThen_ok, List.map_toArray, List.map_cons, List.map_nil, hs, hx, hr]
  exact hK _ _ h
set_option maxHeartbeats 4000000 in
set_option maxRecDepth 1000000 in
theorem push_any (l : List It) (x : It) (g cap : Nat) (w : World) (h : HR w g cap l) (hs : l.length < 1000000000000) (hr : Heap l) :
    Calls Try.prog 30 #[hV g cap l, itV x] w fun e w' => ∃ g' cap' l', e = .returned (hV g' cap' l') ∧ l'.Perm (l ++ [x]) ∧ Heap l' ∧ HR w' g' cap' l' ∧ (g' = g ∨ w.heap.size ≤ g') ∧ Tch (fun i => i = g) w w' := by
  obtain ⟨w0, hw0⟩ : ∃ w0, w0 = (w.alloc (.cells #[.int .i64 x.r, .int .i64 x.t, .pointer (some ⟨x.p, 0, none⟩)] 72)).alloc (.cells #[.int .i64 x.r, .int .i64 x.t, .pointer (some ⟨x.p, 0, none⟩)] 72) := ⟨_, rfl⟩
  have t0 : Tch (fun _ => False) w w0 := by rw [hw0]; exact (Tch.alloc _ _ _).allocR _
  have bb : w0.heap[w.heap.size + 1]? = some (.cells (ic x).toArray 72 (0, 0)) := by
    rw [hw0, ← World.size_alloc]; exact alloc_new _ _
  have ba := alloc_new w (.cells #[.int .i64 x.r, .int .i64 x.t, .pointer (some ⟨x.p, 0, none⟩)] 72)
  have a0 : (w.alloc (.cells #[.int .i64 x.r, .int .i64 x.t, .pointer (some ⟨x.p, 0, none⟩)] 72)).cell? ⟨w.heap.size, 0, none⟩ = some (.int .i64 x.r) := blk_cell ba 0
  have a1 : (w.alloc (.cells #[.int .i64 x.r, .int .i64 x.t, .pointer (some ⟨x.p, 0, none⟩)] 72)).cell? ⟨w.heap.size, 1, none⟩ = some (.int .i64 x.t) := blk_cell ba 1
  have a2 : (w.alloc (.cells #[.int .i64 x.r, .int .i64 x.t, .pointer (some ⟨x.p, 0, none⟩)] 72)).cell? ⟨w.heap.size, 2, none⟩ = some (.pointer (some ⟨x.p, 0, none⟩)) := blk_cell ba 2
  obtain ⟨g1, c1, w1, hr1, h1, hg1, t1⟩ := (h.no t0).app x (w.heap.size + 1) bb (by omega)
  have q := rise_any (l ++ [x]) g1 c1 w1 h1 (by rw [List.length_append, List.length_singleton]; omega) (by rw [List.length_append, List.length_singleton, Nat.add_sub_cancel]; exact hr.push x)
  have HF : Hid (∀ l' w', l'.Perm (l ++ [x]) → Heap l' → HR w' g1 c1 l' → Tch (fun i => i = g1) w1 w' → ∃ g' cap' l', Ending.returned (hV g1 c1 (l ++ [x])) = .returned (hV g' cap' l') ∧ l'.Perm (l ++ [x]) ∧ Heap l' ∧ HR w' g' cap' l' ∧ (g' = g ∨ w.heap.size ≤ g') ∧ Tch (fun i => i = g) w w') := fun l' w' p hh h' t' => by
    have hgs : g1 = g ∨ w.heap.size ≤ g1 := hg1.imp id (fun e => by rw [e]; exact t0.size)
    refine ⟨g1, c1, l', by unfold hV; rw [p.length_eq], p, hh, h', hgs, ?_⟩
    refine ((t0.mono (fun _ _ h => h.elim)).trans' t1).trans t' (fun i hi e => ?_)
    rcases hgs with e2 | e2
    · rw [e, e2]
    · omega
  rw [hw0] at hr1
  clear h h1 t0 t1 bb ba hg1 hw0 hr hs
  unfold itV
  unfold hV at hr1 q ⊢
  obtain ⟨n, hn⟩ : ∃ n, n = l.length := ⟨_, rfl⟩
  obtain ⟨n', hn'⟩ : ∃ n', n' = (l ++ [x]).length := ⟨_, rfl⟩
  unfold hV at HF
  rw [← hn] at hr1 ⊢
  rw [← hn'] at hr1 q HF
  clear hn hn'
  go_enter Try.func30, Try.ntmps30
  go_wp2_with (at_builtin; refine wpList_app _ rfl _ _ 62 rfl rfl _ _ rfl rfl hr1 ?_)
  refine q.mono ?_
  rintro e w2 ⟨rfl, l', p, hh, h', t'⟩
  have H2 : Hid _ := HF.out l' w2 p hh h' t'
  clear q HF p hh h' t'
  go_wp2
  go_ret
  exact H2.out
end Go.Proofs.Ytmnhkgibplnnnaa
