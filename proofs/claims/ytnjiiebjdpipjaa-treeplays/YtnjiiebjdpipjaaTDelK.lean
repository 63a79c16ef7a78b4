import Derived.Test.YtnjiiebjdpipjaaTCmp
import Derived.Deep.AppendLies
import Derived.Maps.AppendAt
import Derived.Lib.BufferMore
import Derived.Deep.RegionLaw
/- An append that tells what becomes of the old row. -/
namespace Go.Proofs.Ytnjiiebjdpipjaa
open Go.RowKit Go

section
variable {P : Program} (w : World)
/-- Append: as the library has it; and every cell of the row as it was reads as before. -/
theorem run_append_keeps (base : Nat) (t ty e : TypeId) (i : TypeInfo) (z : Value) (size bytes : Nat) (ht : P.underlying t = some (.slice e)) (hi : P.info? e = some i) (hz : i.zero = some z)
    (hsize : i.size = size) (hby : i.bytes = bytes) (hzs : z.cells.size = size) (hsz : 0 < size)
    (v : Value) (n : Nat) (xs : List Value) (hown : w.ownsRow base e size v n xs)
    (a : Addr) (m c : Nat) (news : List Value) (hl : news.length = m * size) (hnews : ∀ j u, news[j]? = some u → w.cell? (a.add j) = some u) (h1 : ∀ u ∈ news, u.oneCell' = true)
    (h63 : n + m ≤ maxLen) (hbytes : (n + m) * bytes ≤ 140737488355328) (hbase : base ≤ w.heap.size) :
    ∃ v' w', (Builtin.append_ #[t, t] ty #[v, .slice (some a) m c]).run P w = .ok v' w' ∧ w'.ownsRow base e size v' (n + m) (xs ++ news) ∧ w.grownBy w' v.ownBlock ∧ (v'.ownBlock = v.ownBlock ∨ v'.ownBlock = some w.heap.size) ∧
      ∀ b j, b < w.heap.size → (v.ownBlock = some b → j < n * size) → w'.cell? ⟨b, j, none⟩ = w.cell? ⟨b, j, none⟩ := by
  obtain ⟨v', w', hr, h2, h3, _, h5⟩ := run_append_own_at (P := P) w base t ty e i z size bytes ht hi hz hsize hby hzs hsz v n xs hown a m c news hl hnews h1 h63 hbytes hbase
  refine ⟨v', w', hr, h2, h3, h5, fun b j hb hj => ?_⟩
  by_cases hvb : v.ownBlock = some b
  · rcases hown.2 with ⟨rfl, rfl⟩ | ⟨g, cap, cur, rfl, hbg, hg, hnc, hcm, hcs, htake⟩
    · cases hvb
    · have hgb : g = b := by simpa [Value.ownBlock] using hvb
      subst hgb
      have hj' := hj hvb
      by_cases hroom : n + m ≤ cap
      · have hfit : n * i.size + news.length ≤ cur.size := by rw [hl, hcs, hsize, ← Nat.add_mul]; exact Nat.mul_le_mul_right _ hroom
        have hr2 := run_append_room (P := P) w t ty e i ht hi g n cap cur hg a m c news (by rw [hsize]; exact hl) hnews h1 hroom hfit
        rw [hr] at hr2
        simp only [Result.ok.injEq] at hr2
        obtain ⟨rfl, rfl⟩ := hr2
        rw [h2.cellAt j (by rw [Nat.add_mul]; omega), hown.cellAt j hj', List.getElem?_append_left (by rw [hown.1]; exact hj')]
      · have holds : ∀ j u, xs[j]? = some u → w.cell? ((⟨g, 0, none⟩ : Addr).add j) = some u := hown.cells (g := g) rfl
        have hr2 := run_append_grow (P := P) w t ty e i z ht hi hz ⟨g, 0, none⟩ n cap xs (by rw [hsize]; exact hown.1) holds a m c news (by rw [hsize]; exact hl) hnews (by omega) (by simp only [maxLen] at h63; omega) (by rw [hby]; exact growslice_fits (by omega) hbytes)
        rw [hr] at hr2
        simp only [Result.ok.injEq] at hr2
        obtain ⟨_, rfl⟩ := hr2
        exact World.cell?_of_block (heap_alloc_old w.drew _ hb)
  · exact World.cell?_of_block (h3.block b hb (fun e => hvb e.symm))
end
theorem wpList_append_keeps {P : Program} (w : World) {ops : Array Oper} {rest : List Oper} {o : Oper} {a : Act} {Q : Exit → Act → World → Prop} (hgd : o.guard = none) (s x : Operand) (t : TypeId)
    (ho : o.op = .call { callee := .builtin .append, args := #[s, x], argTypes := #[t, t] })
    (base : Nat) (e : TypeId) (i : TypeInfo) (z : Value) (size bytes : Nat) (ht : P.underlying t = some (.slice e)) (hi : P.info? e = some i) (hz : i.zero = some z)
    (hsize : i.size = size) (hby : i.bytes = bytes) (hzs : z.cells.size = size) (hsz : 0 < size)
    (v : Value) (n : Nat) (xs : List Value) (hs : a.eval s = v) (hown : w.ownsRow base e size v n xs)
    (ad : Addr) (m c : Nat) (news : List Value) (hx : a.eval x = .slice (some ad) m c) (hl : news.length = m * size) (hnews : ∀ j u, news[j]? = some u → w.cell? (ad.add j) = some u) (h1 : ∀ u ∈ news, u.oneCell' = true)
    (h63 : n + m ≤ maxLen) (hbytes : (n + m) * bytes ≤ 140737488355328) (hbase : base ≤ w.heap.size)
    (h : ∀ v' w', w'.ownsRow base e size v' (n + m) (xs ++ news) → w.grownBy w' v.ownBlock → (v'.ownBlock = v.ownBlock ∨ v'.ownBlock = some w.heap.size) → (∀ b j, b < w.heap.size → (v.ownBlock = some b → j < n * size) → w'.cell? ⟨b, j, none⟩ = w.cell? ⟨b, j, none⟩) → wpList P ops Q rest (a.put o.dst v') w') :
    wpList P ops Q (o :: rest) a w := by
  refine wpList_plain hgd fun K hK => ?_
  obtain ⟨v', w', hr, h2, h3, h4, h5⟩ := run_append_keeps (P := P) w base t o.type e i z size bytes ht hi hz hsize hby hzs hsz v n xs hown ad m c news hl hnews h1 h63 hbytes hbase
  unfold Oper.wp execOp
  simp only [ho, resolve, invoke, builtin, Sem.run_bind, Sem.run_pure, Result.andThen_ok, List.map_toArray, List.map_cons, List.map_nil, hs, hx, hr]
  exact hK _ _ (h v' w' h2 h3 h4 h5)

/-- The same, at a step of a region that draws its order. -/
theorem step_append_keeps {P : Program} (w : World) {ops : Array Oper} {o : Oper} {a : Act} {K : Act → World → Prop} {Q : Exit → Act → World → Prop} {E : Prop} (hgd : o.guard = none) (s x : Operand) (t : TypeId)
    (ho : o.op = .call { callee := .builtin .append, args := #[s, x], argTypes := #[t, t] })
    (base : Nat) (e : TypeId) (i : TypeInfo) (z : Value) (size bytes : Nat) (ht : P.underlying t = some (.slice e)) (hi : P.info? e = some i) (hz : i.zero = some z)
    (hsize : i.size = size) (hby : i.bytes = bytes) (hzs : z.cells.size = size) (hsz : 0 < size)
    (v : Value) (n : Nat) (xs : List Value) (hs : a.eval s = v) (hown : w.ownsRow base e size v n xs)
    (ad : Addr) (m c : Nat) (news : List Value) (hx : a.eval x = .slice (some ad) m c) (hl : news.length = m * size) (hnews : ∀ j u, news[j]? = some u → w.cell? (ad.add j) = some u) (h1 : ∀ u ∈ news, u.oneCell' = true)
    (h63 : n + m ≤ maxLen) (hbytes : (n + m) * bytes ≤ 140737488355328) (hbase : base ≤ w.heap.size)
    (h : ∀ v' w', w'.ownsRow base e size v' (n + m) (xs ++ news) → w.grownBy w' v.ownBlock → (v'.ownBlock = v.ownBlock ∨ v'.ownBlock = some w.heap.size) → (∀ b j, b < w.heap.size → (v.ownBlock = some b → j < n * size) → w'.cell? ⟨b, j, none⟩ = w.cell? ⟨b, j, none⟩) → K (a.put o.dst v') w') :
    if Region.wanted o (yielded ops a.tmps) = true then Oper.wp P o a w K Q else E := by
  have hw : Region.wanted o (yielded ops a.tmps) = true := by simp [Region.wanted, hgd]
  rw [if_pos hw]
  obtain ⟨v', w', hr, h2, h3, h4, h5⟩ := run_append_keeps (P := P) w base t o.type e i z size bytes ht hi hz hsize hby hzs hsz v n xs hown ad m c news hl hnews h1 h63 hbytes hbase
  unfold Oper.wp execOp
  simp only [ho, resolve, invoke, builtin, Sem.run_bind, Sem.run_pure, Result.andThen_ok, List.map_toArray, List.map_cons, List.map_nil, hs, hx, hr]
  exact h v' w' h2 h3 h4 h5
end Go.Proofs.Ytnjiiebjdpipjaa
/- slices.Clone, slices.Delete at items. -/
namespace Go.Proofs.Ytnjiiebjdpipjaa
open Go.RowKit Go

theorem Ineq_nil (ad : Addr) (n c : Nat) (w : World) : (binOp .eql 65 (.slice (some ad) n c) (.slice none 0 0)).run Try.prog w = .ok (.bool false) w := Lib.run_eql_slice_some_nil w ad n c Try.underlying65
set_option maxHeartbeats 1000000 in
set_option maxRecDepth 100000 in
theorem Iclone_any (xs : List Value) (n : Nat) (ad : Addr) (c : Nat) (w : World) (hxl : xs.length = n * 2) (hx : ∀ j u, xs[j]? = some u → w.cell? (ad.add j) = some u) (had : xs ≠ [] → ad.block < w.heap.size) (h1 : ∀ u ∈ xs, u.oneCell' = true) (hlen : n < 1000) :
    Calls Try.prog 78 #[.slice (some ad) n c] w fun x w' => (∃ v, x = .returned v ∧ w'.ownsRow w.heap.size 74 2 v n xs) ∧ Tch (fun _ => False) w w' := by
  obtain ⟨i0, hi, hz0, hz1, hz2⟩ := info_parts info_item
  have he := Ineq_nil ad n c
  obtain ⟨w0, hw0⟩ : ∃ w0, w0 = w.alloc (.cells #[] 74) := ⟨_, rfl⟩
  have t0 : Tch (fun _ => False) w w0 := by rw [hw0]; exact Tch.alloc _ _ _
  have hown : w0.ownsRow w.heap.size 74 2 (.slice (some ⟨w.heap.size, 0, none⟩) 0 0) 0 [] := ⟨rfl, Or.inr ⟨w.heap.size, 0, #[], rfl, Nat.le_refl _, by rw [hw0]; exact alloc_new _ _, Nat.le_refl _, by unfold maxLen; omega, rfl, rfl⟩⟩
  have Hcl : Hid (∀ j u, xs[j]? = some u → w0.cell? (ad.add j) = some u) := fun j u hu => by
    have h2 := hx j u hu
    have hb : (ad.add j).block = ad.block := by unfold Addr.add; split <;> rfl
    rw [t0.cell (p := ad.add j) (by rw [hb]; exact had (by rintro rfl; simp at hu)) (fun h => h)]; exact h2
  have Hown : Hid (w0.ownsRow w.heap.size 74 2 (.slice (some ⟨w.heap.size, 0, none⟩) 0 0) 0 []) := hown
  have Hw0 : Hid _ := hw0
  have Hsz : Hid (w.heap.size ≤ w0.heap.size) := t0.size
  have Hxl : Hid _ := hxl
  have H1 : Hid _ := h1
  clear hx had hown hw0 hxl h1
  go_enter Try.func78, Try.ntmps78
  go_wp2_with (at_builtin; have hw0 := Hw0.out; rw [← hw0]; clear hw0; refine wpList_append_keeps _ rfl _ _ 65 rfl w.heap.size 74 i0 (.agg #[.string ⟨#[]⟩, .int .i64 0]) 2 24 Try.underlying65 hi hz0 hz1 hz2 rfl (by decide) (.slice (some ⟨w.heap.size, 0, none⟩) 0 0) 0 [] rfl Hown.out ad n c xs rfl Hxl.out Hcl.out H1.out (by unfold maxLen; omega) (by omega) Hsz.out ?_; intro v1 w1 hown1 hgr1 hat1 _; have HF : Hid (w1.ownsRow w.heap.size 74 2 v1 n xs) := (by have h1 := hown1; rw [Nat.zero_add, List.nil_append] at h1; exact h1); have HT : Hid (Tch (fun _ => False) w w1) := (t0.trans (Tch.of_grown (S := fun i => w.heap.size ≤ i) hgr1 (fun g e => by injection e with e; simp only at e; omega)) (fun i hi e => by omega)); obtain ⟨o1, c1, hv1⟩ := row_slice HF.out; subst hv1; clear hown1 hgr1 hat1)
  go_ret
  exact ⟨⟨_, rfl, HF.out⟩, HT.out⟩

theorem Iclear_at {W : World} {g off c d : Nat} {cur : Array Value} (hd : 0 < d) (hg : W.heap[g]? = some (.cells cur 74 (0, 0))) (hs : off + d * 2 ≤ cur.size) : ∃ W', (∀ ty, (Builtin.clear_ #[65] ty #[.slice (some ⟨g, off, none⟩) d c]).run Try.prog W = .ok (.tuple #[]) W') ∧ Tch (fun i => i = g) W W' ∧ ∃ zs : List Value, zs.length = d * 2 ∧ W'.heap[g]? = some (.cells (cur.toList.take off ++ zs ++ cur.toList.drop (off + d * 2)).toArray 74 (0, 0)) := by
  obtain ⟨i0, hi0, hz0, hz1, hz2⟩ := info_parts info_item
  obtain ⟨zs, hzs⟩ : ∃ zs, zs = (Builtin.zeroCells (Value.agg #[.string ⟨#[]⟩, .int .i64 0]).cells d).toList := ⟨_, rfl⟩
  have hzl : zs.length = d * 2 := by rw [hzs]; simp [Builtin.zeroCells, Value.cells]
  have hz1' : ∀ u ∈ zs, u.oneCell' = true := fun u hu => by
    rw [hzs] at hu
    simp only [Builtin.zeroCells, Value.cells, Array.toList_map, List.mem_map] at hu
    obtain ⟨k, _, rfl⟩ := hu
    show (#[Value.string ⟨#[]⟩, .int .i64 0][k % 2]!).oneCell' = true
    rcases (by omega : k % 2 = 0 ∨ k % 2 = 1) with e | e <;> rw [e] <;> rfl
  have hst := run_storeCells_at Try.prog g off 74 zs 0 cur W hg (by omega) hz1'
  refine ⟨W.setRow g (cur.toList.take (off + 0) ++ zs ++ cur.toList.drop (off + 0 + zs.length)).toArray, fun ty => ?_, setRow_tch _ _ _, zs, hzl, ?_⟩
  · obtain ⟨d, rfl⟩ : ∃ d', d = d' + 1 := ⟨d - 1, by omega⟩
    simp only [Builtin.clear_]
    simp [run_underlying Try.underlying65, zeroValue, typeInfo, hi0, hz0, ← hzs, hst]
  · rw [hzl, Nat.add_zero]
    exact setRow_blk hg

set_option maxHeartbeats 2000000 in
set_option maxRecDepth 100000 in
theorem Idelete_any (v : Value) (n k d : Nat) (xs : List Value) (w : World) (ho : w.ownsRow 0 74 2 v n xs) (hd : 0 < d) (hkn : k + d ≤ n) (hn : n < 1000) (h1 : ∀ u ∈ xs, u.oneCell' = true) :
    Calls Try.prog 54 #[v, .int .i64 k, .int .i64 (k + d)] w fun x w' => (∃ v', x = .returned v' ∧ v'.ownBlock = v.ownBlock ∧ w'.ownsRow 0 74 2 v' (n - d) (xs.take (k * 2) ++ xs.drop ((k + d) * 2))) ∧ Tch (fun i => v.ownBlock = some i) w w' := by
  obtain ⟨i0, hi0, hz0, hz1, hz2⟩ := info_parts info_item
  obtain ⟨g, tc, cur, rfl, -, hg, hnc, hcm, hs, hx⟩ := own_open ho (by omega)
  have hxl : xs.length = n * 2 := ho.1
  clear ho
  obtain ⟨m, hm⟩ : ∃ m, n = k + d + m := ⟨n - (k + d), by omega⟩
  subst hm
  have htc : tc ≤ 9223372036854775807 := by unfold maxLen at hcm; omega
  obtain ⟨news, hnews⟩ : ∃ news, news = xs.drop ((k + d) * 2) := ⟨_, rfl⟩
  have hlen : news.length = m * 2 := by rw [hnews, List.length_drop, hxl]; omega
  have hnone : ∀ u ∈ news, u.oneCell' = true := fun u hu => h1 u (by rw [hnews] at hu; exact List.mem_of_mem_drop hu)
  have hsrc : ∀ j u, news[j]? = some u → w.drew.cell? ⟨g, (k + d) * 2 + j, none⟩ = some u := fun j u hu => by
    have hj := (List.getElem?_eq_some_iff.1 hu).1
    show w.cell? _ = _
    rw [blk_cell hg, ← hu, hnews, List.getElem?_drop, ← hx, List.getElem?_take, if_pos (by omega), Array.getElem?_toList]
  have hspare : ∀ j, j < news.length → (w.drew.cell? ⟨g, 0 + k * 2 + j, none⟩).isSome = true ∧ w.drew.frozen? ⟨g, 0 + k * 2 + j, none⟩ = false := fun j hj => by
    refine ⟨?_, blk_frozen hg _⟩
    show (w.cell? _).isSome = true
    rw [blk_cell hg, Array.getElem?_eq_getElem (by omega)]; rfl
  obtain ⟨A, hA, hsA⟩ : ∃ A : Addr, (if tc = k + d then some (⟨g, 0, none⟩ : Addr) else some ⟨g, (k + d) * 2, none⟩) = some A ∧ Hid (∀ j u, news[j]? = some u → w.drew.cell? (A.add j) = some u) := by
    by_cases h : tc = k + d
    · refine ⟨⟨g, 0, none⟩, by simp [h], fun t u hu => ?_⟩
      have h0 : news.length = 0 := by rw [hlen]; omega
      rw [List.length_eq_zero_iff.1 h0] at hu
      simp at hu
    · exact ⟨⟨g, (k + d) * 2, none⟩, by simp [h], fun j u hu => by rw [add_plain]; exact hsrc j u hu⟩
  obtain ⟨W1, hW1⟩ : ∃ W1, W1 = w.drew.setCells g (0 + k * 2) news := ⟨_, rfl⟩
  have hb1 : W1.heap[g]? = some (.cells (cur.toList.take (k * 2) ++ news ++ cur.toList.drop (k * 2 + m * 2)).toArray 74 (0, 0)) := by
    have h2 := set_blk news (0 + k * 2) w.drew cur hg (by omega)
    rw [← hW1, hlen, Nat.zero_add] at h2
    exact h2
  have tW1 : Tch (fun i => i = g) w W1 := by rw [hW1]; exact ((Tch.refl _ w).drew).trans' (tch_cells g news _ _)
  obtain ⟨W2, hcl, tW2, zs, hzl, hb2⟩ := Iclear_at (hd := hd) (off := (k + m) * 2) (c := tc - (k + m)) (d := d) hb1 (by simp; omega)
  have HF : Hid (W2.ownsRow 0 74 2 (.slice (some ⟨g, 0, none⟩) (k + m) tc) (k + d + m - d) (xs.take (k * 2) ++ news)) := by
    have e1 : (cur.toList.take (k * 2) ++ news).length = (k + m) * 2 := by simp; omega
    have e2 : xs.take (k * 2) = cur.toList.take (k * 2) := by rw [← hx, List.take_take, Nat.min_eq_left (by omega)]
    rw [show k + d + m - d = k + m by omega, e2]
    refine ⟨e1, Or.inr ⟨g, tc, _, rfl, Nat.zero_le _, hb2, by omega, hcm, by simp; omega, ?_⟩⟩
    simp only []
    
    rw [List.take_append_of_le_length (l₁ := _ ++ zs) (by simp; omega)]
    rw [List.take_append_of_le_length (by simp; omega), List.take_take, Nat.min_self]
    rw [List.take_append_of_le_length (by omega)]
    exact List.take_of_length_le (by omega)
  have HT : Hid (Tch (fun i => (Value.slice (some ⟨g, 0, none⟩) (k + d + m) tc).ownBlock = some i) w W2) := (tW1.trans' tW2).mono (fun i _ h => by rw [h]; rfl)
  rw [← hnews]
  have s1 : Hid (news.length = m * 2) := hlen
  have s2 : Hid (∀ u ∈ news, u.oneCell' = true) := hnone
  have s3 : Hid _ := hspare
  have hW : Hid (W1 = w.drew.setCells g (0 + k * 2) news) := hW1
  clear hW1 hspare hnone hlen hsrc hb1 hb2 tW1 tW2 hg h1 hnews hzl hx hxl hs
  have hic : k ≤ tc := by omega
  have hjc : k + d ≤ tc := by omega
  have hne : ¬ (k : Int) = (k : Int) + d := by omega
  go_enter Try.func54, Try.ntmps54
  go_wp2_with fail
  rename_i hKn
  have hi1 : (0 : Int) ≤ (k : Int) + d := by omega
  have hi2 : (k : Int) + d ≤ (k : Int) + d + m := by omega
  have hi3 : ((k : Int) + d).toNat = k + d := by omega
  go_region_law (refine step_append_room rfl (.tmp 22) (.tmp 25) 65 rfl 74 i0 2 Try.underlying65 hi0 hz1 g 0 k tc (by simp [Act.eval, Act.put]) A m (tc - (k + d)) news (by simp [Act.eval, Act.put]) s1.out hsA.out s2.out (by omega) s3.out ?_; rw [← hW.out])
  go_simp
  refine hKn _ _ ?_
  clear hKn
  have hj1 : (k : Int) + m ≤ k + d + m := by omega
  have hj2 : ¬ tc = k + m := by omega
  have hj3 : k + d + m - (k + m) = d := by omega
  go_wp2_with fail
  go_ret
  exact ⟨⟨_, rfl, rfl, HF.out⟩, HT.out⟩
end Go.Proofs.Ytnjiiebjdpipjaa
/- slices.Clone, slices.Delete at kids. -/
namespace Go.Proofs.Ytnjiiebjdpipjaa
open Go.RowKit Go

theorem Kneq_nil (ad : Addr) (n c : Nat) (w : World) : (binOp .eql 66 (.slice (some ad) n c) (.slice none 0 0)).run Try.prog w = .ok (.bool false) w := Lib.run_eql_slice_some_nil w ad n c Try.underlying66
set_option maxHeartbeats 1000000 in
set_option maxRecDepth 100000 in
theorem Kclone_any (xs : List Value) (n : Nat) (ad : Addr) (c : Nat) (w : World) (hxl : xs.length = n * 1) (hx : ∀ j u, xs[j]? = some u → w.cell? (ad.add j) = some u) (had : xs ≠ [] → ad.block < w.heap.size) (h1 : ∀ u ∈ xs, u.oneCell' = true) (hlen : n < 1000) :
    Calls Try.prog 79 #[.slice (some ad) n c] w fun x w' => (∃ v, x = .returned v ∧ w'.ownsRow w.heap.size 62 1 v n xs) ∧ Tch (fun _ => False) w w' := by
  obtain ⟨i0, hi, hz0, hz1, hz2⟩ := info_parts info_kid
  have he := Kneq_nil ad n c
  obtain ⟨w0, hw0⟩ : ∃ w0, w0 = w.alloc (.cells #[] 62) := ⟨_, rfl⟩
  have t0 : Tch (fun _ => False) w w0 := by rw [hw0]; exact Tch.alloc _ _ _
  have hown : w0.ownsRow w.heap.size 62 1 (.slice (some ⟨w.heap.size, 0, none⟩) 0 0) 0 [] := ⟨rfl, Or.inr ⟨w.heap.size, 0, #[], rfl, Nat.le_refl _, by rw [hw0]; exact alloc_new _ _, Nat.le_refl _, by unfold maxLen; omega, rfl, rfl⟩⟩
  have Hcl : Hid (∀ j u, xs[j]? = some u → w0.cell? (ad.add j) = some u) := fun j u hu => by
    have h2 := hx j u hu
    have hb : (ad.add j).block = ad.block := by unfold Addr.add; split <;> rfl
    rw [t0.cell (p := ad.add j) (by rw [hb]; exact had (by rintro rfl; simp at hu)) (fun h => h)]; exact h2
  have Hown : Hid (w0.ownsRow w.heap.size 62 1 (.slice (some ⟨w.heap.size, 0, none⟩) 0 0) 0 []) := hown
  have Hw0 : Hid _ := hw0
  have Hsz : Hid (w.heap.size ≤ w0.heap.size) := t0.size
  have Hxl : Hid _ := hxl
  have H1 : Hid _ := h1
  clear hx had hown hw0 hxl h1
  go_enter Try.func79, Try.ntmps79
  go_wp2_with (at_builtin; have hw0 := Hw0.out; rw [← hw0]; clear hw0; refine wpList_append_keeps _ rfl _ _ 66 rfl w.heap.size 62 i0 (.pointer none) 1 8 Try.underlying66 hi hz0 hz1 hz2 rfl (by decide) (.slice (some ⟨w.heap.size, 0, none⟩) 0 0) 0 [] rfl Hown.out ad n c xs rfl Hxl.out Hcl.out H1.out (by unfold maxLen; omega) (by omega) Hsz.out ?_; intro v1 w1 hown1 hgr1 hat1 _; have HF : Hid (w1.ownsRow w.heap.size 62 1 v1 n xs) := (by have h1 := hown1; rw [Nat.zero_add, List.nil_append] at h1; exact h1); have HT : Hid (Tch (fun _ => False) w w1) := (t0.trans (Tch.of_grown (S := fun i => w.heap.size ≤ i) hgr1 (fun g e => by injection e with e; simp only at e; omega)) (fun i hi e => by omega)); obtain ⟨o1, c1, hv1⟩ := row_slice HF.out; subst hv1; clear hown1 hgr1 hat1)
  go_ret
  exact ⟨⟨_, rfl, HF.out⟩, HT.out⟩

theorem Kclear_at {W : World} {g off c d : Nat} {cur : Array Value} (hd : 0 < d) (hg : W.heap[g]? = some (.cells cur 62 (0, 0))) (hs : off + d * 1 ≤ cur.size) : ∃ W', (∀ ty, (Builtin.clear_ #[66] ty #[.slice (some ⟨g, off, none⟩) d c]).run Try.prog W = .ok (.tuple #[]) W') ∧ Tch (fun i => i = g) W W' ∧ ∃ zs : List Value, zs.length = d * 1 ∧ W'.heap[g]? = some (.cells (cur.toList.take off ++ zs ++ cur.toList.drop (off + d * 1)).toArray 62 (0, 0)) := by
  obtain ⟨i0, hi0, hz0, hz1, hz2⟩ := info_parts info_kid
  obtain ⟨zs, hzs⟩ : ∃ zs, zs = (Builtin.zeroCells (Value.pointer none).cells d).toList := ⟨_, rfl⟩
  have hzl : zs.length = d * 1 := by rw [hzs]; simp [Builtin.zeroCells, Value.cells]
  have hz1' : ∀ u ∈ zs, u.oneCell' = true := fun u hu => by
    rw [hzs] at hu
    simp only [Builtin.zeroCells, Value.cells, Array.toList_map, List.mem_map] at hu
    obtain ⟨k, _, rfl⟩ := hu
    show (#[Value.pointer none][k % 1]!).oneCell' = true
    rw [show k % 1 = 0 by omega]; rfl
  have hst := run_storeCells_at Try.prog g off 62 zs 0 cur W hg (by omega) hz1'
  refine ⟨W.setRow g (cur.toList.take (off + 0) ++ zs ++ cur.toList.drop (off + 0 + zs.length)).toArray, fun ty => ?_, setRow_tch _ _ _, zs, hzl, ?_⟩
  · obtain ⟨d, rfl⟩ : ∃ d', d = d' + 1 := ⟨d - 1, by omega⟩
    simp only [Builtin.clear_]
    simp [run_underlying Try.underlying66, zeroValue, typeInfo, hi0, hz0, ← hzs, hst]
  · rw [hzl, Nat.add_zero]
    exact setRow_blk hg

set_option maxHeartbeats 2000000 in
set_option maxRecDepth 100000 in
theorem Kdelete_any (v : Value) (n k d : Nat) (xs : List Value) (w : World) (ho : w.ownsRow 0 62 1 v n xs) (hd : 0 < d) (hkn : k + d ≤ n) (hn : n < 1000) (h1 : ∀ u ∈ xs, u.oneCell' = true) :
    Calls Try.prog 80 #[v, .int .i64 k, .int .i64 (k + d)] w fun x w' => (∃ v', x = .returned v' ∧ v'.ownBlock = v.ownBlock ∧ w'.ownsRow 0 62 1 v' (n - d) (xs.take (k * 1) ++ xs.drop ((k + d) * 1))) ∧ Tch (fun i => v.ownBlock = some i) w w' := by
  obtain ⟨i0, hi0, hz0, hz1, hz2⟩ := info_parts info_kid
  obtain ⟨g, tc, cur, rfl, -, hg, hnc, hcm, hs, hx⟩ := own_open ho (by omega)
  have hxl : xs.length = n * 1 := ho.1
  clear ho
  obtain ⟨m, hm⟩ : ∃ m, n = k + d + m := ⟨n - (k + d), by omega⟩
  subst hm
  have htc : tc ≤ 9223372036854775807 := by unfold maxLen at hcm; omega
  obtain ⟨news, hnews⟩ : ∃ news, news = xs.drop ((k + d) * 1) := ⟨_, rfl⟩
  have hlen : news.length = m * 1 := by rw [hnews, List.length_drop, hxl]; omega
  have hnone : ∀ u ∈ news, u.oneCell' = true := fun u hu => h1 u (by rw [hnews] at hu; exact List.mem_of_mem_drop hu)
  have hsrc : ∀ j u, news[j]? = some u → w.drew.cell? ⟨g, (k + d) * 1 + j, none⟩ = some u := fun j u hu => by
    have hj := (List.getElem?_eq_some_iff.1 hu).1
    show w.cell? _ = _
    rw [blk_cell hg, ← hu, hnews, List.getElem?_drop, ← hx, List.getElem?_take, if_pos (by omega), Array.getElem?_toList]
  have hspare : ∀ j, j < news.length → (w.drew.cell? ⟨g, 0 + k * 1 + j, none⟩).isSome = true ∧ w.drew.frozen? ⟨g, 0 + k * 1 + j, none⟩ = false := fun j hj => by
    refine ⟨?_, blk_frozen hg _⟩
    show (w.cell? _).isSome = true
    rw [blk_cell hg, Array.getElem?_eq_getElem (by omega)]; rfl
  obtain ⟨A, hA, hsA⟩ : ∃ A : Addr, (if tc = k + d then some (⟨g, 0, none⟩ : Addr) else some ⟨g, (k + d), none⟩) = some A ∧ Hid (∀ j u, news[j]? = some u → w.drew.cell? (A.add j) = some u) := by
    by_cases h : tc = k + d
    · refine ⟨⟨g, 0, none⟩, by simp [h], fun t u hu => ?_⟩
      have h0 : news.length = 0 := by rw [hlen]; omega
      rw [List.length_eq_zero_iff.1 h0] at hu
      simp at hu
    · exact ⟨⟨g, (k + d), none⟩, by simp [h], fun j u hu => by rw [add_plain]; have := hsrc j u hu; rw [Nat.mul_one] at this; exact this⟩
  obtain ⟨W1, hW1⟩ : ∃ W1, W1 = w.drew.setCells g (0 + k * 1) news := ⟨_, rfl⟩
  have hb1 : W1.heap[g]? = some (.cells (cur.toList.take (k * 1) ++ news ++ cur.toList.drop (k * 1 + m * 1)).toArray 62 (0, 0)) := by
    have h2 := set_blk news (0 + k * 1) w.drew cur hg (by omega)
    rw [← hW1, hlen, Nat.zero_add] at h2
    exact h2
  have tW1 : Tch (fun i => i = g) w W1 := by rw [hW1]; exact ((Tch.refl _ w).drew).trans' (tch_cells g news _ _)
  obtain ⟨W2, hcl, tW2, zs, hzl, hb2⟩ := Kclear_at (hd := hd) (off := (k + m)) (c := tc - (k + m)) (d := d) hb1 (by simp; omega)
  have HF : Hid (W2.ownsRow 0 62 1 (.slice (some ⟨g, 0, none⟩) (k + m) tc) (k + d + m - d) (xs.take (k * 1) ++ news)) := by
    have e1 : (cur.toList.take (k * 1) ++ news).length = (k + m) * 1 := by simp; omega
    have e2 : xs.take (k * 1) = cur.toList.take (k * 1) := by rw [← hx, List.take_take, Nat.min_eq_left (by omega)]
    rw [show k + d + m - d = k + m by omega, e2]
    refine ⟨e1, Or.inr ⟨g, tc, _, rfl, Nat.zero_le _, hb2, by omega, hcm, by simp; omega, ?_⟩⟩
    simp only []
    simp only [Nat.mul_one] at e1 ⊢
    rw [List.take_append_of_le_length (l₁ := _ ++ zs) (by simp; omega)]
    rw [List.take_append_of_le_length (by simp; omega), List.take_take, Nat.min_self]
    rw [List.take_append_of_le_length (by omega)]
    exact List.take_of_length_le (by omega)
  have HT : Hid (Tch (fun i => (Value.slice (some ⟨g, 0, none⟩) (k + d + m) tc).ownBlock = some i) w W2) := (tW1.trans' tW2).mono (fun i _ h => by rw [h]; rfl)
  rw [← hnews]
  have s1 : Hid (news.length = m * 1) := hlen
  have s2 : Hid (∀ u ∈ news, u.oneCell' = true) := hnone
  have s3 : Hid _ := hspare
  have hW : Hid (W1 = w.drew.setCells g (0 + k * 1) news) := hW1
  clear hW1 hspare hnone hlen hsrc hb1 hb2 tW1 tW2 hg h1 hnews hzl hx hxl hs
  have hic : k ≤ tc := by omega
  have hjc : k + d ≤ tc := by omega
  have hne : ¬ (k : Int) = (k : Int) + d := by omega
  go_enter Try.func80, Try.ntmps80
  go_wp2_with fail
  rename_i hKn
  have hi1 : (0 : Int) ≤ (k : Int) + d := by omega
  have hi2 : (k : Int) + d ≤ (k : Int) + d + m := by omega
  have hi3 : ((k : Int) + d).toNat = k + d := by omega
  go_region_law (refine step_append_room rfl (.tmp 22) (.tmp 25) 66 rfl 62 i0 1 Try.underlying66 hi0 hz1 g 0 k tc (by simp [Act.eval, Act.put]) A m (tc - (k + d)) news (by simp [Act.eval, Act.put]) s1.out hsA.out s2.out (by omega) s3.out ?_; rw [← hW.out])
  go_simp
  refine hKn _ _ ?_
  clear hKn
  have hj1 : (k : Int) + m ≤ k + d + m := by omega
  have hj2 : ¬ tc = k + m := by omega
  have hj3 : k + d + m - (k + m) = d := by omega
  go_wp2_with fail
  go_ret
  exact ⟨⟨_, rfl, rfl, HF.out⟩, HT.out⟩
end Go.Proofs.Ytnjiiebjdpipjaa
