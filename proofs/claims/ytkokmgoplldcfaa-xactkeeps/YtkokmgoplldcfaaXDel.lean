/- slices.Delete of one number. -/
import Derived.Test.YtkokmgoplldcfaaXTurn
namespace Go.Proofs.Ytkokmgoplldcfaa
open Go.RowKit Go

theorem set_blk {g : Nat} {t : TypeId} : ∀ (vs : List Value) (o : Nat) (W : World) (cur : Array Value), W.heap[g]? = some (.cells cur t (0, 0)) → o + vs.length ≤ cur.size → (W.setCells g o vs).heap[g]? = some (.cells (cur.toList.take o ++ vs ++ cur.toList.drop (o + vs.length)).toArray t (0, 0))
  | [], o, W, cur, h, hs => by
    have e : (cur.toList.take o ++ [] ++ cur.toList.drop (o + ([] : List Value).length)).toArray = cur := by simp
    rw [e]; exact h
  | v :: vs, o, W, cur, h, hs => by
    simp only [List.length_cons] at hs
    have h2 := set_blk vs (o + 1) (W.setCell ⟨g, o, none⟩ v) (cur.setIfInBounds o v) (blk_set h v) (by simp; omega)
    have ho : o < cur.toList.length := by simp; omega
    have e : (cur.setIfInBounds o v).toList.take (o + 1) ++ vs ++ (cur.setIfInBounds o v).toList.drop (o + 1 + vs.length) = cur.toList.take o ++ (v :: vs) ++ cur.toList.drop (o + (v :: vs).length) := by
      rw [Array.toList_setIfInBounds, List.drop_set_of_lt (by omega), List.take_set, List.take_succ_eq_append_getElem ho, List.set_append_right _ _ (by simp; omega)]
      have e3 : o - (cur.toList.take o).length = 0 := by simp; omega
      rw [e3]
      simp [Nat.add_assoc, Nat.add_comm 1]
    rw [e] at h2
    exact h2
theorem tch_cells (g : Nat) : ∀ (vs : List Value) (o : Nat) (W : World), Tch (fun i => i = g) W (W.setCells g o vs)
  | [], _, _ => Tch.refl _ _
  | v :: vs, o, W => (Tch.setCell (fun i => i = g) W ⟨g, o, none⟩ v rfl).trans' (tch_cells g vs (o + 1) _)
theorem clear_at {W : World} {g off c : Nat} {cur : Array Value} (hg : W.heap[g]? = some (.cells cur 3 (0, 0))) (hs : off + 1 ≤ cur.size) : ∃ W', (∀ ty, (Builtin.clear_ #[29] ty #[.slice (some ⟨g, off, none⟩) 1 c]).run Try.prog W = .ok (.tuple #[]) W') ∧ Tch (fun i => i = g) W W' ∧ ∃ zs : List Value, zs.length = 1 ∧ W'.heap[g]? = some (.cells (cur.toList.take off ++ zs ++ cur.toList.drop (off + 1)).toArray 3 (0, 0)) := by
  obtain ⟨i0, hi0, hz0, hz1, hz2⟩ := info_parts info_int
  obtain ⟨zs, hzs⟩ : ∃ zs, zs = (Builtin.zeroCells (Value.int .i64 0).cells 1).toList := ⟨_, rfl⟩
  have hzl : zs.length = 1 := by rw [hzs]; simp [Builtin.zeroCells, Value.cells]
  have hz1' : ∀ u ∈ zs, u.oneCell' = true := fun u hu => by
    rw [hzs] at hu
    simp only [Builtin.zeroCells, Value.cells, Array.toList_map, List.mem_map] at hu
    obtain ⟨k, _, rfl⟩ := hu
    show (#[Value.int .i64 0][k % 1]!).oneCell' = true
    rw [show k % 1 = 0 by omega]; rfl
  have hst := run_storeCells_at Try.prog g off 3 zs 0 cur W hg (by omega) hz1'
  refine ⟨W.setRow g (cur.toList.take (off + 0) ++ zs ++ cur.toList.drop (off + 0 + zs.length)).toArray, fun ty => ?_, ⟨rfl, rfl, rfl, by simp [World.setRow], fun k _ hk => setRow_other W g k _ hk⟩, zs, hzl, ?_⟩
  · simp only [Builtin.clear_]
    simp [run_underlying Try.underlying29, zeroValue, typeInfo, hi0, hz0, ← hzs, hst]
  · rw [hzl, Nat.add_zero]
    simp [World.setRow, Array.getElem?_modify, hg]

set_option maxHeartbeats 2000000 in
set_option maxRecDepth 100000 in
theorem delete_any (g n tc k : Nat) (cur : Array Value) (w : World) (hg : w.heap[g]? = some (.cells cur 3 (0, 0))) (hs : cur.size = tc) (hn : n ≤ tc) (htc : tc ≤ 9223372036854775807) (hk : k < n) (h1 : ∀ u ∈ cur.toList.take n, u.oneCell' = true) :
    Calls Try.prog 63 #[.slice (some ⟨g, 0, none⟩) n tc, .int .i64 k, .int .i64 (k + 1)] w fun x w' => (x = .returned (.slice (some ⟨g, 0, none⟩) (n - 1) tc) ∧ ∃ cur', w'.heap[g]? = some (.cells cur' 3 (0, 0)) ∧ cur'.size = tc ∧ cur'.toList.take (n - 1) = cur.toList.take k ++ (cur.toList.take n).drop (k + 1)) ∧ Tch (fun i => i = g) w w' := by
  obtain ⟨i0, hi0, hz0, hz1, hz2⟩ := info_parts info_int
  obtain ⟨m, hm⟩ : ∃ m, n = k + 1 + m := ⟨n - (k + 1), by omega⟩
  subst hm
  obtain ⟨news, hnews⟩ : ∃ news, news = (cur.toList.take (k + 1 + m)).drop (k + 1) := ⟨_, rfl⟩
  have hlen : news.length = m * 1 := by rw [hnews]; simp; omega
  have hnone : ∀ u ∈ news, u.oneCell' = true := fun u hu => h1 u (by rw [hnews] at hu; exact List.mem_of_mem_drop hu)
  have hsrc : ∀ j u, news[j]? = some u → w.drew.cell? ⟨g, k + 1 + j, none⟩ = some u := fun j u hu => by
    have hj := (List.getElem?_eq_some_iff.1 hu).1
    show w.cell? _ = _
    rw [blk_cell hg, ← hu, hnews, List.getElem?_drop, List.getElem?_take, if_pos (by omega), Array.getElem?_toList]
  have hspare : ∀ j, j < news.length → (w.drew.cell? ⟨g, 0 + k * 1 + j, none⟩).isSome = true ∧ w.drew.frozen? ⟨g, 0 + k * 1 + j, none⟩ = false := fun j hj => by
    refine ⟨?_, blk_frozen hg _⟩
    show (w.cell? _).isSome = true
    rw [blk_cell hg, Array.getElem?_eq_getElem (by omega)]; rfl
  obtain ⟨A, hA, hsA⟩ : ∃ A : Addr, (if tc = k + 1 then some (⟨g, 0, none⟩ : Addr) else some ⟨g, k + 1, none⟩) = some A ∧ Hid (∀ j u, news[j]? = some u → w.drew.cell? (A.add j) = some u) := by
    by_cases h : tc = k + 1
    · refine ⟨⟨g, 0, none⟩, by simp [h], fun t u hu => ?_⟩
      have h0 : news.length = 0 := by rw [hlen]; omega
      rw [List.length_eq_zero_iff.1 h0] at hu
      simp at hu
    · exact ⟨⟨g, k + 1, none⟩, by simp [h], fun j u hu => by rw [add_plain]; exact hsrc j u hu⟩
  obtain ⟨W1, hW1⟩ : ∃ W1, W1 = w.drew.setCells g (0 + k * 1) news := ⟨_, rfl⟩
  have hb1 : W1.heap[g]? = some (.cells (cur.toList.take k ++ news ++ cur.toList.drop (k + m)).toArray 3 (0, 0)) := by
    have h2 := set_blk news (0 + k * 1) w.drew cur hg (by omega)
    rw [← hW1, hlen, Nat.zero_add, Nat.mul_one, Nat.mul_one] at h2
    exact h2
  have tW1 : Tch (fun i => i = g) w W1 := by rw [hW1]; exact ((Tch.refl _ w).drew).trans' (tch_cells g news _ _)
  obtain ⟨W2, hcl, tW2, zs, hzl, hb2⟩ := clear_at (off := k + m) (c := tc - (k + m)) hb1 (by simp; omega)
  have HF : Hid (∃ cur', W2.heap[g]? = some (.cells cur' 3 (0, 0)) ∧ cur'.size = tc ∧ cur'.toList.take (k + 1 + m - 1) = cur.toList.take k ++ news) := by
    refine ⟨_, hb2, by simp; omega, ?_⟩
    have e1 : (cur.toList.take k ++ news).length = k + m := by simp; omega
    rw [show k + 1 + m - 1 = k + m by omega]
    simp only []
    rw [List.take_append_of_le_length (l₁ := cur.toList.take k ++ news) (by omega)]
    rw [← e1, List.take_append_of_le_length (by simp), List.take_append_of_le_length (by simp)]
    rw [List.take_of_length_le (Nat.le_refl _), List.take_of_length_le (Nat.le_refl _)]
  have HT : Hid (Tch (fun i => i = g) w W2) := tW1.trans' tW2
  rw [← hnews]
  have s1 : Hid (news.length = m * 1) := hlen
  have s2 : Hid (∀ u ∈ news, u.oneCell' = true) := hnone
  have s3 : Hid _ := hspare
  have hW : Hid (W1 = w.drew.setCells g (0 + k * 1) news) := hW1
  clear hW1 hspare hnone hlen hsrc hb1 hb2 tW1 tW2 hg h1 hnews hzl
  have hic : k ≤ tc := by omega
  have hjc : k + 1 ≤ tc := by omega
  go_enter Try.func63, Try.ntmps63
  go_wp2_with fail
  rename_i hKn
  have hi1 : (0 : Int) ≤ (k : Int) + 1 := by omega
  have hi2 : (k : Int) + 1 ≤ (k : Int) + 1 + m := by omega
  go_region_law (refine step_append_room rfl (.tmp 22) (.tmp 25) 29 rfl 3 i0 1 Try.underlying29 hi0 hz1 g 0 k tc (by simp [Act.eval, Act.put]) A m (tc - (k + 1)) news (by simp [Act.eval, Act.put]) s1.out hsA.out s2.out (by omega) s3.out ?_; rw [← hW.out])
  go_simp
  refine hKn _ _ ?_
  clear hKn
  have hj1 : (k : Int) + m ≤ k + 1 + m := by omega
  have hj2 : ¬ tc = k + m := by omega
  have hj3 : k + 1 + m - (k + m) = 1 := by omega
  go_wp2_with fail
  go_ret
  exact ⟨⟨by rw [show k + 1 + m - 1 = k + m by omega]; rfl, HF.out⟩, HT.out⟩
end Go.Proofs.Ytkokmgoplldcfaa
