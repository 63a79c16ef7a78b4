import Derived.Test.YtolamjipigfocaaCChg
import Derived.Deep.RegionLaw
/- Tables of one's own, one of them turned. -/
namespace Go.Proofs.Ytolamjipigfocaa
open Go.RowKit Go

theorem own_set {W : World} {base sz n c T j : Nat} {e : TypeId} {xs : List Value} (h : W.ownsRow base e sz (.slice (some ⟨T, 0, none⟩) n c) n xs) (u : Value) : (W.setCell ⟨T, j, none⟩ u).ownsRow base e sz (.slice (some ⟨T, 0, none⟩) n c) n (xs.set j u) := by
  refine ⟨by rw [List.length_set]; exact h.1, ?_⟩
  rcases h.2 with ⟨h1, _⟩ | ⟨g, cap, cur, hv, hb, hg, hnc, hcm, hcs, htk⟩
  · injection h1 with h1; cases h1
  · injection hv with e1 e2 e3
    injection e1 with e1
    injection e1 with e1
    subst e1 e3
    refine Or.inr ⟨T, c, cur.setIfInBounds j u, rfl, hb, blk_set hg u, hnc, hcm, by simp [hcs], ?_⟩
    rw [Array.toList_setIfInBounds, List.take_set, htk]
theorem tcl_set : ∀ (P : List (Tbl × Value)) (k j : Nat) (hk : k < P.length) (u : Value) (p : Tbl × Value), j < 5 → tcs p = (tcs P[k]).set j u → (tcl P).set (k * 5 + j) u = tcl (P.set k p)
  | [], k, j, hk, _, _, _, _ => by simp at hk
  | a :: P, 0, j, _, u, p, hj, hp => by
    unfold tcl
    simp only [List.set_cons_zero, List.flatMap_cons, Nat.zero_mul, Nat.zero_add]
    rw [List.set_append_left _ _ (by simp [tcs]; omega), hp]; rfl
  | a :: P, k + 1, j, hk, u, p, hj, hp => by
    have ih := tcl_set P k j (by simpa using hk) u p hj hp
    unfold tcl at ih ⊢
    simp only [List.set_cons_succ, List.flatMap_cons]
    rw [List.set_append_right _ _ (by simp [tcs]; omega), ← ih]
    congr 2
    simp [tcs]; omega
/-- One table of a list turned: its columns (owned), or its number of changes. -/
theorem TO.turn {W W' : World} {base T c k : Nat} {P : List (Tbl × Value)} (h : TO W base (.slice (some ⟨T, 0, none⟩) P.length c) P) (hk : k < P.length) (p : Tbl × Value) (hW' : W'.ownsRow base 36 5 (.slice (some ⟨T, 0, none⟩) P.length c) P.length (tcl (P.set k p))) (hc : W'.ownsRow base 43 3 p.2 p.1.cols.length (ccl p.1.cols))
    (ho : ∀ i (hi : i < P.length), i ≠ k → W'.ownsRow base 43 3 P[i].2 P[i].1.cols.length (ccl P[i].1.cols)) (hT : ∀ g, p.2.ownBlock = some g → g ≠ T ∧ ∀ i (hi : i < P.length), i ≠ k → P[i].2.ownBlock ≠ some g) : TO W' base (.slice (some ⟨T, 0, none⟩) (P.set k p).length c) (P.set k p) := by
  have hTT : ∀ g, (Value.slice (some ⟨T, 0, none⟩) (P.set k p).length c).ownBlock = some g → g = T := fun g e => by
    have : T = g := by simpa [Value.ownBlock] using e
    exact this.symm
  have hsT : ∀ i (hi : i < P.length) g, P[i].2.ownBlock = some g → g ≠ T := fun i hi g e e2 => h.sep i hi g e (by rw [e2]; rfl)
  refine ⟨by rw [List.length_set]; exact hW', fun i hi => ?_, fun i hi g e e2 => ?_, fun i j hi0 hj0 g hij e1 e2 => ?_⟩
  · rw [List.length_set] at hi
    by_cases hik : i = k
    · subst hik; simp only [List.getElem_set_self]; exact hc
    · simp only [List.getElem_set_ne (fun h => hik h.symm)]; exact ho i hi hik
  · have e3 := hTT g e2
    rw [List.length_set] at hi
    by_cases hik : i = k
    · subst hik; simp only [List.getElem_set_self] at e; exact (hT g e).1 e3
    · simp only [List.getElem_set_ne (fun h => hik h.symm)] at e; exact hsT i hi g e e3
  · have hi : i < P.length := by rw [List.length_set] at hi0; exact hi0
    have hj : j < P.length := by rw [List.length_set] at hj0; exact hj0
    by_cases hik : i = k <;> by_cases hjk : j = k
    · omega
    · subst hik
      simp only [List.getElem_set_self] at e1
      simp only [List.getElem_set_ne (fun h => hjk h.symm)] at e2
      exact (hT g e1).2 j hj hjk e2
    · subst hjk
      simp only [List.getElem_set_self] at e2
      simp only [List.getElem_set_ne (fun h => hik h.symm)] at e1
      exact (hT g e2).2 i hi hik e1
    · simp only [List.getElem_set_ne (fun h => hik h.symm)] at e1
      simp only [List.getElem_set_ne (fun h => hjk h.symm)] at e2
      exact h.dis i j hi hj g hij e1 e2
/-- A table widened; what is wrong with that. -/
def widT (t : Tbl) (x : Col) : Tbl := ⟨t.id, t.ver + 1, t.nm, t.cols ++ [x], t.key⟩
def widE (t : Tbl) (x : Col) : Int := if colsE (t.cols ++ [x]) ≠ 0 then colsE (t.cols ++ [x]) else if x.nl = false ∨ t.ver = 2147483647 then 1 else 0
theorem ccl_snoc (l : List Col) (x : Col) : ccl (l ++ [x]) = ccl l ++ [.string x.nm, .int .i64 x.k, .bool x.nl] := f3_append ..
end Go.Proofs.Ytolamjipigfocaa
/- What holds of a catalog between the deeds: plain mathematics. -/
namespace Go.Proofs.Ytolamjipigfocaa
open Go.RowKit Go

theorem right_parts {t : Tbl} (h : rightE t = 0) : numOk t.id = true ∧ numOk t.ver = true ∧ nmOk t.nm = true ∧ colsE t.cols = 0 ∧ keyOk t.cols t.key = true := by
  unfold rightE at h
  split at h
  · simp at h
  · rename_i h1
    split at h
    · simp at h
    · rename_i h2
      split at h
      · rename_i h3; exact absurd h h3
      · rename_i h3
        split at h
        · simp at h
        · rename_i h4
          refine ⟨?_, ?_, by simpa using h2, Classical.byContradiction h3, by simpa using h4⟩
          · cases e : numOk t.id
            · exact absurd (Or.inl e) h1
            · rfl
          · cases e : numOk t.ver
            · exact absurd (Or.inr e) h1
            · rfl
theorem right_of {t : Tbl} (h1 : numOk t.id = true) (h2 : numOk t.ver = true) (h3 : nmOk t.nm = true) (h4 : colsE t.cols = 0) (h5 : keyOk t.cols t.key = true) : rightE t = 0 := by
  unfold rightE
  rw [if_neg (by simp [h1, h2]), if_neg (by simp [h3]), if_neg (by simp [h4]), if_neg (by simp [h5])]
theorem cols_le {l : List Col} (h : colsE l = 0) : l.length ≤ 8 := by
  unfold colsE at h
  split at h
  · simp at h
  · rename_i h1; omega
theorem num_of {n : Int} (h : numOk n = true) : 1 ≤ n ∧ n ≤ 2147483647 := by
  simpa [numOk] using h
/-- What holds of the tables L when gv was given last. -/
structure GI (L : List Tbl) (gv : Int) : Prop where
  len : L.length ≤ 16
  right : ∀ t ∈ L, rightE t = 0
  ids : ∀ t ∈ L, t.id ≤ gv
  rise : L.Pairwise (fun a b => a.id < b.id)
  nms : L.Pairwise (fun a b => a.nm ≠ b.nm)
  low : 0 ≤ gv
  high : gv ≤ 2147483647
theorem GI.nil : GI [] 0 := ⟨by simp, fun t h => by simp at h, fun t h => by simp at h, List.Pairwise.nil, List.Pairwise.nil, by omega, by omega⟩
theorem GI.create {L : List Tbl} {gv : Int} (h : GI L gv) {nm : ByteArray} {cols : List Col} {key : Int} (hr : rightE ⟨gv + 1, 1, nm, cols, key⟩ = 0) (hn : L.any (fun t => decide (t.nm = nm)) = false) (hl : L.length ≠ 16) (hg : gv ≠ 2147483647) : GI (L ++ [⟨gv + 1, 1, nm, cols, key⟩]) (gv + 1) := by
  have hlow := h.low
  have hhigh := h.high
  have hlen := h.len
  refine ⟨by rw [List.length_append]; simp; omega, fun t ht => ?_, fun t ht => ?_, ?_, ?_, by omega, by omega⟩
  · rcases List.mem_append.1 ht with ht | ht
    · exact h.right t ht
    · rw [List.mem_singleton.1 ht]; exact hr
  · rcases List.mem_append.1 ht with ht | ht
    · have := h.ids t ht; omega
    · rw [List.mem_singleton.1 ht]; show gv + 1 ≤ _; omega
  · rw [List.pairwise_append]
    refine ⟨h.rise, List.pairwise_singleton _ _, fun a ha b hb => ?_⟩
    rw [List.mem_singleton.1 hb]
    have := h.ids a ha
    show a.id < gv + 1; omega
  · rw [List.pairwise_append]
    refine ⟨h.nms, List.pairwise_singleton _ _, fun a ha b hb => ?_⟩
    rw [List.mem_singleton.1 hb]
    rw [List.any_eq_false] at hn
    simpa using hn a ha
theorem GI.erase {L : List Tbl} {gv : Int} (h : GI L gv) (k : Nat) : GI (L.eraseIdx k) gv :=
  ⟨Nat.le_trans (List.length_eraseIdx_le ..) h.len, fun t ht => h.right t (List.mem_of_mem_eraseIdx ht), fun t ht => h.ids t (List.mem_of_mem_eraseIdx ht), h.rise.sublist (List.eraseIdx_sublist ..), h.nms.sublist (List.eraseIdx_sublist ..), h.low, h.high⟩
theorem pair_set {R : Tbl → Tbl → Prop} : ∀ {L : List Tbl} (k : Nat) (hk : k < L.length) (t : Tbl), (∀ a, R a L[k] → R a t) → (∀ b, R L[k] b → R t b) → L.Pairwise R → (L.set k t).Pairwise R
  | [], k, hk, _, _, _, _ => by simp at hk
  | a :: L, 0, _, t, _, h2, h => by
    rw [List.set_cons_zero]
    rw [List.pairwise_cons] at h ⊢
    exact ⟨fun b hb => h2 b (h.1 b hb), h.2⟩
  | a :: L, k + 1, hk, t, h1, h2, h => by
    rw [List.set_cons_succ]
    rw [List.pairwise_cons] at h ⊢
    have hk' : k < L.length := by simpa using hk
    refine ⟨fun b hb => ?_, pair_set k hk' t h1 h2 h.2⟩
    rcases List.mem_or_eq_of_mem_set hb with hb | rfl
    · exact h.1 b hb
    · exact h1 a (h.1 _ (List.getElem_mem hk'))
theorem GI.widen {L : List Tbl} {gv : Int} (h : GI L gv) {k : Nat} (hk : k < L.length) {x : Col} (hw : widE L[k] x = 0) : GI (L.set k (widT L[k] x)) gv := by
  have hr := h.right L[k] (List.getElem_mem hk)
  obtain ⟨r1, r2, r3, r4, r5⟩ := right_parts hr
  unfold widE at hw
  split at hw
  · rename_i h1; exact absurd hw h1
  · rename_i h1
    split at hw
    · simp at hw
    · rename_i h2
      have hv := num_of r2
      have hrw : rightE (widT L[k] x) = 0 := by
        refine right_of r1 ?_ r3 (Classical.byContradiction h1) ?_
        · show numOk (L[k].ver + 1) = true
          have : L[k].ver ≠ 2147483647 := fun e => h2 (Or.inr e)
          simp [numOk]; omega
        · show keyOk (L[k].cols ++ [x]) L[k].key = true
          unfold keyOk at r5 ⊢
          cases e : L[k].cols[L[k].key.toNat]? with
          | none => rw [e] at r5; simp at r5
          | some c =>
            rw [e] at r5
            have hlt := (List.getElem?_eq_some_iff.1 e).1
            rw [List.getElem?_append_left hlt, e]
            exact r5
      refine ⟨by rw [List.length_set]; exact h.len, fun t ht => ?_, fun t ht => ?_, pair_set k hk _ (fun _ h => h) (fun _ h => h) h.rise, pair_set k hk _ (fun _ h => h) (fun _ h => h) h.nms, h.low, h.high⟩
      · rcases List.mem_or_eq_of_mem_set ht with ht | rfl
        · exact h.right t ht
        · exact hrw
      · rcases List.mem_or_eq_of_mem_set ht with ht | rfl
        · exact h.ids t ht
        · exact h.ids L[k] (List.getElem_mem hk)
end Go.Proofs.Ytolamjipigfocaa
/- slices.Delete of tables. -/
namespace Go.Proofs.Ytolamjipigfocaa
open Go.RowKit Go

theorem set_blk {g : Nat} {t : TypeId} : ∀ (vs : List Value) (o : Nat) (W : World) (cur : Array Value), W.heap[g]? = some (.cells cur t (0, 0)) → o + vs.length ≤ cur.size → (W.setCells g o vs).heap[g]? = some (.cells (cur.toList.take o ++ vs ++ cur.toList.drop (o + vs.length)).toArray t (0, 0))
  | [], o, W, cur, h, hs => by
    have e : (cur.toList.take o ++ [] ++ cur.toList.drop (o + ([] : List Value).length)).toArray = cur := by simp
    rw [e]; exact h
  | v :: vs, o, W, cur, h, hs => by
    simp only [List.length_cons] at hs
    have h2 := set_blk vs (o + 1) (W.setCell ⟨g, o, none⟩ v) (cur.setIfInBounds o v) (blk_set h v) (by simp; omega)
    have ho : o < cur.toList.length := by simp; omega
    have e : (cur.setIfInBounds o v).toList.take (o + 1) ++ vs ++ (cur.setIfInBounds o v).toList.drop (o + 1 + vs.length) = cur.toList.take o ++ (v :: vs) ++ cur.toList.drop (o + (v :: vs).length) := by
      rw [Array.toList_setIfInBounds, List.drop_set_of_lt (by omega), List.take_set, List.take_succ_eq_append_getElem ho, List.set_append_right _ _ (by simp; omega)]
      have e3 : o - (cur.toList.take o).length = 0 := by simp; omega
      rw [e3]
      simp [Nat.add_assoc, Nat.add_comm 1]
    rw [e] at h2
    exact h2
theorem tch_cells (g : Nat) : ∀ (vs : List Value) (o : Nat) (W : World), Tch (fun i => i = g) W (W.setCells g o vs)
  | [], _, _ => Tch.refl _ _
  | v :: vs, o, W => (Tch.setCell (fun i => i = g) W ⟨g, o, none⟩ v rfl).trans' (tch_cells g vs (o + 1) _)
/-- clear of one table, the last one. -/
theorem clear_at {W : World} {g off c : Nat} {cur : Array Value} (hg : W.heap[g]? = some (.cells cur 36 (0, 0))) (hs : off + 5 ≤ cur.size) : ∃ W', (∀ ty, (Builtin.clear_ #[37] ty #[.slice (some ⟨g, off, none⟩) 1 c]).run Try.prog W = .ok (.tuple #[]) W') ∧ Tch (fun i => i = g) W W' ∧ ∃ zs : List Value, zs.length = 5 ∧ W'.heap[g]? = some (.cells (cur.toList.take off ++ zs ++ cur.toList.drop (off + 5)).toArray 36 (0, 0)) := by
  obtain ⟨i0, hi0, hz0, hz1, hz2⟩ := info_parts info_tbl
  obtain ⟨zs, hzs⟩ : ∃ zs, zs = (Builtin.zeroCells (Value.agg #[.int .i64 0, .int .i64 0, .string ⟨#[]⟩, .slice none 0 0, .int .i64 0]).cells 1).toList := ⟨_, rfl⟩
  have hzl : zs.length = 5 := by rw [hzs]; simp [Builtin.zeroCells, Value.cells]
  have hz1' : ∀ u ∈ zs, u.oneCell' = true := fun u hu => by
    rw [hzs] at hu
    simp only [Builtin.zeroCells, Value.cells, Array.toList_map, List.mem_map] at hu
    obtain ⟨k, _, rfl⟩ := hu
    show (#[Value.int .i64 0, .int .i64 0, .string ⟨#[]⟩, .slice none 0 0, .int .i64 0][k % 5]!).oneCell' = true
    rcases (by omega : k % 5 = 0 ∨ k % 5 = 1 ∨ k % 5 = 2 ∨ k % 5 = 3 ∨ k % 5 = 4) with e | e | e | e | e <;> rw [e] <;> rfl
  have hst := run_storeCells_at Try.prog g off 36 zs 0 cur W hg (by omega) hz1'
  refine ⟨W.setRow g (cur.toList.take (off + 0) ++ zs ++ cur.toList.drop (off + 0 + zs.length)).toArray, fun ty => ?_, ⟨rfl, rfl, rfl, by simp [World.setRow], fun k _ hk => setRow_other W g k _ hk⟩, zs, hzl, ?_⟩
  · simp only [Builtin.clear_]
    simp [run_underlying Try.underlying37, zeroValue, typeInfo, hi0, hz0, ← hzs, hst]
  · rw [hzl, Nat.add_zero]
    simp [World.setRow, Array.getElem?_modify, hg]

set_option maxHeartbeats 2000000 in
set_option maxRecDepth 100000 in
theorem delete_any (g n tc k : Nat) (cur : Array Value) (w : World) (hg : w.heap[g]? = some (.cells cur 36 (0, 0))) (hs : cur.size = tc * 5) (hn : n ≤ tc) (htc : tc ≤ 9223372036854775807) (hk : k < n) (h1 : ∀ u ∈ cur.toList.take (n * 5), u.oneCell' = true) :
    Calls Try.prog 68 #[.slice (some ⟨g, 0, none⟩) n tc, .int .i64 k, .int .i64 (k + 1)] w fun x w' => (x = .returned (.slice (some ⟨g, 0, none⟩) (n - 1) tc) ∧ ∃ cur', w'.heap[g]? = some (.cells cur' 36 (0, 0)) ∧ cur'.size = tc * 5 ∧ cur'.toList.take ((n - 1) * 5) = cur.toList.take (k * 5) ++ (cur.toList.take (n * 5)).drop ((k + 1) * 5)) ∧ Tch (fun i => i = g) w w' := by
  obtain ⟨i0, hi0, hz0, hz1, hz2⟩ := info_parts info_tbl
  obtain ⟨m, hm⟩ : ∃ m, n = k + 1 + m := ⟨n - (k + 1), by omega⟩
  subst hm
  obtain ⟨news, hnews⟩ : ∃ news, news = (cur.toList.take ((k + 1 + m) * 5)).drop ((k + 1) * 5) := ⟨_, rfl⟩
  have hlen : news.length = m * 5 := by rw [hnews]; simp; omega
  have hnone : ∀ u ∈ news, u.oneCell' = true := fun u hu => h1 u (by rw [hnews] at hu; exact List.mem_of_mem_drop hu)
  have hsrc : ∀ j u, news[j]? = some u → w.drew.cell? ⟨g, (k + 1) * 5 + j, none⟩ = some u := fun j u hu => by
    have hj := (List.getElem?_eq_some_iff.1 hu).1
    show w.cell? _ = _
    rw [blk_cell hg, ← hu, hnews, List.getElem?_drop, List.getElem?_take, if_pos (by omega), Array.getElem?_toList]
  have hspare : ∀ j, j < news.length → (w.drew.cell? ⟨g, 0 + k * 5 + j, none⟩).isSome = true ∧ w.drew.frozen? ⟨g, 0 + k * 5 + j, none⟩ = false := fun j hj => by
    refine ⟨?_, blk_frozen hg _⟩
    show (w.cell? _).isSome = true
    rw [blk_cell hg, Array.getElem?_eq_getElem (by omega)]; rfl
  obtain ⟨A, hA, hsA⟩ : ∃ A : Addr, (if tc = k + 1 then some (⟨g, 0, none⟩ : Addr) else some ⟨g, (k + 1) * 5, none⟩) = some A ∧ Hid (∀ j u, news[j]? = some u → w.drew.cell? (A.add j) = some u) := by
    by_cases h : tc = k + 1
    · refine ⟨⟨g, 0, none⟩, by simp [h], fun t u hu => ?_⟩
      have h0 : news.length = 0 := by rw [hlen]; omega
      rw [List.length_eq_zero_iff.1 h0] at hu
      simp at hu
    · exact ⟨⟨g, (k + 1) * 5, none⟩, by simp [h], fun j u hu => by rw [add_plain]; exact hsrc j u hu⟩
  obtain ⟨W1, hW1⟩ : ∃ W1, W1 = w.drew.setCells g (0 + k * 5) news := ⟨_, rfl⟩
  have hb1 : W1.heap[g]? = some (.cells (cur.toList.take (k * 5) ++ news ++ cur.toList.drop (k * 5 + m * 5)).toArray 36 (0, 0)) := by
    have h2 := set_blk news (0 + k * 5) w.drew cur hg (by omega)
    rw [← hW1, hlen, Nat.zero_add] at h2
    exact h2
  have tW1 : Tch (fun i => i = g) w W1 := by rw [hW1]; exact ((Tch.refl _ w).drew).trans' (tch_cells g news _ _)
  obtain ⟨W2, hcl, tW2, zs, hzl, hb2⟩ := clear_at (off := (k + m) * 5) (c := tc - (k + m)) hb1 (by simp; omega)
  have HF : Hid (∃ cur', W2.heap[g]? = some (.cells cur' 36 (0, 0)) ∧ cur'.size = tc * 5 ∧ cur'.toList.take ((k + 1 + m - 1) * 5) = cur.toList.take (k * 5) ++ news) := by
    refine ⟨_, hb2, by simp; omega, ?_⟩
    have e1 : (cur.toList.take (k * 5) ++ news).length = (k + m) * 5 := by simp; omega
    rw [show k + 1 + m - 1 = k + m by omega]
    simp only []
    rw [List.take_append_of_le_length (l₁ := cur.toList.take (k * 5) ++ news) (by omega)]
    rw [← e1, List.take_append_of_le_length (by simp), List.take_append_of_le_length (by simp)]
    rw [List.take_of_length_le (Nat.le_refl _), List.take_of_length_le (Nat.le_refl _)]
  have HT : Hid (Tch (fun i => i = g) w W2) := tW1.trans' tW2
  rw [← hnews]
  have s1 : Hid (news.length = m * 5) := hlen
  have s2 : Hid (∀ u ∈ news, u.oneCell' = true) := hnone
  have s3 : Hid _ := hspare
  have hW : Hid (W1 = w.drew.setCells g (0 + k * 5) news) := hW1
  clear hW1 hspare hnone hlen hsrc hb1 hb2 tW1 tW2 hg h1 hnews hzl
  have hic : k ≤ tc := by omega
  have hjc : k + 1 ≤ tc := by omega
  go_enter Try.func68, Try.ntmps68
  go_wp2_with fail
  rename_i hKn
  have hi1 : (0 : Int) ≤ (k : Int) + 1 := by omega
  have hi2 : (k : Int) + 1 ≤ (k : Int) + 1 + m := by omega
  go_region_law (refine step_append_room rfl (.tmp 22) (.tmp 25) 37 rfl 36 i0 5 Try.underlying37 hi0 hz1 g 0 k tc (by simp [Act.eval, Act.put]) A m (tc - (k + 1)) news (by simp [Act.eval, Act.put]) s1.out hsA.out s2.out (by omega) s3.out ?_; rw [← hW.out])
  go_simp
  refine hKn _ _ ?_
  clear hKn
  have hj1 : (k : Int) + m ≤ k + 1 + m := by omega
  have hj2 : ¬ tc = k + m := by omega
  have hj3 : k + 1 + m - (k + m) = 1 := by omega
  go_wp2_with fail
  go_ret
  exact ⟨⟨by rw [show k + 1 + m - 1 = k + m by omega]; rfl, HF.out⟩, HT.out⟩
end Go.Proofs.Ytolamjipigfocaa
/- widening.on of the code. -/
namespace Go.Proofs.Ytolamjipigfocaa
open Go.RowKit Go

abbrev wA (nm : ByteArray) (x : Col) : Value := .agg #[.string nm, .string x.nm, .int .i64 x.k, .bool x.nl]

set_option maxHeartbeats 4000000 in
set_option maxRecDepth 100000 in
theorem widenOn_any (base d : Nat) (L : List Tbl) (gv : Int) (P : List (Tbl × Value)) (tv : Value) (nm : ByteArray) (x : Col) (b RB : Nat) (k : Nat) (hk : k < P.length) (w : World) (h : CO w base d L gv P tv) (hl : P.length ≤ 16) (h8 : P[k].1.cols.length ≤ 8) (hver : 0 ≤ P[k].1.ver ∧ P[k].1.ver ≤ 2147483647)
    (hpos : posP (fun t => decide (t.nm = nm)) P = k) (hbase : base ≤ w.heap.size) (hbb : b < base ∧ RB < base) :
    Calls Try.prog 47 #[wA nm x, .pointer (some ⟨d, 0, none⟩)] w fun y w' => OnOut base d (widE P[k].1 x) (TX b RB (widT P[k].1 x)) (L.set k (widT P[k].1 x)) gv y w' ∧ Tch (fun i => base ≤ i) w w' := by
  obtain ⟨i0, hi0, hz0, hz1, hz2⟩ := info_parts info_col
  obtain ⟨T, tc, rfl⟩ : ∃ T tc, tv = .slice (some ⟨T, 0, none⟩) P.length tc := by
    obtain ⟨to, tc, htv⟩ := row_slice h.to.own
    have ho := h.to.own
    rw [htv] at ho
    obtain ⟨T, e, _⟩ := own_at ho (by omega)
    exact ⟨T, tc, by rw [htv, e]⟩
  obtain ⟨t, ht⟩ : ∃ t, t = P[k].1 := ⟨_, rfl⟩
  obtain ⟨v, hv⟩ : ∃ v, v = P[k].2 := ⟨_, rfl⟩
  have hPk : P[k] = (t, v) := by rw [ht, hv]
  have hcol := h.to.col k hk
  rw [← ht, ← hv] at hcol
  obtain ⟨co, cc, rfl⟩ := row_slice hcol
  rw [← ht] at h8 hver ⊢
  obtain ⟨N, hN⟩ : ∃ N, N = w.heap.size := ⟨_, rfl⟩
  obtain ⟨w0, hw0⟩ : ∃ w0, w0 = (w.alloc (.cells #[.string nm, .string x.nm, .int .i64 x.k, .bool x.nl] 91)).alloc (.cells #[.int .i64 0, .int .i64 0, .string ⟨#[]⟩, .slice none 0 0, .int .i64 0] 36) := ⟨_, rfl⟩
  have t0 : Tch (fun _ => False) w w0 := by rw [hw0]; exact (Tch.alloc _ _ _).allocR _
  have hs0 : w0.heap.size = N + 2 := by rw [hw0, World.size_alloc, World.size_alloc, hN]
  have hX : w0.heap[N]? = some (.cells #[.string nm, .string x.nm, .int .i64 x.k, .bool x.nl] 91 (0, 0)) := by
    rw [hw0, hN]; exact (Tch.alloc (fun _ => False) _ _).block _ (by simp) (fun h => h) |>.trans (alloc_new _ _)
  have hY : w0.heap[N + 1]? = some (.cells #[.int .i64 0, .int .i64 0, .string ⟨#[]⟩, .slice none 0 0, .int .i64 0] 36 (0, 0)) := by
    rw [hw0, hN, ← World.size_alloc]; exact alloc_new _ _
  have hdN : d < N := by rw [hN]; exact blk_lt h.blk
  have hTN : T < N := by rw [hN]; exact (h.to.own.lt T rfl).2
  have hTd : T ≠ d := fun e => h.nb.1 (by rw [← e]; rfl)
  have hCO0 : CO w0 base d L gv P (.slice (some ⟨T, 0, none⟩) P.length tc) := h.tch t0 (fun _ _ _ h => h)
  -- the worlds in which only the columns' block (and what is new) is turned
  have HQ : Hid (∀ W, Tch (fun i => (Value.slice co t.cols.length cc).ownBlock = some i) w0 W → W.heap[N]? = some (.cells #[.string nm, .string x.nm, .int .i64 x.k, .bool x.nl] 91 (0, 0)) ∧ W.heap[N + 1]? = some (.cells #[.int .i64 0, .int .i64 0, .string ⟨#[]⟩, .slice none 0 0, .int .i64 0] 36 (0, 0)) ∧ W.heap[d]? = some (.cells #[.slice (some ⟨T, 0, none⟩) P.length tc, .int .i64 gv] 55 (0, 0)) ∧ W.ownsRow base 36 5 (.slice (some ⟨T, 0, none⟩) P.length tc) P.length (tcl P)) := fun W tW => by
    have hlt : ∀ g, (Value.slice co t.cols.length cc).ownBlock = some g → g < N ∧ g ≠ d ∧ g ≠ T := fun g e => ⟨by rw [hN]; exact (hcol.lt g e).2, fun e2 => h.nb.2 k hk (by rw [hPk, ← e2]; exact e), fun e2 => h.to.sep k hk g (by rw [hPk]; exact e) (by rw [e2]; rfl)⟩
    refine ⟨by rw [tW.block N (blk_lt hX) (fun e => by have := (hlt N e).1; omega)]; exact hX, by rw [tW.block (N + 1) (blk_lt hY) (fun e => by have := (hlt _ e).1; omega)]; exact hY, by rw [tW.block d (blk_lt hCO0.blk) (fun e => (hlt d e).2.1 rfl)]; exact hCO0.blk, own_tch hCO0.to.own tW (fun g e e2 => (hlt g e2).2.2 ?_)⟩
    have : T = g := by simpa [Value.ownBlock] using e
    exact this.symm
  have HT5 : Hid (∀ W, Tch (fun i => (Value.slice co t.cols.length cc).ownBlock = some i) w0 W → (W.cell? ⟨T, k * 5, none⟩ = some (.int .i64 t.id) ∧ W.cell? ⟨T, k * 5 + 1, none⟩ = some (.int .i64 t.ver) ∧ W.cell? ⟨T, k * 5 + 2, none⟩ = some (.string t.nm) ∧ W.cell? ⟨T, k * 5 + 3, none⟩ = some (.slice co t.cols.length cc) ∧ W.cell? ⟨T, k * 5 + 4, none⟩ = some (.int .i64 t.key)) ∧ (∀ j, W.frozen? ⟨T, j, none⟩ = false) ∧ (W.cell? ⟨N, 0, none⟩ = some (.string nm) ∧ W.cell? ⟨N, 1, none⟩ = some (.string x.nm) ∧ W.cell? ⟨N, 2, none⟩ = some (.int .i64 x.k) ∧ W.cell? ⟨N, 3, none⟩ = some (.bool x.nl)) ∧ W.cell? ⟨d, 0, none⟩ = some (.slice (some ⟨T, 0, none⟩) P.length tc)) := fun W tW => by
    obtain ⟨a1, a2, a3, a4⟩ := HQ.out W tW
    have key : ∀ j u, j < 5 → (tcs P[k])[j]? = some u → W.cell? ⟨T, k * 5 + j, none⟩ = some u := fun j u hj hu => by
      obtain ⟨g, e, _, ha⟩ := own_at a4 (by omega)
      injection e with e; injection e with e; subst e
      have := ha (k * 5 + j) u (by rw [tcl_get P k j hk hj]; exact hu)
      rwa [Nat.zero_add] at this
    rw [hPk] at key
    refine ⟨⟨key 0 _ (by omega) rfl, key 1 _ (by omega) rfl, key 2 _ (by omega) rfl, key 3 _ (by omega) rfl, key 4 _ (by omega) rfl⟩, fun j => ?_, ⟨by rw [blk_cell a1]; rfl, by rw [blk_cell a1]; rfl, by rw [blk_cell a1]; rfl, by rw [blk_cell a1]; rfl⟩, by rw [blk_cell a3]; rfl⟩
    rcases a4.2 with ⟨h1, _⟩ | ⟨g, cap, cur, hv, _, hg, _⟩
    · injection h1 with h1; cases h1
    · injection hv with e1; injection e1 with e1; injection e1 with e1; subst e1; exact blk_frozen hg j
  have q1 := nm3_any d (some ⟨T, 0, none⟩) tc P _ nm w0 (HT5.out w0 (Tch.refl _ _)).2.2.2 (hCO0.to.toTL) hl
  rw [hpos] at q1
  have HcN : Hid (∀ i (hi : i < P.length) g, P[i].2.ownBlock = some g → g < N) := fun i hi g e => by rw [hN]; exact ((h.to.col i hi).lt g e).2
  have HgN : Hid (∀ g, (Value.slice co t.cols.length cc).ownBlock = some g → g < N) := fun g e => by rw [hN]; exact (hcol.lt g e).2
  have H0 : Hid (CO w0 base d L gv P (.slice (some ⟨T, 0, none⟩) P.length tc)) := hCO0
  have Hcol : Hid (w0.ownsRow base 43 3 (.slice co t.cols.length cc) t.cols.length (ccl t.cols)) := own_tch hcol t0 (fun _ _ h => h)
  have HPk : Hid (P[k] = (t, .slice co t.cols.length cc)) := hPk
  have Hw0 : Hid _ := hw0
  have HN : Hid (N = w.heap.size) := hN
  have Ht0 : Hid (Tch (fun _ => False) w w0) := t0
  have Hs0 : Hid (w0.heap.size = N + 2) := hs0
  have hkI : (k : Int) < P.length := by omega
  clear h hw0 hN hX hY t0 hs0 hCO0 hcol hPk ht hv hpos
  obtain ⟨⟨x0, x1, x2, x3, x4⟩, hzf, ⟨y0, y1, y2, y3⟩, d0⟩ := HT5.out w0 (Tch.refl _ _)
  clear hzf
  go_enter Try.func47, Try.ntmps47
  go_wp2_with fail
  rw [← HN.out]
  have hw0 := Hw0.out
  rw [← hw0]
  clear hw0
  refine q1.mono ?_
  rintro y w1 ⟨rfl, t1⟩
  clear q1 x0 x1 x2 x3 x4 y0 y1 y2 y3 d0
  obtain ⟨⟨x0, x1, x2, x3, x4⟩, hzf, ⟨y0, y1, y2, y3⟩, d0⟩ := HT5.out w1 (t1.mono (fun _ _ h => h.elim))
  go_wp2_with fail
  clear hzf x0 x1 x2 x3 x4 y0 y1 y2 y3 d0
  obtain ⟨n, hn⟩ : ∃ n, n = t.cols.length := ⟨_, rfl⟩
  obtain ⟨K0, hK0⟩ : ∃ K0 : World → Prop, K0 = fun W => Tch (fun i => (Value.slice co t.cols.length cc).ownBlock = some i) w0 W := ⟨_, rfl⟩
  obtain ⟨St, hSt⟩ : ∃ St : List Value → World → Prop, St = fun s W => match s with
    | [] => Tch (fun _ => False) w1 W
    | [y] => Tch (fun _ => False) w1 W ∧ ∃ g, y = .slice (some ⟨g, 0, none⟩) 1 1 ∧ At W g 0 [.string x.nm, .int .i64 x.k, .bool x.nl]
    | [_, z] => ∃ co' cc', z = .slice co' (t.cols.length + 1) cc' ∧ W.ownsRow base 43 3 (.slice co' (t.cols.length + 1) cc') (t.cols.length + 1) (ccl (t.cols ++ [x])) ∧ ((Value.slice co' (t.cols.length + 1) cc').ownBlock = (Value.slice co t.cols.length cc).ownBlock ∨ ∃ g, (Value.slice co' (t.cols.length + 1) cc').ownBlock = some g ∧ w0.heap.size ≤ g)
    | _ => False := ⟨_, rfl⟩
  obtain ⟨C, hC⟩ : ∃ C : List Value → World → Prop, C = fun s W => K0 W ∧ St s W := ⟨_, rfl⟩
  have hK : ∀ s W, C s W → _ := fun s W h => by
    rw [hC] at h
    have h1 := h.1
    rw [hK0] at h1
    exact HT5.out W h1
  have h7 : ∀ W, C [] W → C [.slice (some ⟨W.heap.size, 0, none⟩) 1 1] (W.alloc (.cells #[.string x.nm, .int .i64 x.k, .bool x.nl] 43)) := fun W h => by
    rw [hC, hSt, hK0] at h ⊢
    exact ⟨h.1.allocR _, h.2.allocR _, W.heap.size, rfl, blk_at (alloc_new W (.cells ([.string x.nm, .int .i64 x.k, .bool x.nl] : List Value).toArray 43))⟩
  have h8' : ∀ g W, C [.slice (some ⟨g, 0, none⟩) 1 1] W → ∃ co' cc' w', (Builtin.append_ #[34, 34] 34 #[.slice co t.cols.length cc, .slice (some ⟨g, 0, none⟩) 1 1]).run Try.prog W = .ok (.slice co' (t.cols.length + 1) cc') w' ∧ C [.slice (some ⟨g, 0, none⟩) 1 1, .slice co' (t.cols.length + 1) cc'] w' := fun g W h => by
    rw [hC, hSt, hK0] at h
    obtain ⟨h1, tW, g', e, hg⟩ := h
    have e' : g = g' := by simpa using e
    subst e'
    have hown := own_tch (own_tch Hcol.out t1 (fun _ _ h => h)) tW (fun _ _ h => h)
    obtain ⟨v', w', hr, hown', hgr, hat, _⟩ := run_append_keeps (P := Try.prog) W base 34 34 43 i0 (.agg #[.string ⟨#[]⟩, .int .i64 0, .bool false]) 3 32 Try.underlying34 hi0 hz0 hz1 hz2 rfl (by decide) (.slice co t.cols.length cc) t.cols.length (ccl t.cols) hown ⟨g, 0, none⟩ 1 1 [.string x.nm, .int .i64 x.k, .bool x.nl] rfl (fun j u hu => by rw [add_plain]; exact hg j u hu) (by simp [Value.oneCell']) (by unfold maxLen; omega) (by omega) (by have := Ht0.out.size; have := t1.size; have := tW.size; omega)
    obtain ⟨co', cc', rfl⟩ := row_slice hown'
    refine ⟨co', cc', w', hr, ?_⟩
    rw [hC, hSt, hK0]
    refine ⟨h1.trans' (grown_at (Tch.refl (fun _ => False) W) hgr), co', cc', rfl, by rw [ccl_snoc]; exact hown', hat.imp id (fun e => ⟨_, e, ?_⟩)⟩
    have := t1.size; have := tW.size; omega
  have h0' : C [] w1.drew := by
    rw [hC, hSt, hK0]; exact ⟨(t1.mono (fun _ _ h => h.elim)).drew, (Tch.refl _ _).drew⟩
  have hsh1 : ∀ y W, C [y] W → ∃ g, y = .slice (some ⟨g, 0, none⟩) 1 1 := fun y W h => by
    rw [hC, hSt, hK0] at h
    obtain ⟨_, _, g, rfl, _⟩ := h
    exact ⟨g, rfl⟩
  have hfin : ∀ y z W, C [y, z] W → ∃ co' cc', z = .slice co' (t.cols.length + 1) cc' ∧ W.ownsRow base 43 3 (.slice co' (t.cols.length + 1) cc') (t.cols.length + 1) (ccl (t.cols ++ [x])) ∧ ((Value.slice co' (t.cols.length + 1) cc').ownBlock = (Value.slice co t.cols.length cc).ownBlock ∨ ∃ g, (Value.slice co' (t.cols.length + 1) cc').ownBlock = some g ∧ w0.heap.size ≤ g) ∧ Tch (fun i => (Value.slice co t.cols.length cc).ownBlock = some i) w0 W := fun y z W h => by
    rw [hC, hSt, hK0] at h
    obtain ⟨h1, co', cc', h2, h3, h4⟩ := h
    exact ⟨co', cc', h2, h3, h4, h1⟩
  clear hC hSt hK0 hn
  refine wp_region_ordv [7, 8] C 9 [0, 1, 2, 3, 4, 5, 6, 7, 8] (by kernel_rfl) (by kernel_rfl) h0' ?_
  clear h0'
  refine ordv_read rfl (by go_simp) (by rfl) ?_
  apply Exists.intro
  refine ⟨fun s' W hW b K Q hK' => ?_, fun K hK' => ?_⟩
  · obtain ⟨⟨q0, q1, q2, q3, q4⟩, _, ⟨p0, p1, p2, p3⟩, _⟩ := hK _ W hW
    go_simp
    exact hK' W hW
  go_simp
  refine hK' _ ?_
  clear hK' K
  refine ordv_read rfl (by go_simp) (by rfl) ?_
  apply Exists.intro
  refine ⟨fun s' W hW b K Q hK' => ?_, fun K hK' => ?_⟩
  · obtain ⟨⟨q0, q1, q2, q3, q4⟩, _, ⟨p0, p1, p2, p3⟩, _⟩ := hK _ W hW
    go_simp
    exact hK' W hW
  go_simp
  refine hK' _ ?_
  clear hK' K
  refine ordv_read rfl (by go_simp) (by rfl) ?_
  apply Exists.intro
  refine ⟨fun s' W hW b K Q hK' => ?_, fun K hK' => ?_⟩
  · obtain ⟨⟨q0, q1, q2, q3, q4⟩, _, ⟨p0, p1, p2, p3⟩, _⟩ := hK _ W hW
    go_simp
    exact hK' W hW
  go_simp
  refine hK' _ ?_
  clear hK' K
  refine ordv_read rfl (by go_simp) (by rfl) ?_
  apply Exists.intro
  refine ⟨fun s' W hW b K Q hK' => ?_, fun K hK' => ?_⟩
  · obtain ⟨⟨q0, q1, q2, q3, q4⟩, _, ⟨p0, p1, p2, p3⟩, _⟩ := hK _ W hW
    go_simp
    exact hK' W hW
  go_simp
  refine hK' _ ?_
  clear hK' K
  refine ordv_read rfl (by go_simp) (by rfl) ?_
  apply Exists.intro
  refine ⟨fun s' W hW b K Q hK' => ?_, fun K hK' => ?_⟩
  · obtain ⟨⟨q0, q1, q2, q3, q4⟩, _, ⟨p0, p1, p2, p3⟩, _⟩ := hK _ W hW
    go_simp
    exact hK' W hW
  go_simp
  refine hK' _ ?_
  clear hK' K
  refine ordv_read rfl (by go_simp) (by rfl) ?_
  apply Exists.intro
  refine ⟨fun s' W hW b K Q hK' => ?_, fun K hK' => ?_⟩
  · obtain ⟨⟨q0, q1, q2, q3, q4⟩, _, ⟨p0, p1, p2, p3⟩, _⟩ := hK _ W hW
    go_simp
    exact hK' W hW
  go_simp
  refine hK' _ ?_
  clear hK' K
  refine ordv_read rfl (by go_simp) (by rfl) ?_
  apply Exists.intro
  refine ⟨fun s' W hW b K Q hK' => ?_, fun K hK' => ?_⟩
  · obtain ⟨⟨q0, q1, q2, q3, q4⟩, _, ⟨p0, p1, p2, p3⟩, _⟩ := hK _ W hW
    go_simp
    exact hK' W hW
  go_simp
  refine hK' _ ?_
  clear hK' K
  refine ordv_turn rfl (by go_simp) (by rfl) (fun W hW b K Q hK' => ?_) (fun u hu K hK' => ?_)
  · go_simp
    exact hK' _ _ (h7 W hW)
  obtain ⟨g, rfl⟩ : ∃ g, u = .slice (some ⟨g, 0, none⟩) 1 1 := by
    obtain ⟨W', hW'⟩ := hu
    exact hsh1 u W' hW'
  clear hu h7 hsh1
  go_simp
  refine hK' _ ?_
  clear hK' K
  refine ordv_turn rfl (by go_simp) (by rfl) (fun W hW => ?_) (fun u hu K hK' => ?_)
  · obtain ⟨co', cc', w', hr, h1⟩ := h8' g W hW
    exact yv_append (.tmp 26) (.tmp 29) 34 rfl (.slice co t.cols.length cc) (.slice (some ⟨g, 0, none⟩) 1 1) rfl rfl hr h1
  obtain ⟨co', cc', rfl⟩ : ∃ co' cc', u = .slice co' (t.cols.length + 1) cc' := by
    obtain ⟨W', hW'⟩ := hu
    obtain ⟨co', cc', e, _⟩ := hfin _ u W' hW'
    exact ⟨co', cc', e⟩
  clear hu h8'
  go_simp
  refine hK' _ ?_
  clear hK' K
  refine ordv_nil ?_
  intro w3 hw3
  obtain ⟨⟨x0, x1, x2, x3, x4⟩, hzf, ⟨y0, y1, y2, y3⟩, d0⟩ := hK _ w3 hw3
  obtain ⟨_, _, e1, hown3, hat3, t3⟩ := hfin _ _ w3 hw3
  injection e1 with e1 e2 e3
  subst e1 e3
  clear hfin hK hw3 e2
  obtain ⟨z, hz⟩ : ∃ z, z = Value.slice co' (t.cols.length + 1) cc' := ⟨_, rfl⟩
  obtain ⟨t1', ht1'⟩ : ∃ t1' : Tbl, t1' = ⟨t.id, t.ver, t.nm, t.cols ++ [x], t.key⟩ := ⟨_, rfl⟩
  obtain ⟨w4, hw4⟩ : ∃ w4, w4 = w3.setCell ⟨T, k * 5 + 3, none⟩ z := ⟨_, rfl⟩
  have t4 : Tch (fun i => i = T) w3 w4 := by rw [hw4]; exact Tch.setCell _ _ _ _ rfl
  have hzT : ∀ g, z.ownBlock = some g → g ≠ T ∧ g ≠ d ∧ base ≤ g ∧ g ≠ N ∧ g ≠ N + 1 ∧ ∀ i (hi : i < P.length), i ≠ k → P[i].2.ownBlock ≠ some g := fun g e => by
    rw [hz] at e
    have hge := (hown3.lt g e).1
    rcases hat3 with e2 | ⟨g', e2, hg'⟩
    · rw [e2] at e
      have e3 : P[k].2.ownBlock = some g := by rw [HPk.out]; exact e
      have hgN : g < N := by
        have h1 : g < w0.heap.size := (World.ownsRow.lt Hcol.out g e).2
        have h2 := HgN.out g e
        exact h2
      exact ⟨fun e4 => H0.out.to.sep k hk g e3 (by rw [e4]; rfl), fun e4 => H0.out.nb.2 k hk (e4 ▸ e3), hge, by omega, by omega, fun i hi hik e4 => H0.out.to.dis i k hi hk g hik e4 e3⟩
    · rw [e2] at e; injection e with e
      have hs := Hs0.out
      exact ⟨by omega, by omega, hge, by omega, by omega, fun i hi _ e4 => by have := (World.ownsRow.lt (H0.out.to.col i hi) g e4).2; omega⟩
  have hTO4 : TO w4 base (.slice (some ⟨T, 0, none⟩) (P.set k (t1', z)).length tc) (P.set k (t1', z)) := by
    refine H0.out.to.turn hk (t1', z) ?_ ?_ (fun i hi hik => ?_) (fun g e => ⟨(hzT g e).1, (hzT g e).2.2.2.2.2⟩)
    · have h1 := own_set (j := k * 5 + 3) (HQ.out w3 t3).2.2.2 z
      rw [tcl_set P k 3 hk z (t1', z) (by omega) (by rw [HPk.out, ht1']; rfl)] at h1
      rw [hw4]; exact h1
    · have h1 : w3.ownsRow base 43 3 z (t.cols.length + 1) (ccl (t.cols ++ [x])) := by rw [hz]; exact hown3
      rw [ht1']
      show w4.ownsRow base _ 3 z (t.cols ++ [x]).length _
      rw [List.length_append]
      exact own_tch h1 t4 (fun g e => (hzT g e).1)
    · refine own_tch (own_tch (H0.out.to.col i hi) t3 (fun g e e2 => ?_)) t4 (fun g e e2 => H0.out.to.sep i hi g e (by rw [e2]; rfl))
      exact H0.out.to.dis i k hi hk g hik e (by rw [HPk.out]; exact e2)
  have hown4 : w4.ownsRow base 43 3 (.slice co' (t.cols.length + 1) cc') (t.cols.length + 1) (ccl (t.cols ++ [x])) := own_tch hown3 t4 (fun g e => (hzT g (by rw [hz]; exact e)).1)
  have q6 := wrongColumns_any (t.cols ++ [x]) co' cc' w4 (own_sl hown4) (by rw [List.length_append]; exact own_cap hown4) (by simp; omega)
  rw [List.length_append, List.length_singleton] at q6
  obtain ⟨E, hEq⟩ : ∃ E, E = colsE (t.cols ++ [x]) := ⟨_, rfl⟩
  rw [← hEq] at q6
  have HEq : Hid (E = colsE (t.cols ++ [x])) := hEq
  have Hw4 : Hid (w3.setCell ⟨T, k * 5 + 3, none⟩ (.slice co' (t.cols.length + 1) cc') = w4) := by show _ = _; rw [hw4, hz]
  have f3 := hzf (k * 5 + 3)
  have HTO4 : Hid (TO w4 base (.slice (some ⟨T, 0, none⟩) (P.set k (t1', z)).length tc) (P.set k (t1', z))) := hTO4
  have hNT : N ≠ T ∧ N + 1 ≠ T ∧ d ≠ T := ⟨by omega, by omega, fun e => hTd e.symm⟩
  have HW4 : Hid (w4.heap[N]? = some (.cells #[.string nm, .string x.nm, .int .i64 x.k, .bool x.nl] 91 (0, 0)) ∧ w4.heap[N + 1]? = some (.cells #[.int .i64 0, .int .i64 0, .string ⟨#[]⟩, .slice none 0 0, .int .i64 0] 36 (0, 0)) ∧ w4.heap[d]? = some (.cells #[.slice (some ⟨T, 0, none⟩) P.length tc, .int .i64 gv] 55 (0, 0))) := by
    obtain ⟨a1, a2, a3, _⟩ := HQ.out w3 t3
    exact ⟨by rw [t4.block N (blk_lt a1) hNT.1]; exact a1, by rw [t4.block (N + 1) (blk_lt a2) hNT.2.1]; exact a2, by rw [t4.block d (blk_lt a3) hNT.2.2]; exact a3⟩
  have HT4 : Hid (Tch (fun i => base ≤ i) w w4) := by
    have h1 : Tch (fun i => base ≤ i) w w3 := (Ht0.out.mono (fun _ _ h => h.elim)).trans t3 (fun i hi e => (World.ownsRow.lt Hcol.out i e).1)
    exact h1.trans t4 (fun i hi e => by rw [e]; exact (World.ownsRow.lt H0.out.to.own T rfl).1)
  have Hz : Hid (z = .slice co' (t.cols.length + 1) cc') := hz
  have Ht1 : Hid (t1' = ⟨t.id, t.ver, t.nm, t.cols ++ [x], t.key⟩) := ht1'
  have HzT : Hid (∀ g, z.ownBlock = some g → g ≠ T ∧ g ≠ d ∧ base ≤ g ∧ g ≠ N ∧ g ≠ N + 1 ∧ ∀ i (hi : i < P.length), i ≠ k → P[i].2.ownBlock ≠ some g) := hzT
  have HdT : Hid (∀ g, (BL (.slice (some ⟨T, 0, none⟩) (P.set k (t1', z)).length tc) (P.set k (t1', z)) g) → g ≠ N + 1 ∧ g ≠ N ∧ g ≠ d) := fun g hg => by
    rcases hg with hg | ⟨i, hi, hg⟩
    · have : T = g := by simpa [Value.ownBlock] using hg
      omega
    · rw [List.length_set] at hi
      by_cases hik : i = k
      · subst hik
        simp only [List.getElem_set_self] at hg
        have h1 := hzT g hg
        exact ⟨h1.2.2.2.2.1, h1.2.2.2.1, h1.2.1⟩
      · simp only [List.getElem_set_ne (fun h => hik h.symm)] at hg
        have h1 := HcN.out i hi g hg
        exact ⟨by omega, by omega, fun e => H0.out.nb.2 i hi (e ▸ hg)⟩
  have hrs : Try.f47.results = #[.cell 4 36, .tmp 5] := by kernel_rfl
  have HErr : Hid (∀ W, Tch (fun _ => False) w4 W → ∀ e, e ≠ 0 → widE t x = e → ∀ W', W' = ((((W.setCell ⟨N + 1, 0, none⟩ (.int .i64 0)).setCell ⟨N + 1, 1, none⟩ (.int .i64 0)).setCell ⟨N + 1, 2, none⟩ (.string ⟨#[]⟩)).setCell ⟨N + 1, 3, none⟩ (.slice none 0 0)).setCell ⟨N + 1, 4, none⟩ (.int .i64 0) → (∀ tmps : Array Value, tmps[4]?.getD undef = .pointer (some ⟨N + 1, 0, none⟩) → tmps[5]?.getD undef = .int .i64 e → (results Try.f47 tmps).run Try.prog W' = .ok (.tuple #[zA, .int .i64 e]) W') ∧ OnOut base d (widE t x) (TX b RB (widT t x)) (L.set k (widT t x)) gv (.returned (.tuple #[zA, .int .i64 e])) W' ∧ Tch (fun i => base ≤ i) w W') := fun W tW e he0 he W' hW' => by
    have hY : W.heap[N + 1]? = some (.cells #[.int .i64 0, .int .i64 0, .string ⟨#[]⟩, .slice none 0 0, .int .i64 0] 36 (0, 0)) := by rw [tW.block _ (blk_lt HW4.out.2.1) (fun h => h)]; exact HW4.out.2.1
    have hD : W.heap[d]? = some (.cells #[.slice (some ⟨T, 0, none⟩) P.length tc, .int .i64 gv] 55 (0, 0)) := by rw [tW.block _ (blk_lt HW4.out.2.2) (fun h => h)]; exact HW4.out.2.2
    have tE : Tch (fun i => i = N + 1) W W' := by rw [hW']; exact ((((Tch.setCell (fun i => i = N + 1) W ⟨N + 1, 0, none⟩ _ rfl).setCellR ⟨N + 1, 1, none⟩ _ rfl).setCellR ⟨N + 1, 2, none⟩ _ rfl).setCellR ⟨N + 1, 3, none⟩ _ rfl).setCellR ⟨N + 1, 4, none⟩ _ rfl
    have hb : W'.heap[N + 1]? = some (.cells #[.int .i64 0, .int .i64 0, .string ⟨#[]⟩, .slice none 0 0, .int .i64 0] 36 (0, 0)) := by
      rw [hW', blk_set (blk_set (blk_set (blk_set (blk_set hY _) _) _) _) _]; rfl
    refine ⟨fun tmps h4 h5 => res_pair hrs h4 h5 (by rw [blk_cell hb]; rfl) (by rw [blk_cell hb]; rfl) (by rw [blk_cell hb]; rfl) (by rw [blk_cell hb]; rfl) (by rw [blk_cell hb]; rfl), ⟨fun e2 => absurd (he.symm.trans e2) he0, fun _ => ⟨by rw [he], ?_⟩⟩, (HT4.out.trans' (tW.mono (fun _ _ h => h.elim))).trans tE (fun i hi e => by have := HN.out; omega)⟩
    have h5 := own_tch (own_tch HTO4.out.own tW (fun _ _ h => h)) tE (fun g e => (HdT.out g (Or.inl e)).1)
    rw [List.length_set] at h5
    exact ⟨_, gv, P.length, _, by rw [tE.block d (blk_lt hD) (by omega)]; exact hD, H0.out.ge, h5, H0.out.nb.1, by omega⟩
  clear hTO4 hown4 hown3 hat3 hw4 hz ht1' hzT hzf t4 hEq
  go_wp2_with fail
  have hw4 := Hw4.out
  rw [hw4]
  clear hw4
  refine q6.mono ?_
  rintro y w5 ⟨rfl, t5⟩
  clear q6 x0 x1 x2 x3 x4 y0 y1 y2 y3 d0 f3
  have hY5 : w5.heap[N + 1]? = some (.cells #[.int .i64 0, .int .i64 0, .string ⟨#[]⟩, .slice none 0 0, .int .i64 0] 36 (0, 0)) := by rw [t5.block _ (blk_lt HW4.out.2.1) (fun h => h)]; exact HW4.out.2.1
  have hX5 : w5.heap[N]? = some (.cells #[.string nm, .string x.nm, .int .i64 x.k, .bool x.nl] 91 (0, 0)) := by rw [t5.block _ (blk_lt HW4.out.1) (fun h => h)]; exact HW4.out.1
  have hTO5 : TO w5 base (.slice (some ⟨T, 0, none⟩) (P.set k (t1', z)).length tc) (P.set k (t1', z)) := HTO4.out.tch t5 (fun _ _ _ h => h)
  have y3 : w5.cell? ⟨N, 3, none⟩ = some (.bool x.nl) := by rw [blk_cell hX5]; rfl
  have hkS : k < (P.set k (t1', z)).length := by rw [List.length_set]; exact hk
  have keyT : ∀ j u, j < 5 → (tcs (t1', z))[j]? = some u → w5.cell? ⟨T, k * 5 + j, none⟩ = some u := fun j u hj hu => by
    obtain ⟨g, e, _, ha⟩ := own_at hTO5.own (by omega)
    injection e with e; injection e with e; subst e
    have := ha (k * 5 + j) u (by rw [tcl_get _ k j hkS hj]; simpa using hu)
    rwa [Nat.zero_add] at this
  have x0 : w5.cell? ⟨T, k * 5, none⟩ = some (.int .i64 t.id) := by have := keyT 0 _ (by omega) rfl; rw [Ht1.out] at this; exact this
  have x1 : w5.cell? ⟨T, k * 5 + 1, none⟩ = some (.int .i64 t.ver) := by have := keyT 1 _ (by omega) rfl; rw [Ht1.out] at this; exact this
  have x2 : w5.cell? ⟨T, k * 5 + 2, none⟩ = some (.string t.nm) := by have := keyT 2 _ (by omega) rfl; rw [Ht1.out] at this; exact this
  have x3 : w5.cell? ⟨T, k * 5 + 3, none⟩ = some (.slice co' (t.cols.length + 1) cc') := by have := keyT 3 _ (by omega) rfl; rw [Hz.out] at this; exact this
  have x4 : w5.cell? ⟨T, k * 5 + 4, none⟩ = some (.int .i64 t.key) := by have := keyT 4 _ (by omega) rfl; rw [Ht1.out] at this; exact this
  obtain ⟨z0, z1, z2, z3, z4⟩ : w5.cell? ⟨N + 1, 0, none⟩ = some (.int .i64 0) ∧ w5.cell? ⟨N + 1, 1, none⟩ = some (.int .i64 0) ∧ w5.cell? ⟨N + 1, 2, none⟩ = some (.string ⟨#[]⟩) ∧ w5.cell? ⟨N + 1, 3, none⟩ = some (.slice none 0 0) ∧ w5.cell? ⟨N + 1, 4, none⟩ = some (.int .i64 0) := ⟨by rw [blk_cell hY5]; rfl, by rw [blk_cell hY5]; rfl, by rw [blk_cell hY5]; rfl, by rw [blk_cell hY5]; rfl, by rw [blk_cell hY5]; rfl⟩
  have g0 := blk_frozen hY5 0; have g1 := blk_frozen hY5 1; have g2 := blk_frozen hY5 2; have g3 := blk_frozen hY5 3; have g4 := blk_frozen hY5 4
  have fT : w5.frozen? ⟨T, k * 5 + 1, none⟩ = false := by
    rcases hTO5.own.2 with ⟨h1, _⟩ | ⟨g, cap, cur, hv, _, hg, _⟩
    · injection h1 with h1; cases h1
    · injection hv with e1; injection e1 with e1; injection e1 with e1; subst e1; exact blk_frozen hg _
  have HTO5 : Hid _ := hTO5
  have HY5 : Hid _ := hY5
  have Ht5 : Hid _ := t5
  clear keyT hTO5 hX5 hY5 hkS
  by_cases hE0 : E = 0
  · subst hE0
    by_cases hbad : x.nl = false ∨ t.ver = 2147483647
    · have HE1 : Hid (widE t x = 1) := by
        show _ = _
        unfold widE
        rw [← HEq.out, if_neg (by simp), if_pos hbad]
      have hcase : x.nl = false ∨ (x.nl = true ∧ (t.ver == 2147483647) = true) := by
        rcases hbad with h | h
        · exact Or.inl h
        · cases hx : x.nl
          · exact Or.inl rfl
          · exact Or.inr ⟨rfl, by simpa using h⟩
      clear hbad
      rcases hcase with hx | ⟨hx, hv⟩
      · rw [hx] at y3
        go_wp2_with fail
        refine bodyPost_ret ((HErr.out w5 Ht5.out 1 (by decide) HE1.out _ rfl).1 _ ?_ ?_) rfl (HErr.out w5 Ht5.out 1 (by decide) HE1.out _ rfl).2 <;> rfl
      · rw [hx] at y3
        go_wp2_with fail
        refine bodyPost_ret ((HErr.out w5 Ht5.out 1 (by decide) HE1.out _ rfl).1 _ ?_ ?_) rfl (HErr.out w5 Ht5.out 1 (by decide) HE1.out _ rfl).2 <;> rfl
    · have HE0 : Hid (widE t x = 0) := by
        show _ = _
        unfold widE
        rw [← HEq.out, if_neg (by simp), if_neg hbad]
      have hx : x.nl = true := by
        cases hx : x.nl
        · exact absurd (Or.inl hx) hbad
        · rfl
      have hv : (t.ver == 2147483647) = false := beq_eq_false_iff_ne.2 (fun h => hbad (Or.inr h))
      have hvI : t.ver ≤ 2147483646 := by have : t.ver ≠ 2147483647 := fun h => hbad (Or.inr h); omega
      have hv0 := hver.1
      rw [hx] at y3
      clear hbad hx
      have HFin : Hid (∀ W', W' = (((((w5.setCell ⟨T, k * 5 + 1, none⟩ (.int .i64 (t.ver + 1))).setCell ⟨N + 1, 0, none⟩ (.int .i64 t.id)).setCell ⟨N + 1, 1, none⟩ (.int .i64 (t.ver + 1))).setCell ⟨N + 1, 2, none⟩ (.string t.nm)).setCell ⟨N + 1, 3, none⟩ (.slice co' (t.cols.length + 1) cc')).setCell ⟨N + 1, 4, none⟩ (.int .i64 t.key) → (∀ tmps : Array Value, tmps[4]?.getD undef = .pointer (some ⟨N + 1, 0, none⟩) → tmps[5]?.getD undef = .int .i64 0 → (results Try.f47 tmps).run Try.prog W' = .ok (.tuple #[tA t.id (t.ver + 1) t.nm (.slice co' (t.cols.length + 1) cc') t.key, .int .i64 0]) W') ∧ OnOut base d (widE t x) (TX b RB (widT t x)) (L.set k (widT t x)) gv (.returned (.tuple #[tA t.id (t.ver + 1) t.nm (.slice co' (t.cols.length + 1) cc') t.key, .int .i64 0])) W' ∧ Tch (fun i => base ≤ i) w W') := fun W' hW' => by
        obtain ⟨w6, hw6⟩ : ∃ w6, w6 = w5.setCell ⟨T, k * 5 + 1, none⟩ (.int .i64 (t.ver + 1)) := ⟨_, rfl⟩
        rw [← hw6] at hW'
        have t6 : Tch (fun i => i = T) w5 w6 := by rw [hw6]; exact Tch.setCell _ _ _ _ rfl
        have hY6 : w6.heap[N + 1]? = some (.cells #[.int .i64 0, .int .i64 0, .string ⟨#[]⟩, .slice none 0 0, .int .i64 0] 36 (0, 0)) := by rw [t6.block _ (blk_lt HY5.out) hNT.2.1]; exact HY5.out
        have tE : Tch (fun i => i = N + 1) w6 W' := by rw [hW']; exact ((((Tch.setCell (fun i => i = N + 1) w6 ⟨N + 1, 0, none⟩ _ rfl).setCellR ⟨N + 1, 1, none⟩ _ rfl).setCellR ⟨N + 1, 2, none⟩ _ rfl).setCellR ⟨N + 1, 3, none⟩ _ rfl).setCellR ⟨N + 1, 4, none⟩ _ rfl
        have hb : W'.heap[N + 1]? = some (.cells #[.int .i64 t.id, .int .i64 (t.ver + 1), .string t.nm, .slice co' (t.cols.length + 1) cc', .int .i64 t.key] 36 (0, 0)) := by
          rw [hW', blk_set (blk_set (blk_set (blk_set (blk_set hY6 _) _) _) _) _]; rfl
        have hTO5 := HTO5.out
        have hkS : k < (P.set k (t1', z)).length := by rw [List.length_set]; exact hk
        have hPS : (P.set k (t1', z))[k] = (t1', z) := by simp
        have hset : (P.set k (t1', z)).set k (widT t x, z) = P.set k (widT t x, z) := by simp
        have hTO6 : TO w6 base (.slice (some ⟨T, 0, none⟩) (P.set k (widT t x, z)).length tc) (P.set k (widT t x, z)) := by
          have h1 := hTO5.turn (W' := w6) hkS (widT t x, z) ?_ ?_ (fun i hi hik => own_tch (hTO5.col i hi) t6 (fun g e e2 => hTO5.sep i hi g e (by rw [e2]; rfl))) (fun g e => ⟨(HzT.out g e).1, fun i hi hik => ?_⟩)
          · rw [hset] at h1; exact h1
          · have h1 := own_set (j := k * 5 + 1) hTO5.own (.int .i64 (t.ver + 1))
            rw [tcl_set _ k 1 hkS _ (widT t x, z) (by omega) (by rw [hPS, Ht1.out]; rfl)] at h1
            rw [hw6]; exact h1
          · have h1 := own_tch (hTO5.col k hkS) t6 (fun g e e2 => hTO5.sep k hkS g e (by rw [e2]; rfl))
            rw [hPS, Ht1.out] at h1
            exact h1
          · rw [List.length_set] at hi
            simp only [List.getElem_set_ne (fun h => hik h.symm)]
            exact (HzT.out g e).2.2.2.2.2 i hi hik
        have hNg : ∀ g, BL (.slice (some ⟨T, 0, none⟩) (P.set k (widT t x, z)).length tc) (P.set k (widT t x, z)) g → g ≠ N + 1 ∧ g ≠ d := fun g hg => by
          have h1 : BL (.slice (some ⟨T, 0, none⟩) (P.set k (t1', z)).length tc) (P.set k (t1', z)) g := by
            rcases hg with hg | ⟨i, hi, hg⟩
            · exact Or.inl hg
            · rw [List.length_set] at hi
              refine Or.inr ⟨i, by rw [List.length_set]; exact hi, ?_⟩
              by_cases hik : i = k
              · subst hik; simp only [List.getElem_set_self] at hg ⊢; exact hg
              · simp only [List.getElem_set_ne (fun h => hik h.symm)] at hg ⊢; exact hg
          exact ⟨(HdT.out g h1).1, (HdT.out g h1).2.2⟩
        have hTOW : TO W' base (.slice (some ⟨T, 0, none⟩) (P.set k (widT t x, z)).length tc) (P.set k (widT t x, z)) := ⟨own_tch hTO6.own tE (fun g e => (hNg g (Or.inl e)).1), fun i hi => own_tch (hTO6.col i hi) tE (fun g e => (hNg g (Or.inr ⟨i, hi, e⟩)).1), hTO6.sep, hTO6.dis⟩
        have hD : W'.heap[d]? = some (.cells #[.slice (some ⟨T, 0, none⟩) P.length tc, .int .i64 gv] 55 (0, 0)) := by
          have a3 := HW4.out.2.2
          have a5 : w5.heap[d]? = some (.cells #[.slice (some ⟨T, 0, none⟩) P.length tc, .int .i64 gv] 55 (0, 0)) := by rw [Ht5.out.block d (blk_lt a3) (fun h => h)]; exact a3
          have a6 : w6.heap[d]? = some (.cells #[.slice (some ⟨T, 0, none⟩) P.length tc, .int .i64 gv] 55 (0, 0)) := by rw [t6.block d (blk_lt a5) hNT.2.2]; exact a5
          rw [tE.block d (blk_lt a6) (by omega)]; exact a6
        refine ⟨fun tmps h4 h5 => res_pair hrs h4 h5 (by rw [blk_cell hb]; rfl) (by rw [blk_cell hb]; rfl) (by rw [blk_cell hb]; rfl) (by rw [blk_cell hb]; rfl) (by rw [blk_cell hb]; rfl), ⟨fun _ => ⟨_, P.set k (widT t x, z), .slice (some ⟨T, 0, none⟩) (P.set k (widT t x, z)).length tc, rfl, ⟨co', cc', ?_, ?_, ?_, ?_⟩, ⟨?_, H0.out.ge, ?_, hTOW, ?_, ?_⟩⟩, fun e => absurd HE0.out e⟩, ?_⟩
        · show tA t.id (t.ver + 1) t.nm (.slice co' (t.cols.length + 1) cc') t.key = tA t.id (t.ver + 1) t.nm (.slice co' (t.cols ++ [x]).length cc') t.key
          rw [List.length_append]; rfl
        · have h1 := hTOW.col k (by rw [List.length_set]; exact hk)
          simp only [List.getElem_set_self] at h1
          rw [Hz.out] at h1
          have h2 : W'.ownsRow base 43 3 (.slice co' (t.cols.length + 1) cc') (t.cols.length + 1) (ccl (t.cols ++ [x])) := by
            have h3 : (widT t x).cols.length = t.cols.length + 1 := by simp [widT]
            rw [h3] at h1; exact h1
          exact own_sl h2
        · intro e
          have h1 := hTOW.col k (by rw [List.length_set]; exact hk)
          simp only [List.getElem_set_self] at h1
          rw [Hz.out, e] at h1
          have h3 : (widT t x).cols.length = t.cols.length + 1 := by simp [widT]
          rw [h3] at h1
          have := (own_none h1).1
          omega
        · intro g o e _
          have h1 := (HzT.out g (by rw [Hz.out, e]; rfl)).2.2.1
          omega
        · rw [List.length_set]; exact hD
        · rw [List.map_set, H0.out.eq]
        · exact fun e => hTd (by simpa [Value.ownBlock] using e)
        · exact fun i hi e => (hNg d (Or.inr ⟨i, hi, e⟩)).2 rfl
        · exact ((HT4.out.trans' (Ht5.out.mono (fun _ _ h => h.elim))).trans t6 (fun i hi e => by rw [e]; exact (World.ownsRow.lt H0.out.to.own T rfl).1)).trans tE (fun i hi e => by have := HN.out; omega)
      go_wp2_with fail
      refine bodyPost_ret ((HFin.out _ rfl).1 _ ?_ ?_) rfl (HFin.out _ rfl).2 <;> rfl
  · have HE1 : Hid (widE t x = E) := by
      show _ = _
      unfold widE
      rw [← HEq.out, if_pos hE0]
    have HE0 : Hid (E ≠ 0) := hE0
    have hb4 : (E != 0) = true := by simpa using hE0
    clear hE0
    go_wp2_with fail
    refine bodyPost_ret ((HErr.out w5 Ht5.out E HE0.out HE1.out _ rfl).1 _ ?_ ?_) rfl (HErr.out w5 Ht5.out E HE0.out HE1.out _ rfl).2 <;> rfl
end Go.Proofs.Ytolamjipigfocaa
