import Derived.Test.YtnjiiebjdpipjaaTDelK
import Derived.Deep.RegionLaw
import Derived.Lib.AppendZerosOnto
import Derived.Lib.Overlaps
import Derived.Shelf.RegionOpenPlain
/- slices.Insert of one at kids. -/
namespace Go.Proofs.Ytnjiiebjdpipjaa
open Go.RowKit Go

/-- What Insert gives. -/
def KInsOut (v : Value) (n i : Nat) (xs vs : List Value) (w : World) (x : Ending) (w' : World) : Prop := ∃ v', x = .returned v' ∧ w'.ownsRow 0 62 1 v' (n + 1) (xs.take (i * 1) ++ vs ++ xs.drop (i * 1)) ∧ (v'.ownBlock = v.ownBlock ∨ ∃ g, v'.ownBlock = some g ∧ w.heap.size ≤ g)
set_option maxHeartbeats 4000000 in
set_option maxRecDepth 100000 in
theorem Kinsert_end (v : Value) (n vb : Nat) (xs vs : List Value) (w : World) (ho : w.ownsRow 0 62 1 v n xs) (hv : w.heap[vb]? = some (.cells vs.toArray 62 (0, 0))) (hvl : vs.length = 1) (hn : n < 1000) (h1v : ∀ u ∈ vs, u.oneCell' = true) :
    Calls Try.prog 82 #[v, .int .i64 n, .slice (some ⟨vb, 0, none⟩) 1 1] w fun x w' => KInsOut v n n xs vs w x w' ∧ Tch (fun i => v.ownBlock = some i) w w' := by
  obtain ⟨i0, hi, hz0, hz1, hz2⟩ := info_parts info_kid
  have Hown : Hid (w.ownsRow 0 62 1 v n xs) := ho
  have hxl : xs.length = n * 1 := ho.1
  have Hvl : Hid (vs.length = 1 * 1) := by show _ = _; omega
  have Hcl : Hid (∀ j u, vs[j]? = some u → w.cell? ((⟨vb, 0, none⟩ : Addr).add j) = some u) := fun j u hu => by
    rw [add_plain]; exact blk_at hv j u (by simpa using hu)
  have H1 : Hid _ := h1v
  obtain ⟨ao, c, rfl⟩ := row_slice ho
  have hnc : n ≤ c := by
    rcases ho.2 with ⟨h2, h3⟩ | ⟨g, c', cur, h2, _, _, h3, _⟩
    · omega
    · injection h2 with h4 h5 h6; omega
  have Hx : Hid (xs.length = n * 1) := hxl
  clear ho hv hvl h1v hxl
  by_cases hcn : c = n
  · obtain rfl := hcn.symm
    go_enter Try.func82, Try.ntmps82
    go_wp2_with (at_builtin; refine wpList_append_keeps _ rfl _ _ 66 rfl 0 62 i0 (.pointer none) 1 8 Try.underlying66 hi hz0 hz1 hz2 rfl (by decide) (.slice ao n n) n xs rfl Hown.out ⟨vb, 0, none⟩ 1 1 vs rfl Hvl.out Hcl.out H1.out (by unfold maxLen; omega) (by omega) (Nat.zero_le _) ?_; intro v1 w1 hown1 hgr1 hat1 _; have HF : Hid (KInsOut (.slice ao n n) n n xs vs w (.returned v1) w1) := ⟨v1, rfl, by rw [List.take_of_length_le (by rw [Hx.out]; exact Nat.le_refl _), List.drop_eq_nil_of_le (by rw [Hx.out]; exact Nat.le_refl _), List.append_nil]; exact hown1, hat1.imp id (fun e => ⟨_, e, Nat.le_refl _⟩)⟩; have HT : Hid (Tch (fun i => (Value.slice ao n n).ownBlock = some i) w w1) := Tch.of_grown hgr1 (fun g e => e); obtain ⟨o1, c1, hv1⟩ := row_slice hown1; subst hv1; clear hown1 hgr1 hat1)
    go_ret
    exact ⟨HF.out, HT.out⟩
  · skip
    go_enter Try.func82, Try.ntmps82
    go_wp2_with (at_builtin; refine wpList_append_keeps _ rfl _ _ 66 rfl 0 62 i0 (.pointer none) 1 8 Try.underlying66 hi hz0 hz1 hz2 rfl (by decide) (.slice ao n c) n xs rfl Hown.out ⟨vb, 0, none⟩ 1 1 vs rfl Hvl.out Hcl.out H1.out (by unfold maxLen; omega) (by omega) (Nat.zero_le _) ?_; intro v1 w1 hown1 hgr1 hat1 _; have HF : Hid (KInsOut (.slice ao n c) n n xs vs w (.returned v1) w1) := ⟨v1, rfl, by rw [List.take_of_length_le (by rw [Hx.out]; exact Nat.le_refl _), List.drop_eq_nil_of_le (by rw [Hx.out]; exact Nat.le_refl _), List.append_nil]; exact hown1, hat1.imp id (fun e => ⟨_, e, Nat.le_refl _⟩)⟩; have HT : Hid (Tch (fun i => (Value.slice ao n c).ownBlock = some i) w w1) := Tch.of_grown hgr1 (fun g e => e); obtain ⟨o1, c1, hv1⟩ := row_slice hown1; subst hv1; clear hown1 hgr1 hat1)
    go_ret
    exact ⟨HF.out, HT.out⟩

theorem Kparts (l xs vs : List Value) (n i : Nat) (hl : l.take (n * 1) = xs) (hvl : vs.length = 1) (hi : i ≤ n) (hn : (n + 1) * 1 ≤ l.length) :
    ((((l.take ((i + 1) * 1) ++ xs.drop (i * 1) ++ l.drop ((i + 1) * 1 + (n - i) * 1))).take (i * 1) ++ vs ++ (l.take ((i + 1) * 1) ++ xs.drop (i * 1) ++ l.drop ((i + 1) * 1 + (n - i) * 1)).drop (i * 1 + 1))).take ((n + 1) * 1) = xs.take (i * 1) ++ vs ++ xs.drop (i * 1) := by
  have hxl : xs.length = n * 1 := by rw [← hl, List.length_take]; omega
  have e0 : (i + 1) * 1 = i * 1 + 1 := by omega
  have e1 : (l.take ((i + 1) * 1) ++ xs.drop (i * 1) ++ l.drop ((i + 1) * 1 + (n - i) * 1)).take (i * 1) = xs.take (i * 1) := by
    rw [List.append_assoc, List.take_append_of_le_length (by rw [List.length_take]; omega), List.take_take, Nat.min_eq_left (by omega), ← hl, List.take_take, Nat.min_eq_left (by omega)]
  have e2 : (l.take ((i + 1) * 1) ++ xs.drop (i * 1) ++ l.drop ((i + 1) * 1 + (n - i) * 1)).drop (i * 1 + 1) = xs.drop (i * 1) ++ l.drop ((i + 1) * 1 + (n - i) * 1) := by
    rw [List.append_assoc, List.drop_append_of_le_length (by rw [List.length_take]; omega), List.drop_eq_nil_of_le (by rw [List.length_take]; omega), List.nil_append]
  rw [e1, e2, ← List.append_assoc]
  have e3 : (xs.take (i * 1) ++ vs ++ xs.drop (i * 1)).length = (n + 1) * 1 := by simp only [List.length_append, List.length_take, List.length_drop]; omega
  rw [← e3]
  exact List.take_left

set_option maxHeartbeats 4000000 in
set_option maxRecDepth 100000 in
theorem Kinsert_room (g c n i vb : Nat) (cur : Array Value) (xs vs : List Value) (w : World) (hg : w.heap[g]? = some (.cells cur 62 (0, 0))) (hc : c ≤ maxLen) (hcs : cur.size = c * 1) (hx : cur.toList.take (n * 1) = xs) (hv : w.heap[vb]? = some (.cells vs.toArray 62 (0, 0))) (hvl : vs.length = 1) (hvg : vb ≠ g) (hin : i < n) (hroom : n + 1 ≤ c) (hn : n < 1000) (h1 : ∀ u ∈ xs, u.oneCell' = true) (h1v : ∀ u ∈ vs, u.oneCell' = true) :
    Calls Try.prog 82 #[.slice (some ⟨g, 0, none⟩) n c, .int .i64 i, .slice (some ⟨vb, 0, none⟩) 1 1] w fun x w' => KInsOut (.slice (some ⟨g, 0, none⟩) n c) n i xs vs w x w' ∧ Tch (fun i => (Value.slice (some ⟨g, 0, none⟩) n c).ownBlock = some i) w w' := by
  have hcM : c ≤ 9223372036854775807 := by unfold maxLen at hc; omega
  have hxl : xs.length = n * 1 := by rw [← hx, List.length_take, Array.length_toList]; omega
  have hsz : ∀ W, (Go.sizeOf 62).run Try.prog W = .ok 1 W := fun W => by
    obtain ⟨i0, hi, hz0, hz1, hz2⟩ := info_parts info_kid
    simp [sizeOf, typeInfo, hi, hz1]
  have hov : ∀ lb cb, (callFunc 97 #[.slice (some ⟨vb, 0, none⟩) 1 1, .slice (some ⟨g, (i + 1), none⟩) lb cb]).run Try.prog w = .ok (.value (.bool false)) w := fun lb cb => by
    rw [run_callFunc_extern Try.func97 (by kernel_rfl) (by kernel_rfl) (by kernel_rfl) (e := Extern.SlicesOverlaps.overlaps #[66, 66] #[4]) (by kernel_rfl),
      Lib.run_overlaps_apart w 66 4 62 Try.underlying66 1 hsz ⟨vb, 0, none⟩ ⟨g, (i + 1), none⟩ 1 1 lb cb hvg 62 62 vs.toArray.size cur.size (by simp [World.shape?, hv]) (by simp [World.shape?, hg]) (by omega) (blk_frozen hv _) (blk_frozen hv _)]
    rfl
  obtain ⟨news, hnews⟩ : ∃ news, news = xs.drop (i * 1) := ⟨_, rfl⟩
  have hnl : news.length = (n - i) * 1 := by rw [hnews, List.length_drop, hxl]; omega
  obtain ⟨cur1, hcur1⟩ : ∃ cur1 : Array Value, cur1 = (cur.toList.take ((i + 1) * 1) ++ news ++ cur.toList.drop ((i + 1) * 1 + news.length)).toArray := ⟨_, rfl⟩
  obtain ⟨W1, hW1⟩ : ∃ W1, W1 = w.drew.setRow g cur1 := ⟨_, rfl⟩
  have hgd : w.drew.heap[g]? = some (.cells cur 62 (0, 0)) := hg
  have hcp1 : ∀ ty, (Builtin.copy_ #[66, 66] ty #[.slice (some ⟨g, (i + 1), none⟩) (n + 1 - (i + 1)) (c - (i + 1)), .slice (some ⟨g, (i), none⟩) (n + 1 - i) (c - i)]).run Try.prog w.drew = .ok (goInt (Nat.min (n + 1 - i) (n + 1 - (i + 1)))) W1 := fun ty => by
    rw [hW1, hcur1]
    simp only [Nat.mul_one]
    exact run_copy_any w.drew _ _ ty 62 1 g ((i + 1)) _ _ ⟨g, (i), none⟩ _ _ cur 62 news Try.underlying66 info_kid1 hgd (by rw [hnl]; simp only [Nat.min_def]; split <;> omega)
      (fun j u hj => by
        have hjl := (List.getElem?_eq_some_iff.1 hj).1
        rw [add_plain]
        show w.cell? _ = _
        rw [blk_cell hg, ← hj, hnews, List.getElem?_drop, ← hx, List.getElem?_take, if_pos (by omega), Array.getElem?_toList]; simp)
      (by omega) (fun u hu => h1 u (by rw [hnews] at hu; exact List.mem_of_mem_drop hu))
  have hg1 : W1.heap[g]? = some (.cells cur1 62 (0, 0)) := by rw [hW1]; exact setRow_blk hgd
  have t1 : Tch (fun i => i = g) w W1 := by rw [hW1]; exact ((Tch.refl _ w).drew).trans' (setRow_tch w.drew g cur1)
  have hs1 : cur1.size = c * 1 := by
    rw [hcur1]
    simp only [List.size_toArray, List.length_append, List.length_take, List.length_drop, Array.length_toList]
    omega
  have hv1 : W1.heap[vb]? = some (.cells vs.toArray 62 (0, 0)) := by rw [t1.block vb (blk_lt hv) hvg]; exact hv
  obtain ⟨cur2, hcur2⟩ : ∃ cur2 : Array Value, cur2 = (cur1.toList.take (i * 1) ++ vs ++ cur1.toList.drop (i * 1 + vs.length)).toArray := ⟨_, rfl⟩
  obtain ⟨W2, hW2⟩ : ∃ W2, W2 = W1.setRow g cur2 := ⟨_, rfl⟩
  have hcp2 : ∀ ty, (Builtin.copy_ #[66, 66] ty #[.slice (some ⟨g, (i), none⟩) (n + 1 - i) (c - i), .slice (some ⟨vb, 0, none⟩) 1 1]).run Try.prog W1 = .ok (goInt (Nat.min 1 (n + 1 - i))) W2 := fun ty => by
    rw [hW2, hcur2]
    simp only [Nat.mul_one]
    exact run_copy_any W1 _ _ ty 62 1 g ((i)) _ _ ⟨vb, 0, none⟩ _ _ cur1 62 vs Try.underlying66 info_kid1 hg1 (by rw [hvl]; simp only [Nat.min_def]; split <;> omega)
      (fun j u hj => by rw [add_plain]; exact blk_at hv1 j u (by simpa using hj)) (by omega) h1v
  have hg2 : W2.heap[g]? = some (.cells cur2 62 (0, 0)) := by rw [hW2]; exact setRow_blk hg1
  have HT : Hid (Tch (fun i => (Value.slice (some ⟨g, 0, none⟩) n c).ownBlock = some i) w W2) := by
    have := t1.trans' (show Tch (fun i => i = g) W1 W2 by rw [hW2]; exact setRow_tch W1 g cur2)
    exact this.mono (fun i _ h => by rw [h]; rfl)
  have HF : Hid (KInsOut (.slice (some ⟨g, 0, none⟩) n c) n i xs vs w (.returned (.slice (some ⟨g, 0, none⟩) (n + 1) c)) W2) := by
    have e : cur2.toList.take ((n + 1) * 1) = xs.take (i * 1) ++ vs ++ xs.drop (i * 1) := by
      rw [hcur2, hcur1, hnl, hvl]
      simp only []
      rw [hnews]
      exact Kparts cur.toList xs vs n i hx hvl (by omega) (by rw [Array.length_toList]; omega)
    have hs2 : cur2.size = c * 1 := by
      rw [hcur2]
      simp only [List.size_toArray, List.length_append, List.length_take, List.length_drop, Array.length_toList]
      omega
    refine ⟨_, rfl, ⟨?_, Or.inr ⟨g, c, cur2, rfl, Nat.zero_le _, hg2, by omega, hc, hs2, e⟩⟩, Or.inl rfl⟩
    simp only [List.length_append, List.length_take, List.length_drop]
    omega
  clear hcur1 hW1 hgd hg1 t1 hs1 hv1 hcur2 hW2 hg2 hg hcs hx hv hvl h1 h1v hxl hnews hnl hsz
  have hw1 : IntKind.i64.wrap ((i : Int) + 1) = (i : Int) + 1 := by rw [IntKind.wrap_i64]; omega
  have hb1 : (0 : Int) ≤ (i : Int) + 1 := by omega
  have htn : ((i : Int) + 1).toNat = i + 1 := by omega
  have hz2 : ¬ ((i : Int) = (n : Int)) := by omega
  have hb2 : ¬ (c = i + 1) := by omega
  have hb3 : (i : Int) ≤ (n : Int) + 1 := by omega
  have hb4 : ¬ (c = i) := by omega
  have hii : i ≤ n := by omega
  go_enter Try.func82, Try.ntmps82
  go_wp2_with (simp only [hov])
  rename_i hKn
  go_region_law (refine step_copy_run rfl _ _ 66 66 rfl _ _ (by simp [Act.eval, Act.put]) (by simp [Act.eval, Act.put]) (hcp1 _) ?_)
  go_simp
  refine hKn _ _ ?_
  clear hKn
  go_wp2_with (at_builtin; refine wpList_copy_run _ rfl _ _ 66 66 rfl _ _ rfl rfl (hcp2 _) ?_)
  go_ret
  exact ⟨HF.out, HT.out⟩
end Go.Proofs.Ytnjiiebjdpipjaa
/- slices.Insert of one at kids, where there is no room; in all cases. -/
namespace Go.Proofs.Ytnjiiebjdpipjaa
open Go.RowKit Go

theorem Kparts2 (l xs vs news : List Value) (n i : Nat) (hl : l.take (i * 1) = xs.take (i * 1)) (hvl : vs.length = 1) (hi : i ≤ n) (hxl : xs.length = n * 1) (hnews : news = xs.drop (i * 1)) (hn : (n + 1) * 1 ≤ l.length) :
    ((l.take (i * 1) ++ vs ++ l.drop (i * 1 + vs.length)).take ((i + 1) * 1) ++ news ++ (l.take (i * 1) ++ vs ++ l.drop (i * 1 + vs.length)).drop ((i + 1) * 1 + news.length)).take ((n + 1) * 1) = xs.take (i * 1) ++ vs ++ xs.drop (i * 1) := by
  have e1 : (l.take (i * 1) ++ vs ++ l.drop (i * 1 + vs.length)).take ((i + 1) * 1) = xs.take (i * 1) ++ vs := by
    have hlen : (l.take (i * 1) ++ vs).length = (i + 1) * 1 := by rw [List.length_append, List.length_take]; omega
    rw [← hlen, List.take_left, hl]
  rw [e1, ← hnews]
  have e3 : (xs.take (i * 1) ++ vs ++ news).length = (n + 1) * 1 := by rw [hnews]; simp only [List.length_append, List.length_take, List.length_drop]; omega
  rw [← e3]
  exact List.take_left

set_option maxHeartbeats 4000000 in
set_option maxRecDepth 100000 in
theorem Kinsert_grow (g n i vb : Nat) (cur : Array Value) (xs vs : List Value) (w : World) (hg : w.heap[g]? = some (.cells cur 62 (0, 0))) (hcs : cur.size = n * 1) (hx : cur.toList.take (n * 1) = xs) (hv : w.heap[vb]? = some (.cells vs.toArray 62 (0, 0))) (hvl : vs.length = 1) (hin : i < n) (hn : n < 1000) (h1 : ∀ u ∈ xs, u.oneCell' = true) (h1v : ∀ u ∈ vs, u.oneCell' = true) :
    Calls Try.prog 82 #[.slice (some ⟨g, 0, none⟩) n n, .int .i64 i, .slice (some ⟨vb, 0, none⟩) 1 1] w fun x w' => KInsOut (.slice (some ⟨g, 0, none⟩) n n) n i xs vs w x w' ∧ Tch (fun i => (Value.slice (some ⟨g, 0, none⟩) n n).ownBlock = some i) w w' := by
  obtain ⟨i0, hi0, hz0, hz1, hz2⟩ := info_parts info_kid
  have hxl : xs.length = n * 1 := by rw [← hx, List.length_take, Array.length_toList]; omega
  have hxc : ∀ j u, xs[j]? = some u → w.cell? ⟨g, j, none⟩ = some u := fun j u hu => by
    have hj := (List.getElem?_eq_some_iff.1 hu).1
    rw [blk_cell hg, ← hu, ← hx, List.getElem?_take, if_pos (by omega), Array.getElem?_toList]
  obtain ⟨N, hN⟩ : ∃ N, N = w.heap.size := ⟨_, rfl⟩
  have hold : (Builtin.firstCells i0.size i (.slice (some ⟨g, 0, none⟩) i n)).run Try.prog w.drew = .ok (xs.take (i * 1)).toArray w.drew := by
    rw [hz1]
    exact run_firstCells_some w.drew 1 i ⟨g, 0, none⟩ i n (xs.take (i * 1)) (by rw [List.length_take]; omega) (fun j v hj => by
      rw [add_plain, Nat.zero_add]
      rw [List.getElem?_take] at hj
      split at hj
      · exact hxc j v hj
      · cases hj)
  obtain ⟨G, hG⟩ : ∃ G, G = grownCap w (n + 1) n 62 := ⟨_, rfl⟩
  obtain ⟨ROW, hROW⟩ : ∃ ROW : Array Value, ROW = (xs.take (i * 1)).toArray ++ Builtin.zeroCells (Value.pointer none).cells (n + 1 - i) ++ Builtin.zeroCells (Value.pointer none).cells (G - (n + 1)) := ⟨_, rfl⟩
  obtain ⟨W1, hW1⟩ : ∃ W1, W1 = w.drew.alloc (.cells ROW 62) := ⟨_, rfl⟩
  have hik : i + (n + 1 - i) = n + 1 := by omega
  have hkk : (n : Int) + 1 - (i : Int) = ((n + 1 - i : Nat) : Int) := by omega
  have hrz : ∀ ty, (Builtin.append_ #[66, 3] ty #[.slice (some ⟨g, 0, none⟩) i n, .int .i64 ((n : Int) + 1 - (i : Int))]).run Try.prog w = .ok (.slice (some ⟨N, 0, none⟩) (n + 1) G) W1 := fun ty => by
    have h := Lib.run_append_grow_zeros (P := Try.prog) w 66 3 ty 62 i0 _ .i64 .i64 Try.underlying66 Try.underlying3 hi0 hz0 (some ⟨g, 0, none⟩) i n (xs.take (i * 1)) hold (n + 1 - i) (by omega) (by omega) (by omega) (by omega) (by rw [hz2]; omega) (by rw [hz2, hik]; exact growslice_fits (by omega) (by omega))
    rw [hik] at h
    rw [hkk, hN, hW1, hROW, hG]
    exact h
  have hGn : n + 1 ≤ G := by rw [hG]; exact grownCap_ge w _ _ _
  have hGm : G ≤ maxLen := by rw [hG]; exact grownCap_le_maxLen w (n + 1) n _ (by unfold maxLen; omega)
  have hG63 : G ≤ 9223372036854775807 := by unfold maxLen at hGm; omega
  have hRs : ROW.size = G * 1 := by
    rw [hROW]
    simp [Builtin.zeroCells, Value.cells]
    omega
  have hRt : ROW.toList.take (i * 1) = xs.take (i * 1) := by
    rw [hROW]
    simp only [Array.toList_append]
    rw [List.append_assoc, List.take_append_of_le_length (by rw [List.length_take]; omega)]
    exact List.take_of_length_le (by rw [List.length_take]; omega)
  have hg1 : W1.heap[N]? = some (.cells ROW 62 (0, 0)) := by rw [hW1, hN]; exact alloc_new w.drew _
  have t1 : Tch (fun _ => False) w W1 := by rw [hW1]; exact (Tch.refl _ w).drew.allocR _
  have hv1 : W1.heap[vb]? = some (.cells vs.toArray 62 (0, 0)) := by rw [t1.block vb (blk_lt hv) (fun h => h)]; exact hv
  obtain ⟨cur2, hcur2⟩ : ∃ cur2 : Array Value, cur2 = (ROW.toList.take (i * 1) ++ vs ++ ROW.toList.drop (i * 1 + vs.length)).toArray := ⟨_, rfl⟩
  obtain ⟨W2, hW2⟩ : ∃ W2, W2 = W1.setRow N cur2 := ⟨_, rfl⟩
  have hcp2 : ∀ ty, (Builtin.copy_ #[66, 66] ty #[.slice (some ⟨N, (i), none⟩) (n + 1 - i) (G - i), .slice (some ⟨vb, 0, none⟩) 1 1]).run Try.prog W1 = .ok (goInt (Nat.min 1 (n + 1 - i))) W2 := fun ty => by
    rw [hW2, hcur2]
    simp only [Nat.mul_one]
    exact run_copy_any W1 _ _ ty 62 1 N ((i)) _ _ ⟨vb, 0, none⟩ _ _ ROW 62 vs Try.underlying66 info_kid1 hg1 (by rw [hvl]; simp only [Nat.min_def]; split <;> omega)
      (fun j u hj => by rw [add_plain]; exact blk_at hv1 j u (by simpa using hj)) (by omega) h1v
  have hg2 : W2.heap[N]? = some (.cells cur2 62 (0, 0)) := by rw [hW2]; exact setRow_blk hg1
  have hs2 : cur2.size = G * 1 := by
    rw [hcur2]
    simp only [List.size_toArray, List.length_append, List.length_take, List.length_drop, Array.length_toList]
    omega
  have t2 : Tch (fun i => i = N) W1 W2 := by rw [hW2]; exact setRow_tch W1 N cur2
  have hgN : g ≠ N := by have := blk_lt hg; omega
  have hxc2 : ∀ j u, xs[j]? = some u → W2.cell? ⟨g, j, none⟩ = some u := fun j u hu => by
    have h0 := hxc j u hu
    rw [t2.cell (p := ⟨g, j, none⟩) (Nat.lt_of_lt_of_le (blk_lt hg) t1.size) hgN, t1.cell (p := ⟨g, j, none⟩) (blk_lt hg) (fun h => h)]
    exact h0
  obtain ⟨news, hnews⟩ : ∃ news, news = xs.drop (i * 1) := ⟨_, rfl⟩
  have hnl : news.length = (n - i) * 1 := by rw [hnews, List.length_drop, hxl]; omega
  obtain ⟨cur3, hcur3⟩ : ∃ cur3 : Array Value, cur3 = (cur2.toList.take ((i + 1) * 1) ++ news ++ cur2.toList.drop ((i + 1) * 1 + news.length)).toArray := ⟨_, rfl⟩
  obtain ⟨W3, hW3⟩ : ∃ W3, W3 = W2.drew.setRow N cur3 := ⟨_, rfl⟩
  have hcp3 : ∀ ty, (Builtin.copy_ #[66, 66] ty #[.slice (some ⟨N, (i + 1), none⟩) (n + 1 - (i + 1)) (G - (i + 1)), .slice (some ⟨g, (i), none⟩) (n - i) (n - i)]).run Try.prog W2.drew = .ok (goInt (Nat.min (n - i) (n + 1 - (i + 1)))) W3 := fun ty => by
    rw [hW3, hcur3]
    simp only [Nat.mul_one]
    exact run_copy_any W2.drew _ _ ty 62 1 N ((i + 1)) _ _ ⟨g, (i), none⟩ _ _ cur2 62 news Try.underlying66 info_kid1 hg2 (by rw [hnl]; simp only [Nat.min_def]; split <;> omega)
      (fun j u hj => by
        rw [add_plain]
        show W2.cell? _ = _
        rw [hnews, List.getElem?_drop] at hj
        rw [Nat.mul_one] at hj; exact hxc2 _ u hj)
      (by omega) (fun u hu => h1 u (by rw [hnews] at hu; exact List.mem_of_mem_drop hu))
  have hg3 : W3.heap[N]? = some (.cells cur3 62 (0, 0)) := by rw [hW3]; exact setRow_blk (w := W2.drew) hg2
  have HT : Hid (Tch (fun i => (Value.slice (some ⟨g, 0, none⟩) n n).ownBlock = some i) w W3) := by
    have h3 : Tch (fun i => i = N) W2 W3 := by rw [hW3]; exact ((Tch.refl _ W2).drew).trans' (setRow_tch W2.drew N cur3)
    have := t1.trans (t2.trans' h3) (fun i hi h => by omega)
    exact this.mono (fun i _ h => h.elim)
  have HF : Hid (KInsOut (.slice (some ⟨g, 0, none⟩) n n) n i xs vs w (.returned (.slice (some ⟨N, 0, none⟩) (n + 1) G)) W3) := by
    have e : cur3.toList.take ((n + 1) * 1) = xs.take (i * 1) ++ vs ++ xs.drop (i * 1) := by
      rw [hcur3, hcur2]
      simp only []
      exact Kparts2 ROW.toList xs vs news n i hRt hvl (by omega) hxl hnews (by rw [Array.length_toList]; omega)
    have hs3 : cur3.size = G * 1 := by
      rw [hcur3]
      simp only [List.size_toArray, List.length_append, List.length_take, List.length_drop, Array.length_toList]
      omega
    refine ⟨_, rfl, ⟨?_, Or.inr ⟨N, G, cur3, rfl, Nat.zero_le _, hg3, by omega, hGm, hs3, e⟩⟩, Or.inr ⟨N, rfl, by omega⟩⟩
    simp only [List.length_append, List.length_take, List.length_drop]
    omega
  clear hROW hW1 hold hg1 t1 hv1 hcur2 hW2 hg2 hs2 t2 hxc2 hxc hnews hnl hcur3 hW3 hg3 hRs hRt hg hcs hx hv hvl h1 h1v hxl hN hG hkk hik hz0 hz1 hz2 hi0 hGm
  have hw1 : IntKind.i64.wrap ((i : Int) + 1) = (i : Int) + 1 := by rw [IntKind.wrap_i64]; omega
  have hb1 : (0 : Int) ≤ (i : Int) + 1 := by omega
  have htn : ((i : Int) + 1).toNat = i + 1 := by omega
  have hz2 : ¬ ((i : Int) = (n : Int)) := by omega
  have hb2 : ¬ (G = i + 1) := by omega
  have hb5 : ¬ (G = i) := by omega
  have hb3 : (i : Int) ≤ (n : Int) := by omega
  have hb4 : ¬ (n = i) := by omega
  have hii : i ≤ n := by omega
  go_enter Try.func82, Try.ntmps82
  go_wp2_with (first
    | (at_builtin; refine Lib.wpList_append_run _ rfl _ _ _ _ rfl _ _ rfl rfl _ _ (hrz _) ?_)
    | (at_builtin; refine wpList_copy_run _ rfl _ _ 66 66 rfl _ _ rfl rfl (hcp2 _) ?_))
  rename_i hKn
  go_region_law (refine step_copy_run rfl _ _ 66 66 rfl _ _ (by simp [Act.eval, Act.put]) (by simp [Act.eval, Act.put]) (hcp3 _) ?_)
  go_simp
  refine hKn _ _ ?_
  clear hKn
  go_wp2_with fail
  go_ret
  exact ⟨HF.out, HT.out⟩
theorem Kinsert_any (v : Value) (n i vb : Nat) (xs vs : List Value) (w : World) (ho : w.ownsRow 0 62 1 v n xs) (hv : w.heap[vb]? = some (.cells vs.toArray 62 (0, 0))) (hvl : vs.length = 1) (hvg : v.ownBlock ≠ some vb) (hin : i ≤ n) (hn : n < 1000) (h1 : ∀ u ∈ xs, u.oneCell' = true) (h1v : ∀ u ∈ vs, u.oneCell' = true) :
    Calls Try.prog 82 #[v, .int .i64 i, .slice (some ⟨vb, 0, none⟩) 1 1] w fun x w' => KInsOut v n i xs vs w x w' ∧ Tch (fun i => v.ownBlock = some i) w w' := by
  rcases Nat.lt_or_ge i n with h | h
  · obtain ⟨g, c, cur, rfl, _, hg, hnc, hcm, hcs, hx⟩ := own_open ho (by omega)
    have hvg' : vb ≠ g := fun e => hvg (by rw [e]; rfl)
    rcases Nat.lt_or_ge n c with h2 | h2
    · exact Kinsert_room g c n i vb cur xs vs w hg hcm hcs hx hv hvl hvg' h (by omega) hn h1 h1v
    · obtain rfl : c = n := by omega
      exact Kinsert_grow g c i vb cur xs vs w hg hcs hx hv hvl h hn h1 h1v
  · obtain rfl : i = n := by omega
    exact Kinsert_end v i vb xs vs w ho hv hvl hn h1v
end Go.Proofs.Ytnjiiebjdpipjaa
