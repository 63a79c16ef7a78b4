import Derived.Test.YtjambfbibeihiaaGreatRef12
import Derived.Test.YtjambfbibeihiaaGreatList
import Derived.Test.YtjambfbibeihiaaGreatKeeps
/- The document's disk: List; files by their place. -/
namespace Go.Proofs.YtjambfbibeihiaaGreat
set_option maxRecDepth 100000
open Go.RowKit Go.ChangeMaps Go.Sort

theorem info_str : (Tryz.prog.info? 9).map (fun i => (i.zero, i.size, i.bytes)) = some (some (.string ⟨#[]⟩), 1, 16) := by kernel_rfl
theorem cell_one_new (w : World) (a : Value) (t : TypeId) : ∀ j u, [a][j]? = some u → (w.alloc (.cells #[a] t)).cell? ((⟨w.heap.size, 0, none⟩ : Addr).add j) = some u := by
  intro j u hu
  have hb := box_one w (.cells #[a] t)
  match j, hu with
  | 0, hu => simp at hu; subst hu; rw [Addr.add_lit, blk_cell hb]; rfl
  | j + 1, hu => simp at hu

set_option maxHeartbeats 2000000 in
theorem rlist_any (rb : Nat) (d : Dsk) (v : Value) (acts : Int) (w : World) (h : RW w rb d v acts) (hl : (d.m.length + 1) * 40 ≤ 140737488355328) :
    Calls Tryz.prog 34 #[.pointer (some ⟨rb, 0, none⟩)] w fun x w' => ∃ v, x = .returned v ∧ w'.ownsRow w.heap.size 9 1 v d.m.length ((d.m.map (·.1)).map encStr) ∧ Tch (fun _ => False) w w' := by
  obtain ⟨ao, cp, rfl⟩ := rowN_of h.own
  obtain ⟨xs, hxs⟩ : ∃ xs, xs = (d.m.map (·.1)).map encStr := ⟨_, rfl⟩
  obtain ⟨n, hn⟩ : ∃ n, n = d.m.length := ⟨_, rfl⟩
  have hxl : xs.length = n := by rw [hxs, hn]; simp
  have HN : Hid (∀ W, Tch (fun _ => False) w W → W.cell? ⟨rb, 1, none⟩ = some (.slice ao n cp) ∧ ∀ i (hi : i < n), ∃ g s, ao = some ⟨g, 0, none⟩ ∧ W.cell? ⟨g, i * 3, none⟩ = some (.string s) ∧ xs[i]? = some (.string s)) := fun W t => by
    have hW := h.no t
    refine ⟨by rw [hn]; exact hW.c1, fun i hi => ?_⟩
    obtain ⟨g, e, h1, _⟩ := hW.row i (by omega)
    refine ⟨g, _, e, h1, ?_⟩
    refine (congrArg (fun l => l[i]?) hxs).trans ?_
    show (List.map encStr (List.map (fun x => x.fst) d.m))[i]? = _
    rw [List.getElem?_map, List.getElem?_map, List.getElem?_eq_getElem (by omega)]
    rfl
  obtain ⟨i0, hi0, hz0, hz1, hz2⟩ := info_parts info_str
  have HE : Hid (xs.take n = xs) := List.take_of_length_le (by omega)
  have HB : Hid (rb < w.heap.size) := h.lt
  rw [← hxs, ← hn]
  rw [← hn] at hl
  clear h hxs hn
  go_enter Tryz.func34, Tryz.ntmps34
  go_wp2_with fail
  go_loopw [3, 4] (fun l i wr => ∃ k : Nat, i = .int .i64 k ∧ k ≤ n ∧ wr.ownsRow w.heap.size 9 1 l k (xs.take k) ∧ Tch (fun _ => False) w wr) (fun _ i _ => n - (intOf i).toNat)
  case atStart => exact ⟨0, rfl, by omega, World.ownsRow_nil _ _ _ _, Tch.refl _ _⟩
  case round =>
    obtain ⟨k, rfl, hk, hown, hT⟩ := hrel
    obtain ⟨lo, lc, hlv⟩ := rowN_of hown
    subst hlv
    obtain ⟨c1, hrow⟩ := HN.out wr hT
    by_cases hlt : (k : Int) < n
    · obtain ⟨g, s, rfl, r0, r1⟩ := hrow k (by omega)
      have hn63 : (n : Int) ≤ 9223372036854775807 := by omega
      have hsz := hT.size
      have HK : Hid (xs.take k ++ [.string s] = xs.take (k + 1)) := by
        show _ = _
        obtain ⟨hk', e⟩ := List.getElem?_eq_some_iff.1 r1
        rw [List.take_succ_eq_append_getElem hk', e]
      clear hrow r1
      go_wp2_with (first
        | (at_builtin; refine wpList_append_own _ rfl (.tmp 14) (.tmp 23) 36 rfl w.heap.size 9 i0 (.string ⟨#[]⟩) 1 16 Tryz.underlying36 hi0 hz0 hz1 hz2 rfl (by decide) _ _ _ rfl (hown.alloc _) ⟨wr.heap.size, 0, none⟩ 1 1 [.string s] rfl rfl (cell_one_new _ _ _) (fun x hx => by simp at hx; rw [hx]; rfl) (by unfold maxLen; omega) (by omega) (by simp; omega) ?_; intro v2 w2 hown2 hgrow2 _
           have t2 : Tch (fun i => w.heap.size ≤ i) wr w2 := (Tch.alloc _ _ _).trans' (Tch.of_grown hgrow2 (fun g e => (hown.lt g e).1))
           have T2 : Tch (fun _ => False) w w2 := hT.trans t2 (fun i hi h => by omega)
           rw [HK.out] at hown2
           have HO2 : Hid _ := hown2
           clear hown2 hgrow2 t2 c1 r0 hown)
        | fail)
      go_roundw
      case rel => exact ⟨k + 1, by go_num, by omega, HO2.out, T2⟩
      case measure => simp [intOf]; omega
    · obtain rfl : n = k := by omega
      rw [HE.out] at hown
      go_wp2
      go_ret
      exact ⟨_, rfl, hown, hT⟩

theorem names_set (m : List (Nm × Fl)) {i : Nat} (hi : i < m.length) (a : Fl) : (m.set i (m[i].1, a)).map (·.1) = m.map (·.1) := by
  rw [List.map_set]
  apply List.ext_getElem?
  intro j
  rw [List.getElem?_set]
  split
  · rename_i e
    subst e
    simp [hi]
  · rfl
section
variable {w : World} {rb g cp : Nat} {d : Dsk} {acts : Int}
theorem RW.seti1 (h : RW w rb d (.slice (some ⟨g, 0, none⟩) d.m.length cp) acts) (i : Nat) (hi : i < d.m.length) (hne : g ≠ rb) (s : ByteArray) :
    RW (w.setCell ⟨g, i * 3 + 1, none⟩ (.string s)) rb { d with m := d.m.set i (d.m[i].1, ⟨s.data.toList, d.m[i].2.la⟩) } (.slice (some ⟨g, 0, none⟩) d.m.length cp) acts := by
  have h1 := (h.own.stored (i * 3 + 1) (.string s)).1
  have t := Tch.setCell (fun i => i = g) w ⟨g, i * 3 + 1, none⟩ (.string s) rfl
  refine ⟨(t.block rb h.lt (fun e => hne e.symm)).trans h.blk, ?_, up_names h.up (names_set _ hi _)⟩
  show World.ownsRow _ 0 _ 3 _ (List.set _ _ _).length (rcells (d.m.set i _))
  rw [rcells_set1 s d.m i hi] at h1
  rw [List.length_set]
  exact h1
theorem RW.seti2 (h : RW w rb d (.slice (some ⟨g, 0, none⟩) d.m.length cp) acts) (i : Nat) (hi : i < d.m.length) (hne : g ≠ rb) (la : Nat) :
    RW (w.setCell ⟨g, i * 3 + 2, none⟩ (.int .i64 la)) rb { d with m := d.m.set i (d.m[i].1, ⟨d.m[i].2.bs, la⟩) } (.slice (some ⟨g, 0, none⟩) d.m.length cp) acts := by
  have h1 := (h.own.stored (i * 3 + 2) (.int .i64 la)).1
  have t := Tch.setCell (fun i => i = g) w ⟨g, i * 3 + 2, none⟩ (.int .i64 la) rfl
  refine ⟨(t.block rb h.lt (fun e => hne e.symm)).trans h.blk, ?_, up_names h.up (names_set _ hi _)⟩
  show World.ownsRow _ 0 _ 3 _ (List.set _ _ _).length (rcells (d.m.set i _))
  rw [rcells_set2 la d.m i hi] at h1
  rw [List.length_set]
  exact h1
end

/-- The files, the first i of them torn. -/
def tornTo (k : Nm → Nat) (m : List (Nm × Fl)) (i : Nat) : List (Nm × Fl) := (m.take i).map (fun p => (p.1, keepF k p.1 p.2)) ++ m.drop i
theorem tornTo_zero (k : Nm → Nat) (m : List (Nm × Fl)) : tornTo k m 0 = m := by simp [tornTo]
theorem tornTo_all (k : Nm → Nat) (m : List (Nm × Fl)) : tornTo k m m.length = m.map fun p => (p.1, keepF k p.1 p.2) := by simp [tornTo]
theorem tornTo_len (k : Nm → Nat) (m : List (Nm × Fl)) (i : Nat) : (tornTo k m i).length = m.length := by
  simp only [tornTo, List.length_append, List.length_map, List.length_take, List.length_drop]; omega
theorem tornTo_at (k : Nm → Nat) (m : List (Nm × Fl)) (i : Nat) (h : i < m.length) : (tornTo k m i)[i]? = some m[i] := by
  unfold tornTo
  rw [List.getElem?_append_right (by simp; omega)]
  simp only [List.length_map, List.length_take, List.getElem?_drop]
  rw [show i + (i - min i m.length) = i by omega]
  exact List.getElem?_eq_getElem h
theorem tornTo_set (k : Nm → Nat) (m : List (Nm × Fl)) (i : Nat) (h : i < m.length) : (tornTo k m i).set i (m[i].1, keepF k m[i].1 m[i].2) = tornTo k m (i + 1) := by
  unfold tornTo
  rw [List.set_append_right _ _ (by simp; omega)]
  simp only [List.length_map, List.length_take]
  rw [show i - min i m.length = 0 by omega, List.drop_eq_getElem_cons h, List.set_cons_zero, List.take_succ_eq_append_getElem h, List.map_append, List.append_assoc]
  rfl
theorem hsK_kf (nm : Nat → ByteArray) (by' : Nat → Int) (x : Nm) : ∀ j, hsK nm j x = false → kfK nm by' j x = 0
  | 0, _ => rfl
  | j + 1, h => by
    rw [hsK] at h
    rw [kfK]
    split at h
    · cases h
    · rename_i e
      rw [if_neg e]; exact hsK_kf nm by' x j h
theorem KeepsBad.uniq {d : Dsk} {n : Nat} {nm : Nat → ByteArray} {by' : Nat → Int} {e e' : Int} (h : KeepsBad d n nm by' e) (h' : KeepsBad d n nm by' e') : e = e' := by
  obtain ⟨k, hk, hall, hb⟩ := h
  obtain ⟨k', hk', hall', hb'⟩ := h'
  have bad : ∀ j (e : Int), (okN (nm j).data.toList = false ∧ e = 20 ∨ okN (nm j).data.toList = true ∧ (getL (nm j).data.toList d.m = none ∧ e = 21 ∨ ∃ f, getL (nm j).data.toList d.m = some f ∧ (hsK nm j (nm j).data.toList = true ∨ by' j < 0 ∨ (f.bs.length : Int) - f.la < by' j) ∧ e = 26)) → ¬ KeepAt d nm by' j := by
    rintro j e hj ⟨k1, f, k2, k3, k4, k5⟩
    rcases hj with ⟨h1, _⟩ | ⟨_, ⟨h1, _⟩ | ⟨f', h1, h2, _⟩⟩
    · rw [k1] at h1; cases h1
    · rw [k2] at h1; cases h1
    · rw [k2] at h1
      cases h1
      rcases h2 with h2 | h2 | h2
      · rw [k3] at h2; cases h2
      · omega
      · omega
  obtain rfl : k = k' := by
    rcases Nat.lt_trichotomy k k' with h | h | h
    · exact absurd (hall' k h) (bad k _ hb)
    · exact h
    · exact absurd (hall k' h) (bad k' _ hb')
  rcases hb with ⟨h1, rfl⟩ | ⟨h1, ⟨h2, rfl⟩ | ⟨f, h2, _, rfl⟩⟩ <;> rcases hb' with ⟨h1', rfl⟩ | ⟨h1', ⟨h2', rfl⟩ | ⟨f', h2', _, rfl⟩⟩ <;> first
    | rfl
    | (rw [h2] at h2'; cases h2'; done)
    | (rw [h1] at h1'; cases h1'; done)
end Go.Proofs.YtjambfbibeihiaaGreat
