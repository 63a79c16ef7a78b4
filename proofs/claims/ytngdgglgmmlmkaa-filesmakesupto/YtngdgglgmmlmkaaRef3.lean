/- The document's disk: put. -/
import Derived.Test.YtngdgglgmmlmkaaRef2
import Derived.Laws.AppendOwnNone
namespace Go.Proofs.Ytngdgglgmmlmkaa
open Go.RowKit Go.ChangeMaps Go.Sort

theorem info_rfile : (Try.prog.info? 97).map (fun i => (i.zero, i.size, i.bytes)) = some (some (.agg #[.string ⟨#[]⟩, .string ⟨#[]⟩, .int .i64 0]), 3, 40) := by kernel_rfl
theorem cell_three_new (w : World) (a b c : Value) (t : TypeId) : ∀ j u, [a, b, c][j]? = some u → (w.alloc (.cells #[a, b, c] t)).cell? ((⟨w.heap.size, 0, none⟩ : Addr).add j) = some u := by
  intro j u hu
  have hb := box_one w (.cells #[a, b, c] t)
  match j, hu with
  | 0, hu => simp at hu; subst hu; rw [Addr.add_lit, blk_cell hb]; rfl
  | 1, hu => simp at hu; subst hu; rw [Addr.add_lit, blk_cell hb]; rfl
  | 2, hu => simp at hu; subst hu; rw [Addr.add_lit, blk_cell hb]; rfl
  | j + 3, hu => simp at hu

theorem rcells_one (m : List (Nm × Fl)) : ∀ u ∈ rcells m, u.oneCell' = true := by
  intro u hu
  unfold rcells at hu
  obtain ⟨p, _, hp⟩ := List.mem_flatMap.1 hu
  simp [rfcells] at hp
  rcases hp with rfl | rfl | rfl <;> rfl

theorem putL_pos {n : Nm} {a : Fl} {m : List (Nm × Fl)} (hu : Up m) (hg : getL n m = none) : putL n a m = m.take (posL n m) ++ (n, a) :: m.drop (posL n m) := by
  rw [putL, delL_none hg, insL_pos n a hu hg]
theorem rput_end {w w3 : World} {rb : Nat} {d : Dsk} {v v3 : Value} {acts : Int} {nm s : ByteArray} {la k : Nat} (h : RW w rb d v acts) (hg : getL nm.data.toList d.m = none) (T3 : Tch (fun i => w.heap.size ≤ i) w w3)
    (hk : k = d.m.length + 1) (ho : w3.ownsRow w.heap.size 97 3 v3 k (rcells (d.m.take (posL nm.data.toList d.m)) ++ [.string nm, .string s, .int .i64 la] ++ rcells (d.m.drop (posL nm.data.toList d.m)))) :
    (w3.cell? ⟨rb, 1, none⟩ = some v ∧ w3.frozen? ⟨rb, 1, none⟩ = false) ∧ ∃ v', RW (w3.setCell ⟨rb, 1, none⟩ v3) rb { d with m := putL nm.data.toList ⟨s.data.toList, la⟩ d.m } v' acts ∧ (∀ g, v'.ownBlock = some g → w.heap.size ≤ g) ∧ Tch (fun i => i = rb) w (w3.setCell ⟨rb, 1, none⟩ v3) := by
  have hrl := h.lt
  have hb : w3.heap[rb]? = _ := (T3.block rb hrl (by omega)).trans h.blk
  have hp := putL_pos (a := ⟨s.data.toList, la⟩) h.up hg
  refine ⟨⟨by rw [blk_cell hb]; rfl, blk_frozen hb 1⟩, v3, ⟨?_, ?_, ?_⟩, fun g hg' => (ho.lt g hg').1, ?_⟩
  · exact blk_set hb v3
  · have h1 := rowN_tch ho (Tch.setCell (fun i => i = rb) w3 ⟨rb, 1, none⟩ v3 rfl) (fun g hg' e => by have := (ho.lt g hg').1; omega)
    have e1 : (putL nm.data.toList (⟨s.data.toList, la⟩ : Fl) d.m).length = k := by
      rw [hp, hk]
      have := posL_le nm.data.toList d.m
      simp only [List.length_append, List.length_cons, List.length_take, List.length_drop]
      omega
    show World.ownsRow _ 0 _ 3 v3 (putL nm.data.toList _ d.m).length (rcells (putL nm.data.toList _ d.m))
    rw [e1, hp, rcells_append, rcells_cons]
    have e2 : rfcells (nm.data.toList, (⟨s.data.toList, la⟩ : Fl)) = [.string nm, .string s, .int .i64 la] := by simp [rfcells]
    rw [e2, ← List.append_assoc]
    obtain ⟨h2, h3⟩ := h1
    refine ⟨h2, ?_⟩
    rcases h3 with h3 | ⟨g, cap, cur, h4, h5, h6⟩
    · exact Or.inl h3
    · exact Or.inr ⟨g, cap, cur, h4, Nat.zero_le _, h6⟩
  · show Up (putL nm.data.toList _ d.m)
    rw [putL, delL_none hg]
    exact h.up.ins hg
  · exact (T3.mono (T := fun i => i = rb) (fun i hi h => by omega)).setCellR _ _ rfl

set_option maxHeartbeats 4000000 in
set_option maxRecDepth 100000 in
theorem rput_any (rb : Nat) (d : Dsk) (v : Value) (acts : Int) (nm s : ByteArray) (la : Nat) (w : World) (h : RW w rb d v acts) (hl : (d.m.length + 1) * 40 ≤ 140737488355328) (hg : getL nm.data.toList d.m = none) :
    Calls Try.prog 61 #[.pointer (some ⟨rb, 0, none⟩), .agg #[.string nm, .string s, .int .i64 la]] w fun x w' => x = .returned (.tuple #[]) ∧ ∃ v', RW w' rb { d with m := putL nm.data.toList ⟨s.data.toList, la⟩ d.m } v' acts ∧ (∀ g, v'.ownBlock = some g → w.heap.size ≤ g) ∧ Tch (fun i => i = rb) w w' := by
  obtain ⟨ao, cp, rfl⟩ := rowN_of h.own
  obtain ⟨wA, hwA⟩ : ∃ wA, wA = w.alloc (.cells #[.string nm, .string s, .int .i64 la] 97) := ⟨_, rfl⟩
  have tA : Tch (fun _ => False) w wA := by rw [hwA]; exact Tch.alloc _ _ _
  have hA := h.no tA
  have hbx : wA.heap[w.heap.size]? = some (.cells #[.string nm, .string s, .int .i64 la] 97 (0, 0)) := by rw [hwA]; exact box_one w _
  have a0 : wA.cell? ⟨w.heap.size, 0, none⟩ = some (.string nm) := by rw [blk_cell hbx]; rfl
  have hf := rfind_any rb d _ acts nm wA hA (by omega)
  rw [hg] at hf
  obtain ⟨i0, hi0, hz0, hz1, hz2⟩ := info_parts info_rfile
  have hrl := h.lt
  go_enter Try.func61, Try.ntmps61
  go_wp2_with fail
  rw [← hwA]
  refine hf.mono ?_
  rintro x wB ⟨rfl, kB, hwB⟩
  have tB : Tch (fun _ => False) w wB := by rw [hwB]; exact tA.drewN kB
  have hB := h.no tB
  have hbB : wB.heap[w.heap.size]? = some (.cells #[.string nm, .string s, .int .i64 la] 97 (0, 0)) := by rw [hwB]; exact hbx
  clear hwB hwA hf hA a0 hbx tA
  obtain ⟨p, hp⟩ : ∃ p, p = posL nm.data.toList d.m := ⟨_, rfl⟩
  have hpl := posL_le nm.data.toList d.m
  have hbl : w.heap.size < wB.heap.size := blk_lt hbB
  have HE : Hid (∀ w3 v3 k, Tch (fun i => w.heap.size ≤ i) w w3 → k = d.m.length + 1 → w3.ownsRow w.heap.size 97 3 v3 k (rcells (d.m.take p) ++ [.string nm, .string s, .int .i64 la] ++ rcells (d.m.drop p)) → _) := fun w3 v3 k T3 hk ho => rput_end h hg T3 hk (by rw [← hp]; exact ho)
  rw [← hp] at hpl ⊢
  clear hp
  have TB : Tch (fun i => w.heap.size ≤ i) w wB := tB.mono (fun _ _ h => h.elim)
  have c1 := hB.c1
  have f0 : wB.cell? ⟨w.heap.size, 0, none⟩ = some (.string nm) := by rw [blk_cell hbB]; rfl
  have f1 : wB.cell? ⟨w.heap.size, 1, none⟩ = some (.string s) := by rw [blk_cell hbB]; rfl
  have f2 : wB.cell? ⟨w.heap.size, 2, none⟩ = some (.int .i64 la) := by rw [blk_cell hbB]; rfl
  rcases h.own.2 with ⟨hnil, hn0⟩ | ⟨g, cap, cur, hv, _, hgb, hcap, hmax, hcs, _⟩
  · simp only [Value.slice.injEq] at hnil
    obtain ⟨rfl, _, rfl⟩ := hnil
    have hm0 : d.m = [] := List.eq_nil_of_length_eq_zero hn0
    rw [hn0] at c1 hpl
    obtain rfl : p = 0 := by omega
    have e0' : rcells (d.m.take 0) = [] := by simp [rcells]
    have e1' : rcells (d.m.drop 0) = [] := by rw [hm0]; rfl
    have HE' : Hid (∀ w3 v3 k, Tch (fun i => w.heap.size ≤ i) w w3 → k = 1 → w3.ownsRow w.heap.size 97 3 v3 k [.string nm, .string s, .int .i64 la] → _) := fun w3 v3 k T3 hk ho => HE.out w3 v3 k T3 (by omega) (by rw [e0', e1']; simpa using ho)
    clear HE e0' e1' hm0 hn0 hB h hg
    go_wp2_with (first
      | (at_builtin; refine wpList_append_own _ rfl (.tmp 22) (.tmp 24) 93 rfl w.heap.size 97 i0 (.agg #[.string ⟨#[]⟩, .string ⟨#[]⟩, .int .i64 0]) 3 40 Try.underlying93 hi0 hz0 hz1 hz2 rfl (by decide) _ 0 [] rfl (World.ownsRow_nil _ _ _ _) ⟨_, 0, none⟩ 1 1 [.string nm, .string s, .int .i64 la] rfl rfl (cell_three_new _ _ _ _ _) (fun x hx => by simp at hx; rcases hx with rfl | rfl | rfl <;> rfl) (by unfold maxLen; omega) (by omega) (by simp; omega) ?_; intro v2 w2 hown2 hgrow2 _
         have t2 : Tch (fun i => w.heap.size ≤ i) wB w2 := (Tch.alloc _ _ _).trans' (Tch.of_grown hgrow2 (fun g e => by cases e))
         have T2 := TB.trans t2 (fun i hi h => h)
         simp only [Nat.zero_add, List.nil_append] at hown2
         have c1'' := (t2.cell (p := ⟨rb, 1, none⟩) (cell_lt c1) (by show ¬ w.heap.size ≤ rb; omega)).trans c1
         obtain ⟨ao3, cp3, hv3⟩ := rowN_of hown2
         subst hv3
         obtain ⟨⟨e1, e2⟩, hend⟩ := HE'.out w2 _ _ T2 (by omega) hown2
         have HEND : Hid _ := hend
         clear hgrow2 hend c1 f0 f1 f2 e1)
      | (at_builtin; refine wpList_append_own_none rfl (.tmp 26) (.tmp 32) 93 rfl w.heap.size 97 i0 3 Try.underlying93 hi0 _ _ _ rfl hown2 rfl ?_)
      | fail)
    go_end0
    exact ⟨rfl, HEND.out⟩
  · simp only [Value.slice.injEq, true_and] at hv
    obtain ⟨rfl, rfl⟩ := hv
    have hgl := blk_lt hgb
    have hn1 : ∀ j u, (rcells (d.m.take p))[j]? = some u → wB.cell? ((⟨g, 0, none⟩ : Addr).add j) = some u := fun j u hu => hB.own.cells rfl j u (by
      rw [← rcells_take _ p hpl] at hu
      have hj := (List.getElem?_eq_some_iff.1 hu).1
      rw [List.length_take] at hj
      rw [List.getElem?_take_of_lt (by omega)] at hu
      exact hu)
    have hn3 : ∀ j u, (rcells (d.m.drop p))[j]? = some u → wB.cell? ((⟨g, p * 3, none⟩ : Addr).add j) = some u := fun j u hu => by
      rw [← rcells_drop _ p hpl, List.getElem?_drop] at hu
      have := hB.own.cells rfl _ _ hu
      rw [Addr.add_lit] at this ⊢
      simpa [Nat.add_assoc] using this
    obtain ⟨off, hoff, hn4⟩ : ∃ off, (if cp = p then some (⟨g, 0, none⟩ : Addr) else some ⟨g, p * 3, none⟩) = some ⟨g, off, none⟩ ∧ ∀ j u, (rcells (d.m.drop p))[j]? = some u → wB.cell? ((⟨g, off, none⟩ : Addr).add j) = some u := by
      by_cases e : cp = p
      · refine ⟨0, if_pos e, fun j u hu => ?_⟩
        rw [List.drop_of_length_le (by omega)] at hu
        simp [rcells] at hu
      · exact ⟨p * 3, if_neg e, hn3⟩
    have HN3 : Hid (∀ w1 w2, Tch (fun _ => False) wB w1 → Tch (fun i => w.heap.size ≤ i) w1 w2 → ∀ j u, (rcells (d.m.drop p))[j]? = some u → w2.cell? ((⟨g, off, none⟩ : Addr).add j) = some u) := fun w1 w2 tn t2 j u hu => by
      have h1 := hn4 j u hu
      have hs1 := tn.size
      rw [Addr.add_lit] at h1 ⊢
      exact (t2.cell (p := ⟨g, _, none⟩) (by show g < _; omega) (by show ¬ w.heap.size ≤ g; omega)).trans ((tn.cell (p := ⟨g, _, none⟩) (cell_lt h1) (fun h => h)).trans h1)
    clear hn3 hn4
    have hl1 : (rcells (d.m.take p)).length = p * 3 := by rw [rcells_len, List.length_take]; omega
    have hl3 : (rcells (d.m.drop p)).length = (d.m.length - p) * 3 := by rw [rcells_len, List.length_drop]
    have ho1 := rcells_one (d.m.take p)
    have ho3 := rcells_one (d.m.drop p)
    clear hgb hcs
    have hcap' : p ≤ cp := by omega
    go_wp2_with (first
      | (at_builtin; refine wpList_append_own _ rfl (.tmp 14) (.tmp 20) 93 rfl w.heap.size 97 i0 (.agg #[.string ⟨#[]⟩, .string ⟨#[]⟩, .int .i64 0]) 3 40 Try.underlying93 hi0 hz0 hz1 hz2 rfl (by decide) _ 0 [] rfl (World.ownsRow_nil _ _ _ _) ⟨g, 0, none⟩ p cp (rcells (d.m.take p)) rfl hl1 hn1 ho1 (by unfold maxLen; omega) (by omega) (by omega) ?_; intro v1 w1 hown1 hgrow1 _
         have t1 : Tch (fun i => w.heap.size ≤ i) wB w1 := Tch.of_grown hgrow1 (fun g e => by cases e)
         have T1 := TB.trans' t1
         have tn : Tch (fun _ => False) wB w1 := Tch.of_grown hgrow1 (fun g e => by cases e)
         have c1' := (tn.cell (p := ⟨rb, 1, none⟩) (cell_lt c1) (fun h => h)).trans c1
         have f0' := (tn.cell (p := ⟨w.heap.size, 0, none⟩) (cell_lt f0) (fun h => h)).trans f0
         have f1' := (tn.cell (p := ⟨w.heap.size, 1, none⟩) (cell_lt f1) (fun h => h)).trans f1
         have f2' := (tn.cell (p := ⟨w.heap.size, 2, none⟩) (cell_lt f2) (fun h => h)).trans f2
         have hs1 := tn.size
         simp only [Nat.zero_add, List.nil_append] at hown1
         clear c1 f0 f1 f2 hgrow1 t1 hn1)
      | (at_builtin; refine wpList_append_own _ rfl (.tmp 22) (.tmp 24) 93 rfl w.heap.size 97 i0 (.agg #[.string ⟨#[]⟩, .string ⟨#[]⟩, .int .i64 0]) 3 40 Try.underlying93 hi0 hz0 hz1 hz2 rfl (by decide) _ _ _ rfl (hown1.alloc _) ⟨w1.heap.size, 0, none⟩ 1 1 [.string nm, .string s, .int .i64 la] rfl rfl (cell_three_new _ _ _ _ _) (fun x hx => by simp at hx; rcases hx with rfl | rfl | rfl <;> rfl) (by unfold maxLen; omega) (by omega) (by simp; omega) ?_; intro v2 w2 hown2 hgrow2 _
         have t2 : Tch (fun i => w.heap.size ≤ i) w1 w2 := (Tch.alloc _ _ _).trans' (Tch.of_grown hgrow2 (fun g e => (hown1.lt g e).1))
         have T2 := T1.trans t2 (fun i hi h => h)
         have c1'' := (t2.cell (p := ⟨rb, 1, none⟩) (cell_lt c1') (by show ¬ w.heap.size ≤ rb; omega)).trans c1'
         have hs2 := t2.size
         clear c1' f0' f1' f2' hgrow2)
      | (at_builtin; refine wpList_append_own _ rfl (.tmp 26) (.tmp 32) 93 rfl w.heap.size 97 i0 (.agg #[.string ⟨#[]⟩, .string ⟨#[]⟩, .int .i64 0]) 3 40 Try.underlying93 hi0 hz0 hz1 hz2 rfl (by decide) _ _ _ rfl hown2 ⟨g, off, none⟩ (d.m.length - p) (cp - p) (rcells (d.m.drop p)) rfl hl3 (HN3.out _ _ tn t2) ho3 (by unfold maxLen; omega) (by omega) (by omega) ?_; intro v3 w3 hown3 hgrow3 _
         obtain ⟨ao3, cp3, hv3⟩ := rowN_of hown3
         subst hv3
         have t3 : Tch (fun i => w.heap.size ≤ i) w2 w3 := Tch.of_grown hgrow3 (fun g e => (hown2.lt g e).1)
         obtain ⟨⟨e1, e2⟩, hend⟩ := HE.out w3 _ _ (T2.trans t3 (fun i hi h => h)) (by omega) hown3
         have HEND : Hid _ := hend
         clear hown3 hgrow3 hown2 hown1 hend c1'')
      | fail)
    go_end0
    exact ⟨rfl, HEND.out⟩
end Go.Proofs.Ytngdgglgmmlmkaa
