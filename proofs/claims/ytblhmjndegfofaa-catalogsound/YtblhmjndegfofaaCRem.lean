import Derived.Test.YtblhmjndegfofaaCDel
import Derived.Test.YtblhmjndegfofaaCCre2
/- removal.on. -/
namespace Go.Proofs.Ytblhmjndegfofaa
open Go.RowKit Go

theorem tcl_take : ∀ (P : List (Tbl × Value)) (k : Nat), (tcl P).take (k * 5) = tcl (P.take k)
  | [], k => by simp [tcl]
  | p :: P, 0 => by simp [tcl]
  | p :: P, k + 1 => by
    have h := tcl_take P k
    have e : tcl (p :: P) = tcs p ++ tcl P := rfl
    rw [e, List.take_succ_cons, show tcl (p :: P.take k) = tcs p ++ tcl (P.take k) from rfl, ← h, show (k + 1) * 5 = (tcs p).length + k * 5 by simp [tcs]; omega, List.take_length_add_append]
theorem tcl_drop : ∀ (P : List (Tbl × Value)) (k : Nat), (tcl P).drop (k * 5) = tcl (P.drop k)
  | [], k => by simp [tcl]
  | p :: P, 0 => by simp
  | p :: P, k + 1 => by
    have h := tcl_drop P k
    have e : tcl (p :: P) = tcs p ++ tcl P := rfl
    rw [e, List.drop_succ_cons, ← h, show (k + 1) * 5 = (tcs p).length + k * 5 by simp [tcs]; omega, List.drop_length_add_append]
theorem tcl_erase (P : List (Tbl × Value)) (k : Nat) : tcl (P.eraseIdx k) = (tcl P).take (k * 5) ++ (tcl P).drop ((k + 1) * 5) := by
  rw [tcl_take, tcl_drop, ← tcl_append, List.eraseIdx_eq_take_drop_succ]
theorem TO.tch2 {S : Nat → Prop} {W W' : World} {base : Nat} {tv : Value} {P : List (Tbl × Value)} (h : TO W base tv P) (t : Tch S W W') (h1 : ∀ g, tv.ownBlock = some g → ¬ S g) (h2 : ∀ i (hi : i < P.length) g, P[i].2.ownBlock = some g → ¬ S g) : TO W' base tv P :=
  ⟨own_tch h.own t h1, fun i hi => own_tch (h.col i hi) t (h2 i hi), h.sep, h.dis⟩
theorem erase_fst (P : List (Tbl × Value)) (k : Nat) : (P.eraseIdx k).map Prod.fst = (P.map Prod.fst).eraseIdx k := by
  rw [List.eraseIdx_eq_take_drop_succ, List.eraseIdx_eq_take_drop_succ, List.map_append, List.map_take, List.map_drop]
theorem erase_all {Q : Tbl × Value → Prop} {P : List (Tbl × Value)} (h : ∀ i (hi : i < P.length), Q P[i]) (k : Nat) : ∀ i (hi : i < (P.eraseIdx k).length), Q (P.eraseIdx k)[i] := fun i hi => by
  obtain ⟨j, hj, e⟩ := List.getElem_of_mem (List.mem_of_mem_eraseIdx (List.getElem_mem hi))
  rw [← e]; exact h j hj
theorem TO.erase {W W' : World} {base T tc k : Nat} {P : List (Tbl × Value)} {cur' : Array Value} (h : TO W base (.slice (some ⟨T, 0, none⟩) P.length tc) P) (hk : k < P.length) (t : Tch (fun i => i = T) W W') (hb : W'.heap[T]? = some (.cells cur' 29 (0, 0))) (hs : cur'.size = tc * 5) (ht : cur'.toList.take ((P.length - 1) * 5) = tcl (P.eraseIdx k)) :
    TO W' base (.slice (some ⟨T, 0, none⟩) (P.length - 1) tc) (P.eraseIdx k) := by
  have hle : (P.eraseIdx k).length = P.length - 1 := List.length_eraseIdx_of_lt hk
  have hget : ∀ i (hi : i < (P.eraseIdx k).length), ∃ j, ∃ (hj : j < P.length), (P.eraseIdx k)[i] = P[j] ∧ j = if i < k then i else i + 1 := fun i hi => by
    rw [hle] at hi
    refine ⟨if i < k then i else i + 1, by split <;> omega, ?_, rfl⟩
    rw [List.getElem_eraseIdx]
    split
    · rfl
    · rfl
  refine ⟨⟨?_, ?_⟩, fun i hi => ?_, fun i hi g e => ?_, fun i j hi hj g hne e => ?_⟩
  · rw [tcl_len]
  · rcases h.own.2 with ⟨h1, _⟩ | ⟨g, cap, cur, hv, hb0, hg, hnc, hcm, hcs, htk⟩
    · injection h1 with h1; cases h1
    · injection hv with e1 e2 e3
      injection e1 with e1
      injection e1 with e1
      subst e1 e3
      exact Or.inr ⟨T, tc, cur', by rw [hle], hb0, hb, by omega, hcm, by rw [hs], by rw [hle]; exact ht⟩
  · obtain ⟨j, hj, e, _⟩ := hget i hi
    rw [e]
    exact own_tch (h.col j hj) t (fun g e2 e3 => h.sep j hj g e2 (by rw [e3]; rfl))
  · obtain ⟨j, hj, e2, _⟩ := hget i hi
    rw [e2] at e
    exact h.sep j hj g e
  · obtain ⟨i', hi', e2, e3⟩ := hget i hi
    obtain ⟨j', hj', e4, e5⟩ := hget j hj
    rw [e2] at e
    rw [e4]
    refine h.dis i' j' hi' hj' g ?_ e
    rw [e3, e5]
    split <;> split <;> omega

set_option maxHeartbeats 4000000 in
set_option maxRecDepth 100000 in
theorem removeOn_none (base d : Nat) (L L' : List Tbl) (gv g' : Int) (P : List (Tbl × Value)) (tv : Value) (nm : ByteArray) (T : World → Value → Prop) (w : World) (h : CO w base d L gv P tv) (hl : P.length ≤ 16) (hbase : base ≤ w.heap.size)
    (hpos : posP (fun t => decide (t.nm = nm)) P = -1) :
    Calls Try.prog 73 #[.agg #[.string nm], .pointer (some ⟨d, 0, none⟩)] w fun y w' => OnOut base d 52 T L' g' y w' ∧ Tch (fun i => base ≤ i) w w' := by
  obtain ⟨to, tc, rfl⟩ := row_slice h.to.own
  obtain ⟨N, hN⟩ : ∃ N, N = w.heap.size := ⟨_, rfl⟩
  obtain ⟨w0, hw0⟩ : ∃ w0, w0 = (w.alloc (.cells #[.string nm] 113)).alloc (.cells #[.int .i64 0, .int .i64 0, .string ⟨#[]⟩, .slice none 0 0, .int .i64 0] 29) := ⟨_, rfl⟩
  have t0 : Tch (fun _ => False) w w0 := by rw [hw0]; exact (Tch.alloc _ _ _).allocR _
  have hX : w0.heap[N]? = some (.cells #[.string nm] 113 (0, 0)) := by
    rw [hw0, hN]; exact (Tch.alloc (fun _ => False) _ _).block _ (by simp) (fun h => h) |>.trans (alloc_new _ _)
  have hY : w0.heap[N + 1]? = some (.cells #[.int .i64 0, .int .i64 0, .string ⟨#[]⟩, .slice none 0 0, .int .i64 0] 29 (0, 0)) := by
    rw [hw0, hN, ← World.size_alloc]; exact alloc_new _ _
  have hCO0 := h.tch t0 (fun _ _ _ h => h)
  have q1 := nm3_any d to tc P _ nm w0 (by rw [blk_cell hCO0.blk]; rfl) hCO0.to.toTL hl
  rw [hpos] at q1
  have x0 : w0.cell? ⟨N, 0, none⟩ = some (.string nm) := by rw [blk_cell hX]; rfl
  have HOut : Hid (∀ W, Tch (fun i => i = N + 1) w0 W → DX W base d ∧ Tch (fun i => base ≤ i) w W) := fun W tW => by
    have hdN := blk_lt h.blk
    have tB : Tch (fun i => base ≤ i) w W := (t0.mono (fun _ _ h => h.elim)).trans' (tW.mono (fun i _ e => by have e2 : i = N + 1 := e; omega))
    have hdx := hCO0.dx (by omega)
    have tw : Tch (fun i => i = N + 1) w W := (t0.mono (fun _ _ h => h.elim)).trans' tW
    exact ⟨(h.dx (by omega)).tch tw (fun i _ hi e => by omega), tB⟩
  have HY : Hid _ := hY
  have Hw0 : Hid _ := hw0
  have HN : Hid (N = w.heap.size) := hN
  rw [hw0, hN] at x0
  clear h hN hX hY hCO0 t0 hpos hw0
  go_enter Try.func73, Try.ntmps73
  go_wp2_with fail
  have hw0 := Hw0.out
  rw [← hw0]
  rw [← HN.out]
  clear hw0 x0
  refine q1.mono ?_
  rintro y w1 ⟨rfl, t1⟩
  clear q1
  have hY1 : w1.heap[N + 1]? = some (.cells #[.int .i64 0, .int .i64 0, .string ⟨#[]⟩, .slice none 0 0, .int .i64 0] 29 (0, 0)) := by rw [t1.block (N + 1) (blk_lt HY.out) (fun h => h)]; exact HY.out
  obtain ⟨z0, z1, z2, z3, z4⟩ : w1.cell? ⟨N + 1, 0, none⟩ = some (.int .i64 0) ∧ w1.cell? ⟨N + 1, 1, none⟩ = some (.int .i64 0) ∧ w1.cell? ⟨N + 1, 2, none⟩ = some (.string ⟨#[]⟩) ∧ w1.cell? ⟨N + 1, 3, none⟩ = some (.slice none 0 0) ∧ w1.cell? ⟨N + 1, 4, none⟩ = some (.int .i64 0) := ⟨by rw [blk_cell hY1]; rfl, by rw [blk_cell hY1]; rfl, by rw [blk_cell hY1]; rfl, by rw [blk_cell hY1]; rfl, by rw [blk_cell hY1]; rfl⟩
  have f0 := blk_frozen hY1 0; have f1 := blk_frozen hY1 1; have f2 := blk_frozen hY1 2; have f3 := blk_frozen hY1 3; have f4 := blk_frozen hY1 4
  have hrs : Try.f73.results = #[.cell 4 29, .tmp 5] := by kernel_rfl
  have HFin : Hid (∀ W', W' = ((((w1.setCell ⟨N + 1, 0, none⟩ (.int .i64 0)).setCell ⟨N + 1, 1, none⟩ (.int .i64 0)).setCell ⟨N + 1, 2, none⟩ (.string ⟨#[]⟩)).setCell ⟨N + 1, 3, none⟩ (.slice none 0 0)).setCell ⟨N + 1, 4, none⟩ (.int .i64 0) → (∀ tmps : Array Value, tmps[4]?.getD undef = .pointer (some ⟨N + 1, 0, none⟩) → tmps[5]?.getD undef = .int .i64 52 → (results Try.f73 tmps).run Try.prog W' = .ok (.tuple #[zA, .int .i64 52]) W') ∧ (OnOut base d 52 T L' g' (.returned (.tuple #[zA, .int .i64 52])) W' ∧ Tch (fun i => base ≤ i) w W')) := fun W' hW' => by
    have tE : Tch (fun i => i = N + 1) w1 W' := by rw [hW']; exact ((((Tch.setCell (fun i => i = N + 1) w1 ⟨N + 1, 0, none⟩ _ rfl).setCellR ⟨N + 1, 1, none⟩ _ rfl).setCellR ⟨N + 1, 2, none⟩ _ rfl).setCellR ⟨N + 1, 3, none⟩ _ rfl).setCellR ⟨N + 1, 4, none⟩ _ rfl
    have hb : W'.heap[N + 1]? = some (.cells #[.int .i64 0, .int .i64 0, .string ⟨#[]⟩, .slice none 0 0, .int .i64 0] 29 (0, 0)) := by
      rw [hW', blk_set (blk_set (blk_set (blk_set (blk_set hY1 _) _) _) _) _]; rfl
    obtain ⟨o1, o2⟩ := HOut.out W' ((t1.mono (fun _ _ h => h.elim)).trans' tE)
    exact ⟨fun tmps h4 h5 => res_pair hrs h4 h5 (by rw [blk_cell hb]; rfl) (by rw [blk_cell hb]; rfl) (by rw [blk_cell hb]; rfl) (by rw [blk_cell hb]; rfl) (by rw [blk_cell hb]; rfl), ⟨fun e => by simp at e, fun _ => ⟨rfl, o1⟩⟩, o2⟩
  clear hY1 t1
  go_wp2_with fail
  refine bodyPost_ret ((HFin.out _ rfl).1 _ ?_ ?_) rfl (HFin.out _ rfl).2 <;> rfl

set_option maxHeartbeats 4000000 in
set_option maxRecDepth 100000 in
theorem removeOn_some (base d : Nat) (L : List Tbl) (gv : Int) (P : List (Tbl × Value)) (tv : Value) (nm : ByteArray) (b RB : Nat) (k : Nat) (hk : k < P.length) (w : World) (h : CO w base d L gv P tv) (hl : P.length ≤ 16) (hbase : base ≤ w.heap.size) (hbb : b < base ∧ RB < base)
    (hpos : posP (fun t => decide (t.nm = nm)) P = k) :
    Calls Try.prog 73 #[.agg #[.string nm], .pointer (some ⟨d, 0, none⟩)] w fun y w' => OnOut base d 0 (TX b RB P[k].1) (L.eraseIdx k) gv y w' ∧ Tch (fun i => base ≤ i) w w' := by
  obtain ⟨T, tc, rfl⟩ : ∃ T tc, tv = .slice (some ⟨T, 0, none⟩) P.length tc := by
    obtain ⟨to, tc, htv⟩ := row_slice h.to.own
    have ho := h.to.own
    rw [htv] at ho
    obtain ⟨T, e, _⟩ := own_at ho (by omega)
    exact ⟨T, tc, by rw [htv, e]⟩
  obtain ⟨t, ht⟩ : ∃ t, t = P[k].1 := ⟨_, rfl⟩
  obtain ⟨v, hv⟩ : ∃ v, v = P[k].2 := ⟨_, rfl⟩
  have hPk : P[k] = (t, v) := by rw [ht, hv]
  have hcol := h.to.col k hk
  rw [← ht, ← hv] at hcol
  obtain ⟨co, cc, rfl⟩ := row_slice hcol
  rw [← ht]
  obtain ⟨N, hN⟩ : ∃ N, N = w.heap.size := ⟨_, rfl⟩
  obtain ⟨w0, hw0⟩ : ∃ w0, w0 = (w.alloc (.cells #[.string nm] 113)).alloc (.cells #[.int .i64 0, .int .i64 0, .string ⟨#[]⟩, .slice none 0 0, .int .i64 0] 29) := ⟨_, rfl⟩
  have t0 : Tch (fun _ => False) w w0 := by rw [hw0]; exact (Tch.alloc _ _ _).allocR _
  have hs0 : w0.heap.size = N + 2 := by rw [hw0, World.size_alloc, World.size_alloc, hN]
  have hX : w0.heap[N]? = some (.cells #[.string nm] 113 (0, 0)) := by
    rw [hw0, hN]; exact (Tch.alloc (fun _ => False) _ _).block _ (by simp) (fun h => h) |>.trans (alloc_new _ _)
  have hY : w0.heap[N + 1]? = some (.cells #[.int .i64 0, .int .i64 0, .string ⟨#[]⟩, .slice none 0 0, .int .i64 0] 29 (0, 0)) := by
    rw [hw0, hN, ← World.size_alloc]; exact alloc_new _ _
  have hCO0 := h.tch t0 (fun _ _ _ h => h)
  have q1 := nm3_any d (some ⟨T, 0, none⟩) tc P _ nm w0 (by rw [blk_cell hCO0.blk]; rfl) hCO0.to.toTL hl
  rw [hpos] at q1
  have x0 : w0.cell? ⟨N, 0, none⟩ = some (.string nm) := by rw [blk_cell hX]; rfl
  have hdN : d < N := by rw [hN]; exact blk_lt h.blk
  have hTN : T < N ∧ base ≤ T := by rw [hN]; exact ⟨(h.to.own.lt T rfl).2, (h.to.own.lt T rfl).1⟩
  have hTd : T ≠ d := fun e => h.nb.1 (by rw [← e]; rfl)
  have hcb : ∀ g, (Value.slice co t.cols.length cc).ownBlock = some g → base ≤ g ∧ g < N ∧ g ≠ d ∧ g ≠ T := fun g e2 =>
    ⟨(hcol.lt g e2).1, by rw [hN]; exact (hcol.lt g e2).2, fun e3 => h.nb.2 k hk (by rw [hPk, ← e3]; exact e2), fun e3 => h.to.sep k hk g (by rw [hPk]; exact e2) (by rw [e3]; rfl)⟩
  have Hcb : Hid _ := hcb
  have HCO : Hid (∀ W, Tch (fun _ => False) w0 W → CO W base d L gv P (.slice (some ⟨T, 0, none⟩) P.length tc)) := fun W tW => hCO0.tch tW (fun _ _ _ h => h)
  have HLow : Hid (∀ i (hi : i < P.length) g, P[i].2.ownBlock = some g → g < N) := fun i hi g e => by rw [hN]; exact ((h.to.col i hi).lt g e).2
  have HPk : Hid (P[k] = (t, .slice co t.cols.length cc)) := hPk
  have HY : Hid _ := hY
  have Hw0 : Hid _ := hw0
  have HN : Hid (N = w.heap.size) := hN
  have Ht0 : Hid (Tch (fun _ => False) w w0) := t0
  have Hs0 : Hid (w0.heap.size = N + 2) := hs0
  have Hcol : Hid _ := hcol
  rw [hw0, hN] at x0
  clear h hN hX hY hCO0 t0 hpos hw0 hs0 hcol hcb hPk hv ht
  go_enter Try.func73, Try.ntmps73
  go_wp2_with fail
  have hw0 := Hw0.out
  rw [← hw0]
  rw [← HN.out]
  clear hw0 x0
  refine q1.mono ?_
  rintro y w1 ⟨rfl, t1⟩
  clear q1
  have hCO1 := HCO.out w1 t1
  obtain ⟨g, o, e, c0, c1, c2, c3, c4⟩ := hCO1.to.toTL.at k hk
  injection e with e; injection e with e e2; subst e e2
  rw [HPk.out] at c0 c1 c2 c3 c4
  have d0 : w1.cell? ⟨d, 0, none⟩ = some (.slice (some ⟨T, 0, none⟩) P.length tc) := by rw [blk_cell hCO1.blk]; rfl
  obtain ⟨M, hM⟩ : ∃ M, M = w1.heap.size := ⟨_, rfl⟩
  obtain ⟨w2, hw2⟩ : ∃ w2, w2 = w1.alloc (.cells #[.int .i64 t.id, .int .i64 t.ver, .string t.nm, .slice co t.cols.length cc, .int .i64 t.key] 29) := ⟨_, rfl⟩
  have t2 : Tch (fun _ => False) w1 w2 := by rw [hw2]; exact Tch.alloc _ _ _
  have hCO2 := HCO.out w2 (t1.trans' t2)
  have hkI : (k : Int) < P.length := by omega
  have hkn : ¬ (k : Int) < 0 := by omega
  have d2 : w2.cell? ⟨d, 0, none⟩ = some (.slice (some ⟨T, 0, none⟩) P.length tc) := by rw [blk_cell hCO2.blk]; rfl
  rw [hw2] at d2
  simp only [Nat.zero_add] at c0 c1 c2 c3 c4
  clear hCO1
  go_wp2_with fail
  rw [← hw2]
  obtain ⟨cur, hcur, hcs, hcm, hnc, htk⟩ : ∃ cur : Array Value, w2.heap[T]? = some (.cells cur 29 (0, 0)) ∧ cur.size = tc * 5 ∧ tc ≤ maxLen ∧ P.length ≤ tc ∧ cur.toList.take (P.length * 5) = tcl P := by
    rcases hCO2.to.own.2 with ⟨h1, _⟩ | ⟨g, cap, cur, hv, hb0, hg, hnc, hcm, hcs, htk⟩
    · injection h1 with h1; cases h1
    · injection hv with e1 e2 e3
      injection e1 with e1
      injection e1 with e1
      subst e1 e3
      exact ⟨cur, hg, hcs, hcm, hnc, htk⟩
  have h1c : ∀ u ∈ cur.toList.take (P.length * 5), u.oneCell' = true := fun u hu => by
    rw [htk] at hu
    simp only [tcl, List.mem_flatMap] at hu
    obtain ⟨p, hp, hu⟩ := hu
    obtain ⟨i, hi, rfl⟩ := List.getElem_of_mem hp
    obtain ⟨vo, vc, e⟩ := row_slice (hCO2.to.col i hi)
    simp only [tcs, List.mem_cons, List.not_mem_nil, or_false] at hu
    rcases hu with rfl | rfl | rfl | rfl | rfl
    · rfl
    · rfl
    · rfl
    · rw [e]; rfl
    · rfl
  refine (delete_any T P.length tc k cur w2 hcur hcs hnc (by unfold maxLen at hcm; omega) hk h1c).mono ?_
  rintro y w3 ⟨⟨rfl, cur', hb3, hs3, htk3⟩, t3⟩
  rw [htk] at htk3
  have htk4 : cur'.toList.take ((P.length - 1) * 5) = tcl (P.eraseIdx k) := by
    rw [tcl_erase, htk3, ← htk, List.take_take, Nat.min_eq_left (by omega)]
  have hTO3 := hCO2.to.erase hk t3 hb3 hs3 htk4
  have hs1 := t1.size
  have hs02 := Hs0.out
  have hd3 : w3.heap[d]? = some (.cells #[.slice (some ⟨T, 0, none⟩) P.length tc, .int .i64 gv] 79 (0, 0)) := by rw [t3.block d (blk_lt hCO2.blk) (fun e => hTd e.symm)]; exact hCO2.blk
  have hY3 : w3.heap[N + 1]? = some (.cells #[.int .i64 0, .int .i64 0, .string ⟨#[]⟩, .slice none 0 0, .int .i64 0] 29 (0, 0)) := by
    rw [t3.block (N + 1) (by have := (t1.trans' t2).size; omega) (by omega), (t1.trans' t2).block (N + 1) (blk_lt HY.out) (fun h => h)]; exact HY.out
  have hM2 : w2.heap[M]? = some (.cells #[.int .i64 t.id, .int .i64 t.ver, .string t.nm, .slice co t.cols.length cc, .int .i64 t.key] 29 (0, 0)) := by rw [hw2, hM]; exact alloc_new _ _
  have hM3 : w3.heap[M]? = some (.cells #[.int .i64 t.id, .int .i64 t.ver, .string t.nm, .slice co t.cols.length cc, .int .i64 t.key] 29 (0, 0)) := by
    rw [t3.block M (blk_lt hM2) (by omega)]; exact hM2
  obtain ⟨w4, hw4⟩ : ∃ w4, w4 = w3.setCell ⟨d, 0, none⟩ (.slice (some ⟨T, 0, none⟩) (P.length - 1) tc) := ⟨_, rfl⟩
  have t4 : Tch (fun i => i = d) w3 w4 := by rw [hw4]; exact Tch.setCell _ _ _ _ rfl
  have hd4 : w4.heap[d]? = some (.cells #[.slice (some ⟨T, 0, none⟩) (P.length - 1) tc, .int .i64 gv] 79 (0, 0)) := by rw [hw4, blk_set hd3]; rfl
  have hY4 : w4.heap[N + 1]? = some (.cells #[.int .i64 0, .int .i64 0, .string ⟨#[]⟩, .slice none 0 0, .int .i64 0] 29 (0, 0)) := by rw [t4.block (N + 1) (blk_lt hY3) (by omega)]; exact hY3
  have hM4 : w4.heap[M]? = some (.cells #[.int .i64 t.id, .int .i64 t.ver, .string t.nm, .slice co t.cols.length cc, .int .i64 t.key] 29 (0, 0)) := by rw [t4.block M (blk_lt hM3) (by omega)]; exact hM3
  have dc3 : w3.cell? ⟨d, 0, none⟩ = some (.slice (some ⟨T, 0, none⟩) P.length tc) := by rw [blk_cell hd3]; rfl
  have df3 := blk_frozen hd3 0
  obtain ⟨m0, m1, m2, m3, m4⟩ : w4.cell? ⟨M, 0, none⟩ = some (.int .i64 t.id) ∧ w4.cell? ⟨M, 1, none⟩ = some (.int .i64 t.ver) ∧ w4.cell? ⟨M, 2, none⟩ = some (.string t.nm) ∧ w4.cell? ⟨M, 3, none⟩ = some (.slice co t.cols.length cc) ∧ w4.cell? ⟨M, 4, none⟩ = some (.int .i64 t.key) := ⟨by rw [blk_cell hM4]; rfl, by rw [blk_cell hM4]; rfl, by rw [blk_cell hM4]; rfl, by rw [blk_cell hM4]; rfl, by rw [blk_cell hM4]; rfl⟩
  obtain ⟨z0, z1, z2, z3, z4⟩ : w4.cell? ⟨N + 1, 0, none⟩ = some (.int .i64 0) ∧ w4.cell? ⟨N + 1, 1, none⟩ = some (.int .i64 0) ∧ w4.cell? ⟨N + 1, 2, none⟩ = some (.string ⟨#[]⟩) ∧ w4.cell? ⟨N + 1, 3, none⟩ = some (.slice none 0 0) ∧ w4.cell? ⟨N + 1, 4, none⟩ = some (.int .i64 0) := ⟨by rw [blk_cell hY4]; rfl, by rw [blk_cell hY4]; rfl, by rw [blk_cell hY4]; rfl, by rw [blk_cell hY4]; rfl, by rw [blk_cell hY4]; rfl⟩
  have f0 := blk_frozen hY4 0; have f1 := blk_frozen hY4 1; have f2 := blk_frozen hY4 2; have f3 := blk_frozen hY4 3; have f4 := blk_frozen hY4 4
  have hrs : Try.f73.results = #[.cell 4 29, .tmp 5] := by kernel_rfl
  have hL : (P.eraseIdx k).map Prod.fst = L.eraseIdx k := by rw [erase_fst, hCO2.eq]
  have hnbP : ∀ i (hi : i < (P.eraseIdx k).length), (P.eraseIdx k)[i].2.ownBlock ≠ some d := erase_all (Q := fun p => p.2.ownBlock ≠ some d) hCO2.nb.2 k
  have hTO4 := hTO3.tch2 t4 (fun g e e2 => hCO2.nb.1 (by rw [← e2]; exact e)) (fun i hi g e e2 => hnbP i hi (by rw [← e2]; exact e))
  have hsz : N + 2 ≤ w2.heap.size := by have := (t1.trans' t2).size; omega
  have T4 : Tch (fun i => base ≤ i) w w4 := (((Ht0.out.trans' (t1.trans' t2)).mono (fun _ _ h => h.elim)).trans' (t3.mono (fun i _ e => by have e2 : i = T := e; omega))).trans' (t4.mono (fun i _ e => by have e2 : i = d := e; have := hCO2.ge; omega))
  have hN2 : base ≤ N := by have := HN.out; omega
  have hcol4 := own_tch (own_tch (own_tch (own_tch Hcol.out Ht0.out (fun _ _ h => h)) (t1.trans' t2) (fun _ _ h => h)) t3 (fun g e e2 => (Hcb.out g e).2.2.2 e2)) t4 (fun g e e2 => (Hcb.out g e).2.2.1 e2)
  have hTt : ∀ g, (Value.slice (some ⟨T, 0, none⟩) (P.length - 1) tc).ownBlock = some g → T = g := fun g e => by simpa [Value.ownBlock] using e
  have HFin : Hid (∀ W', W' = ((((w4.setCell ⟨N + 1, 0, none⟩ (.int .i64 t.id)).setCell ⟨N + 1, 1, none⟩ (.int .i64 t.ver)).setCell ⟨N + 1, 2, none⟩ (.string t.nm)).setCell ⟨N + 1, 3, none⟩ (.slice co t.cols.length cc)).setCell ⟨N + 1, 4, none⟩ (.int .i64 t.key) → (∀ tmps : Array Value, tmps[4]?.getD undef = .pointer (some ⟨N + 1, 0, none⟩) → tmps[5]?.getD undef = .int .i64 0 → (results Try.f73 tmps).run Try.prog W' = .ok (.tuple #[tA t.id t.ver t.nm (.slice co t.cols.length cc) t.key, .int .i64 0]) W') ∧ (OnOut base d 0 (TX b RB t) (L.eraseIdx k) gv (.returned (.tuple #[tA t.id t.ver t.nm (.slice co t.cols.length cc) t.key, .int .i64 0])) W' ∧ Tch (fun i => base ≤ i) w W')) := fun W' hW' => by
    have tE : Tch (fun i => i = N + 1) w4 W' := by rw [hW']; exact ((((Tch.setCell (fun i => i = N + 1) w4 ⟨N + 1, 0, none⟩ _ rfl).setCellR ⟨N + 1, 1, none⟩ _ rfl).setCellR ⟨N + 1, 2, none⟩ _ rfl).setCellR ⟨N + 1, 3, none⟩ _ rfl).setCellR ⟨N + 1, 4, none⟩ _ rfl
    have hb : W'.heap[N + 1]? = some (.cells #[.int .i64 t.id, .int .i64 t.ver, .string t.nm, .slice co t.cols.length cc, .int .i64 t.key] 29 (0, 0)) := by
      rw [hW', blk_set (blk_set (blk_set (blk_set (blk_set hY4 _) _) _) _) _]; rfl
    have hcol5 := own_tch hcol4 tE (fun g e e2 => by have := (Hcb.out g e).2.1; omega)
    have hlow : ∀ i (hi : i < (P.eraseIdx k).length) g, (P.eraseIdx k)[i].2.ownBlock = some g → g < N := erase_all (Q := fun p => ∀ g, p.2.ownBlock = some g → g < N) HLow.out k
    have hTO5 := hTO4.tch2 tE (fun g e e2 => by have e3 := (hTO4.own.lt g e).1; have e4 := hTt g e; omega) (fun i hi g e e2 => by have := hlow i hi g e; omega)
    have hlen : (P.eraseIdx k).length = P.length - 1 := List.length_eraseIdx_of_lt hk
    refine ⟨fun tmps h4 h5 => res_pair hrs h4 h5 (by rw [blk_cell hb]; rfl) (by rw [blk_cell hb]; rfl) (by rw [blk_cell hb]; rfl) (by rw [blk_cell hb]; rfl) (by rw [blk_cell hb]; rfl), ⟨fun _ => ?_, fun e => absurd rfl e⟩, T4.trans' (tE.mono (fun i _ e => by have e2 : i = N + 1 := e; omega))⟩
    refine ⟨_, P.eraseIdx k, .slice (some ⟨T, 0, none⟩) (P.length - 1) tc, rfl, ⟨co, cc, rfl, own_sl hcol5, fun e => ?_, fun g o e hc => ?_⟩, ⟨by rw [tE.block d (blk_lt hd4) (by omega)]; exact hd4, hCO2.ge, hL, hTO5, fun e => hCO2.nb.1 e, hnbP⟩⟩
    · subst e
      obtain ⟨e1, e2, e3⟩ := own_none hcol5
      exact ⟨List.length_eq_zero_iff.1 e1, e2⟩
    · have h2 := (Hcb.out g (by rw [e]; rfl)).1
      omega
  rw [← hM]
  clear hcol4 hTO4 hTO3 hnbP T4 hd3 hd4 hM2 hM3 hM4 hY3 hY4 hCO2 hb3 hs3 htk3 htk4 htk hcur hcs h1c hL hs02 t1 t2 t3 t4 hM
  have Hw4 : Hid _ := hw4
  clear hw4
  rw [Hw4.out] at m0 m1 m2 m3 m4 z0 z1 z2 z3 z4 f0 f1 f2 f3 f4
  go_wp2_with fail
  rw [← Hw4.out]
  refine bodyPost_ret ((HFin.out _ rfl).1 _ ?_ ?_) rfl (HFin.out _ rfl).2 <;> rfl
end Go.Proofs.Ytblhmjndegfofaa
