import Derived.Test.YtolobljlkdacjaaXAkL
/- Sees of a side. -/
namespace Go.Proofs.Ytolobljlkdacjaa
open Go.RowKit Go

def icI (l : List Int) : List Value := l.map (fun n => Value.int .i64 n)
theorem icI_len (l : List Int) : (icI l).length = l.length := by simp [icI]
theorem icI_one (l : List Int) : ∀ u ∈ icI l, u.oneCell' = true := fun u hu => by
  unfold icI at hu
  obtain ⟨a, _, rfl⟩ := List.mem_map.1 hu
  rfl
theorem mk_I (n : Nat) (hn : n ≤ 1099511627776) (w : World) : (Instr.makeSlice 31 (.int .i64 n) (.int .i64 n)).run Try.prog w = .ok (.slice (some ⟨w.heap.size, 0, none⟩) n n) (w.alloc (.cells (List.replicate n (Value.int .i64 0)).toArray 3)) := by
  obtain ⟨i0, hi, hz0, hz1, hz2⟩ := info_parts info_int
  have h := run_make (P := Try.prog) w 31 3 i0 (.int .i64 0) Try.underlying31 hi hz0 .i64 .i64 n n (by omega) (Int.le_refl _) (by rw [hz2]; omega) (by omega)
  rw [h, hz1]
  have e : madeCells (Value.int .i64 0).cells ((n : Int).toNat * 1) = (List.replicate n (Value.int .i64 0)).toArray := by
    have h1 := toList_madeCells_one (.int .i64 0) ((n : Int).toNat * 1)
    have h2 : (madeCells (Value.int .i64 0).cells ((n : Int).toNat * 1)).toList = List.replicate n (Value.int .i64 0) := by
      refine h1.trans ?_
      simp
    rw [← h2, Array.toArray_toList]
  rw [e]
  simp
theorem copy_I (W : World) (g n : Nat) (so : Option Addr) (cs : Nat) (l : List Int) (hg : W.heap[g]? = some (.cells (List.replicate (n + 2) (Value.int .i64 0)).toArray 3 (0, 0))) (hl : l.length = n) (hsl : IR W so l) (hso : so = none → cs = 0) :
    ∃ W', (∀ ty, (Builtin.copy_ #[31, 31] ty #[.slice (some ⟨g, 0, none⟩) (n + 2) (n + 2), .slice so n cs]).run Try.prog W = .ok (.int .i64 n) W') ∧ W'.heap[g]? = some (.cells (icI l ++ [Value.int .i64 0, Value.int .i64 0]).toArray 3 (0, 0)) ∧ Tch (fun i => i = g) W W' := by
  have hs : (Try.prog.info? 3).map (·.size) = some 1 := by
    obtain ⟨i0, hi, hz0, hz1, hz2⟩ := info_parts info_int
    rw [hi]; simp [hz1]
  rcases Nat.eq_zero_or_pos n with rfl | hn
  · have hx : l = [] := List.eq_nil_of_length_eq_zero hl
    subst hx
    refine ⟨W, fun ty => ?_, by simpa [icI] using hg, Tch.refl _ _⟩
    have := run_copy_none (P := Try.prog) W 31 31 ty 3 (some ⟨g, 0, none⟩) so (0 + 2) (0 + 2) 0 cs Try.underlying31 hs (by simp)
    have _ := hso
    rw [this]; rfl
  · obtain ⟨gs, o, rfl, _⟩ := hsl 0 (l[0]'(by omega)) (List.getElem?_eq_getElem (by omega))
    have e : Nat.min n (n + 2) = n := Nat.min_eq_left (by omega)
    refine ⟨W.setRow g ((List.replicate (n + 2) (Value.int .i64 0)).toArray.toList.take 0 ++ icI l ++ (List.replicate (n + 2) (Value.int .i64 0)).toArray.toList.drop (0 + (icI l).length)).toArray, fun ty => ?_, ?_, ?_⟩
    · have hr := run_copy_row (P := Try.prog) W 31 31 ty 3 g 0 (n + 2) (n + 2) ⟨gs, o, none⟩ n cs _ 3 (icI l) Try.underlying31 hs hg (by rw [e, icI_len, hl]) (fun j v hv => by
        rw [add_plain]
        unfold icI at hv
        rw [List.getElem?_map] at hv
        cases hj : l[j]? with
        | none => rw [hj] at hv; cases hv
        | some y =>
          rw [hj] at hv
          simp only [Option.map_some, Option.some.injEq] at hv
          obtain ⟨g2, o2, e2, h2⟩ := hsl j y hj
          injection e2 with e2
          injection e2 with e3 e4
          subst e3 e4
          rw [← hv]; exact h2) (by rw [icI_len]; simp; omega) (icI_one l)
      rw [hr]
      congr 1
      simp [goInt, icI_len, hl]
    · rw [setRow_heap W g _ _ 3 (0, 0) hg]
      simp [icI_len, hl]
    · exact ⟨rfl, rfl, rfl, by simp [World.setRow], fun k _ hk => setRow_other W g k _ hk⟩
set_option maxHeartbeats 1000000 in
set_option maxRecDepth 100000 in
theorem seeS_any (w : World) (sb mb rb : Nat) (m : Mg) (k0 : w.cell? ⟨sb, 0, none⟩ = some (.pointer (some ⟨mb, 0, none⟩))) (k1 : w.cell? ⟨sb, 1, none⟩ = some (.pointer (some ⟨rb, 0, none⟩))) (F G : Nat → Prop) (hm : MF w mb m F) (hr : RF w rb m G) (mn mx : Int) (l : List Int) (lo : Option Addr) (lc : Nat) (hl : l.length ≤ 549755813888) (hI : IR w lo l) (hlo : lo = none → lc = 0) (own x : Int) (h1 : -9223372036854775808 ≤ x) (h2 : x ≤ 9223372036854775807) (h3 : -9223372036854775808 ≤ own) (h4 : own ≤ 9223372036854775807) :
    Calls Try.prog 60 #[.pointer (some ⟨sb, 0, none⟩), .agg #[.int .i64 mn, .int .i64 mx, .slice lo l.length lc], .int .i64 own, .int .i64 x] w fun y w' => y = .returned (.bool true) ∧ Tch (fun _ => False) w w' := by
  obtain ⟨n, hn⟩ : ∃ n, n = l.length := ⟨_, rfl⟩
  rw [← hn] at hl ⊢
  obtain ⟨N, hN⟩ : ∃ N, N = w.heap.size := ⟨_, rfl⟩
  obtain ⟨w0, hw0⟩ : ∃ w0, w0 = w.alloc (.cells #[.int .i64 mn, .int .i64 mx, .slice lo n lc] 36) := ⟨_, rfl⟩
  have t0 : Tch (fun _ => False) w w0 := by rw [hw0]; exact Tch.alloc _ _ _
  have hY0 : w0.heap[N]? = some (.cells #[.int .i64 mn, .int .i64 mx, .slice lo n lc] 36 (0, 0)) := by rw [hw0, hN]; exact alloc_new _ _
  have hs0 : w0.heap.size = N + 1 := by rw [hw0, hN]; simp
  have hmk := mk_I (n + 2) (by omega) w0
  obtain ⟨w1, hw1⟩ : ∃ w1, w1 = w0.alloc (.cells (List.replicate (n + 2) (Value.int .i64 0)).toArray 3) := ⟨_, rfl⟩
  have t1 : Tch (fun _ => False) w0 w1 := by rw [hw1]; exact Tch.alloc _ _ _
  have hg1 : w1.heap[N + 1]? = some (.cells (List.replicate (n + 2) (Value.int .i64 0)).toArray 3 (0, 0)) := by rw [hw1, ← hs0]; exact alloc_new _ _
  rw [← hw1, hs0, show (((n + 2 : Nat)) : Int) = (n : Int) + 2 by omega] at hmk
  obtain ⟨w2, hcp, hg2, t2⟩ := copy_I w1 (N + 1) n lo lc l hg1 hn.symm (hI.no (t0.trans' t1)) hlo
  have hY1 := (t1.block N (blk_lt hY0) (fun h => h)).trans hY0
  have hY2 := (t2.block N (blk_lt hY1) (by omega)).trans hY1
  have a0 : w0.cell? ⟨N, 2, none⟩ = some (.slice lo n lc) := by rw [blk_cell hY0]; rfl
  have a1 : w1.cell? ⟨N, 2, none⟩ = some (.slice lo n lc) := by rw [blk_cell hY1]; rfl
  have a2 : w2.cell? ⟨N, 2, none⟩ = some (.slice lo n lc) := by rw [blk_cell hY2]; rfl
  have hlen : (icI l ++ [Value.int .i64 0, .int .i64 0]).length = n + 2 := by simp [icI_len, hn]
  have c71 : w2.cell? ⟨N + 1, n, none⟩ = some (.int .i64 0) := by
    rw [blk_cell hg2]
    simp [icI_len, hn]
  have f71 := blk_frozen hg2 n
  obtain ⟨w3, hw3⟩ : ∃ w3, w3 = w2.setCell ⟨N + 1, n, none⟩ (.int .i64 71) := ⟨_, rfl⟩
  have hg3 : w3.heap[N + 1]? = some (.cells ((icI l ++ [Value.int .i64 0, Value.int .i64 0]).toArray.setIfInBounds n (.int .i64 71)) 3 (0, 0)) := by rw [hw3]; exact blk_set hg2 _
  have t3 : Tch (fun i => i = N + 1) w2 w3 := by rw [hw3]; exact Tch.setCell _ _ _ _ rfl
  have hY3 := (t3.block N (blk_lt hY2) (by omega)).trans hY2
  have a3 : w3.cell? ⟨N, 2, none⟩ = some (.slice lo n lc) := by rw [blk_cell hY3]; rfl
  have c72 : w3.cell? ⟨N + 1, n + 1, none⟩ = some (.int .i64 0) := by
    rw [blk_cell hg3, Array.getElem?_setIfInBounds_ne (by omega)]
    simp [icI_len, hn]
  have f72 := blk_frozen hg3 (n + 1)
  obtain ⟨w4, hw4⟩ : ∃ w4, w4 = w3.setCell ⟨N + 1, n + 1, none⟩ (.int .i64 72) := ⟨_, rfl⟩
  have hg4 : w4.heap[N + 1]? = some (.cells (icI l ++ [Value.int .i64 71, Value.int .i64 72]).toArray 3 (0, 0)) := by
    rw [hw4, blk_set hg3 _]
    rw [List.setIfInBounds_toArray, List.setIfInBounds_toArray, List.set_append_right _ _ (by rw [icI_len]; omega), List.set_append_right _ _ (by rw [icI_len]; omega), icI_len, ← hn]
    rw [show n - n = 0 by omega, show n + 1 - n = 1 by omega]
    rfl
  have t4 : Tch (fun i => i = N + 1) w3 w4 := by rw [hw4]; exact Tch.setCell _ _ _ _ rfl
  have hY4 := (t4.block N (blk_lt hY3) (by omega)).trans hY3
  have T4 : Tch (fun _ => False) w w4 := ((t0.trans' t1).trans ((t2.trans' t3).trans' t4) (fun i hi e => by omega))
  have HY4 : Hid _ := hY4
  have HG4 : Hid _ := hg4
  have HT4 : Hid _ := T4
  have Hw0 : Hid _ := hw0
  have Hw3 : Hid _ := hw3
  have Hw4 : Hid _ := hw4
  have HM : Hid (MF w mb m F) := hm
  have HR : Hid (RF w rb m G) := hr
  have HI : Hid (IR w lo l) := hI
  have Hn : Hid (n = l.length) := hn
  have HK : Hid (w.cell? ⟨sb, 0, none⟩ = some (.pointer (some ⟨mb, 0, none⟩)) ∧ w.cell? ⟨sb, 1, none⟩ = some (.pointer (some ⟨rb, 0, none⟩))) := ⟨k0, k1⟩
  have HX : Hid (-9223372036854775808 ≤ x ∧ x ≤ 9223372036854775807 ∧ -9223372036854775808 ≤ own ∧ own ≤ 9223372036854775807) := ⟨h1, h2, h3, h4⟩
  rw [hw0] at a0 hmk
  rw [hw3] at c72 f72 a3
  subst hN
  clear k0 k1 hm hr hI hlo hn t0 t1 t2 t3 t4 hY0 hY1 hY2 hY3 hY4 hg1 hg2 hg3 hg4 T4 hs0 hw0 hw1 hw3 hw4 hlen h1 h2 h3 h4
  go_enter Try.func60, Try.ntmps60
  go_wp2_with fail
  have hw3 := Hw3.out
  have hw4 := Hw4.out
  rw [← hw3, ← hw4]
  clear hw3 hw4 a0 a1 a2 a3 c71 c72 f71 f72 hmk hcp Hw3 Hw4 Hw0
  have b0 : w4.cell? ⟨w.heap.size, 0, none⟩ = some (.int .i64 mn) := by rw [blk_cell HY4.out]; rfl
  have b1 : w4.cell? ⟨w.heap.size, 1, none⟩ = some (.int .i64 mx) := by rw [blk_cell HY4.out]; rfl
  have b2 : w4.cell? ⟨w.heap.size, 2, none⟩ = some (.slice lo n lc) := by rw [blk_cell HY4.out]; rfl
  have hle : (n : Int) ≤ (n : Int) + 2 := by omega
  have hle2 : n ≤ n + 2 := by omega
  have tz := Tch.alloc (fun _ => False) w4 (.cells #[.int .i64 0, .int .i64 0, .slice none 0 0] 36)
  have z0 : (w4.alloc (.cells #[.int .i64 0, .int .i64 0, .slice none 0 0] 36)).cell? ⟨w.heap.size, 0, none⟩ = some (.int .i64 mn) := by rw [tz.cell (cell_lt b0) (fun h => h)]; exact b0
  have z1 : (w4.alloc (.cells #[.int .i64 0, .int .i64 0, .slice none 0 0] 36)).cell? ⟨w.heap.size, 1, none⟩ = some (.int .i64 mx) := by rw [tz.cell (cell_lt b1) (fun h => h)]; exact b1
  have z2 : (w4.alloc (.cells #[.int .i64 0, .int .i64 0, .slice none 0 0] 36)).cell? ⟨w.heap.size, 2, none⟩ = some (.slice lo n lc) := by rw [tz.cell (cell_lt b2) (fun h => h)]; exact b2
  clear tz
  obtain ⟨w5, hw5⟩ : ∃ w5, w5 = (w4.alloc (.cells #[.int .i64 mn, .int .i64 mx, .slice (some ⟨w.heap.size + 1, 0, none⟩) n (n + 2)] 36)).drew := ⟨_, rfl⟩
  obtain ⟨M, hM⟩ : ∃ M, M = w4.heap.size := ⟨_, rfl⟩
  have t5 : Tch (fun _ => False) w4 w5 := by rw [hw5]; exact (Tch.alloc _ _ _).drew
  have hM5 : w5.heap[M]? = some (.cells #[.int .i64 mn, .int .i64 mx, .slice (some ⟨w.heap.size + 1, 0, none⟩) n (n + 2)] 36 (0, 0)) := by rw [hw5, hM]; exact alloc_new _ _
  have hY5 := (t5.block _ (blk_lt HY4.out) (fun h => h)).trans HY4.out
  have hG5 := (t5.block _ (blk_lt HG4.out) (fun h => h)).trans HG4.out
  have T5 : Tch (fun _ => False) w w5 := HT4.out.trans' t5
  have hir : IR w5 (some ⟨w.heap.size + 1, 0, none⟩) l := fun k y hk => ⟨_, 0, rfl, by
    rw [blk_cell hG5]
    have hkl := (List.getElem?_eq_some_iff.1 hk).1
    simp only [Nat.zero_add]
    rw [List.getElem?_toArray, List.getElem?_append_left (by rw [icI_len]; exact hkl)]
    simp [icI, hk]⟩
  obtain ⟨r, hr⟩ : ∃ r, r = m.sees mn mx l own x := ⟨_, rfl⟩
  -- what stands whatever is asked
  obtain ⟨P, hP⟩ : ∃ P : World → Prop, P = fun W => Tch (fun _ => False) w5 W := ⟨_, rfl⟩
  have HP5 : Hid (P w5) := by show P w5; rw [hP]; exact Tch.refl _ _
  have HPd : Hid (∀ W, P W → P W.drew) := fun W h => by rw [hP] at h ⊢; exact Tch.drew h
  have HPN : Hid (∀ W q, P W → P (W.drewN q)) := fun W q h => by rw [hP] at h ⊢; exact Tch.drewN h q
  have HPc : Hid (∀ W, P W → W.cell? ⟨sb, 0, none⟩ = some (.pointer (some ⟨mb, 0, none⟩)) ∧ W.cell? ⟨sb, 1, none⟩ = some (.pointer (some ⟨rb, 0, none⟩)) ∧ (W.cell? ⟨M, 0, none⟩ = some (.int .i64 mn) ∧ W.cell? ⟨M, 1, none⟩ = some (.int .i64 mx) ∧ W.cell? ⟨M, 2, none⟩ = some (.slice (some ⟨w.heap.size + 1, 0, none⟩) n (n + 2))) ∧ W.cell? ⟨w.heap.size, 0, none⟩ = some (.int .i64 mn) ∧ W.cell? ⟨w.heap.size, 1, none⟩ = some (.int .i64 mx) ∧ W.cell? ⟨w.heap.size, 2, none⟩ = some (.slice lo n lc)) := fun W h => by
    rw [hP] at h
    have hT := T5.trans' h
    have hMW := (h.block M (blk_lt hM5) (fun h => h)).trans hM5
    have hYW := (h.block w.heap.size (blk_lt hY5) (fun h => h)).trans hY5
    exact ⟨by rw [hT.cell (cell_lt HK.out.1) (fun h => h)]; exact HK.out.1, by rw [hT.cell (cell_lt HK.out.2) (fun h => h)]; exact HK.out.2, ⟨by rw [blk_cell hMW]; rfl, by rw [blk_cell hMW]; rfl, by rw [blk_cell hMW]; rfl⟩, by rw [blk_cell hYW]; rfl, by rw [blk_cell hYW]; rfl, by rw [blk_cell hYW]; rfl⟩
  have hn0 := Hn.out
  have Hc1 : Hid (∀ W, P W → Calls Try.prog 75 #[.pointer (some ⟨mb, 0, none⟩), .agg #[.int .i64 mn, .int .i64 mx, .slice (some ⟨w.heap.size + 1, 0, none⟩) n (n + 2)], .int .i64 own, .int .i64 x] W fun y W' => y = .returned (.bool r) ∧ P W') := fun W h => by
    have h' := h
    rw [hP] at h'
    have hT := T5.trans' h'
    rw [hn0, hr]
    refine (sees_f mb m W F (MF.tch HM.out hT (fun _ _ h => h.elim)) mn mx l _ _ (by omega) (hir.no h') own x HX.out.1 HX.out.2.1 HX.out.2.2.1 HX.out.2.2.2).mono ?_
    rintro y W' ⟨rfl, t⟩
    refine ⟨rfl, ?_⟩
    rw [hP]; exact h'.trans' t
  have Hc2 : Hid (∀ W, P W → Calls Try.prog 76 #[.pointer (some ⟨rb, 0, none⟩), .agg #[.int .i64 mn, .int .i64 mx, .slice lo n lc], .int .i64 own, .int .i64 x] W fun y W' => y = .returned (.bool r) ∧ P W') := fun W h => by
    have h' := h
    rw [hP] at h'
    have hT := T5.trans' h'
    rw [hn0, hr]
    refine (rsees_x rb m W G (RF.no HR.out hT) mn mx l lo lc (by omega) (IR.no HI.out hT) own x).mono ?_
    rintro y W' ⟨rfl, t⟩
    refine ⟨rfl, ?_⟩
    rw [hP]; exact h'.trans' t
  have Hc3 : Hid (∀ W, P W → Calls Try.prog 72 #[.slice (some ⟨w.heap.size + 1, 0, none⟩) n (n + 2), .slice lo n lc] W fun y W' => y = .returned (.bool true) ∧ P W') := fun W h => by
    have h' := h
    rw [hP] at h'
    rw [hn0]
    refine (same_true l _ lo _ lc W (hir.no h') (IR.no HI.out (T5.trans' h')) (by omega)).mono ?_
    rintro y W' ⟨rfl, q, rfl⟩
    exact ⟨rfl, HPN.out W q h⟩
  have HPG : Hid (∀ W, P W → W.heap[w.heap.size + 1]? = some (.cells (icI l ++ [Value.int .i64 71, Value.int .i64 72]).toArray 3 (0, 0)) ∧ Tch (fun _ => False) w W ∧ w.heap.size + 1 < W.heap.size) := fun W h => by
    rw [hP] at h
    have hg := (h.block _ (blk_lt hG5) (fun h => h)).trans hG5
    exact ⟨hg, T5.trans' h, blk_lt hg⟩
  have Hw5 : Hid _ := hw5
  have HMM : Hid _ := hM
  clear hP hw5 hM t5 hM5 hY5 hG5 T5 hir hr hn0
  go_region
  have hw5 := Hw5.out
  have hM := HMM.out
  rw [← hw5, ← hM]
  clear hw5 hM Hw5 HMM b0 b1 b2 z0 z1 z2 hle hle2 HY4 HG4 HT4 HM HR HI HX HK
  obtain ⟨C, hC⟩ : ∃ C : List Value → World → Prop, C = fun s W => match s with
    | [] => P W
    | [y] => y = .bool r ∧ P W
    | _ => False := ⟨_, rfl⟩
  have hK : ∀ s W, C s W → W.cell? ⟨sb, 0, none⟩ = some (.pointer (some ⟨mb, 0, none⟩)) ∧ W.cell? ⟨M, 0, none⟩ = some (.int .i64 mn) ∧ W.cell? ⟨M, 1, none⟩ = some (.int .i64 mx) ∧ W.cell? ⟨M, 2, none⟩ = some (.slice (some ⟨w.heap.size + 1, 0, none⟩) n (n + 2)) := fun s W hW => by
    rw [hC] at hW
    match s, hW with
    | [], hW => exact ⟨(HPc.out W hW).1, (HPc.out W hW).2.2.1⟩
    | [_], hW => exact ⟨(HPc.out W hW.2).1, (HPc.out W hW.2).2.2.1⟩
  have h0' : C [] w5.drew := by rw [hC]; exact HPd.out w5 HP5.out
  have t1 : ∀ W, C [] W → Calls Try.prog 75 #[.pointer (some ⟨mb, 0, none⟩), .agg #[.int .i64 mn, .int .i64 mx, .slice (some ⟨w.heap.size + 1, 0, none⟩) n (n + 2)], .int .i64 own, .int .i64 x] W fun x W' => ∃ y, x = .returned y ∧ C [y] W' := fun W hW => by
    rw [hC] at hW ⊢
    exact (Hc1.out W hW).mono (fun x W' ⟨e, h1⟩ => ⟨_, e, rfl, h1⟩)
  have e1 : Hid (∀ y W, C [y] W → y = .bool r) := fun y W hW => by rw [hC] at hW; exact hW.1
  have HE : Hid (∀ y W, C [y] W → P W) := fun y W hW => by rw [hC] at hW; exact hW.2
  clear hC
  go_wp2_with fail
  refine wp_region_barv [7] C (by kernel_rfl) (by kernel_rfl) (by kernel_rfl) h0' ?_
  clear h0'
  refine barv_read (by go_simp) (by rfl) ?_
  apply Exists.intro
  refine ⟨fun s' W hW b K Q hK' => ?_, fun K hK' => ?_⟩
  · obtain ⟨q0, q1, q2, q3⟩ := hK _ W hW
    go_simp
    exact hK' W hW
  go_simp
  refine hK' _ ?_
  clear hK' K
  refine barv_read (by go_simp) (by rfl) ?_
  apply Exists.intro
  refine ⟨fun s' W hW b K Q hK' => ?_, fun K hK' => ?_⟩
  · obtain ⟨q0, q1, q2, q3⟩ := hK _ W hW
    go_simp
    exact hK' W hW
  go_simp
  refine hK' _ ?_
  clear hK' K
  refine barv_read (by go_simp) (by rfl) ?_
  apply Exists.intro
  refine ⟨fun s' W hW b K Q hK' => ?_, fun K hK' => ?_⟩
  · obtain ⟨q0, q1, q2, q3⟩ := hK _ W hW
    go_simp
    exact hK' W hW
  go_simp
  refine hK' _ ?_
  clear hK' K
  refine barv_read (by go_simp) (by rfl) ?_
  apply Exists.intro
  refine ⟨fun s' W hW b K Q hK' => ?_, fun K hK' => ?_⟩
  · obtain ⟨q0, q1, q2, q3⟩ := hK _ W hW
    go_simp
    exact hK' W hW
  go_simp
  refine hK' _ ?_
  clear hK' K
  refine barv_read (by go_simp) (by rfl) ?_
  apply Exists.intro
  refine ⟨fun s' W hW b K Q hK' => ?_, fun K hK' => ?_⟩
  · obtain ⟨q0, q1, q2, q3⟩ := hK _ W hW
    go_simp
    exact hK' W hW
  go_simp
  refine hK' _ ?_
  clear hK' K
  refine barv_read (by go_simp) (by rfl) ?_
  apply Exists.intro
  refine ⟨fun s' W hW b K Q hK' => ?_, fun K hK' => ?_⟩
  · obtain ⟨q0, q1, q2, q3⟩ := hK _ W hW
    go_simp
    exact hK' W hW
  go_simp
  refine hK' _ ?_
  clear hK' K
  refine barv_read (by go_simp) (by rfl) ?_
  apply Exists.intro
  refine ⟨fun s' W hW b K Q hK' => ?_, fun K hK' => ?_⟩
  · obtain ⟨q0, q1, q2, q3⟩ := hK _ W hW
    go_simp
    exact hK' W hW
  go_simp
  refine hK' _ ?_
  clear hK' K
  refine barv_turn (by go_simp) (by rfl) (fun W hW b K Q hK' => ?_) (fun u hu K hK' => ?_)
  · go_simp
    go_at_call 75
    refine (t1 W hW).mono ?_
    rintro x w' ⟨y, rfl, h1⟩
    exact hK' y w' h1
  obtain rfl : u = .bool r := by
    obtain ⟨W', hW'⟩ := hu
    exact e1.out u W' hW'
  clear hu t1 e1
  go_simp
  refine hK' _ ?_
  clear hK' K
  refine barv_read (by go_simp) (by rfl) ?_
  apply Exists.intro
  refine ⟨fun s' W hW b K Q hK' => ?_, fun K hK' => ?_⟩
  · obtain ⟨q0, q1, q2, q3⟩ := hK _ W hW
    go_simp
    exact hK' W hW
  go_simp
  refine hK' _ ?_
  clear hK' K
  refine barv_nil ?_
  intro w6 hw6
  have HP6 : Hid (P w6) := HE.out _ w6 hw6
  clear hK hw6 HE C HP5
  obtain ⟨C, hC⟩ : ∃ C : List Value → World → Prop, C = fun s W => match s with
    | [] => P W
    | [y] => y = .bool r ∧ P W
    | _ => False := ⟨_, rfl⟩
  have hK : ∀ s W, C s W → W.cell? ⟨sb, 1, none⟩ = some (.pointer (some ⟨rb, 0, none⟩)) ∧ W.cell? ⟨w.heap.size, 0, none⟩ = some (.int .i64 mn) ∧ W.cell? ⟨w.heap.size, 1, none⟩ = some (.int .i64 mx) ∧ W.cell? ⟨w.heap.size, 2, none⟩ = some (.slice lo n lc) := fun s W hW => by
    rw [hC] at hW
    match s, hW with
    | [], hW => exact ⟨(HPc.out W hW).2.1, (HPc.out W hW).2.2.2⟩
    | [_], hW => exact ⟨(HPc.out W hW.2).2.1, (HPc.out W hW.2).2.2.2⟩
  have h0' : C [] w6.drew := by rw [hC]; exact HPd.out w6 HP6.out
  have t1 : ∀ W, C [] W → Calls Try.prog 76 #[.pointer (some ⟨rb, 0, none⟩), .agg #[.int .i64 mn, .int .i64 mx, .slice lo n lc], .int .i64 own, .int .i64 x] W fun x W' => ∃ y, x = .returned y ∧ C [y] W' := fun W hW => by
    rw [hC] at hW ⊢
    exact (Hc2.out W hW).mono (fun x W' ⟨e, h1⟩ => ⟨_, e, rfl, h1⟩)
  have e1 : Hid (∀ y W, C [y] W → y = .bool r) := fun y W hW => by rw [hC] at hW; exact hW.1
  have HE : Hid (∀ y W, C [y] W → P W) := fun y W hW => by rw [hC] at hW; exact hW.2
  clear hC
  go_wp2_with fail
  refine wp_region_barv [7] C (by kernel_rfl) (by kernel_rfl) (by kernel_rfl) h0' ?_
  clear h0'
  refine barv_read (by go_simp) (by rfl) ?_
  apply Exists.intro
  refine ⟨fun s' W hW b K Q hK' => ?_, fun K hK' => ?_⟩
  · obtain ⟨q0, q1, q2, q3⟩ := hK _ W hW
    go_simp
    exact hK' W hW
  go_simp
  refine hK' _ ?_
  clear hK' K
  refine barv_read (by go_simp) (by rfl) ?_
  apply Exists.intro
  refine ⟨fun s' W hW b K Q hK' => ?_, fun K hK' => ?_⟩
  · obtain ⟨q0, q1, q2, q3⟩ := hK _ W hW
    go_simp
    exact hK' W hW
  go_simp
  refine hK' _ ?_
  clear hK' K
  refine barv_read (by go_simp) (by rfl) ?_
  apply Exists.intro
  refine ⟨fun s' W hW b K Q hK' => ?_, fun K hK' => ?_⟩
  · obtain ⟨q0, q1, q2, q3⟩ := hK _ W hW
    go_simp
    exact hK' W hW
  go_simp
  refine hK' _ ?_
  clear hK' K
  refine barv_read (by go_simp) (by rfl) ?_
  apply Exists.intro
  refine ⟨fun s' W hW b K Q hK' => ?_, fun K hK' => ?_⟩
  · obtain ⟨q0, q1, q2, q3⟩ := hK _ W hW
    go_simp
    exact hK' W hW
  go_simp
  refine hK' _ ?_
  clear hK' K
  refine barv_read (by go_simp) (by rfl) ?_
  apply Exists.intro
  refine ⟨fun s' W hW b K Q hK' => ?_, fun K hK' => ?_⟩
  · obtain ⟨q0, q1, q2, q3⟩ := hK _ W hW
    go_simp
    exact hK' W hW
  go_simp
  refine hK' _ ?_
  clear hK' K
  refine barv_read (by go_simp) (by rfl) ?_
  apply Exists.intro
  refine ⟨fun s' W hW b K Q hK' => ?_, fun K hK' => ?_⟩
  · obtain ⟨q0, q1, q2, q3⟩ := hK _ W hW
    go_simp
    exact hK' W hW
  go_simp
  refine hK' _ ?_
  clear hK' K
  refine barv_read (by go_simp) (by rfl) ?_
  apply Exists.intro
  refine ⟨fun s' W hW b K Q hK' => ?_, fun K hK' => ?_⟩
  · obtain ⟨q0, q1, q2, q3⟩ := hK _ W hW
    go_simp
    exact hK' W hW
  go_simp
  refine hK' _ ?_
  clear hK' K
  refine barv_turn (by go_simp) (by rfl) (fun W hW b K Q hK' => ?_) (fun u hu K hK' => ?_)
  · go_simp
    go_at_call 76
    refine (t1 W hW).mono ?_
    rintro x w' ⟨y, rfl, h1⟩
    exact hK' y w' h1
  obtain rfl : u = .bool r := by
    obtain ⟨W', hW'⟩ := hu
    exact e1.out u W' hW'
  clear hu t1 e1
  go_simp
  refine hK' _ ?_
  clear hK' K
  refine barv_read (by go_simp) (by rfl) ?_
  apply Exists.intro
  refine ⟨fun s' W hW b K Q hK' => ?_, fun K hK' => ?_⟩
  · obtain ⟨q0, q1, q2, q3⟩ := hK _ W hW
    go_simp
    exact hK' W hW
  go_simp
  refine hK' _ ?_
  clear hK' K
  refine barv_nil ?_
  intro w7 hw7
  have hp7 := HE.out _ w7 hw7
  have q3 := Hc3.out w7 hp7
  obtain ⟨-, -, ⟨-, -, j2⟩, -, -, j3⟩ := HPc.out w7 hp7
  clear hK hw7 HE C HP6 hp7
  go_wp2_with fail
  refine q3.mono ?_
  rintro y w8 ⟨rfl, hp8⟩
  obtain ⟨hg8, T8, hs8⟩ := HPG.out w8 hp8
  obtain ⟨-, -, -, -, -, j3'⟩ := HPc.out w8 hp8
  have HJ : Hid (w8.cell? ⟨w.heap.size, 2, none⟩ = some (.slice lo n lc)) := j3'
  have HI0 : Hid (∃ cur, w8.heap[w.heap.size + 1]? = some (.cells cur 3 (0, 0)) ∧ cur.size = n + 2 ∧ cur[n]? = some (.int .i64 71) ∧ cur[n + 1]? = some (.int .i64 72)) := ⟨_, hg8, by simp [icI_len, Hn.out], by simp [icI_len, Hn.out], by simp [icI_len, Hn.out]⟩
  have HT8 : Hid _ := T8
  have Hs8 : Hid _ := hs8
  clear q3 hp8 hg8 T8 hs8 j2 j3 j3'
  go_wp2_with fail
  go_loopw [14] (fun v wr => ∃ k : Nat, v = .int .i64 k ∧ k ≤ n ∧ Hid (∃ cur, wr.heap[w.heap.size + 1]? = some (.cells cur 3 (0, 0)) ∧ cur.size = n + 2 ∧ cur[n]? = some (.int .i64 71) ∧ cur[n + 1]? = some (.int .i64 72)) ∧ Hid (Tch (fun i => i = w.heap.size + 1) w8 wr)) (fun v _ => n - (intOf v).toNat)
  case atStart => exact ⟨0, rfl, by omega, HI0, Tch.refl _ _⟩
  case round =>
    obtain ⟨k, rfl, hk, HC, HT⟩ := hrel
    have j3 : wr.cell? ⟨w.heap.size, 2, none⟩ = some (.slice lo n lc) := by rw [HT.out.cell (cell_lt HJ.out) (by show ¬ w.heap.size = w.heap.size + 1; omega)]; exact HJ.out
    by_cases hlt : (k : Int) < n
    · obtain ⟨cur, hg, hsz, c71, c72⟩ := HC.out
      have d : wr.cell? ⟨w.heap.size + 1, k, none⟩ = some (cur[k]'(by omega)) := by rw [blk_cell hg]; exact Array.getElem?_eq_getElem (by omega)
      have fz := blk_frozen hg k
      have HC2 : Hid (∃ cur, (wr.setCell ⟨w.heap.size + 1, k, none⟩ (.int .i64 5)).heap[w.heap.size + 1]? = some (.cells cur 3 (0, 0)) ∧ cur.size = n + 2 ∧ cur[n]? = some (.int .i64 71) ∧ cur[n + 1]? = some (.int .i64 72)) := ⟨_, blk_set hg _, by rw [Array.size_setIfInBounds]; exact hsz, by rw [Array.getElem?_setIfInBounds_ne (by omega)]; exact c71, by rw [Array.getElem?_setIfInBounds_ne (by omega)]; exact c72⟩
      have HT2 : Hid (Tch (fun i => i = w.heap.size + 1) w8 (wr.setCell ⟨w.heap.size + 1, k, none⟩ (.int .i64 5))) := HT.out.setCellR _ _ rfl
      have hk2 : (k : Int) < (n : Int) + 2 := by omega
      obtain ⟨u0, hu0⟩ : ∃ u0, u0 = cur[k]'(by omega) := ⟨_, rfl⟩
      rw [← hu0] at d
      clear hg hsz c71 c72 hu0
      go_wp2_with fail
      go_roundw
      case rel => exact ⟨k + 1, by go_num, by omega, HC2, HT2⟩
      case measure => simp [intOf]; omega
    · obtain ⟨cur, hg, hsz, c71, c72⟩ := HC.out
      have d1 : wr.cell? ⟨w.heap.size + 1, n, none⟩ = some (.int .i64 71) := by rw [blk_cell hg]; exact c71
      have d2 : wr.cell? ⟨w.heap.size + 1, n + 1, none⟩ = some (.int .i64 72) := by rw [blk_cell hg]; exact c72
      have HF : Hid (Tch (fun _ => False) w wr) := HT8.out.trans HT.out (fun i hi e => by omega)
      have hk1 : (n : Int) < (n : Int) + 2 := by omega
      have hk2 : (n : Int) + 1 < (n : Int) + 2 := by omega
      clear hg hsz c71 c72
      cases r with
      | true =>
        go_wp2_with fail
        go_ret
        exact ⟨rfl, HF.out⟩
      | false =>
        go_wp2_with fail
        go_ret
        exact ⟨rfl, HF.out⟩
end Go.Proofs.Ytolobljlkdacjaa
