import Derived.Test.YtolamjipigfocaaCWid
import Derived.Test.YtolamjipigfocaaCChgD
/- change, with a widening. -/
namespace Go.Proofs.Ytolamjipigfocaa
open Go.RowKit Go

set_option maxHeartbeats 4000000 in
set_option maxRecDepth 100000 in
theorem change_widen (b : Nat) (L : List Tbl) (gv : Int) (P : List (Tbl × Value)) (to : Option Addr) (tc : Nat) (F : Nat → Prop) (nm : ByteArray) (x : Col) (E : Int) (t0 : Tbl) (L' : List Tbl) (g' : Int) (w : World) (h : CA w F b L gv P to tc) (hl : P.length ≤ 16) (h8 : ∀ i (hi : i < P.length), P[i].1.cols.length ≤ 8) (ht8 : t0.cols.length ≤ 8) (hF : ∀ i, F i → i < w.heap.size)
    (hon : ∀ W d Q tv, Tch (fun _ => False) w W → w.heap.size + 1 ≤ W.heap.size → Q.length = P.length → CO W (w.heap.size + 1) d L gv Q tv → Calls Try.prog 47 #[.agg #[.string nm, .string x.nm, .int .i64 x.k, .bool x.nl], .pointer (some ⟨d, 0, none⟩)] W fun x w' => OnOut (w.heap.size + 1) d E (TX b w.heap.size t0) L' g' x w' ∧ Tch (fun i => w.heap.size + 1 ≤ i) W w') :
    Calls Try.prog 38 #[.pointer (some ⟨b, 0, none⟩), .func (.func 47) #[.agg #[.string nm, .string x.nm, .int .i64 x.k, .bool x.nl]] #[]] w fun x w' => ChgOut F b E t0 L' g' w x w' := by
  obtain ⟨N, hN⟩ : ∃ N, N = w.heap.size := ⟨_, rfl⟩
  obtain ⟨w0, hw0⟩ : ∃ w0, w0 = w.alloc (.cells #[.int .i64 0, .int .i64 0, .string ⟨#[]⟩, .slice none 0 0, .int .i64 0] 36) := ⟨_, rfl⟩
  have t00 : Tch (fun _ => False) w w0 := by rw [hw0]; exact Tch.alloc _ _ _
  have hs0 : w0.heap.size = N + 1 := by rw [hw0, World.size_alloc, hN]
  have hY : w0.heap[N]? = some (.cells #[.int .i64 0, .int .i64 0, .string ⟨#[]⟩, .slice none 0 0, .int .i64 0] 36 (0, 0)) := by rw [hw0, hN]; exact alloc_new _ _
  have q1 := clone_any b L gv P to tc F w0 (h.tch t00 (fun _ _ h => h.elim)) hl h8
  rw [hs0] at q1
  have hPL : P.length = L.length := by rw [← h.eq]; simp
  have hbN : b < N := by rw [hN]; exact blk_lt h.blk
  have Hb : Hid (∀ W, Tch (fun _ => False) w W → W.heap[b]? = some (.cells #[.slice to P.length tc, .int .i64 gv] 55 (0, 0))) := fun W tW => (h.tch tW (fun _ _ h => h.elim)).blk
  have HY : Hid (w0.heap[N]? = some (.cells #[.int .i64 0, .int .i64 0, .string ⟨#[]⟩, .slice none 0 0, .int .i64 0] 36 (0, 0))) := hY
  have Hw0 : Hid _ := hw0
  have HN : Hid (N = w.heap.size) := hN
  have Ht0 : Hid (Tch (fun _ => False) w w0) := t00
  have Hs0 : Hid (w0.heap.size = N + 1) := hs0
  have Hnb : Hid (¬ F b) := h.nb
  have HPL : Hid (P.length = L.length) := hPL
  have Hon : Hid _ := hon
  have HF : Hid _ := hF
  clear h hw0 hN hY t00 hs0 hPL hon h8 hF
  go_enter Try.func38, Try.ntmps38
  go_wp2_with fail
  rw [← HN.out]
  have hw0 := Hw0.out
  rw [← hw0]
  clear hw0
  refine q1.mono ?_
  rintro x w1 ⟨⟨d, tv, Q, rfl, hCO⟩, t1⟩
  clear q1
  have hQl : Q.length = P.length := by have h1 := congrArg List.length hCO.eq; rw [List.length_map] at h1; rw [h1, HPL.out]
  have q2 := Hon.out w1 d Q tv (Ht0.out.trans' t1) (by have := t1.size; have := Hs0.out; have := HN.out; omega) hQl (by rw [← HN.out]; exact hCO)
  rw [← HN.out] at q2
  have HdN : Hid (N < d ∧ d < w1.heap.size) := ⟨by have := hCO.ge; show N < d; omega, blk_lt hCO.blk⟩
  clear hCO
  go_wp2_with fail
  refine q2.mono ?_
  rintro x w2 ⟨hO, t2⟩
  clear q2
  have T2 : Tch (fun _ => False) w w2 := (Ht0.out.trans' t1).trans t2 (fun i hi h => by have := HN.out; omega)
  have hY2 : w2.heap[N]? = some (.cells #[.int .i64 0, .int .i64 0, .string ⟨#[]⟩, .slice none 0 0, .int .i64 0] 36 (0, 0)) := by
    rw [t2.block N (Nat.lt_of_lt_of_le (blk_lt HY.out) t1.size) (by omega), t1.block N (blk_lt HY.out) (fun h => h)]; exact HY.out
  have HY2 : Hid (w2.heap[N]? = some (.cells #[.int .i64 0, .int .i64 0, .string ⟨#[]⟩, .slice none 0 0, .int .i64 0] 36 (0, 0))) := hY2
  have HT2 : Hid (Tch (fun _ => False) w w2) := T2
  have hrs : Try.f38.results = #[.cell 4 36, .tmp 5] := by kernel_rfl
  have Hrs : Hid _ := hrs
  clear hY2 T2 hrs
  by_cases hE : E = 0
  · subst hE
    obtain ⟨v, Pd, tvd, rfl, ⟨co, cc, rfl, hsl, hno, hnb⟩, hCO2⟩ := hO.1 rfl
    clear hO
    obtain ⟨tdo, tdc, htd⟩ := row_slice hCO2.to.own
    subst htd
    have d0 : w2.cell? ⟨d, 0, none⟩ = some (.slice tdo Pd.length tdc) := by rw [blk_cell hCO2.blk]; rfl
    have d1 : w2.cell? ⟨d, 1, none⟩ = some (.int .i64 g') := by rw [blk_cell hCO2.blk]; rfl
    have hb2 := Hb.out w2 HT2.out
    have b0 : w2.cell? ⟨b, 0, none⟩ = some (.slice to P.length tc) := by rw [blk_cell hb2]; rfl
    have b1 : w2.cell? ⟨b, 1, none⟩ = some (.int .i64 gv) := by rw [blk_cell hb2]; rfl
    have f0 := blk_frozen hb2 0
    have f1 := blk_frozen hb2 1
    obtain ⟨B, hB⟩ : ∃ B, B = w2.heap.size := ⟨_, rfl⟩
    obtain ⟨w3, hw3⟩ : ∃ w3, w3 = w2.alloc (.cells #[.int .i64 t0.id, .int .i64 t0.ver, .string t0.nm, .slice co t0.cols.length cc, .int .i64 t0.key] 36) := ⟨_, rfl⟩
    have t3 : Tch (fun _ => False) w2 w3 := by rw [hw3]; exact Tch.alloc _ _ _
    have key3 : ∀ i j v, w2.cell? ⟨i, j, none⟩ = some v → w3.cell? ⟨i, j, none⟩ = some v := fun i j v hv => (t3.cell (p := ⟨i, j, none⟩) (cell_lt hv) (fun h => h)).trans hv
    have keyf : ∀ i j, i < w2.heap.size → w3.frozen? ⟨i, j, none⟩ = w2.frozen? ⟨i, j, none⟩ := fun i j hi => t3.frozen (p := ⟨i, j, none⟩) hi (fun h => h)
    have hbl2 : b < w2.heap.size := blk_lt hb2
    have e0 := key3 _ _ _ d0; have e1 := key3 _ _ _ d1; have c0 := key3 _ _ _ b0; have c1 := key3 _ _ _ b1
    have h0 : w3.frozen? ⟨b, 0, none⟩ = false := (keyf b 0 hbl2).trans f0
    have h1 : w3.frozen? ⟨b, 1, none⟩ = false := (keyf b 1 hbl2).trans f1
    have hbx3 : w3.heap[B]? = some (.cells #[.int .i64 t0.id, .int .i64 t0.ver, .string t0.nm, .slice co t0.cols.length cc, .int .i64 t0.key] 36 (0, 0)) := by rw [hw3, hB]; exact alloc_new _ _
    obtain ⟨w4, hw4⟩ : ∃ w4, w4 = (w3.setCell ⟨b, 0, none⟩ (.slice tdo Pd.length tdc)).setCell ⟨b, 1, none⟩ (.int .i64 g') := ⟨_, rfl⟩
    have t4 : Tch (fun i => i = b) w3 w4 := by rw [hw4]; exact (Tch.setCell (fun i => i = b) w3 ⟨b, 0, none⟩ _ rfl).setCellR ⟨b, 1, none⟩ _ rfl
    have hBb : B ≠ b := by omega
    have hbx4 : w4.heap[B]? = some (.cells #[.int .i64 t0.id, .int .i64 t0.ver, .string t0.nm, .slice co t0.cols.length cc, .int .i64 t0.key] 36 (0, 0)) := by rw [t4.block B (blk_lt hbx3) hBb]; exact hbx3
    have hb4 : w4.heap[b]? = some (.cells #[.slice tdo Pd.length tdc, .int .i64 g'] 55 (0, 0)) := by
      have hb3 : w3.heap[b]? = some (.cells #[.slice to P.length tc, .int .i64 gv] 55 (0, 0)) := by rw [t3.block b hbl2 (fun h => h)]; exact hb2
      rw [hw4, blk_set (blk_set hb3 _) _]; rfl
    obtain ⟨x0, x1, x2, x3, x4⟩ : w4.cell? ⟨B, 0, none⟩ = some (.int .i64 t0.id) ∧ w4.cell? ⟨B, 1, none⟩ = some (.int .i64 t0.ver) ∧ w4.cell? ⟨B, 2, none⟩ = some (.string t0.nm) ∧ w4.cell? ⟨B, 3, none⟩ = some (.slice co t0.cols.length cc) ∧ w4.cell? ⟨B, 4, none⟩ = some (.int .i64 t0.key) := ⟨by rw [blk_cell hbx4]; rfl, by rw [blk_cell hbx4]; rfl, by rw [blk_cell hbx4]; rfl, by rw [blk_cell hbx4]; rfl, by rw [blk_cell hbx4]; rfl⟩
    have T24 : Tch (fun i => i = b) w2 w4 := (t3.mono (fun _ _ h => h.elim)).trans' t4
    have hsl4 : SL w4 co (ccl t0.cols) := by
      by_cases hc : t0.cols = []
      · rw [hc]; exact SL.nil _ _
      · exact hsl.tch T24 (fun g o e => (hnb g o e hc).1)
    have q5 := copied_any t0 co cc w4 hsl4 hno (by omega)
    have Hw3 : Hid _ := hw3
    have Hw4 : Hid _ := hw4
    have HB : Hid (B = w2.heap.size) := hB
    rw [hw4] at x0 x1 x2 x3 x4
    rw [hw3] at e0 e1 c0 c1 h0 h1
    rw [hw3, hB] at x0 x1 x2 x3 x4
    have HT24 : Hid (Tch (fun i => i = b) w2 w4) := T24
    have Hb4 : Hid (w4.heap[b]? = some (.cells #[.slice tdo Pd.length tdc, .int .i64 g'] 55 (0, 0))) := hb4
    have HCO2 : Hid _ := hCO2
    clear hw3 hw4 hB hbx3 hbx4 hb4 hb2 key3 keyf t3 t4 T24 hsl4 hsl hno hnb d0 d1 b0 b1 f0 f1 hCO2 hbl2 hBb
    go_wp2_with fail
    have hw3 := Hw3.out
    rw [← hw3]
    have hw4 := Hw4.out
    rw [← hw4]
    clear hw3 hw4 x0 x1 x2 x3 x4 e0 e1 c0 c1 h0 h1
    refine q5.mono ?_
    rintro y w5 ⟨⟨v5, rfl, hv5⟩, t5⟩
    clear q5
    obtain ⟨vo, vc, hvv⟩ := row_slice hv5
    subst hvv
    have hY5 : w5.heap[N]? = some (.cells #[.int .i64 0, .int .i64 0, .string ⟨#[]⟩, .slice none 0 0, .int .i64 0] 36 (0, 0)) := by
      rw [t5.block N (Nat.lt_of_lt_of_le (blk_lt HY2.out) HT24.out.size) (fun h => h), HT24.out.block N (blk_lt HY2.out) (by omega)]; exact HY2.out
    obtain ⟨z0, z1, z2, z3, z4⟩ : w5.cell? ⟨N, 0, none⟩ = some (.int .i64 0) ∧ w5.cell? ⟨N, 1, none⟩ = some (.int .i64 0) ∧ w5.cell? ⟨N, 2, none⟩ = some (.string ⟨#[]⟩) ∧ w5.cell? ⟨N, 3, none⟩ = some (.slice none 0 0) ∧ w5.cell? ⟨N, 4, none⟩ = some (.int .i64 0) := ⟨by rw [blk_cell hY5]; rfl, by rw [blk_cell hY5]; rfl, by rw [blk_cell hY5]; rfl, by rw [blk_cell hY5]; rfl, by rw [blk_cell hY5]; rfl⟩
    have f0 := blk_frozen hY5 0; have f1 := blk_frozen hY5 1; have f2 := blk_frozen hY5 2; have f3 := blk_frozen hY5 3; have f4 := blk_frozen hY5 4
    have HFin : Hid (∀ W', W' = ((((w5.setCell ⟨N, 0, none⟩ (.int .i64 t0.id)).setCell ⟨N, 1, none⟩ (.int .i64 t0.ver)).setCell ⟨N, 2, none⟩ (.string t0.nm)).setCell ⟨N, 3, none⟩ (.slice vo t0.cols.length vc)).setCell ⟨N, 4, none⟩ (.int .i64 t0.key) → (∀ tmps : Array Value, tmps[4]?.getD undef = .pointer (some ⟨N, 0, none⟩) → tmps[5]?.getD undef = .int .i64 0 → (results Try.f38 tmps).run Try.prog W' = .ok (.tuple #[tA t0.id t0.ver t0.nm (.slice vo t0.cols.length vc) t0.key, .int .i64 0]) W') ∧ ChgOut F b 0 t0 L' g' w (.returned (.tuple #[tA t0.id t0.ver t0.nm (.slice vo t0.cols.length vc) t0.key, .int .i64 0])) W') := fun W' hW' => by
      have tE : Tch (fun i => i = N) w5 W' := by rw [hW']; exact ((((Tch.setCell (fun i => i = N) w5 ⟨N, 0, none⟩ _ rfl).setCellR ⟨N, 1, none⟩ _ rfl).setCellR ⟨N, 2, none⟩ _ rfl).setCellR ⟨N, 3, none⟩ _ rfl).setCellR ⟨N, 4, none⟩ _ rfl
      have hb : W'.heap[N]? = some (.cells #[.int .i64 t0.id, .int .i64 t0.ver, .string t0.nm, .slice vo t0.cols.length vc, .int .i64 t0.key] 36 (0, 0)) := by
        rw [hW', blk_set (blk_set (blk_set (blk_set (blk_set hY5 _) _) _) _) _]; rfl
      have hsz4 := HT24.out.size
      have hsz2 := HT2.out.size
      have hNw := HN.out
      have h2N : N < w2.heap.size := blk_lt HY2.out
      have hCO := HCO2.out
      have hTO : TO W' (N + 1) (.slice tdo Pd.length tdc) Pd := ((hCO.to.tch HT24.out (fun i hi _ h => by omega)).tch t5 (fun _ _ _ h => h)).tch tE (fun i hi _ h => by omega)
      refine ⟨fun tmps h4 h5 => res_pair Hrs.out h4 h5 (by rw [blk_cell hb]; rfl) (by rw [blk_cell hb]; rfl) (by rw [blk_cell hb]; rfl) (by rw [blk_cell hb]; rfl) (by rw [blk_cell hb]; rfl), fun _ => ⟨.slice vo t0.cols.length vc, Pd, tdo, tdc, rfl, ?_, ⟨?_, hCO.eq, hTO.tl' (fun g hg hf => ?_), fun hf => ?_⟩, ?_⟩, fun e => absurd rfl e⟩
      · exact own_low (own_tch hv5 tE (fun g e h => by have := (hv5.lt g e).1; omega)) (by omega)
      · rw [tE.block b (Nat.lt_of_lt_of_le (blk_lt Hb4.out) t5.size) (by omega), t5.block b (blk_lt Hb4.out) (fun h => h)]; exact Hb4.out
      · have hgb : N + 1 ≤ g ∧ g < w2.heap.size := by
          rcases hg with hg | ⟨i, hi, hg⟩
          · exact hCO.to.own.lt g hg
          · exact (hCO.to.col i hi).lt g hg
        rcases hf with (hf | hf) | hf
        · have := HF.out g hf; omega
        · have := (hv5.lt g hf).1; omega
        · omega
      · rcases hf with hf | hf
        · exact Hnb.out hf
        · have := (hv5.lt b hf).1; omega
      · exact ((HT2.out.mono (T := fun i => i = b) (fun _ _ h => h.elim)).trans' (HT24.out.trans' (t5.mono (fun _ _ h => h.elim)))).trans tE (fun i hi h => by omega)
    clear hv5 hY5
    go_wp2_with fail
    refine bodyPost_ret ((HFin.out _ rfl).1 _ ?_ ?_) rfl (HFin.out _ rfl).2 <;> rfl
  · obtain ⟨rfl, tvx, gvx, nx, xsx, hbx, hgx, hox, hnx, _⟩ := hO.2 hE
    obtain ⟨w3, hcl, t3⟩ := clear_own hox
    have d0 : w2.cell? ⟨d, 0, none⟩ = some tvx := by rw [blk_cell hbx]; rfl
    obtain ⟨txo, txc, htx⟩ := row_slice hox
    subst htx
    have hb4 : (E != 0) = true := by simpa using hE
    have HE : Hid (E ≠ 0) := hE
    have Hox : Hid (∀ g, (Value.slice txo nx txc).ownBlock = some g → N + 1 ≤ g ∧ g < w2.heap.size) := fun g e => hox.lt g e
    have Ht3 : Hid _ := t3
    obtain ⟨w2a, hw2a⟩ : ∃ w2a, w2a = w2.alloc (.cells #[.int .i64 0, .int .i64 0, .string ⟨#[]⟩, .slice none 0 0, .int .i64 0] 36) := ⟨_, rfl⟩
    have ta : Tch (fun _ => False) w2 w2a := by rw [hw2a]; exact Tch.alloc _ _ _
    obtain ⟨w4, hcl4, t4⟩ := clear_own (own_tch hox ta (fun _ _ h => h))
    have d0a : w2a.cell? ⟨d, 0, none⟩ = some (.slice txo nx txc) := (ta.cell (p := ⟨d, 0, none⟩) (cell_lt d0) (fun h => h)).trans d0
    rw [hw2a] at d0a hcl4
    have hY4 : w4.heap[N]? = some (.cells #[.int .i64 0, .int .i64 0, .string ⟨#[]⟩, .slice none 0 0, .int .i64 0] 36 (0, 0)) := by
      rw [t4.block N (Nat.lt_of_lt_of_le (blk_lt HY2.out) ta.size) (fun e => by have := (Hox.out N e).1; omega), ta.block N (blk_lt HY2.out) (fun h => h)]; exact HY2.out
    obtain ⟨z0, z1, z2, z3, z4⟩ : w4.cell? ⟨N, 0, none⟩ = some (.int .i64 0) ∧ w4.cell? ⟨N, 1, none⟩ = some (.int .i64 0) ∧ w4.cell? ⟨N, 2, none⟩ = some (.string ⟨#[]⟩) ∧ w4.cell? ⟨N, 3, none⟩ = some (.slice none 0 0) ∧ w4.cell? ⟨N, 4, none⟩ = some (.int .i64 0) := ⟨by rw [blk_cell hY4]; rfl, by rw [blk_cell hY4]; rfl, by rw [blk_cell hY4]; rfl, by rw [blk_cell hY4]; rfl, by rw [blk_cell hY4]; rfl⟩
    have f0 := blk_frozen hY4 0; have f1 := blk_frozen hY4 1; have f2 := blk_frozen hY4 2; have f3 := blk_frozen hY4 3; have f4 := blk_frozen hY4 4
    have HFin : Hid (∀ W', W' = ((((w4.setCell ⟨N, 0, none⟩ (.int .i64 0)).setCell ⟨N, 1, none⟩ (.int .i64 0)).setCell ⟨N, 2, none⟩ (.string ⟨#[]⟩)).setCell ⟨N, 3, none⟩ (.slice none 0 0)).setCell ⟨N, 4, none⟩ (.int .i64 0) → (∀ tmps : Array Value, tmps[4]?.getD undef = .pointer (some ⟨N, 0, none⟩) → tmps[5]?.getD undef = .int .i64 E → (results Try.f38 tmps).run Try.prog W' = .ok (.tuple #[zA, .int .i64 E]) W') ∧ ChgOut F b E t0 L' g' w (.returned (.tuple #[zA, .int .i64 E])) W') := fun W' hW' => by
      have tE : Tch (fun i => i = N) w4 W' := by rw [hW']; exact ((((Tch.setCell (fun i => i = N) w4 ⟨N, 0, none⟩ _ rfl).setCellR ⟨N, 1, none⟩ _ rfl).setCellR ⟨N, 2, none⟩ _ rfl).setCellR ⟨N, 3, none⟩ _ rfl).setCellR ⟨N, 4, none⟩ _ rfl
      have hb : W'.heap[N]? = some (.cells #[.int .i64 0, .int .i64 0, .string ⟨#[]⟩, .slice none 0 0, .int .i64 0] 36 (0, 0)) := by
        rw [hW', blk_set (blk_set (blk_set (blk_set (blk_set hY4 _) _) _) _) _]; rfl
      refine ⟨fun tmps h4 h5 => res_pair Hrs.out h4 h5 (by rw [blk_cell hb]; rfl) (by rw [blk_cell hb]; rfl) (by rw [blk_cell hb]; rfl) (by rw [blk_cell hb]; rfl) (by rw [blk_cell hb]; rfl), fun e => absurd e HE.out, fun _ => ⟨rfl, ?_⟩⟩
      have hNw := HN.out
      exact ((HT2.out.trans' ta).trans t4 (fun i hi e => by have := (Hox.out i e).1; omega)).trans tE (fun i hi h => by omega)
    clear hY4 hE d0 hcl t3 hbx hox ta t4 hw2a
    go_wp2_with fail
    refine bodyPost_ret ((HFin.out _ rfl).1 _ ?_ ?_) rfl (HFin.out _ rfl).2 <;> rfl
end Go.Proofs.Ytolamjipigfocaa
/- Widen of the code. -/
namespace Go.Proofs.Ytolamjipigfocaa
open Go.RowKit Go

theorem posP_congr (f : Tbl → Bool) : ∀ {P Q : List (Tbl × Value)}, P.map Prod.fst = Q.map Prod.fst → posP f P = posP f Q
  | [], [], _ => rfl
  | [], _ :: _, h => by simp at h
  | _ :: _, [], h => by simp at h
  | p :: P, q :: Q, h => by
    simp only [List.map_cons, List.cons.injEq] at h
    unfold posP
    rw [h.1, posP_congr f h.2]
theorem chg_low {F : Nat → Prop} {b : Nat} {E : Int} {t0 : Tbl} {L' : List Tbl} {g' : Int} {w w0 W' : World} {x : Ending} (hw : Tch (fun _ => False) w w0) (h : ChgOut F b E t0 L' g' w0 x W') : ChgOut F b E t0 L' g' w x W' := by
  refine ⟨fun e => ?_, fun e => ?_⟩
  · obtain ⟨v, P, to, tc, hx, hv, hca, ht⟩ := h.1 e
    exact ⟨v, P, to, tc, hx, own_low hv hw.size, hca, (hw.mono (fun _ _ h => h.elim)).trans' ht⟩
  · obtain ⟨hx, ht⟩ := h.2 e
    exact ⟨hx, hw.trans' ht⟩

set_option maxHeartbeats 4000000 in
set_option maxRecDepth 100000 in
theorem widen_any (b : Nat) (L : List Tbl) (gv : Int) (P : List (Tbl × Value)) (to : Option Addr) (tc : Nat) (F : Nat → Prop) (nm : ByteArray) (x : Col) (k : Nat) (hk : k < P.length) (w : World) (h : CA w F b L gv P to tc) (hl : P.length ≤ 16) (h8 : ∀ i (hi : i < P.length), P[i].1.cols.length ≤ 8) (hF : ∀ i, F i → i < w.heap.size)
    (hpos : posP (fun t => decide (t.nm = nm)) P = k) (hver : 0 ≤ P[k].1.ver ∧ P[k].1.ver ≤ 2147483647) :
    Calls Try.prog 23 #[.pointer (some ⟨b, 0, none⟩), .string nm, cA x.nm x.k x.nl] w fun y w' => ChgOut F b (widE P[k].1 x) (widT P[k].1 x) (L.set k (widT P[k].1 x)) gv w y w' := by
  obtain ⟨w00, hw00⟩ : ∃ w00, w00 = w.alloc (.cells #[.string x.nm, .int .i64 x.k, .bool x.nl] 43) := ⟨_, rfl⟩
  obtain ⟨M, hM⟩ : ∃ M, M = w.heap.size := ⟨_, rfl⟩
  have t00 : Tch (fun _ => False) w w00 := by rw [hw00]; exact Tch.alloc _ _ _
  obtain ⟨N, hN⟩ : ∃ N, N = M + 1 := ⟨_, rfl⟩
  have hNw : N = w00.heap.size := by rw [hw00, World.size_alloc, hN, hM]
  obtain ⟨w0, hw0⟩ : ∃ w0, w0 = w00.alloc (.cells #[.int .i64 0, .int .i64 0, .string ⟨#[]⟩, .slice none 0 0, .int .i64 0] 36) := ⟨_, rfl⟩
  have t0 : Tch (fun _ => False) w00 w0 := by rw [hw0]; exact Tch.alloc _ _ _
  have hs0 : w0.heap.size = N + 1 := by rw [hw0, World.size_alloc, hNw]
  have hY : w0.heap[N]? = some (.cells #[.int .i64 0, .int .i64 0, .string ⟨#[]⟩, .slice none 0 0, .int .i64 0] 36 (0, 0)) := by rw [hw0, hNw]; exact alloc_new _ _
  have hXc : w00.heap[M]? = some (.cells #[.string x.nm, .int .i64 x.k, .bool x.nl] 43 (0, 0)) := by rw [hw00, hM]; exact alloc_new _ _
  have hX : w0.heap[M]? = some (.cells #[.string x.nm, .int .i64 x.k, .bool x.nl] 43 (0, 0)) := by rw [t0.block M (blk_lt hXc) (fun h => h)]; exact hXc
  have hbN : b < M := by rw [hM]; exact blk_lt h.blk
  obtain ⟨t, ht⟩ : ∃ t, t = P[k].1 := ⟨_, rfl⟩
  rw [← ht] at hver ⊢
  obtain ⟨E, hE⟩ : ∃ E, E = widE t x := ⟨_, rfl⟩
  have ht8 : E = 0 → (widT t x).cols.length ≤ 8 := fun e => by
    rw [hE] at e
    unfold widE at e
    split at e
    · rename_i h2; exact absurd e h2
    · rename_i h2
      have h3 : colsE (t.cols ++ [x]) = 0 := Classical.byContradiction h2
      unfold colsE at h3
      split at h3
      · simp at h3
      · rename_i h4
        show (t.cols ++ [x]).length ≤ 8
        omega
  have q1 : Calls Try.prog 38 #[.pointer (some ⟨b, 0, none⟩), .func (.func 47) #[.agg #[.string nm, .string x.nm, .int .i64 x.k, .bool x.nl]] #[]] w0 fun y w' => ChgOut (fun i => F i ∨ i = N) b E (widT t x) (L.set k (widT t x)) gv w0 y w' := by
    have hca : CA w0 (fun i => F i ∨ i = N) b L gv P to tc := by
      have h2 : CA w (fun i => F i ∨ i = N) b L gv P to tc := h.fresh (fun i hi hh => hh.elim id (fun e => by omega))
      exact (h2.tch t00 (fun _ _ h => h.elim)).tch t0 (fun _ _ h => h.elim)
    have hF0 : ∀ i, (F i ∨ i = N) → i < w0.heap.size := fun i hi => by
      rcases hi with hi | hi
      · have := hF i hi; omega
      · omega
    have hon : ∀ t00' : Tbl, (E = 0 → t00' = widT t x) → ∀ W d Q tv, Tch (fun _ => False) w0 W → w0.heap.size + 1 ≤ W.heap.size → Q.length = P.length → CO W (w0.heap.size + 1) d L gv Q tv → Calls Try.prog 47 #[.agg #[.string nm, .string x.nm, .int .i64 x.k, .bool x.nl], .pointer (some ⟨d, 0, none⟩)] W fun y w' => OnOut (w0.heap.size + 1) d E (TX b w0.heap.size t00') (L.set k (widT t x)) gv y w' ∧ Tch (fun i => w0.heap.size + 1 ≤ i) W w' := fun t00' ht00 W d Q tv tW hsz hQl hCO => by
      have hmap : Q.map Prod.fst = P.map Prod.fst := by rw [hCO.eq, h.eq]
      have hkQ : k < Q.length := by omega
      have hQk : Q[k].1 = t := by
        have h2 : (Q.map Prod.fst)[k]? = (P.map Prod.fst)[k]? := by rw [hmap]
        rw [List.getElem?_map, List.getElem?_map, List.getElem?_eq_getElem hkQ, List.getElem?_eq_getElem hk] at h2
        rw [ht]
        simpa using h2
      have h88 := h8 k hk
      rw [← ht] at h88
      have q := widenOn_any (w0.heap.size + 1) d L gv Q tv nm x b w0.heap.size k hkQ W hCO (by omega) (by rw [hQk]; exact h88) (by rw [hQk]; exact hver) (by rw [posP_congr _ hmap]; exact hpos) hsz ⟨by omega, by omega⟩
      rw [hQk, ← hE] at q
      refine q.mono ?_
      rintro y w' ⟨hO, t'⟩
      refine ⟨⟨fun e => ?_, hO.2⟩, t'⟩
      rw [ht00 e]
      exact hO.1 e
    by_cases hbig : (widT t x).cols.length ≤ 8
    · exact change_widen b L gv P to tc (fun i => F i ∨ i = N) nm x E (widT t x) _ _ w0 hca hl h8 hbig hF0 (hon _ (fun _ => rfl))
    · have hE0 : E ≠ 0 := fun e => hbig (ht8 e)
      refine (change_widen b L gv P to tc (fun i => F i ∨ i = N) nm x E ⟨0, 0, ⟨#[]⟩, [], 0⟩ _ _ w0 hca hl h8 (by simp) hF0 (hon _ (fun e => absurd e hE0))).mono ?_
      rintro y w' hO
      exact ⟨fun e => absurd e hE0, hO.2⟩
  have x0 : w0.cell? ⟨M, 0, none⟩ = some (.string x.nm) := by rw [blk_cell hX]; rfl
  have x1 : w0.cell? ⟨M, 1, none⟩ = some (.int .i64 x.k) := by rw [blk_cell hX]; rfl
  have x2 : w0.cell? ⟨M, 2, none⟩ = some (.bool x.nl) := by rw [blk_cell hX]; rfl
  have Hw0 : Hid ((w.alloc (.cells #[.string x.nm, .int .i64 x.k, .bool x.nl] 43)).alloc (.cells #[.int .i64 0, .int .i64 0, .string ⟨#[]⟩, .slice none 0 0, .int .i64 0] 36) = w0) := by show _ = _; rw [hw0, hw00]
  have HM : Hid (M = w.heap.size) := hM
  have HN : Hid (N = M + 1) := hN
  have HNw : Hid (N = w00.heap.size) := hNw
  have Ht0 : Hid (Tch (fun _ => False) w00 w0) := t0
  have Ht00 : Hid (Tch (fun _ => False) w w00) := t00
  have Hs0 : Hid (w0.heap.size = N + 1) := hs0
  have HY : Hid (w0.heap[N]? = some (.cells #[.int .i64 0, .int .i64 0, .string ⟨#[]⟩, .slice none 0 0, .int .i64 0] 36 (0, 0))) := hY
  rw [← hE]
  rw [← Hw0.out] at x0 x1 x2
  rw [hM] at x0 x1 x2
  clear h hw0 hN hY t0 hs0 ht8 hE h8 hF hpos hver ht hw00 hM t00 hNw hXc hX
  go_enter Try.func23, Try.ntmps23
  go_wp2_with fail
  have hw0 := Hw0.out
  rw [hw0]
  clear hw0 x0 x1 x2
  refine q1.mono ?_
  rintro y w2 hO
  clear q1
  rw [← HM.out, ← HN.out]
  obtain ⟨i, j, s, v, kk, rfl, vo, vn, vc, rfl⟩ := chg_shape hO
  have t2 : Tch (fun i => i = b) w0 w2 := by
    by_cases e : E = 0
    · obtain ⟨_, _, _, _, _, _, _, ht⟩ := hO.1 e; exact ht
    · exact (hO.2 e).2.mono (fun _ _ h => h.elim)
  have hY2 : w2.heap[N]? = some (.cells #[.int .i64 0, .int .i64 0, .string ⟨#[]⟩, .slice none 0 0, .int .i64 0] 36 (0, 0)) := by rw [t2.block N (blk_lt HY.out) (by have := HN.out; omega)]; exact HY.out
  obtain ⟨z0, z1, z2, z3, z4⟩ : w2.cell? ⟨N, 0, none⟩ = some (.int .i64 0) ∧ w2.cell? ⟨N, 1, none⟩ = some (.int .i64 0) ∧ w2.cell? ⟨N, 2, none⟩ = some (.string ⟨#[]⟩) ∧ w2.cell? ⟨N, 3, none⟩ = some (.slice none 0 0) ∧ w2.cell? ⟨N, 4, none⟩ = some (.int .i64 0) := ⟨by rw [blk_cell hY2]; rfl, by rw [blk_cell hY2]; rfl, by rw [blk_cell hY2]; rfl, by rw [blk_cell hY2]; rfl, by rw [blk_cell hY2]; rfl⟩
  have f0 := blk_frozen hY2 0; have f1 := blk_frozen hY2 1; have f2 := blk_frozen hY2 2; have f3 := blk_frozen hY2 3; have f4 := blk_frozen hY2 4
  have hrs : Try.f23.results = #[.cell 6 36, .tmp 7] := by kernel_rfl
  have HFin : Hid (∀ W', W' = ((((w2.setCell ⟨N, 0, none⟩ (.int .i64 i)).setCell ⟨N, 1, none⟩ (.int .i64 j)).setCell ⟨N, 2, none⟩ (.string s)).setCell ⟨N, 3, none⟩ (.slice vo vn vc)).setCell ⟨N, 4, none⟩ (.int .i64 kk) → (∀ tmps : Array Value, tmps[6]?.getD undef = .pointer (some ⟨N, 0, none⟩) → tmps[7]?.getD undef = .int .i64 E → (results Try.f23 tmps).run Try.prog W' = .ok (.tuple #[tA i j s (.slice vo vn vc) kk, .int .i64 E]) W') ∧ ChgOut F b E (widT t x) (L.set k (widT t x)) gv w (.returned (.tuple #[tA i j s (.slice vo vn vc) kk, .int .i64 E])) W') := fun W' hW' => by
    have tE : Tch (fun i => i = N) w2 W' := by rw [hW']; exact ((((Tch.setCell (fun i => i = N) w2 ⟨N, 0, none⟩ _ rfl).setCellR ⟨N, 1, none⟩ _ rfl).setCellR ⟨N, 2, none⟩ _ rfl).setCellR ⟨N, 3, none⟩ _ rfl).setCellR ⟨N, 4, none⟩ _ rfl
    have hb : W'.heap[N]? = some (.cells #[.int .i64 i, .int .i64 j, .string s, .slice vo vn vc, .int .i64 kk] 36 (0, 0)) := by
      rw [hW', blk_set (blk_set (blk_set (blk_set (blk_set hY2 _) _) _) _) _]; rfl
    exact ⟨fun tmps h4 h5 => res_pair hrs h4 h5 (by rw [blk_cell hb]; rfl) (by rw [blk_cell hb]; rfl) (by rw [blk_cell hb]; rfl) (by rw [blk_cell hb]; rfl) (by rw [blk_cell hb]; rfl), chg_low Ht00.out (chg_end HNw.out Ht0.out Hs0.out hO tE)⟩
  clear hO hY2 t2
  go_wp2_with fail
  refine bodyPost_ret ((HFin.out _ rfl).1 _ ?_ ?_) rfl (HFin.out _ rfl).2 <;> rfl
end Go.Proofs.Ytolamjipigfocaa
/- Drop of the code. -/
namespace Go.Proofs.Ytolamjipigfocaa
open Go.RowKit Go

set_option maxHeartbeats 4000000 in
set_option maxRecDepth 100000 in
/-- Drop, by what the change does. -/
theorem drop_by (b : Nat) (L : List Tbl) (gv : Int) (P : List (Tbl × Value)) (to : Option Addr) (tc : Nat) (F : Nat → Prop) (nm : ByteArray) (E : Int) (t0 : Tbl) (L' : List Tbl) (w : World) (h : CA w F b L gv P to tc) (hl : P.length ≤ 16) (h8 : ∀ i (hi : i < P.length), P[i].1.cols.length ≤ 8) (hF : ∀ i, F i → i < w.heap.size) (ht8 : t0.cols.length ≤ 8)
    (hon : ∀ base RB W d Q tv, base ≤ W.heap.size → b < base ∧ RB < base → Q.map Prod.fst = P.map Prod.fst → Q.length = P.length → CO W base d L gv Q tv → Calls Try.prog 46 #[.agg #[.string nm], .pointer (some ⟨d, 0, none⟩)] W fun x w' => OnOut base d E (TX b RB t0) L' gv x w' ∧ Tch (fun i => base ≤ i) W w') :
    Calls Try.prog 21 #[.pointer (some ⟨b, 0, none⟩), .string nm] w fun x w' => ChgOut F b E t0 L' gv w x w' := by
  obtain ⟨N, hN⟩ : ∃ N, N = w.heap.size := ⟨_, rfl⟩
  obtain ⟨w0, hw0⟩ : ∃ w0, w0 = w.alloc (.cells #[.int .i64 0, .int .i64 0, .string ⟨#[]⟩, .slice none 0 0, .int .i64 0] 36) := ⟨_, rfl⟩
  have t00 : Tch (fun _ => False) w w0 := by rw [hw0]; exact Tch.alloc _ _ _
  have hs0 : w0.heap.size = N + 1 := by rw [hw0, World.size_alloc, hN]
  have hY : w0.heap[N]? = some (.cells #[.int .i64 0, .int .i64 0, .string ⟨#[]⟩, .slice none 0 0, .int .i64 0] 36 (0, 0)) := by rw [hw0, hN]; exact alloc_new _ _
  have hbN : b < N := by rw [hN]; exact blk_lt h.blk
  have q1 : Calls Try.prog 38 #[.pointer (some ⟨b, 0, none⟩), .func (.func 46) #[.agg #[.string nm]] #[]] w0 fun y w' => ChgOut (fun i => F i ∨ i = N) b E t0 L' gv w0 y w' := by
    have hca : CA w0 (fun i => F i ∨ i = N) b L gv P to tc := by
      have h2 : CA w (fun i => F i ∨ i = N) b L gv P to tc := h.fresh (fun i hi hh => hh.elim id (fun e => by omega))
      exact h2.tch t00 (fun _ _ h => h.elim)
    have hF0 : ∀ i, (F i ∨ i = N) → i < w0.heap.size := fun i hi => by
      rcases hi with hi | hi
      · have := hF i hi; omega
      · omega
    exact change_drop b L gv P to tc (fun i => F i ∨ i = N) nm E t0 L' gv w0 hca hl h8 ht8 hF0 (fun W d Q tv _ hsz hQl hCO => hon (w0.heap.size + 1) w0.heap.size W d Q tv hsz ⟨by omega, by omega⟩ (by rw [hCO.eq, h.eq]) hQl hCO)
  have Hw0 : Hid _ := hw0
  have HN : Hid (N = w.heap.size) := hN
  have Ht0 : Hid (Tch (fun _ => False) w w0) := t00
  have Hs0 : Hid (w0.heap.size = N + 1) := hs0
  have HY : Hid (w0.heap[N]? = some (.cells #[.int .i64 0, .int .i64 0, .string ⟨#[]⟩, .slice none 0 0, .int .i64 0] 36 (0, 0))) := hY
  clear h hw0 hN hY t00 hs0 h8 hF hon
  go_enter Try.func21, Try.ntmps21
  go_wp2_with fail
  have hw0 := Hw0.out
  rw [← hw0]
  clear hw0
  refine q1.mono ?_
  rintro y w2 hO
  clear q1
  rw [← HN.out]
  obtain ⟨i, j, s, v, kk, rfl, vo, vn, vc, rfl⟩ := chg_shape hO
  have t2 : Tch (fun i => i = b) w0 w2 := by
    by_cases e : E = 0
    · obtain ⟨_, _, _, _, _, _, _, ht⟩ := hO.1 e; exact ht
    · exact (hO.2 e).2.mono (fun _ _ h => h.elim)
  have hY2 : w2.heap[N]? = some (.cells #[.int .i64 0, .int .i64 0, .string ⟨#[]⟩, .slice none 0 0, .int .i64 0] 36 (0, 0)) := by rw [t2.block N (blk_lt HY.out) (by omega)]; exact HY.out
  obtain ⟨z0, z1, z2, z3, z4⟩ : w2.cell? ⟨N, 0, none⟩ = some (.int .i64 0) ∧ w2.cell? ⟨N, 1, none⟩ = some (.int .i64 0) ∧ w2.cell? ⟨N, 2, none⟩ = some (.string ⟨#[]⟩) ∧ w2.cell? ⟨N, 3, none⟩ = some (.slice none 0 0) ∧ w2.cell? ⟨N, 4, none⟩ = some (.int .i64 0) := ⟨by rw [blk_cell hY2]; rfl, by rw [blk_cell hY2]; rfl, by rw [blk_cell hY2]; rfl, by rw [blk_cell hY2]; rfl, by rw [blk_cell hY2]; rfl⟩
  have f0 := blk_frozen hY2 0; have f1 := blk_frozen hY2 1; have f2 := blk_frozen hY2 2; have f3 := blk_frozen hY2 3; have f4 := blk_frozen hY2 4
  have hrs : Try.f21.results = #[.cell 4 36, .tmp 5] := by kernel_rfl
  have HFin : Hid (∀ W', W' = ((((w2.setCell ⟨N, 0, none⟩ (.int .i64 i)).setCell ⟨N, 1, none⟩ (.int .i64 j)).setCell ⟨N, 2, none⟩ (.string s)).setCell ⟨N, 3, none⟩ (.slice vo vn vc)).setCell ⟨N, 4, none⟩ (.int .i64 kk) → (∀ tmps : Array Value, tmps[4]?.getD undef = .pointer (some ⟨N, 0, none⟩) → tmps[5]?.getD undef = .int .i64 E → (results Try.f21 tmps).run Try.prog W' = .ok (.tuple #[tA i j s (.slice vo vn vc) kk, .int .i64 E]) W') ∧ ChgOut F b E t0 L' gv w (.returned (.tuple #[tA i j s (.slice vo vn vc) kk, .int .i64 E])) W') := fun W' hW' => by
    have tE : Tch (fun i => i = N) w2 W' := by rw [hW']; exact ((((Tch.setCell (fun i => i = N) w2 ⟨N, 0, none⟩ _ rfl).setCellR ⟨N, 1, none⟩ _ rfl).setCellR ⟨N, 2, none⟩ _ rfl).setCellR ⟨N, 3, none⟩ _ rfl).setCellR ⟨N, 4, none⟩ _ rfl
    have hb : W'.heap[N]? = some (.cells #[.int .i64 i, .int .i64 j, .string s, .slice vo vn vc, .int .i64 kk] 36 (0, 0)) := by
      rw [hW', blk_set (blk_set (blk_set (blk_set (blk_set hY2 _) _) _) _) _]; rfl
    exact ⟨fun tmps h4 h5 => res_pair hrs h4 h5 (by rw [blk_cell hb]; rfl) (by rw [blk_cell hb]; rfl) (by rw [blk_cell hb]; rfl) (by rw [blk_cell hb]; rfl) (by rw [blk_cell hb]; rfl), chg_end HN.out Ht0.out Hs0.out hO tE⟩
  clear hO hY2 t2
  go_wp2_with fail
  refine bodyPost_ret ((HFin.out _ rfl).1 _ ?_ ?_) rfl (HFin.out _ rfl).2 <;> rfl
theorem drop_none (b : Nat) (L : List Tbl) (gv : Int) (P : List (Tbl × Value)) (to : Option Addr) (tc : Nat) (F : Nat → Prop) (nm : ByteArray) (t0 : Tbl) (L' : List Tbl) (w : World) (h : CA w F b L gv P to tc) (hl : P.length ≤ 16) (h8 : ∀ i (hi : i < P.length), P[i].1.cols.length ≤ 8) (hF : ∀ i, F i → i < w.heap.size)
    (hpos : posP (fun t => decide (t.nm = nm)) P = -1) :
    Calls Try.prog 21 #[.pointer (some ⟨b, 0, none⟩), .string nm] w fun x w' => ChgOut F b 52 t0 L' gv w x w' := by
  refine (drop_by b L gv P to tc F nm 52 ⟨0, 0, ⟨#[]⟩, [], 0⟩ L' w h hl h8 hF (by simp) (fun base RB W d Q tv hb _ hmap hQl hCO => removeOn_none base d L L' gv gv Q tv nm _ W hCO (by omega) hb (by rw [posP_congr _ hmap]; exact hpos))).mono ?_
  rintro y w' hO
  exact ⟨fun e => by simp at e, hO.2⟩
theorem drop_some (b : Nat) (L : List Tbl) (gv : Int) (P : List (Tbl × Value)) (to : Option Addr) (tc : Nat) (F : Nat → Prop) (nm : ByteArray) (k : Nat) (hk : k < P.length) (w : World) (h : CA w F b L gv P to tc) (hl : P.length ≤ 16) (h8 : ∀ i (hi : i < P.length), P[i].1.cols.length ≤ 8) (hF : ∀ i, F i → i < w.heap.size)
    (hpos : posP (fun t => decide (t.nm = nm)) P = k) :
    Calls Try.prog 21 #[.pointer (some ⟨b, 0, none⟩), .string nm] w fun x w' => ChgOut F b 0 P[k].1 (L.eraseIdx k) gv w x w' := by
  refine drop_by b L gv P to tc F nm 0 P[k].1 (L.eraseIdx k) w h hl h8 hF (h8 k hk) (fun base RB W d Q tv hb hbb hmap hQl hCO => ?_)
  have hkQ : k < Q.length := by omega
  have hQk : Q[k].1 = P[k].1 := by
    have h2 : (Q.map Prod.fst)[k]? = (P.map Prod.fst)[k]? := by rw [hmap]
    rw [List.getElem?_map, List.getElem?_map, List.getElem?_eq_getElem hkQ, List.getElem?_eq_getElem hk] at h2
    simpa using h2
  have q := removeOn_some base d L gv Q tv nm b RB k hkQ W hCO (by omega) hb hbb (by rw [posP_congr _ hmap]; exact hpos)
  rw [hQk] at q
  exact q
end Go.Proofs.Ytolamjipigfocaa
/- Widen, where there is no such table. -/
namespace Go.Proofs.Ytolamjipigfocaa
open Go.RowKit Go

set_option maxHeartbeats 4000000 in
set_option maxRecDepth 100000 in
theorem widenOn_none (base d : Nat) (L L' : List Tbl) (gv g' : Int) (P : List (Tbl × Value)) (tv : Value) (nm : ByteArray) (x : Col) (T : World → Value → Prop) (w : World) (h : CO w base d L gv P tv) (hl : P.length ≤ 16) (hbase : base ≤ w.heap.size)
    (hpos : posP (fun t => decide (t.nm = nm)) P = -1) :
    Calls Try.prog 47 #[wA nm x, .pointer (some ⟨d, 0, none⟩)] w fun y w' => OnOut base d 52 T L' g' y w' ∧ Tch (fun i => base ≤ i) w w' := by
  obtain ⟨to, tc, rfl⟩ := row_slice h.to.own
  obtain ⟨N, hN⟩ : ∃ N, N = w.heap.size := ⟨_, rfl⟩
  obtain ⟨w0, hw0⟩ : ∃ w0, w0 = (w.alloc (.cells #[.string nm, .string x.nm, .int .i64 x.k, .bool x.nl] 91)).alloc (.cells #[.int .i64 0, .int .i64 0, .string ⟨#[]⟩, .slice none 0 0, .int .i64 0] 36) := ⟨_, rfl⟩
  have t0 : Tch (fun _ => False) w w0 := by rw [hw0]; exact (Tch.alloc _ _ _).allocR _
  have hX : w0.heap[N]? = some (.cells #[.string nm, .string x.nm, .int .i64 x.k, .bool x.nl] 91 (0, 0)) := by
    rw [hw0, hN]; exact (Tch.alloc (fun _ => False) _ _).block _ (by simp) (fun h => h) |>.trans (alloc_new _ _)
  have hY : w0.heap[N + 1]? = some (.cells #[.int .i64 0, .int .i64 0, .string ⟨#[]⟩, .slice none 0 0, .int .i64 0] 36 (0, 0)) := by
    rw [hw0, hN, ← World.size_alloc]; exact alloc_new _ _
  have hCO0 := h.tch t0 (fun _ _ _ h => h)
  have q1 := nm3_any d to tc P _ nm w0 (by rw [blk_cell hCO0.blk]; rfl) hCO0.to.toTL hl
  rw [hpos] at q1
  have x0 : w0.cell? ⟨N, 0, none⟩ = some (.string nm) := by rw [blk_cell hX]; rfl
  have HOut : Hid (∀ W, Tch (fun i => i = N + 1) w0 W → DX W base d ∧ Tch (fun i => base ≤ i) w W) := fun W tW => by
    have hdN := blk_lt h.blk
    have tB : Tch (fun i => base ≤ i) w W := (t0.mono (fun _ _ h => h.elim)).trans' (tW.mono (fun i _ e => by have e2 : i = N + 1 := e; omega))
    have hdx := hCO0.dx (by omega)
    have tw : Tch (fun i => i = N + 1) w W := (t0.mono (fun _ _ h => h.elim)).trans' tW
    exact ⟨(h.dx (by omega)).tch tw (fun i _ hi e => by omega), tB⟩
  have HY : Hid _ := hY
  have Hw0 : Hid _ := hw0
  have HN : Hid (N = w.heap.size) := hN
  rw [hw0, hN] at x0
  clear h hN hX hY hCO0 t0 hpos hw0
  go_enter Try.func47, Try.ntmps47
  go_wp2_with fail
  have hw0 := Hw0.out
  rw [← hw0]
  rw [← HN.out]
  clear hw0 x0
  refine q1.mono ?_
  rintro y w1 ⟨rfl, t1⟩
  clear q1
  have hY1 : w1.heap[N + 1]? = some (.cells #[.int .i64 0, .int .i64 0, .string ⟨#[]⟩, .slice none 0 0, .int .i64 0] 36 (0, 0)) := by rw [t1.block (N + 1) (blk_lt HY.out) (fun h => h)]; exact HY.out
  obtain ⟨z0, z1, z2, z3, z4⟩ : w1.cell? ⟨N + 1, 0, none⟩ = some (.int .i64 0) ∧ w1.cell? ⟨N + 1, 1, none⟩ = some (.int .i64 0) ∧ w1.cell? ⟨N + 1, 2, none⟩ = some (.string ⟨#[]⟩) ∧ w1.cell? ⟨N + 1, 3, none⟩ = some (.slice none 0 0) ∧ w1.cell? ⟨N + 1, 4, none⟩ = some (.int .i64 0) := ⟨by rw [blk_cell hY1]; rfl, by rw [blk_cell hY1]; rfl, by rw [blk_cell hY1]; rfl, by rw [blk_cell hY1]; rfl, by rw [blk_cell hY1]; rfl⟩
  have f0 := blk_frozen hY1 0; have f1 := blk_frozen hY1 1; have f2 := blk_frozen hY1 2; have f3 := blk_frozen hY1 3; have f4 := blk_frozen hY1 4
  have hrs : Try.f47.results = #[.cell 4 36, .tmp 5] := by kernel_rfl
  have HFin : Hid (∀ W', W' = ((((w1.setCell ⟨N + 1, 0, none⟩ (.int .i64 0)).setCell ⟨N + 1, 1, none⟩ (.int .i64 0)).setCell ⟨N + 1, 2, none⟩ (.string ⟨#[]⟩)).setCell ⟨N + 1, 3, none⟩ (.slice none 0 0)).setCell ⟨N + 1, 4, none⟩ (.int .i64 0) → (∀ tmps : Array Value, tmps[4]?.getD undef = .pointer (some ⟨N + 1, 0, none⟩) → tmps[5]?.getD undef = .int .i64 52 → (results Try.f47 tmps).run Try.prog W' = .ok (.tuple #[zA, .int .i64 52]) W') ∧ (OnOut base d 52 T L' g' (.returned (.tuple #[zA, .int .i64 52])) W' ∧ Tch (fun i => base ≤ i) w W')) := fun W' hW' => by
    have tE : Tch (fun i => i = N + 1) w1 W' := by rw [hW']; exact ((((Tch.setCell (fun i => i = N + 1) w1 ⟨N + 1, 0, none⟩ _ rfl).setCellR ⟨N + 1, 1, none⟩ _ rfl).setCellR ⟨N + 1, 2, none⟩ _ rfl).setCellR ⟨N + 1, 3, none⟩ _ rfl).setCellR ⟨N + 1, 4, none⟩ _ rfl
    have hb : W'.heap[N + 1]? = some (.cells #[.int .i64 0, .int .i64 0, .string ⟨#[]⟩, .slice none 0 0, .int .i64 0] 36 (0, 0)) := by
      rw [hW', blk_set (blk_set (blk_set (blk_set (blk_set hY1 _) _) _) _) _]; rfl
    obtain ⟨o1, o2⟩ := HOut.out W' ((t1.mono (fun _ _ h => h.elim)).trans' tE)
    exact ⟨fun tmps h4 h5 => res_pair hrs h4 h5 (by rw [blk_cell hb]; rfl) (by rw [blk_cell hb]; rfl) (by rw [blk_cell hb]; rfl) (by rw [blk_cell hb]; rfl) (by rw [blk_cell hb]; rfl), ⟨fun e => by simp at e, fun _ => ⟨rfl, o1⟩⟩, o2⟩
  clear hY1 t1
  go_wp2_with fail
  refine bodyPost_ret ((HFin.out _ rfl).1 _ ?_ ?_) rfl (HFin.out _ rfl).2 <;> rfl

set_option maxHeartbeats 4000000 in
set_option maxRecDepth 100000 in
theorem widen_none (b : Nat) (L : List Tbl) (gv : Int) (P : List (Tbl × Value)) (to : Option Addr) (tc : Nat) (F : Nat → Prop) (nm : ByteArray) (x : Col) (u0 : Tbl) (L' : List Tbl) (w : World) (h : CA w F b L gv P to tc) (hl : P.length ≤ 16) (h8 : ∀ i (hi : i < P.length), P[i].1.cols.length ≤ 8) (hF : ∀ i, F i → i < w.heap.size)
    (hpos : posP (fun t => decide (t.nm = nm)) P = -1) :
    Calls Try.prog 23 #[.pointer (some ⟨b, 0, none⟩), .string nm, cA x.nm x.k x.nl] w fun y w' => ChgOut F b 52 u0 L' gv w y w' := by
  obtain ⟨w00, hw00⟩ : ∃ w00, w00 = w.alloc (.cells #[.string x.nm, .int .i64 x.k, .bool x.nl] 43) := ⟨_, rfl⟩
  obtain ⟨M, hM⟩ : ∃ M, M = w.heap.size := ⟨_, rfl⟩
  have t00 : Tch (fun _ => False) w w00 := by rw [hw00]; exact Tch.alloc _ _ _
  obtain ⟨N, hN⟩ : ∃ N, N = M + 1 := ⟨_, rfl⟩
  have hNw : N = w00.heap.size := by rw [hw00, World.size_alloc, hN, hM]
  obtain ⟨w0, hw0⟩ : ∃ w0, w0 = w00.alloc (.cells #[.int .i64 0, .int .i64 0, .string ⟨#[]⟩, .slice none 0 0, .int .i64 0] 36) := ⟨_, rfl⟩
  have t0 : Tch (fun _ => False) w00 w0 := by rw [hw0]; exact Tch.alloc _ _ _
  have hs0 : w0.heap.size = N + 1 := by rw [hw0, World.size_alloc, hNw]
  have hY : w0.heap[N]? = some (.cells #[.int .i64 0, .int .i64 0, .string ⟨#[]⟩, .slice none 0 0, .int .i64 0] 36 (0, 0)) := by rw [hw0, hNw]; exact alloc_new _ _
  have hXc : w00.heap[M]? = some (.cells #[.string x.nm, .int .i64 x.k, .bool x.nl] 43 (0, 0)) := by rw [hw00, hM]; exact alloc_new _ _
  have hX : w0.heap[M]? = some (.cells #[.string x.nm, .int .i64 x.k, .bool x.nl] 43 (0, 0)) := by rw [t0.block M (blk_lt hXc) (fun h => h)]; exact hXc
  have hbN : b < M := by rw [hM]; exact blk_lt h.blk
  have q1 : Calls Try.prog 38 #[.pointer (some ⟨b, 0, none⟩), .func (.func 47) #[.agg #[.string nm, .string x.nm, .int .i64 x.k, .bool x.nl]] #[]] w0 fun y w' => ChgOut (fun i => F i ∨ i = N) b 52 u0 L' gv w0 y w' := by
    have hca : CA w0 (fun i => F i ∨ i = N) b L gv P to tc := by
      have h2 : CA w (fun i => F i ∨ i = N) b L gv P to tc := h.fresh (fun i hi hh => hh.elim id (fun e => by omega))
      exact (h2.tch t00 (fun _ _ h => h.elim)).tch t0 (fun _ _ h => h.elim)
    have hF0 : ∀ i, (F i ∨ i = N) → i < w0.heap.size := fun i hi => by
      rcases hi with hi | hi
      · have := hF i hi; omega
      · omega
    refine (change_widen b L gv P to tc (fun i => F i ∨ i = N) nm x 52 ⟨0, 0, ⟨#[]⟩, [], 0⟩ L' gv w0 hca hl h8 (by simp) hF0 (fun W d Q tv _ hsz hQl hCO => widenOn_none (w0.heap.size + 1) d L L' gv gv Q tv nm x _ W hCO (by omega) hsz (by rw [posP_congr _ (by rw [hCO.eq, h.eq] : Q.map Prod.fst = P.map Prod.fst)]; exact hpos))).mono ?_
    rintro y w' hO
    exact ⟨fun e => by simp at e, hO.2⟩
  have x0 : w0.cell? ⟨M, 0, none⟩ = some (.string x.nm) := by rw [blk_cell hX]; rfl
  have x1 : w0.cell? ⟨M, 1, none⟩ = some (.int .i64 x.k) := by rw [blk_cell hX]; rfl
  have x2 : w0.cell? ⟨M, 2, none⟩ = some (.bool x.nl) := by rw [blk_cell hX]; rfl
  have Hw0 : Hid ((w.alloc (.cells #[.string x.nm, .int .i64 x.k, .bool x.nl] 43)).alloc (.cells #[.int .i64 0, .int .i64 0, .string ⟨#[]⟩, .slice none 0 0, .int .i64 0] 36) = w0) := by show _ = _; rw [hw0, hw00]
  have HM : Hid (M = w.heap.size) := hM
  have HN : Hid (N = M + 1) := hN
  have HNw : Hid (N = w00.heap.size) := hNw
  have Ht0 : Hid (Tch (fun _ => False) w00 w0) := t0
  have Ht00 : Hid (Tch (fun _ => False) w w00) := t00
  have Hs0 : Hid (w0.heap.size = N + 1) := hs0
  have HY : Hid (w0.heap[N]? = some (.cells #[.int .i64 0, .int .i64 0, .string ⟨#[]⟩, .slice none 0 0, .int .i64 0] 36 (0, 0))) := hY
  rw [← Hw0.out] at x0 x1 x2
  rw [hM] at x0 x1 x2
  clear h hw0 hN hY t0 hs0 h8 hF hpos hw00 hM t00 hNw hXc hX
  go_enter Try.func23, Try.ntmps23
  go_wp2_with fail
  have hw0 := Hw0.out
  rw [hw0]
  clear hw0 x0 x1 x2
  refine q1.mono ?_
  rintro y w2 hO
  clear q1
  rw [← HM.out, ← HN.out]
  obtain ⟨i, j, s, v, kk, rfl, vo, vn, vc, rfl⟩ := chg_shape hO
  have t2 : Tch (fun i => i = b) w0 w2 := by
    exact (hO.2 (by decide)).2.mono (fun _ _ h => h.elim)
  have hY2 : w2.heap[N]? = some (.cells #[.int .i64 0, .int .i64 0, .string ⟨#[]⟩, .slice none 0 0, .int .i64 0] 36 (0, 0)) := by rw [t2.block N (blk_lt HY.out) (by have := HN.out; omega)]; exact HY.out
  obtain ⟨z0, z1, z2, z3, z4⟩ : w2.cell? ⟨N, 0, none⟩ = some (.int .i64 0) ∧ w2.cell? ⟨N, 1, none⟩ = some (.int .i64 0) ∧ w2.cell? ⟨N, 2, none⟩ = some (.string ⟨#[]⟩) ∧ w2.cell? ⟨N, 3, none⟩ = some (.slice none 0 0) ∧ w2.cell? ⟨N, 4, none⟩ = some (.int .i64 0) := ⟨by rw [blk_cell hY2]; rfl, by rw [blk_cell hY2]; rfl, by rw [blk_cell hY2]; rfl, by rw [blk_cell hY2]; rfl, by rw [blk_cell hY2]; rfl⟩
  have f0 := blk_frozen hY2 0; have f1 := blk_frozen hY2 1; have f2 := blk_frozen hY2 2; have f3 := blk_frozen hY2 3; have f4 := blk_frozen hY2 4
  have hrs : Try.f23.results = #[.cell 6 36, .tmp 7] := by kernel_rfl
  have HFin : Hid (∀ W', W' = ((((w2.setCell ⟨N, 0, none⟩ (.int .i64 i)).setCell ⟨N, 1, none⟩ (.int .i64 j)).setCell ⟨N, 2, none⟩ (.string s)).setCell ⟨N, 3, none⟩ (.slice vo vn vc)).setCell ⟨N, 4, none⟩ (.int .i64 kk) → (∀ tmps : Array Value, tmps[6]?.getD undef = .pointer (some ⟨N, 0, none⟩) → tmps[7]?.getD undef = .int .i64 52 → (results Try.f23 tmps).run Try.prog W' = .ok (.tuple #[tA i j s (.slice vo vn vc) kk, .int .i64 52]) W') ∧ ChgOut F b 52 u0 L' gv w (.returned (.tuple #[tA i j s (.slice vo vn vc) kk, .int .i64 52])) W') := fun W' hW' => by
    have tE : Tch (fun i => i = N) w2 W' := by rw [hW']; exact ((((Tch.setCell (fun i => i = N) w2 ⟨N, 0, none⟩ _ rfl).setCellR ⟨N, 1, none⟩ _ rfl).setCellR ⟨N, 2, none⟩ _ rfl).setCellR ⟨N, 3, none⟩ _ rfl).setCellR ⟨N, 4, none⟩ _ rfl
    have hb : W'.heap[N]? = some (.cells #[.int .i64 i, .int .i64 j, .string s, .slice vo vn vc, .int .i64 kk] 36 (0, 0)) := by
      rw [hW', blk_set (blk_set (blk_set (blk_set (blk_set hY2 _) _) _) _) _]; rfl
    exact ⟨fun tmps h4 h5 => res_pair hrs h4 h5 (by rw [blk_cell hb]; rfl) (by rw [blk_cell hb]; rfl) (by rw [blk_cell hb]; rfl) (by rw [blk_cell hb]; rfl) (by rw [blk_cell hb]; rfl), chg_low Ht00.out (chg_end HNw.out Ht0.out Hs0.out hO tE)⟩
  clear hO hY2 t2
  go_wp2_with fail
  refine bodyPost_ret ((HFin.out _ rfl).1 _ ?_ ?_) rfl (HFin.out _ rfl).2 <;> rfl
end Go.Proofs.Ytolamjipigfocaa
