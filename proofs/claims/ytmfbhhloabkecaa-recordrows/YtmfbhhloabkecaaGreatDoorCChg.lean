import Derived.Test.YtmfbhhloabkecaaGreatDoorCCrea
/- change of the code: what it does besides the change itself. -/
namespace Go.Proofs.YtmfbhhloabkecaaGreatDoor.C
open Go.RowKit Go

/-- clear of a slice of tables of one's own. -/
theorem clear_own {W : World} {base n : Nat} {v : Value} {xs : List Value} (h : W.ownsRow base 29 5 v n xs) : ∃ W', (∀ ty, (Builtin.clear_ #[35] ty #[v]).run Tryz.prog W = .ok (.tuple #[]) W') ∧ Tch (fun i => v.ownBlock = some i) W W' := by
  obtain ⟨i0, hi0, hz0, hz1, hz2⟩ := info_parts info_tbl
  rcases h.2 with ⟨rfl, rfl⟩ | ⟨g, cap, cur, rfl, hb, hg, hnc, hcm, hcs, htk⟩
  · exact ⟨W, fun ty => by simp [Builtin.clear_, run_underlying Tryz.underlying35], Tch.refl _ _⟩
  · rcases Nat.eq_zero_or_pos n with rfl | hn
    · exact ⟨W, fun ty => by simp [Builtin.clear_, run_underlying Tryz.underlying35], Tch.refl _ _⟩
    · obtain ⟨zs, hzs⟩ : ∃ zs, zs = (Builtin.zeroCells (Value.agg #[.int .i64 0, .int .i64 0, .string ⟨#[]⟩, .slice none 0 0, .int .i64 0]).cells n).toList := ⟨_, rfl⟩
      have hzl : zs.length = n * 5 := by rw [hzs]; simp [Builtin.zeroCells, Value.cells]
      have hz1' : ∀ u ∈ zs, u.oneCell' = true := fun u hu => by
        rw [hzs] at hu
        simp only [Builtin.zeroCells, Value.cells, Array.toList_map, List.mem_map] at hu
        obtain ⟨k, _, rfl⟩ := hu
        have h5 : k % 5 < 5 := by omega
        show (#[Value.int .i64 0, .int .i64 0, .string ⟨#[]⟩, .slice none 0 0, .int .i64 0][k % 5]!).oneCell' = true
        rcases (by omega : k % 5 = 0 ∨ k % 5 = 1 ∨ k % 5 = 2 ∨ k % 5 = 3 ∨ k % 5 = 4) with e | e | e | e | e <;> rw [e] <;> rfl
      have hst := run_storeCells_at Tryz.prog g 0 29 zs 0 cur W hg (by simp; omega) hz1'
      obtain ⟨m, rfl⟩ : ∃ m, n = m + 1 := ⟨n - 1, by omega⟩
      refine ⟨W.setRow g (cur.toList.take 0 ++ zs ++ cur.toList.drop (0 + zs.length)).toArray, fun ty => ?_, ⟨rfl, rfl, rfl, by simp [World.setRow], fun k _ hk => setRow_other W g k _ (fun e => hk (by rw [e]; rfl))⟩⟩
      simp only [Builtin.clear_]
      simp [run_underlying Tryz.underlying35, zeroValue, typeInfo, hi0, hz0, ← hzs, hst]
/-- What a change gives. -/
def ChgOut (F : Nat → Prop) (b : Nat) (E : Int) (t0 : Tbl) (L' : List Tbl) (g' : Int) (w : World) (x : Ending) (w' : World) : Prop :=
  (E = 0 → ∃ v P to tc, x = .returned (.tuple #[tA t0.id t0.ver t0.nm v t0.key, .int .i64 0]) ∧ w'.ownsRow w.heap.size 43 3 v t0.cols.length (ccl t0.cols) ∧ CA w' (fun i => F i ∨ v.ownBlock = some i) b L' g' P to tc ∧ Tch (fun i => i = b) w w') ∧
  (E ≠ 0 → x = .returned (.tuple #[zA, .int .i64 E]) ∧ Tch (fun _ => False) w w')
/-- The table that a change on a clone tells. -/
def TX (b RB : Nat) (t0 : Tbl) (w' : World) (v : Value) : Prop := ∃ co cc, v = tA t0.id t0.ver t0.nm (.slice co t0.cols.length cc) t0.key ∧ SL w' co (ccl t0.cols) ∧ (co = none → t0.cols = [] ∧ cc = 0) ∧ ∀ g o, co = some ⟨g, o, none⟩ → t0.cols ≠ [] → g ≠ b ∧ g ≠ RB
theorem TO.tl' {W : World} {base : Nat} {F : Nat → Prop} {to : Option Addr} {tc : Nat} {P : List (Tbl × Value)} (h : TO W base (.slice to P.length tc) P) (hF : ∀ g, BL (.slice to P.length tc) P g → ¬ F g) : TL W F to P := by
  refine ⟨own_sl h.own, fun _ g o e => hF g (Or.inl (by rw [e]; rfl)), fun i hi => ?_⟩
  obtain ⟨co, cc, hck⟩ := own_ck (h.col i hi)
  exact ⟨co, cc, hck.eq, hck.sl, hck.no, hck.cap, fun hne g o e => ⟨hF g (Or.inr ⟨i, hi, by rw [hck.eq, e]; rfl⟩), (hck.nf hne g o e).2⟩⟩

set_option maxHeartbeats 4000000 in
set_option maxRecDepth 100000 in
theorem change_create (b : Nat) (L : List Tbl) (gv : Int) (P : List (Tbl × Value)) (to : Option Addr) (tc : Nat) (F : Nat → Prop) (nm : ByteArray) (ao : Option Addr) (n c : Nat) (key : Int) (E : Int) (t0 : Tbl) (L' : List Tbl) (g' : Int) (w : World) (h : CA w F b L gv P to tc) (hl : P.length ≤ 16) (h8 : ∀ i (hi : i < P.length), P[i].1.cols.length ≤ 8) (ht8 : t0.cols.length ≤ 8) (hF : ∀ i, F i → i < w.heap.size)
    (hon : ∀ W d Q tv, Tch (fun _ => False) w W → w.heap.size + 1 ≤ W.heap.size → Q.length = P.length → CO W (w.heap.size + 1) d L gv Q tv → Calls Tryz.prog 25 #[.agg #[.string nm, .slice ao n c, .int .i64 key], .pointer (some ⟨d, 0, none⟩)] W fun x w' => OnOut (w.heap.size + 1) d E (TX b w.heap.size t0) L' g' x w' ∧ Tch (fun i => w.heap.size + 1 ≤ i) W w') :
    Calls Tryz.prog 24 #[.pointer (some ⟨b, 0, none⟩), .func (.func 25) #[.agg #[.string nm, .slice ao n c, .int .i64 key]] #[]] w fun x w' => ChgOut F b E t0 L' g' w x w' := by
  obtain ⟨N, hN⟩ : ∃ N, N = w.heap.size := ⟨_, rfl⟩
  obtain ⟨w0, hw0⟩ : ∃ w0, w0 = w.alloc (.cells #[.int .i64 0, .int .i64 0, .string ⟨#[]⟩, .slice none 0 0, .int .i64 0] 29) := ⟨_, rfl⟩
  have t00 : Tch (fun _ => False) w w0 := by rw [hw0]; exact Tch.alloc _ _ _
  have hs0 : w0.heap.size = N + 1 := by rw [hw0, World.size_alloc, hN]
  have hY : w0.heap[N]? = some (.cells #[.int .i64 0, .int .i64 0, .string ⟨#[]⟩, .slice none 0 0, .int .i64 0] 29 (0, 0)) := by rw [hw0, hN]; exact alloc_new _ _
  have q1 := clone_any b L gv P to tc F w0 (h.tch t00 (fun _ _ h => h.elim)) hl h8
  rw [hs0] at q1
  have hPL : P.length = L.length := by rw [← h.eq]; simp
  have hbN : b < N := by rw [hN]; exact blk_lt h.blk
  have Hb : Hid (∀ W, Tch (fun _ => False) w W → W.heap[b]? = some (.cells #[.slice to P.length tc, .int .i64 gv] 60 (0, 0))) := fun W tW => (h.tch tW (fun _ _ h => h.elim)).blk
  have HY : Hid (w0.heap[N]? = some (.cells #[.int .i64 0, .int .i64 0, .string ⟨#[]⟩, .slice none 0 0, .int .i64 0] 29 (0, 0))) := hY
  have Hw0 : Hid _ := hw0
  have HN : Hid (N = w.heap.size) := hN
  have Ht0 : Hid (Tch (fun _ => False) w w0) := t00
  have Hs0 : Hid (w0.heap.size = N + 1) := hs0
  have Hnb : Hid (¬ F b) := h.nb
  have HPL : Hid (P.length = L.length) := hPL
  have Hon : Hid _ := hon
  have HF : Hid _ := hF
  clear h hw0 hN hY t00 hs0 hPL hon h8 hF
  go_enter Tryz.func24, Tryz.ntmps24
  go_wp2_with fail
  rw [← HN.out]
  have hw0 := Hw0.out
  rw [← hw0]
  clear hw0
  refine q1.mono ?_
  rintro x w1 ⟨⟨d, tv, Q, rfl, hCO⟩, t1⟩
  clear q1
  have hQl : Q.length = P.length := by have h1 := congrArg List.length hCO.eq; rw [List.length_map] at h1; rw [h1, HPL.out]
  have q2 := Hon.out w1 d Q tv (Ht0.out.trans' t1) (by have := t1.size; have := Hs0.out; have := HN.out; omega) hQl (by rw [← HN.out]; exact hCO)
  rw [← HN.out] at q2
  have HdN : Hid (N < d ∧ d < w1.heap.size) := ⟨by have := hCO.ge; show N < d; omega, blk_lt hCO.blk⟩
  clear hCO
  go_wp2_with fail
  refine q2.mono ?_
  rintro x w2 ⟨hO, t2⟩
  clear q2
  have T2 : Tch (fun _ => False) w w2 := (Ht0.out.trans' t1).trans t2 (fun i hi h => by have := HN.out; omega)
  have hY2 : w2.heap[N]? = some (.cells #[.int .i64 0, .int .i64 0, .string ⟨#[]⟩, .slice none 0 0, .int .i64 0] 29 (0, 0)) := by
    rw [t2.block N (Nat.lt_of_lt_of_le (blk_lt HY.out) t1.size) (by omega), t1.block N (blk_lt HY.out) (fun h => h)]; exact HY.out
  have HY2 : Hid (w2.heap[N]? = some (.cells #[.int .i64 0, .int .i64 0, .string ⟨#[]⟩, .slice none 0 0, .int .i64 0] 29 (0, 0))) := hY2
  have HT2 : Hid (Tch (fun _ => False) w w2) := T2
  have hrs : Tryz.f24.results = #[.cell 4 29, .tmp 5] := by kernel_rfl
  have Hrs : Hid _ := hrs
  clear hY2 T2 hrs
  by_cases hE : E = 0
  · subst hE
    obtain ⟨v, Pd, tvd, rfl, ⟨co, cc, rfl, hsl, hno, hnb⟩, hCO2⟩ := hO.1 rfl
    clear hO
    obtain ⟨tdo, tdc, htd⟩ := row_slice hCO2.to.own
    subst htd
    have d0 : w2.cell? ⟨d, 0, none⟩ = some (.slice tdo Pd.length tdc) := by rw [blk_cell hCO2.blk]; rfl
    have d1 : w2.cell? ⟨d, 1, none⟩ = some (.int .i64 g') := by rw [blk_cell hCO2.blk]; rfl
    have hb2 := Hb.out w2 HT2.out
    have b0 : w2.cell? ⟨b, 0, none⟩ = some (.slice to P.length tc) := by rw [blk_cell hb2]; rfl
    have b1 : w2.cell? ⟨b, 1, none⟩ = some (.int .i64 gv) := by rw [blk_cell hb2]; rfl
    have f0 := blk_frozen hb2 0
    have f1 := blk_frozen hb2 1
    obtain ⟨B, hB⟩ : ∃ B, B = w2.heap.size := ⟨_, rfl⟩
    obtain ⟨w3, hw3⟩ : ∃ w3, w3 = w2.alloc (.cells #[.int .i64 t0.id, .int .i64 t0.ver, .string t0.nm, .slice co t0.cols.length cc, .int .i64 t0.key] 29) := ⟨_, rfl⟩
    have t3 : Tch (fun _ => False) w2 w3 := by rw [hw3]; exact Tch.alloc _ _ _
    have key3 : ∀ i j v, w2.cell? ⟨i, j, none⟩ = some v → w3.cell? ⟨i, j, none⟩ = some v := fun i j v hv => (t3.cell (p := ⟨i, j, none⟩) (cell_lt hv) (fun h => h)).trans hv
    have keyf : ∀ i j, i < w2.heap.size → w3.frozen? ⟨i, j, none⟩ = w2.frozen? ⟨i, j, none⟩ := fun i j hi => t3.frozen (p := ⟨i, j, none⟩) hi (fun h => h)
    have hbl2 : b < w2.heap.size := blk_lt hb2
    have e0 := key3 _ _ _ d0; have e1 := key3 _ _ _ d1; have c0 := key3 _ _ _ b0; have c1 := key3 _ _ _ b1
    have h0 : w3.frozen? ⟨b, 0, none⟩ = false := (keyf b 0 hbl2).trans f0
    have h1 : w3.frozen? ⟨b, 1, none⟩ = false := (keyf b 1 hbl2).trans f1
    have hbx3 : w3.heap[B]? = some (.cells #[.int .i64 t0.id, .int .i64 t0.ver, .string t0.nm, .slice co t0.cols.length cc, .int .i64 t0.key] 29 (0, 0)) := by rw [hw3, hB]; exact alloc_new _ _
    obtain ⟨w4, hw4⟩ : ∃ w4, w4 = (w3.setCell ⟨b, 0, none⟩ (.slice tdo Pd.length tdc)).setCell ⟨b, 1, none⟩ (.int .i64 g') := ⟨_, rfl⟩
    have t4 : Tch (fun i => i = b) w3 w4 := by rw [hw4]; exact (Tch.setCell (fun i => i = b) w3 ⟨b, 0, none⟩ _ rfl).setCellR ⟨b, 1, none⟩ _ rfl
    have hBb : B ≠ b := by omega
    have hbx4 : w4.heap[B]? = some (.cells #[.int .i64 t0.id, .int .i64 t0.ver, .string t0.nm, .slice co t0.cols.length cc, .int .i64 t0.key] 29 (0, 0)) := by rw [t4.block B (blk_lt hbx3) hBb]; exact hbx3
    have hb4 : w4.heap[b]? = some (.cells #[.slice tdo Pd.length tdc, .int .i64 g'] 60 (0, 0)) := by
      have hb3 : w3.heap[b]? = some (.cells #[.slice to P.length tc, .int .i64 gv] 60 (0, 0)) := by rw [t3.block b hbl2 (fun h => h)]; exact hb2
      rw [hw4, blk_set (blk_set hb3 _) _]; rfl
    obtain ⟨x0, x1, x2, x3, x4⟩ : w4.cell? ⟨B, 0, none⟩ = some (.int .i64 t0.id) ∧ w4.cell? ⟨B, 1, none⟩ = some (.int .i64 t0.ver) ∧ w4.cell? ⟨B, 2, none⟩ = some (.string t0.nm) ∧ w4.cell? ⟨B, 3, none⟩ = some (.slice co t0.cols.length cc) ∧ w4.cell? ⟨B, 4, none⟩ = some (.int .i64 t0.key) := ⟨by rw [blk_cell hbx4]; rfl, by rw [blk_cell hbx4]; rfl, by rw [blk_cell hbx4]; rfl, by rw [blk_cell hbx4]; rfl, by rw [blk_cell hbx4]; rfl⟩
    have T24 : Tch (fun i => i = b) w2 w4 := (t3.mono (fun _ _ h => h.elim)).trans' t4
    have hsl4 : SL w4 co (ccl t0.cols) := by
      by_cases hc : t0.cols = []
      · rw [hc]; exact SL.nil _ _
      · exact hsl.tch T24 (fun g o e => (hnb g o e hc).1)
    have q5 := copied_any t0 co cc w4 hsl4 hno (by omega)
    have Hw3 : Hid _ := hw3
    have Hw4 : Hid _ := hw4
    have HB : Hid (B = w2.heap.size) := hB
    rw [hw4] at x0 x1 x2 x3 x4
    rw [hw3] at e0 e1 c0 c1 h0 h1
    rw [hw3, hB] at x0 x1 x2 x3 x4
    have HT24 : Hid (Tch (fun i => i = b) w2 w4) := T24
    have Hb4 : Hid (w4.heap[b]? = some (.cells #[.slice tdo Pd.length tdc, .int .i64 g'] 60 (0, 0))) := hb4
    have HCO2 : Hid _ := hCO2
    clear hw3 hw4 hB hbx3 hbx4 hb4 hb2 key3 keyf t3 t4 T24 hsl4 hsl hno hnb d0 d1 b0 b1 f0 f1 hCO2 hbl2 hBb
    go_wp2_with fail
    have hw3 := Hw3.out
    rw [← hw3]
    have hw4 := Hw4.out
    rw [← hw4]
    clear hw3 hw4 x0 x1 x2 x3 x4 e0 e1 c0 c1 h0 h1
    refine q5.mono ?_
    rintro y w5 ⟨⟨v5, rfl, hv5⟩, t5⟩
    clear q5
    obtain ⟨vo, vc, hvv⟩ := row_slice hv5
    subst hvv
    have hY5 : w5.heap[N]? = some (.cells #[.int .i64 0, .int .i64 0, .string ⟨#[]⟩, .slice none 0 0, .int .i64 0] 29 (0, 0)) := by
      rw [t5.block N (Nat.lt_of_lt_of_le (blk_lt HY2.out) HT24.out.size) (fun h => h), HT24.out.block N (blk_lt HY2.out) (by omega)]; exact HY2.out
    obtain ⟨z0, z1, z2, z3, z4⟩ : w5.cell? ⟨N, 0, none⟩ = some (.int .i64 0) ∧ w5.cell? ⟨N, 1, none⟩ = some (.int .i64 0) ∧ w5.cell? ⟨N, 2, none⟩ = some (.string ⟨#[]⟩) ∧ w5.cell? ⟨N, 3, none⟩ = some (.slice none 0 0) ∧ w5.cell? ⟨N, 4, none⟩ = some (.int .i64 0) := ⟨by rw [blk_cell hY5]; rfl, by rw [blk_cell hY5]; rfl, by rw [blk_cell hY5]; rfl, by rw [blk_cell hY5]; rfl, by rw [blk_cell hY5]; rfl⟩
    have f0 := blk_frozen hY5 0; have f1 := blk_frozen hY5 1; have f2 := blk_frozen hY5 2; have f3 := blk_frozen hY5 3; have f4 := blk_frozen hY5 4
    have HFin : Hid (∀ W', W' = ((((w5.setCell ⟨N, 0, none⟩ (.int .i64 t0.id)).setCell ⟨N, 1, none⟩ (.int .i64 t0.ver)).setCell ⟨N, 2, none⟩ (.string t0.nm)).setCell ⟨N, 3, none⟩ (.slice vo t0.cols.length vc)).setCell ⟨N, 4, none⟩ (.int .i64 t0.key) → (∀ tmps : Array Value, tmps[4]?.getD undef = .pointer (some ⟨N, 0, none⟩) → tmps[5]?.getD undef = .int .i64 0 → (results Tryz.f24 tmps).run Tryz.prog W' = .ok (.tuple #[tA t0.id t0.ver t0.nm (.slice vo t0.cols.length vc) t0.key, .int .i64 0]) W') ∧ ChgOut F b 0 t0 L' g' w (.returned (.tuple #[tA t0.id t0.ver t0.nm (.slice vo t0.cols.length vc) t0.key, .int .i64 0])) W') := fun W' hW' => by
      have tE : Tch (fun i => i = N) w5 W' := by rw [hW']; exact ((((Tch.setCell (fun i => i = N) w5 ⟨N, 0, none⟩ _ rfl).setCellR ⟨N, 1, none⟩ _ rfl).setCellR ⟨N, 2, none⟩ _ rfl).setCellR ⟨N, 3, none⟩ _ rfl).setCellR ⟨N, 4, none⟩ _ rfl
      have hb : W'.heap[N]? = some (.cells #[.int .i64 t0.id, .int .i64 t0.ver, .string t0.nm, .slice vo t0.cols.length vc, .int .i64 t0.key] 29 (0, 0)) := by
        rw [hW', blk_set (blk_set (blk_set (blk_set (blk_set hY5 _) _) _) _) _]; rfl
      have hsz4 := HT24.out.size
      have hsz2 := HT2.out.size
      have hNw := HN.out
      have h2N : N < w2.heap.size := blk_lt HY2.out
      have hCO := HCO2.out
      have hTO : TO W' (N + 1) (.slice tdo Pd.length tdc) Pd := ((hCO.to.tch HT24.out (fun i hi _ h => by omega)).tch t5 (fun _ _ _ h => h)).tch tE (fun i hi _ h => by omega)
      refine ⟨fun tmps h4 h5 => res_pair Hrs.out h4 h5 (by rw [blk_cell hb]; rfl) (by rw [blk_cell hb]; rfl) (by rw [blk_cell hb]; rfl) (by rw [blk_cell hb]; rfl) (by rw [blk_cell hb]; rfl), fun _ => ⟨.slice vo t0.cols.length vc, Pd, tdo, tdc, rfl, ?_, ⟨?_, hCO.eq, hTO.tl' (fun g hg hf => ?_), fun hf => ?_⟩, ?_⟩, fun e => absurd rfl e⟩
      · exact own_low (own_tch hv5 tE (fun g e h => by have := (hv5.lt g e).1; omega)) (by omega)
      · rw [tE.block b (Nat.lt_of_lt_of_le (blk_lt Hb4.out) t5.size) (by omega), t5.block b (blk_lt Hb4.out) (fun h => h)]; exact Hb4.out
      · have hgb : N + 1 ≤ g ∧ g < w2.heap.size := by
          rcases hg with hg | ⟨i, hi, hg⟩
          · exact hCO.to.own.lt g hg
          · exact (hCO.to.col i hi).lt g hg
        rcases hf with (hf | hf) | hf
        · have := HF.out g hf; omega
        · have := (hv5.lt g hf).1; omega
        · omega
      · rcases hf with hf | hf
        · exact Hnb.out hf
        · have := (hv5.lt b hf).1; omega
      · exact ((HT2.out.mono (T := fun i => i = b) (fun _ _ h => h.elim)).trans' (HT24.out.trans' (t5.mono (fun _ _ h => h.elim)))).trans tE (fun i hi h => by omega)
    clear hv5 hY5
    go_wp2_with fail
    refine bodyPost_ret ((HFin.out _ rfl).1 _ ?_ ?_) rfl (HFin.out _ rfl).2 <;> rfl
  · obtain ⟨rfl, tvx, gvx, nx, xsx, hbx, hgx, hox, hnx, _⟩ := hO.2 hE
    obtain ⟨w3, hcl, t3⟩ := clear_own hox
    have d0 : w2.cell? ⟨d, 0, none⟩ = some tvx := by rw [blk_cell hbx]; rfl
    obtain ⟨txo, txc, htx⟩ := row_slice hox
    subst htx
    have hb4 : (E != 0) = true := by simpa using hE
    have HE : Hid (E ≠ 0) := hE
    have Hox : Hid (∀ g, (Value.slice txo nx txc).ownBlock = some g → N + 1 ≤ g ∧ g < w2.heap.size) := fun g e => hox.lt g e
    have Ht3 : Hid _ := t3
    obtain ⟨w2a, hw2a⟩ : ∃ w2a, w2a = w2.alloc (.cells #[.int .i64 0, .int .i64 0, .string ⟨#[]⟩, .slice none 0 0, .int .i64 0] 29) := ⟨_, rfl⟩
    have ta : Tch (fun _ => False) w2 w2a := by rw [hw2a]; exact Tch.alloc _ _ _
    obtain ⟨w4, hcl4, t4⟩ := clear_own (own_tch hox ta (fun _ _ h => h))
    have d0a : w2a.cell? ⟨d, 0, none⟩ = some (.slice txo nx txc) := (ta.cell (p := ⟨d, 0, none⟩) (cell_lt d0) (fun h => h)).trans d0
    rw [hw2a] at d0a hcl4
    have hY4 : w4.heap[N]? = some (.cells #[.int .i64 0, .int .i64 0, .string ⟨#[]⟩, .slice none 0 0, .int .i64 0] 29 (0, 0)) := by
      rw [t4.block N (Nat.lt_of_lt_of_le (blk_lt HY2.out) ta.size) (fun e => by have := (Hox.out N e).1; omega), ta.block N (blk_lt HY2.out) (fun h => h)]; exact HY2.out
    obtain ⟨z0, z1, z2, z3, z4⟩ : w4.cell? ⟨N, 0, none⟩ = some (.int .i64 0) ∧ w4.cell? ⟨N, 1, none⟩ = some (.int .i64 0) ∧ w4.cell? ⟨N, 2, none⟩ = some (.string ⟨#[]⟩) ∧ w4.cell? ⟨N, 3, none⟩ = some (.slice none 0 0) ∧ w4.cell? ⟨N, 4, none⟩ = some (.int .i64 0) := ⟨by rw [blk_cell hY4]; rfl, by rw [blk_cell hY4]; rfl, by rw [blk_cell hY4]; rfl, by rw [blk_cell hY4]; rfl, by rw [blk_cell hY4]; rfl⟩
    have f0 := blk_frozen hY4 0; have f1 := blk_frozen hY4 1; have f2 := blk_frozen hY4 2; have f3 := blk_frozen hY4 3; have f4 := blk_frozen hY4 4
    have HFin : Hid (∀ W', W' = ((((w4.setCell ⟨N, 0, none⟩ (.int .i64 0)).setCell ⟨N, 1, none⟩ (.int .i64 0)).setCell ⟨N, 2, none⟩ (.string ⟨#[]⟩)).setCell ⟨N, 3, none⟩ (.slice none 0 0)).setCell ⟨N, 4, none⟩ (.int .i64 0) → (∀ tmps : Array Value, tmps[4]?.getD undef = .pointer (some ⟨N, 0, none⟩) → tmps[5]?.getD undef = .int .i64 E → (results Tryz.f24 tmps).run Tryz.prog W' = .ok (.tuple #[zA, .int .i64 E]) W') ∧ ChgOut F b E t0 L' g' w (.returned (.tuple #[zA, .int .i64 E])) W') := fun W' hW' => by
      have tE : Tch (fun i => i = N) w4 W' := by rw [hW']; exact ((((Tch.setCell (fun i => i = N) w4 ⟨N, 0, none⟩ _ rfl).setCellR ⟨N, 1, none⟩ _ rfl).setCellR ⟨N, 2, none⟩ _ rfl).setCellR ⟨N, 3, none⟩ _ rfl).setCellR ⟨N, 4, none⟩ _ rfl
      have hb : W'.heap[N]? = some (.cells #[.int .i64 0, .int .i64 0, .string ⟨#[]⟩, .slice none 0 0, .int .i64 0] 29 (0, 0)) := by
        rw [hW', blk_set (blk_set (blk_set (blk_set (blk_set hY4 _) _) _) _) _]; rfl
      refine ⟨fun tmps h4 h5 => res_pair Hrs.out h4 h5 (by rw [blk_cell hb]; rfl) (by rw [blk_cell hb]; rfl) (by rw [blk_cell hb]; rfl) (by rw [blk_cell hb]; rfl) (by rw [blk_cell hb]; rfl), fun e => absurd e HE.out, fun _ => ⟨rfl, ?_⟩⟩
      have hNw := HN.out
      exact ((HT2.out.trans' ta).trans t4 (fun i hi e => by have := (Hox.out i e).1; omega)).trans tE (fun i hi h => by omega)
    clear hY4 hE d0 hcl t3 hbx hox ta t4 hw2a
    go_wp2_with fail
    refine bodyPost_ret ((HFin.out _ rfl).1 _ ?_ ?_) rfl (HFin.out _ rfl).2 <;> rfl
end Go.Proofs.YtmfbhhloabkecaaGreatDoor.C
