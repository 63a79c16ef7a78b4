import Derived.Test.YtolamjipigfocaaCBook
/- told of the book. -/
namespace Go.Proofs.Ytolamjipigfocaa
open Go.RowKit Go

/-- What stands while it goes on. -/
structure TQ (w : World) (o : Nat → Nat) (b N : Nat) (C T R : List Value) (cv tv rv hr wr : Value) (xs : List Val) (h : Tbl) (hc wc hl wl : Value) (Ph Pw : List (Tbl × Value)) (t : Tbl) (k1 k2 : Nat) (v u : Value) (W : World) (o' : Nat → Nat) : Prop where
  bb : BB W o' b C T R cv tv rv hr wr xs h hc wc hl wl Ph Pw
  r1 : RowC W o' k1 v t.cols
  r2 : RowC W o' k2 u t.cols
  ev : Ev (fun j => (6 ≤ j ∧ j ≤ 14) ∨ j = k1 ∨ j = k2 ∨ j = 19) w o W o'
  x1 : W.heap[N]? = some (.cells #[.int .i64 t.id, .int .i64 t.ver, .string t.nm, v, .int .i64 t.key] 36 (0, 0))
  x2 : W.heap[N + 1]? = some (.cells #[.int .i64 t.id, .int .i64 t.ver, .string t.nm, u, .int .i64 t.key] 36 (0, 0))
  l1 : o' N = 19
  l2 : o' (N + 1) = 19
section
variable {w : World} {o : Nat → Nat} {b N : Nat} {C T R : List Value} {cv tv rv hr wr : Value} {xs : List Val} {h : Tbl} {hc wc hl wl : Value} {Ph Pw : List (Tbl × Value)} {t : Tbl} {k1 k2 : Nat} {v u : Value} {W W' : World} {o' : Nat → Nat}
theorem TQ.no (q : TQ w o b N C T R cv tv rv hr wr xs h hc wc hl wl Ph Pw t k1 k2 v u W o') (tt : Tch (fun _ => False) W W') (hk : k1 ≠ 19 ∧ k2 ≠ 19) : TQ w o b N C T R cv tv rv hr wr xs h hc wc hl wl Ph Pw t k1 k2 v u W' (ext W o' 19) := by
  have e := Ev.quiet (o := o') 19 tt
  refine ⟨q.bb.ev e (fun j _ _ => by omega), q.r1.ev e hk.1, q.r2.ev e hk.2, q.ev.trans (e.mono (fun j hj => Or.inr (Or.inr (Or.inr hj)))), ?_, ?_, ?_, ?_⟩
  · rw [tt.block N (blk_lt q.x1) (fun h => h)]; exact q.x1
  · rw [tt.block (N + 1) (blk_lt q.x2) (fun h => h)]; exact q.x2
  · show ext W o' 19 N = 19
    unfold ext; rw [if_pos (blk_lt q.x1)]; exact q.l1
  · show ext W o' 19 (N + 1) = 19
    unfold ext; rw [if_pos (blk_lt q.x2)]; exact q.l2
end
end Go.Proofs.Ytolamjipigfocaa
/- told of the book. -/
namespace Go.Proofs.Ytolamjipigfocaa
open Go.RowKit Go

set_option maxHeartbeats 4000000 in
set_option maxRecDepth 100000 in
theorem told_any (w : World) (o : Nat → Nat) (b n : Nat) (s : BE w o b n) (hn : n ≤ 90000000) (t : Tbl) (v u : Value) (E : Int) (k1 k2 : Nat) (h1 : RowC w o k1 v t.cols) (h2 : RowC w o k2 u t.cols) (h8 : t.cols.length ≤ 8) (hk : 15 ≤ k1 ∧ k1 ≤ 18 ∧ 15 ≤ k2 ∧ k2 ≤ 18 ∧ k1 ≠ k2) :
    Calls Try.prog 20 #[.pointer (some ⟨b, 0, none⟩), tA t.id t.ver t.nm v t.key, .int .i64 E, tA t.id t.ver t.nm u t.key, .int .i64 E] w fun x w' => x = .returned (.bool true) ∧ ∃ o', BE w' o' b (n + 14) ∧ Ev (fun j => (6 ≤ j ∧ j ≤ 14) ∨ j = k1 ∨ j = k2 ∨ j = 19) w o w' o' := by
  obtain ⟨C, T, R, cv, tv, rv, hr, wr, xs, h, hc, wc, hl, wl, Ph, Pw, s, s1, s2, s3⟩ := s
  obtain ⟨ta, tc, hv⟩ := h1.slice
  obtain ⟨ua, uc, hu⟩ := h2.slice
  obtain ⟨ha, hcc, hhc⟩ := s.held.slice
  obtain ⟨wa, wcc, hwc⟩ := s.was.slice
  obtain ⟨m, hm⟩ : ∃ m, m = t.cols.length := ⟨_, rfl⟩
  obtain ⟨mh, hmh⟩ : ∃ mh, mh = h.cols.length := ⟨_, rfl⟩
  rw [← hm] at hv hu
  rw [← hmh] at hhc hwc
  subst hv hu hhc hwc
  obtain ⟨N, hN⟩ : ∃ N, N = w.heap.size := ⟨_, rfl⟩
  obtain ⟨w0, hw0⟩ : ∃ w0, w0 = (w.alloc (.cells #[.int .i64 t.id, .int .i64 t.ver, .string t.nm, .slice ta m tc, .int .i64 t.key] 36)).alloc (.cells #[.int .i64 t.id, .int .i64 t.ver, .string t.nm, .slice ua m uc, .int .i64 t.key] 36) := ⟨_, rfl⟩
  obtain ⟨Q, hQ⟩ : ∃ Q : World → Prop, Q = fun W => ∃ o', TQ w o b N C T R cv tv rv hr wr xs h (.slice ha mh hcc) (.slice wa mh wcc) hl wl Ph Pw t k1 k2 (.slice ta m tc) (.slice ua m uc) W o' := ⟨_, rfl⟩
  have HQ0 : Hid (Q w0) := by
    have t0 : Tch (fun _ => False) w w0 := by rw [hw0]; exact (Tch.alloc _ _ _).allocR _
    have e := Ev.quiet (o := o) 19 t0
    rw [hQ]
    refine ⟨_, s.ev e (fun j _ _ => by omega), h1.ev e (by omega), h2.ev e (by omega), e.mono (fun j hj => Or.inr (Or.inr (Or.inr hj))), ?_, ?_, if_neg (by omega), if_neg (by omega)⟩
    · rw [hw0, hN]; exact (Tch.alloc (fun _ => False) _ _).block _ (by simp) (fun h => h) |>.trans (alloc_new _ _)
    · rw [hw0, hN, ← World.size_alloc]; exact alloc_new _ _
  have HNo : Hid (∀ W W', Q W → Tch (fun _ => False) W W' → Q W') := fun W W' hW tt => by
    rw [hQ] at hW ⊢
    obtain ⟨o', q⟩ := hW
    exact ⟨_, q.no tt (by omega)⟩
  have HSm : Hid (∀ W, Q W → Calls Try.prog 44 #[tA t.id t.ver t.nm (.slice ta m tc) t.key, tA t.id t.ver t.nm (.slice ua m uc) t.key] W fun x w' => x = .returned (.bool true) ∧ Tch (fun _ => False) W w') := fun W hW => by
    rw [hQ] at hW
    obtain ⟨o', q⟩ := hW
    subst hm
    exact same_true t ta ua tc uc W q.r1.sl q.r2.sl h8
  have HSh : Hid (∀ W, Q W → Calls Try.prog 44 #[tA h.id h.ver h.nm (.slice ha mh hcc) h.key, tA h.id h.ver h.nm (.slice wa mh wcc) h.key] W fun x w' => x = .returned (.bool true) ∧ Tch (fun _ => False) W w') := fun W hW => by
    rw [hQ] at hW
    obtain ⟨o', q⟩ := hW
    subst hmh
    exact same_true h ha wa hcc wcc W q.bb.held.sl q.bb.was.sl s.c8
  have HX : Hid (∀ W, Q W → (W.cell? ⟨N, 0, none⟩ = some (.int .i64 t.id) ∧ W.cell? ⟨N, 1, none⟩ = some (.int .i64 t.ver) ∧ W.cell? ⟨N, 2, none⟩ = some (.string t.nm) ∧ W.cell? ⟨N, 3, none⟩ = some (.slice ta m tc) ∧ W.cell? ⟨N, 4, none⟩ = some (.int .i64 t.key)) ∧ (W.cell? ⟨N + 1, 0, none⟩ = some (.int .i64 t.id) ∧ W.cell? ⟨N + 1, 1, none⟩ = some (.int .i64 t.ver) ∧ W.cell? ⟨N + 1, 2, none⟩ = some (.string t.nm) ∧ W.cell? ⟨N + 1, 3, none⟩ = some (.slice ua m uc) ∧ W.cell? ⟨N + 1, 4, none⟩ = some (.int .i64 t.key))) := fun W hW => by
    rw [hQ] at hW
    obtain ⟨o', q⟩ := hW
    exact ⟨⟨by rw [blk_cell q.x1]; rfl, by rw [blk_cell q.x1]; rfl, by rw [blk_cell q.x1]; rfl, by rw [blk_cell q.x1]; rfl, by rw [blk_cell q.x1]; rfl⟩, by rw [blk_cell q.x2]; rfl, by rw [blk_cell q.x2]; rfl, by rw [blk_cell q.x2]; rfl, by rw [blk_cell q.x2]; rfl, by rw [blk_cell q.x2]; rfl⟩
  have HB : Hid (∀ W, Q W → (W.cell? ⟨b, 3, none⟩ = some (.int .i64 h.id) ∧ W.cell? ⟨b, 4, none⟩ = some (.int .i64 h.ver) ∧ W.cell? ⟨b, 5, none⟩ = some (.string h.nm) ∧ W.cell? ⟨b, 6, none⟩ = some (.slice ha mh hcc) ∧ W.cell? ⟨b, 7, none⟩ = some (.int .i64 h.key)) ∧ (W.cell? ⟨b, 8, none⟩ = some (.int .i64 h.id) ∧ W.cell? ⟨b, 9, none⟩ = some (.int .i64 h.ver) ∧ W.cell? ⟨b, 10, none⟩ = some (.string h.nm) ∧ W.cell? ⟨b, 11, none⟩ = some (.slice wa mh wcc) ∧ W.cell? ⟨b, 12, none⟩ = some (.int .i64 h.key))) := fun W hW => by
    rw [hQ] at hW
    obtain ⟨o', q⟩ := hW
    have hb := q.bb.b0.blk
    exact ⟨⟨by rw [blk_cell hb]; rfl, by rw [blk_cell hb]; rfl, by rw [blk_cell hb]; rfl, by rw [blk_cell hb]; rfl, by rw [blk_cell hb]; rfl⟩, by rw [blk_cell hb]; rfl, by rw [blk_cell hb]; rfl, by rw [blk_cell hb]; rfl, by rw [blk_cell hb]; rfl, by rw [blk_cell hb]; rfl⟩
  -- behind mine
  obtain ⟨Q3, hQ3⟩ : ∃ Q3 : World → Prop, Q3 = fun W => ∃ o' cv' C', B0 W o' b (bkA cv' tv rv h (.slice ha mh hcc) h (.slice wa mh wcc) hl wl hr wr) C' T R cv' tv rv hr wr xs ∧ C'.length = C.length + 14 ∧ RowC W o' k1 (.slice ta m tc) t.cols ∧ RowC W o' k2 (.slice ua m uc) t.cols ∧ TabsO W o' 13 hl Ph ∧ TabsO W o' 14 wl Pw ∧ Ev (fun j => (6 ≤ j ∧ j ≤ 14) ∨ j = k1 ∨ j = k2 ∨ j = 19) w o W o' ∧ W.heap[N]? = some (.cells #[.int .i64 t.id, .int .i64 t.ver, .string t.nm, .slice ta m tc, .int .i64 t.key] 36 (0, 0)) ∧ W.heap[N + 1]? = some (.cells #[.int .i64 t.id, .int .i64 t.ver, .string t.nm, .slice ua m uc, .int .i64 t.key] 36 (0, 0)) := ⟨_, rfl⟩
  have HMn : Hid (∀ W, Q W → Calls Try.prog 45 #[.pointer (some ⟨b, 0, none⟩), tA h.id h.ver h.nm (.slice ha mh hcc) h.key] W fun x w' => x = .returned (.tuple #[]) ∧ Q3 w') := fun W hW => by
    rw [hQ] at hW
    obtain ⟨o', q⟩ := hW
    have hob := q.bb.b0.ob
    refine (mine_m W o' b (bkA cv tv rv h (.slice ha mh hcc) h (.slice wa mh wcc) hl wl hr wr) C cv (.slice ha mh hcc) h.cols h.id h.ver h.nm h.key q.bb.b0.blk rfl rfl q.bb.b0.cs q.bb.held.row s.c8 (fun g e => ⟨by rw [q.bb.held.lab g e]; omega, fun e2 => by have h3 := q.bb.held.lab g e; rw [e2, hob] at h3; omega⟩) (by omega) q.bb.b0.c14).mono ?_
    rintro x w' ⟨rfl, o3, cv', C', hC', hb', hL', hm'⟩
    have e := hm'.ev (kh := 11) (kb := 10) (fun i hi => q.bb.held.lab i hi) hob
    rw [hQ3]
    have hbl := blk_lt q.bb.b0.blk
    refine ⟨rfl, o3, cv', C', ⟨q.bb.b0.rows.evb e (by omega) hb' rfl rfl rfl rfl, ?_, rfl, rfl, hL', q.bb.b0.ts.ev e (by omega), by rw [hC']; have := q.bb.b0.c14; omega, q.bb.b0.t14⟩, hC', q.r1.ev e (by omega), q.r2.ev e (by omega), q.bb.hlO.ev e (by omega), q.bb.wlO.ev e (by omega), q.ev.trans (e.mono (fun j hj => Or.inl (by omega))), ?_, ?_⟩
    · rw [hm'.old b hbl (fun e2 => by have h3 := q.bb.held.lab b e2; rw [hob] at h3; omega), hob]
    · rw [e.tch.block N (blk_lt q.x1) (by rw [q.l1]; omega)]; exact q.x1
    · rw [e.tch.block (N + 1) (blk_lt q.x2) (by rw [q.l2]; omega)]; exact q.x2
  have HNo3 : Hid (∀ W W', Q3 W → Tch (fun _ => False) W W' → Q3 W') := fun W W' hW tt => by
    rw [hQ3] at hW ⊢
    obtain ⟨o', cv', C', q1, q2, q3, q4, q5, q6, q7, q8, q9⟩ := hW
    have e := Ev.quiet (o := o') 19 tt
    exact ⟨_, cv', C', q1.ev e (by omega), q2, q3.ev e (by omega), q4.ev e (by omega), q5.ev e (by omega), q6.ev e (by omega), q7.trans (e.mono (fun j hj => Or.inr (Or.inr (Or.inr hj)))), by rw [tt.block N (blk_lt q8) (fun h => h)]; exact q8, by rw [tt.block (N + 1) (blk_lt q9) (fun h => h)]; exact q9⟩
  have HSm3 : Hid (∀ W, Q3 W → Calls Try.prog 44 #[tA t.id t.ver t.nm (.slice ta m tc) t.key, tA t.id t.ver t.nm (.slice ua m uc) t.key] W fun x w' => x = .returned (.bool true) ∧ Tch (fun _ => False) W w') := fun W hW => by
    rw [hQ3] at hW
    obtain ⟨o', cv', C', q1, q2, q3, q4, _⟩ := hW
    subst hm
    exact same_true t ta ua tc uc W q3.sl q4.sl h8
  have HX3 : Hid (∀ W, Q3 W → ((W.cell? ⟨N, 0, none⟩ = some (.int .i64 t.id) ∧ W.cell? ⟨N, 1, none⟩ = some (.int .i64 t.ver) ∧ W.cell? ⟨N, 2, none⟩ = some (.string t.nm) ∧ W.cell? ⟨N, 3, none⟩ = some (.slice ta m tc) ∧ W.cell? ⟨N, 4, none⟩ = some (.int .i64 t.key)) ∧ (W.cell? ⟨N + 1, 0, none⟩ = some (.int .i64 t.id) ∧ W.cell? ⟨N + 1, 1, none⟩ = some (.int .i64 t.ver) ∧ W.cell? ⟨N + 1, 2, none⟩ = some (.string t.nm) ∧ W.cell? ⟨N + 1, 3, none⟩ = some (.slice ua m uc) ∧ W.cell? ⟨N + 1, 4, none⟩ = some (.int .i64 t.key))) ∧ ((W.cell? ⟨b, 3, none⟩ = some (.int .i64 h.id) ∧ W.cell? ⟨b, 4, none⟩ = some (.int .i64 h.ver) ∧ W.cell? ⟨b, 5, none⟩ = some (.string h.nm) ∧ W.cell? ⟨b, 6, none⟩ = some (.slice ha mh hcc) ∧ W.cell? ⟨b, 7, none⟩ = some (.int .i64 h.key)) ∧ (W.cell? ⟨b, 8, none⟩ = some (.int .i64 h.id) ∧ W.cell? ⟨b, 9, none⟩ = some (.int .i64 h.ver) ∧ W.cell? ⟨b, 10, none⟩ = some (.string h.nm) ∧ W.cell? ⟨b, 11, none⟩ = some (.slice wa mh wcc) ∧ W.cell? ⟨b, 12, none⟩ = some (.int .i64 h.key))) ∧ ∀ j, W.frozen? ⟨b, j, none⟩ = false) := fun W hW => by
    rw [hQ3] at hW
    obtain ⟨o', cv', C', q1, _, _, _, _, _, _, q8, q9⟩ := hW
    have hb := q1.blk
    exact ⟨⟨⟨by rw [blk_cell q8]; rfl, by rw [blk_cell q8]; rfl, by rw [blk_cell q8]; rfl, by rw [blk_cell q8]; rfl, by rw [blk_cell q8]; rfl⟩, by rw [blk_cell q9]; rfl, by rw [blk_cell q9]; rfl, by rw [blk_cell q9]; rfl, by rw [blk_cell q9]; rfl, by rw [blk_cell q9]; rfl⟩, ⟨⟨by rw [blk_cell hb]; rfl, by rw [blk_cell hb]; rfl, by rw [blk_cell hb]; rfl, by rw [blk_cell hb]; rfl, by rw [blk_cell hb]; rfl⟩, by rw [blk_cell hb]; rfl, by rw [blk_cell hb]; rfl, by rw [blk_cell hb]; rfl, by rw [blk_cell hb]; rfl, by rw [blk_cell hb]; rfl⟩, fun j => blk_frozen hb j⟩
  have HFin : Hid (∀ W W', Q3 W → W' = ((((((((((W.setCell ⟨b, 3, none⟩ (.int .i64 t.id)).setCell ⟨b, 4, none⟩ (.int .i64 t.ver)).setCell ⟨b, 5, none⟩ (.string t.nm)).setCell ⟨b, 6, none⟩ (.slice ta m tc)).setCell ⟨b, 7, none⟩ (.int .i64 t.key)).setCell ⟨b, 8, none⟩ (.int .i64 t.id)).setCell ⟨b, 9, none⟩ (.int .i64 t.ver)).setCell ⟨b, 10, none⟩ (.string t.nm)).setCell ⟨b, 11, none⟩ (.slice ua m uc)).setCell ⟨b, 12, none⟩ (.int .i64 t.key)) → ∃ o', BE W' o' b (n + 14) ∧ Ev (fun j => (6 ≤ j ∧ j ≤ 14) ∨ j = k1 ∨ j = k2 ∨ j = 19) w o W' o') := fun W W' hW hW' => by
    rw [hQ3] at hW
    obtain ⟨o', cv', C', q1, q2, q3, q4, q5, q6, q7, _⟩ := hW
    obtain ⟨W1, hW1⟩ : ∃ W1, W1 = ((((W.setCell ⟨b, 3, none⟩ (.int .i64 t.id)).setCell ⟨b, 4, none⟩ (.int .i64 t.ver)).setCell ⟨b, 5, none⟩ (.string t.nm)).setCell ⟨b, 6, none⟩ (.slice ta m tc)).setCell ⟨b, 7, none⟩ (.int .i64 t.key) := ⟨_, rfl⟩
    rw [← hW1] at hW'
    have tE1 : Tch (fun i => i = b) W W1 := by rw [hW1]; exact ((((Tch.setCell (fun i => i = b) W ⟨b, 3, none⟩ _ rfl).setCellR ⟨b, 4, none⟩ _ rfl).setCellR ⟨b, 5, none⟩ _ rfl).setCellR ⟨b, 6, none⟩ _ rfl).setCellR ⟨b, 7, none⟩ _ rfl
    have hs1 : W1.heap.size = W.heap.size := by rw [hW1]; simp only [World.size_setCell]
    have hb1 : W1.heap[b]? = some (.cells (bkA cv' tv rv t (.slice ta m tc) h (.slice wa mh wcc) hl wl hr wr) 41 (0, 0)) := by
      have a1 := blk_set (i := 3) q1.blk (.int .i64 t.id)
      have a2 := blk_set (i := 4) a1 (.int .i64 t.ver)
      have a3 := blk_set (i := 5) a2 (.string t.nm)
      have a4 := blk_set (i := 6) a3 (.slice ta m tc)
      have a5 := blk_set (i := 7) a4 (.int .i64 t.key)
      rw [hW1]; exact a5
    obtain ⟨p0, e0⟩ := q1.put tE1 hs1 hb1 rfl rfl rfl rfl rfl rfl
    have tE : Tch (fun i => i = b) W1 W' := by rw [hW']; exact ((((Tch.setCell (fun i => i = b) W1 ⟨b, 8, none⟩ _ rfl).setCellR ⟨b, 9, none⟩ _ rfl).setCellR ⟨b, 10, none⟩ _ rfl).setCellR ⟨b, 11, none⟩ _ rfl).setCellR ⟨b, 12, none⟩ _ rfl
    have hs' : W'.heap.size = W1.heap.size := by rw [hW']; simp only [World.size_setCell]
    have hb' : W'.heap[b]? = some (.cells (bkA cv' tv rv t (.slice ta m tc) t (.slice ua m uc) hl wl hr wr) 41 (0, 0)) := by
      have a1 := blk_set (i := 8) hb1 (.int .i64 t.id)
      have a2 := blk_set (i := 9) a1 (.int .i64 t.ver)
      have a3 := blk_set (i := 10) a2 (.string t.nm)
      have a4 := blk_set (i := 11) a3 (.slice ua m uc)
      have a5 := blk_set (i := 12) a4 (.int .i64 t.key)
      rw [hW']; exact a5
    obtain ⟨p1, e1'⟩ := p0.put tE hs' hb' rfl rfl rfl rfl rfl rfl
    have e1 := e0.trans e1'
    have e2 := Ev.relab W' o' k1 11
    have e3 := Ev.relab W' (rlb o' k1 11) k2 12
    have r1 : RowC W' (rlb (rlb o' k1 11) k2 12) 11 (.slice ta m tc) t.cols := ((q3.ev e1 (by omega)).relab 11).ev e3 (by omega)
    have r2 : RowC W' (rlb (rlb o' k1 11) k2 12) 12 (.slice ua m uc) t.cols := ((q4.ev e1 (by omega)).ev e2 (by omega)).relab 12
    refine ⟨_, ⟨C', T, R, cv', tv, rv, hr, wr, xs, t, .slice ta m tc, .slice ua m uc, hl, wl, Ph, Pw, ⟨(p1.ev e2 (by omega)).ev e3 (by omega), r1, r2, h8, ((q5.ev e1 (by omega)).ev e2 (by omega)).ev e3 (by omega), ((q6.ev e1 (by omega)).ev e2 (by omega)).ev e3 (by omega), s.same, s.len, s.p8⟩, by omega, by omega, by omega⟩, ((q7.trans (e1.mono (fun j hj => Or.inl (by omega)))).trans (e2.mono (fun j hj => ?_))).trans (e3.mono (fun j hj => ?_))⟩
    · rcases hj with hj | hj
      · exact Or.inr (Or.inl hj)
      · exact Or.inl (by omega)
    · rcases hj with hj | hj
      · exact Or.inr (Or.inr (Or.inl hj))
      · exact Or.inl (by omega)
  have HbNN : Hid (∀ W, Q3 W → b ≠ N ∧ b ≠ N + 1) := fun W _ => by have := blk_lt s.b0.blk; omega
  have Hw0 : Hid _ := hw0
  have HN : Hid (N = w.heap.size) := hN
  have hEE : (E == E) = true := by simp
  obtain ⟨⟨a0, a1, a2, a3, a4⟩, b0, b1, b2, b3, b4⟩ := HX.out w0 HQ0.out
  have q1 := HSm.out w0 HQ0.out
  clear s s1 s2 s3 h1 h2 h8 hk hn hw0 hN hm hmh hQ hQ3
  rw [Hw0.out, HN.out] at a0 a1 a2 a3 a4 b0 b1 b2 b3 b4
  go_enter Try.func20, Try.ntmps20
  go_wp2_with fail
  have hw0 := Hw0.out
  rw [← hw0]
  rw [← HN.out]
  clear hw0 a0 a1 a2 a3 a4 b0 b1 b2 b3 b4
  refine q1.mono ?_
  rintro x w1 ⟨rfl, t1⟩
  clear q1
  have HQ1 : Hid (Q w1) := HNo.out w0 w1 HQ0.out t1
  clear t1 HQ0
  obtain ⟨⟨c3, c4, c5, c6, c7⟩, c8, c9, c10, c11, c12⟩ := HB.out w1 HQ1.out
  have HS : Hid (∀ W, Tch (fun _ => False) w1 W → Tch (fun _ => False) w1 W ∧ (W.cell? ⟨b, 3, none⟩ = some (.int .i64 h.id) ∧ W.cell? ⟨b, 4, none⟩ = some (.int .i64 h.ver) ∧ W.cell? ⟨b, 5, none⟩ = some (.string h.nm) ∧ W.cell? ⟨b, 6, none⟩ = some (.slice ha mh hcc) ∧ W.cell? ⟨b, 7, none⟩ = some (.int .i64 h.key)) ∧ (W.cell? ⟨b, 8, none⟩ = some (.int .i64 h.id) ∧ W.cell? ⟨b, 9, none⟩ = some (.int .i64 h.ver) ∧ W.cell? ⟨b, 10, none⟩ = some (.string h.nm) ∧ W.cell? ⟨b, 11, none⟩ = some (.slice wa mh wcc) ∧ W.cell? ⟨b, 12, none⟩ = some (.int .i64 h.key))) := fun W tW => ⟨tW, HB.out W (HNo.out w1 W HQ1.out tW)⟩
  have HSq : Hid (∀ W, Tch (fun _ => False) w1 W → Calls Try.prog 44 #[tA h.id h.ver h.nm (.slice ha mh hcc) h.key, tA h.id h.ver h.nm (.slice wa mh wcc) h.key] W fun x w' => x = .returned (.bool true) ∧ Tch (fun _ => False) W w') := fun W tW => HSh.out W (HNo.out w1 W HQ1.out tW)
  go_wp2_with fail
  have T0 : Tch (fun _ => False) w1 w1 := Tch.refl _ _
  go_region_held3 (fun W => Tch (fun _ => False) w1 W ∧ (W.cell? ⟨b, 3, none⟩ = some (.int .i64 h.id) ∧ W.cell? ⟨b, 4, none⟩ = some (.int .i64 h.ver) ∧ W.cell? ⟨b, 5, none⟩ = some (.string h.nm) ∧ W.cell? ⟨b, 6, none⟩ = some (.slice ha mh hcc) ∧ W.cell? ⟨b, 7, none⟩ = some (.int .i64 h.key)) ∧ (W.cell? ⟨b, 8, none⟩ = some (.int .i64 h.id) ∧ W.cell? ⟨b, 9, none⟩ = some (.int .i64 h.ver) ∧ W.cell? ⟨b, 10, none⟩ = some (.string h.nm) ∧ W.cell? ⟨b, 11, none⟩ = some (.slice wa mh wcc) ∧ W.cell? ⟨b, 12, none⟩ = some (.int .i64 h.key)))
    ((refine HS.out _ ?_; first | assumption | exact Tch.drew T0))
    ((go_at_call 44; refine (HSq.out _ (show _ ∧ _ by assumption).1).mono ?_; rintro y w2 ⟨rfl, t2⟩; have V2 := Tch.trans' (show _ ∧ _ by assumption).1 t2))
  have HQ2 : Hid (Q w2) := HNo.out w1 w2 HQ1.out V2
  clear c3 c4 c5 c6 c7 c8 c9 c10 c11 c12 T0 HS HSq V2 t2
  obtain ⟨⟨c3, c4, c5, c6, c7⟩, c8, c9, c10, c11, c12⟩ := HB.out w2 HQ2.out
  have q3 := HMn.out w2 HQ2.out
  go_wp2_with fail
  refine q3.mono ?_
  rintro x w3 ⟨rfl, hq3⟩
  clear q3 c3 c4 c5 c6 c7 c8 c9 c10 c11 c12
  have H3 : Hid (Q3 w3) := hq3
  clear hq3
  obtain ⟨⟨⟨a0, a1, a2, a3, a4⟩, b0, b1, b2, b3, b4⟩, _⟩ := HX3.out w3 H3.out
  have q4 := HSm3.out w3 H3.out
  go_wp2_with fail
  refine q4.mono ?_
  rintro x w4 ⟨rfl, t4⟩
  clear q4 a0 a1 a2 a3 a4 b0 b1 b2 b3 b4
  have H4 : Hid (Q3 w4) := HNo3.out w3 w4 H3.out t4
  obtain ⟨⟨⟨a0, a1, a2, a3, a4⟩, b0, b1, b2, b3, b4⟩, ⟨⟨c3, c4, c5, c6, c7⟩, c8, c9, c10, c11, c12⟩, hf⟩ := HX3.out w4 H4.out
  have f3 := hf 3; have f4 := hf 4; have f5 := hf 5; have f6 := hf 6; have f7 := hf 7; have f8 := hf 8; have f9 := hf 9; have f10 := hf 10; have f11 := hf 11; have f12 := hf 12
  have HF : Hid _ := HFin.out w4 _ H4.out rfl
  have HbN : Hid (b ≠ N ∧ b ≠ N + 1) := HbNN.out w4 H4.out
  have tE5 : Tch (fun i => i = b) w4 (((((w4.setCell ⟨b, 3, none⟩ (.int .i64 t.id)).setCell ⟨b, 4, none⟩ (.int .i64 t.ver)).setCell ⟨b, 5, none⟩ (.string t.nm)).setCell ⟨b, 6, none⟩ (.slice ta m tc)).setCell ⟨b, 7, none⟩ (.int .i64 t.key)) := ((((Tch.setCell (fun i => i = b) w4 ⟨b, 3, none⟩ _ rfl).setCellR ⟨b, 4, none⟩ _ rfl).setCellR ⟨b, 5, none⟩ _ rfl).setCellR ⟨b, 6, none⟩ _ rfl).setCellR ⟨b, 7, none⟩ _ rfl
  have d0 : (((((w4.setCell ⟨b, 3, none⟩ (.int .i64 t.id)).setCell ⟨b, 4, none⟩ (.int .i64 t.ver)).setCell ⟨b, 5, none⟩ (.string t.nm)).setCell ⟨b, 6, none⟩ (.slice ta m tc)).setCell ⟨b, 7, none⟩ (.int .i64 t.key)).cell? ⟨N + 1, 0, none⟩ = some (.int .i64 t.id) := (tE5.cell (p := ⟨N + 1, 0, none⟩) (cell_lt b0) (fun e => HbN.out.2 e.symm)).trans b0
  have d1 : (((((w4.setCell ⟨b, 3, none⟩ (.int .i64 t.id)).setCell ⟨b, 4, none⟩ (.int .i64 t.ver)).setCell ⟨b, 5, none⟩ (.string t.nm)).setCell ⟨b, 6, none⟩ (.slice ta m tc)).setCell ⟨b, 7, none⟩ (.int .i64 t.key)).cell? ⟨N + 1, 1, none⟩ = some (.int .i64 t.ver) := (tE5.cell (p := ⟨N + 1, 1, none⟩) (cell_lt b1) (fun e => HbN.out.2 e.symm)).trans b1
  have d2 : (((((w4.setCell ⟨b, 3, none⟩ (.int .i64 t.id)).setCell ⟨b, 4, none⟩ (.int .i64 t.ver)).setCell ⟨b, 5, none⟩ (.string t.nm)).setCell ⟨b, 6, none⟩ (.slice ta m tc)).setCell ⟨b, 7, none⟩ (.int .i64 t.key)).cell? ⟨N + 1, 2, none⟩ = some (.string t.nm) := (tE5.cell (p := ⟨N + 1, 2, none⟩) (cell_lt b2) (fun e => HbN.out.2 e.symm)).trans b2
  have d3 : (((((w4.setCell ⟨b, 3, none⟩ (.int .i64 t.id)).setCell ⟨b, 4, none⟩ (.int .i64 t.ver)).setCell ⟨b, 5, none⟩ (.string t.nm)).setCell ⟨b, 6, none⟩ (.slice ta m tc)).setCell ⟨b, 7, none⟩ (.int .i64 t.key)).cell? ⟨N + 1, 3, none⟩ = some (.slice ua m uc) := (tE5.cell (p := ⟨N + 1, 3, none⟩) (cell_lt b3) (fun e => HbN.out.2 e.symm)).trans b3
  have d4 : (((((w4.setCell ⟨b, 3, none⟩ (.int .i64 t.id)).setCell ⟨b, 4, none⟩ (.int .i64 t.ver)).setCell ⟨b, 5, none⟩ (.string t.nm)).setCell ⟨b, 6, none⟩ (.slice ta m tc)).setCell ⟨b, 7, none⟩ (.int .i64 t.key)).cell? ⟨N + 1, 4, none⟩ = some (.int .i64 t.key) := (tE5.cell (p := ⟨N + 1, 4, none⟩) (cell_lt b4) (fun e => HbN.out.2 e.symm)).trans b4
  clear tE5
  clear hf t4 H3
  go_wp2_with fail
  go_ret
  exact ⟨rfl, HF.out⟩
end Go.Proofs.Ytolamjipigfocaa
