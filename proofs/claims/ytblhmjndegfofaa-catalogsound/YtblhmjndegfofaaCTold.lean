import Derived.Test.YtblhmjndegfofaaCCre2
/- told, Get, ByID. -/
namespace Go.Proofs.Ytblhmjndegfofaa
open Go.RowKit Go

/-- A table that came out. -/
def TK (t : Tbl) (w : World) (x : Ending) (w' : World) : Prop := ∃ v, x = .returned (.tuple #[tA t.id t.ver t.nm v t.key, .int .i64 0]) ∧ w'.ownsRow w.heap.size 34 3 v t.cols.length (ccl t.cols)
theorem told_none (b : Nat) (w : World) : Calls Try.prog 50 #[.pointer (some ⟨b, 0, none⟩), .int .i64 (-1)] w fun x w' => x = .returned (.tuple #[zA, .int .i64 52]) ∧ Tch (fun _ => False) w w' := by
  obtain ⟨N, hN⟩ : ∃ N, N = w.heap.size := ⟨_, rfl⟩
  obtain ⟨w0, hw0⟩ : ∃ w0, w0 = w.alloc (.cells #[.int .i64 0, .int .i64 0, .string ⟨#[]⟩, .slice none 0 0, .int .i64 0] 29) := ⟨_, rfl⟩
  have hY : w0.heap[N]? = some (.cells #[.int .i64 0, .int .i64 0, .string ⟨#[]⟩, .slice none 0 0, .int .i64 0] 29 (0, 0)) := by rw [hw0, hN]; exact alloc_new _ _
  obtain ⟨y0, y1, y2, y3, y4⟩ : w0.cell? ⟨N, 0, none⟩ = some (.int .i64 0) ∧ w0.cell? ⟨N, 1, none⟩ = some (.int .i64 0) ∧ w0.cell? ⟨N, 2, none⟩ = some (.string ⟨#[]⟩) ∧ w0.cell? ⟨N, 3, none⟩ = some (.slice none 0 0) ∧ w0.cell? ⟨N, 4, none⟩ = some (.int .i64 0) := ⟨by rw [blk_cell hY]; rfl, by rw [blk_cell hY]; rfl, by rw [blk_cell hY]; rfl, by rw [blk_cell hY]; rfl, by rw [blk_cell hY]; rfl⟩
  have g0 := blk_frozen hY 0; have g1 := blk_frozen hY 1; have g2 := blk_frozen hY 2; have g3 := blk_frozen hY 3; have g4 := blk_frozen hY 4
  have HT : Hid (∀ W, Tch (fun i => i = N) w0 W → Tch (fun _ => False) w W) := fun W tW => by
    have t0 : Tch (fun _ => False) w w0 := by rw [hw0]; exact Tch.alloc _ _ _
    exact t0.trans tW (fun i hi h => by omega)
  have Hw0 : Hid _ := hw0
  have HN : Hid (N = w.heap.size) := hN
  clear hw0 hN hY
  have hrs : Try.f50.results = #[.cell 4 29, .tmp 5] := by kernel_rfl
  go_enter Try.func50, Try.ntmps50
  go_wp2_with fail
  refine bodyPost_ret (v := .tuple #[zA, .int .i64 52]) (by simp only [results, hrs]; go_simp) rfl ⟨rfl, Tch.alloc _ _ _⟩

set_option maxHeartbeats 1000000 in
set_option maxRecDepth 100000 in
theorem told_some (b : Nat) (to : Option Addr) (tc : Nat) (P : List (Tbl × Value)) (F : Nat → Prop) (k : Nat) (hk : k < P.length) (w : World) (hb : w.cell? ⟨b, 0, none⟩ = some (.slice to P.length tc)) (hT : TL w F to P) (h8 : P[k].1.cols.length ≤ 8) :
    Calls Try.prog 50 #[.pointer (some ⟨b, 0, none⟩), .int .i64 k] w fun x w' => TK P[k].1 w x w' ∧ Tch (fun _ => False) w w' := by
  obtain ⟨N, hN⟩ : ∃ N, N = w.heap.size := ⟨_, rfl⟩
  obtain ⟨w0, hw0⟩ : ∃ w0, w0 = w.alloc (.cells #[.int .i64 0, .int .i64 0, .string ⟨#[]⟩, .slice none 0 0, .int .i64 0] 29) := ⟨_, rfl⟩
  have t0 : Tch (fun _ => False) w w0 := by rw [hw0]; exact Tch.alloc _ _ _
  have hY0 : w0.heap[N]? = some (.cells #[.int .i64 0, .int .i64 0, .string ⟨#[]⟩, .slice none 0 0, .int .i64 0] 29 (0, 0)) := by rw [hw0, hN]; exact alloc_new _ _
  obtain ⟨g, o, rfl, c0, c1, c2, c3, c4⟩ := (hT.tch t0 (fun _ _ h => h.elim)).at k hk
  obtain ⟨co, cc, hck⟩ := (hT.tch t0 (fun _ _ h => h.elim)).col k hk
  have hb0 : w0.cell? ⟨b, 0, none⟩ = some (.slice (some ⟨g, o, none⟩) P.length tc) := by rw [t0.cell (p := ⟨b, 0, none⟩) (cell_lt hb) (fun h => h)]; exact hb
  obtain ⟨p, hp⟩ : ∃ p, p = P[k] := ⟨_, rfl⟩
  rw [← hp] at c0 c1 c2 c3 c4 hck h8 ⊢
  have q := copied_any p.1 co cc w0 hck.sl hck.no (by omega)
  rw [hck.eq] at c3
  rw [hw0] at hb0 c0 c1 c2 c3 c4
  obtain ⟨n, hn⟩ : ∃ n, n = P.length := ⟨_, rfl⟩
  rw [← hn] at hb0 hk
  have Hw0 : Hid _ := hw0
  have HN : Hid (N = w.heap.size) := hN
  have Ht0 : Hid (Tch (fun _ => False) w w0) := t0
  have HY0 : Hid _ := hY0
  have hkI : (k : Int) < n := by omega
  clear hw0 hN hY0 hT hb hck t0 hp hn h8
  have hrs : Try.f50.results = #[.cell 4 29, .tmp 5] := by kernel_rfl
  go_enter Try.func50, Try.ntmps50
  go_wp2_with fail
  have hw0 := Hw0.out
  rw [← hw0]
  rw [← HN.out]
  clear hw0 hb0 c0 c1 c2 c3 c4
  refine q.mono ?_
  rintro x w1 ⟨⟨v, rfl, hv⟩, t1⟩
  clear q
  obtain ⟨vo, vc, rfl⟩ := row_slice hv
  have hY : w1.heap[N]? = some (.cells #[.int .i64 0, .int .i64 0, .string ⟨#[]⟩, .slice none 0 0, .int .i64 0] 29 (0, 0)) := by rw [t1.block N (blk_lt HY0.out) (fun h => h)]; exact HY0.out
  obtain ⟨y0, y1, y2, y3, y4⟩ : w1.cell? ⟨N, 0, none⟩ = some (.int .i64 0) ∧ w1.cell? ⟨N, 1, none⟩ = some (.int .i64 0) ∧ w1.cell? ⟨N, 2, none⟩ = some (.string ⟨#[]⟩) ∧ w1.cell? ⟨N, 3, none⟩ = some (.slice none 0 0) ∧ w1.cell? ⟨N, 4, none⟩ = some (.int .i64 0) := ⟨by rw [blk_cell hY]; rfl, by rw [blk_cell hY]; rfl, by rw [blk_cell hY]; rfl, by rw [blk_cell hY]; rfl, by rw [blk_cell hY]; rfl⟩
  have g0 := blk_frozen hY 0; have g1 := blk_frozen hY 1; have g2 := blk_frozen hY 2; have g3 := blk_frozen hY 3; have g4 := blk_frozen hY 4
  have HV : Hid (∀ W, Tch (fun i => i = N) w1 W → W.ownsRow w.heap.size 34 3 (.slice vo p.1.cols.length vc) p.1.cols.length (ccl p.1.cols)) := fun W tW => own_low (own_tch hv tW (fun g e h => by have := row_ge hv e; have := blk_lt HY0.out; omega)) Ht0.out.size
  have HT : Hid (∀ W, Tch (fun i => i = N) w1 W → Tch (fun _ => False) w W) := fun W tW => (Ht0.out.trans' t1).trans tW (fun i hi h => by have := HN.out; omega)
  clear hY hv t1
  go_wp2_with fail
  refine bodyPost_ret (v := .tuple #[tA p.1.id p.1.ver p.1.nm (.slice vo p.1.cols.length vc) p.1.key, .int .i64 0]) (by simp only [results, hrs]; go_simp) rfl ⟨⟨.slice vo p.1.cols.length vc, rfl, HV.out _ ?_⟩, HT.out _ ?_⟩
  all_goals exact ((((Tch.setCell (fun i => i = N) w1 ⟨N, 0, none⟩ _ rfl).setCellR ⟨N, 1, none⟩ _ rfl).setCellR ⟨N, 2, none⟩ _ rfl).setCellR ⟨N, 3, none⟩ _ rfl).setCellR ⟨N, 4, none⟩ _ rfl

theorem nm_none (b : Nat) (to : Option Addr) (tc : Nat) (P : List (Tbl × Value)) (F : Nat → Prop) (nm : ByteArray) (w : World) (hb : w.cell? ⟨b, 0, none⟩ = some (.slice to P.length tc)) (hT : TL w F to P) (hl : P.length ≤ 16) (hp : posP (fun t => decide (t.nm = nm)) P = -1) :
    Calls Try.prog 21 #[.pointer (some ⟨b, 0, none⟩), .string nm] w fun x w' => x = .returned (.tuple #[zA, .int .i64 52]) ∧ Tch (fun _ => False) w w' := by
  obtain ⟨N, hN⟩ : ∃ N, N = w.heap.size := ⟨_, rfl⟩
  obtain ⟨w0, hw0⟩ : ∃ w0, w0 = w.alloc (.cells #[.int .i64 0, .int .i64 0, .string ⟨#[]⟩, .slice none 0 0, .int .i64 0] 29) := ⟨_, rfl⟩
  have t0 : Tch (fun _ => False) w w0 := by rw [hw0]; exact Tch.alloc _ _ _
  have hY0 : w0.heap[N]? = some (.cells #[.int .i64 0, .int .i64 0, .string ⟨#[]⟩, .slice none 0 0, .int .i64 0] 29 (0, 0)) := by rw [hw0, hN]; exact alloc_new _ _
  have hb0 : w0.cell? ⟨b, 0, none⟩ = some (.slice to P.length tc) := by rw [t0.cell (p := ⟨b, 0, none⟩) (cell_lt hb) (fun h => h)]; exact hb
  have q1 := nm3_any b to tc P F nm w0 hb0 (hT.tch t0 (fun _ _ h => h.elim)) hl
  rw [hp] at q1
  have Hq2 : Hid _ := told_none b
  have Hw0 : Hid _ := hw0
  have HN : Hid (N = w.heap.size) := hN
  have Ht0 : Hid (Tch (fun _ => False) w w0) := t0
  have HY0 : Hid _ := hY0
  clear hw0 hN hY0 hT hb hb0 t0 hp
  have hrs : Try.f21.results = #[.cell 4 29, .tmp 5] := by kernel_rfl
  go_enter Try.func21, Try.ntmps21
  go_wp2_with fail
  have hw0 := Hw0.out
  rw [← hw0]
  rw [← HN.out]
  clear hw0
  refine q1.mono ?_
  rintro x w1 ⟨rfl, t1⟩
  clear q1
  have q2 := Hq2.out w1
  go_wp2_with fail
  refine q2.mono ?_
  rintro x w2 ⟨rfl, t2⟩
  clear q2
  have hY : w2.heap[N]? = some (.cells #[.int .i64 0, .int .i64 0, .string ⟨#[]⟩, .slice none 0 0, .int .i64 0] 29 (0, 0)) := by rw [(t1.trans' t2).block N (blk_lt HY0.out) (fun h => h)]; exact HY0.out
  obtain ⟨y0, y1, y2, y3, y4⟩ : w2.cell? ⟨N, 0, none⟩ = some (.int .i64 0) ∧ w2.cell? ⟨N, 1, none⟩ = some (.int .i64 0) ∧ w2.cell? ⟨N, 2, none⟩ = some (.string ⟨#[]⟩) ∧ w2.cell? ⟨N, 3, none⟩ = some (.slice none 0 0) ∧ w2.cell? ⟨N, 4, none⟩ = some (.int .i64 0) := ⟨by rw [blk_cell hY]; rfl, by rw [blk_cell hY]; rfl, by rw [blk_cell hY]; rfl, by rw [blk_cell hY]; rfl, by rw [blk_cell hY]; rfl⟩
  have g0 := blk_frozen hY 0; have g1 := blk_frozen hY 1; have g2 := blk_frozen hY 2; have g3 := blk_frozen hY 3; have g4 := blk_frozen hY 4
  have HT : Hid (∀ W, Tch (fun i => i = N) w2 W → Tch (fun _ => False) w W) := fun W tW => ((Ht0.out.trans' t1).trans' t2).trans tW (fun i hi h => by have := HN.out; omega)
  clear hY t1 t2
  go_wp2_with fail
  refine bodyPost_ret (v := .tuple #[zA, .int .i64 52]) (by simp only [results, hrs]; go_simp) rfl ⟨rfl, HT.out _ ?_⟩
  exact ((((Tch.setCell (fun i => i = N) w2 ⟨N, 0, none⟩ _ rfl).setCellR ⟨N, 1, none⟩ _ rfl).setCellR ⟨N, 2, none⟩ _ rfl).setCellR ⟨N, 3, none⟩ _ rfl).setCellR ⟨N, 4, none⟩ _ rfl

set_option maxHeartbeats 1000000 in
set_option maxRecDepth 100000 in
theorem nm_some (b : Nat) (to : Option Addr) (tc : Nat) (P : List (Tbl × Value)) (F : Nat → Prop) (nm : ByteArray) (k : Nat) (hk : k < P.length) (w : World) (hb : w.cell? ⟨b, 0, none⟩ = some (.slice to P.length tc)) (hT : TL w F to P) (hl : P.length ≤ 16) (h8 : P[k].1.cols.length ≤ 8) (hp : posP (fun t => decide (t.nm = nm)) P = k) :
    Calls Try.prog 21 #[.pointer (some ⟨b, 0, none⟩), .string nm] w fun x w' => TK P[k].1 w x w' ∧ Tch (fun _ => False) w w' := by
  obtain ⟨N, hN⟩ : ∃ N, N = w.heap.size := ⟨_, rfl⟩
  obtain ⟨w0, hw0⟩ : ∃ w0, w0 = w.alloc (.cells #[.int .i64 0, .int .i64 0, .string ⟨#[]⟩, .slice none 0 0, .int .i64 0] 29) := ⟨_, rfl⟩
  have t0 : Tch (fun _ => False) w w0 := by rw [hw0]; exact Tch.alloc _ _ _
  have hY0 : w0.heap[N]? = some (.cells #[.int .i64 0, .int .i64 0, .string ⟨#[]⟩, .slice none 0 0, .int .i64 0] 29 (0, 0)) := by rw [hw0, hN]; exact alloc_new _ _
  have hb0 : w0.cell? ⟨b, 0, none⟩ = some (.slice to P.length tc) := by rw [t0.cell (p := ⟨b, 0, none⟩) (cell_lt hb) (fun h => h)]; exact hb
  have q1 := nm3_any b to tc P F nm w0 hb0 (hT.tch t0 (fun _ _ h => h.elim)) hl
  rw [hp] at q1
  have Hq2 : Hid (∀ W, Tch (fun _ => False) w0 W → Calls Try.prog 50 #[.pointer (some ⟨b, 0, none⟩), .int .i64 k] W fun x w' => TK P[k].1 W x w' ∧ Tch (fun _ => False) W w') := fun W tW => told_some b to tc P F k hk W (by rw [tW.cell (p := ⟨b, 0, none⟩) (cell_lt hb0) (fun h => h)]; exact hb0) ((hT.tch t0 (fun _ _ h => h.elim)).tch tW (fun _ _ h => h.elim)) h8
  obtain ⟨p, hpp⟩ : ∃ p, p = P[k].1 := ⟨_, rfl⟩
  rw [← hpp] at Hq2 ⊢
  have Hw0 : Hid _ := hw0
  have HN : Hid (N = w.heap.size) := hN
  have Ht0 : Hid (Tch (fun _ => False) w w0) := t0
  have HY0 : Hid _ := hY0
  clear hw0 hN hY0 hT hb hb0 t0 hp hpp h8
  have hrs : Try.f21.results = #[.cell 4 29, .tmp 5] := by kernel_rfl
  go_enter Try.func21, Try.ntmps21
  go_wp2_with fail
  have hw0 := Hw0.out
  rw [← hw0]
  rw [← HN.out]
  clear hw0
  refine q1.mono ?_
  rintro x w1 ⟨rfl, t1⟩
  clear q1
  have q2 := Hq2.out w1 t1
  go_wp2_with fail
  refine q2.mono ?_
  rintro x w2 ⟨⟨v, rfl, hv⟩, t2⟩
  clear q2
  obtain ⟨vo, vc, rfl⟩ := row_slice hv
  have hY : w2.heap[N]? = some (.cells #[.int .i64 0, .int .i64 0, .string ⟨#[]⟩, .slice none 0 0, .int .i64 0] 29 (0, 0)) := by rw [(t1.trans' t2).block N (blk_lt HY0.out) (fun h => h)]; exact HY0.out
  obtain ⟨y0, y1, y2, y3, y4⟩ : w2.cell? ⟨N, 0, none⟩ = some (.int .i64 0) ∧ w2.cell? ⟨N, 1, none⟩ = some (.int .i64 0) ∧ w2.cell? ⟨N, 2, none⟩ = some (.string ⟨#[]⟩) ∧ w2.cell? ⟨N, 3, none⟩ = some (.slice none 0 0) ∧ w2.cell? ⟨N, 4, none⟩ = some (.int .i64 0) := ⟨by rw [blk_cell hY]; rfl, by rw [blk_cell hY]; rfl, by rw [blk_cell hY]; rfl, by rw [blk_cell hY]; rfl, by rw [blk_cell hY]; rfl⟩
  have g0 := blk_frozen hY 0; have g1 := blk_frozen hY 1; have g2 := blk_frozen hY 2; have g3 := blk_frozen hY 3; have g4 := blk_frozen hY 4
  have HV : Hid (∀ W, Tch (fun i => i = N) w2 W → W.ownsRow w.heap.size 34 3 (.slice vo p.cols.length vc) p.cols.length (ccl p.cols)) := fun W tW => own_low (own_tch hv tW (fun g e h => by have := row_ge hv e; have := blk_lt HY0.out; have := t1.size; omega)) (Ht0.out.trans' t1).size
  have HT : Hid (∀ W, Tch (fun i => i = N) w2 W → Tch (fun _ => False) w W) := fun W tW => ((Ht0.out.trans' t1).trans' t2).trans tW (fun i hi h => by have := HN.out; omega)
  clear hY hv t1 t2
  go_wp2_with fail
  refine bodyPost_ret (v := .tuple #[tA p.id p.ver p.nm (.slice vo p.cols.length vc) p.key, .int .i64 0]) (by simp only [results, hrs]; go_simp) rfl ⟨⟨.slice vo p.cols.length vc, rfl, HV.out _ ?_⟩, HT.out _ ?_⟩
  all_goals exact ((((Tch.setCell (fun i => i = N) w2 ⟨N, 0, none⟩ _ rfl).setCellR ⟨N, 1, none⟩ _ rfl).setCellR ⟨N, 2, none⟩ _ rfl).setCellR ⟨N, 3, none⟩ _ rfl).setCellR ⟨N, 4, none⟩ _ rfl

theorem id_none (b : Nat) (to : Option Addr) (tc : Nat) (P : List (Tbl × Value)) (F : Nat → Prop) (id : Int) (w : World) (hb : w.cell? ⟨b, 0, none⟩ = some (.slice to P.length tc)) (hT : TL w F to P) (hl : P.length ≤ 16) (hp : posP (fun t => decide (t.id = id)) P = -1) :
    Calls Try.prog 19 #[.pointer (some ⟨b, 0, none⟩), .int .i64 id] w fun x w' => x = .returned (.tuple #[zA, .int .i64 52]) ∧ Tch (fun _ => False) w w' := by
  obtain ⟨N, hN⟩ : ∃ N, N = w.heap.size := ⟨_, rfl⟩
  obtain ⟨w0, hw0⟩ : ∃ w0, w0 = w.alloc (.cells #[.int .i64 0, .int .i64 0, .string ⟨#[]⟩, .slice none 0 0, .int .i64 0] 29) := ⟨_, rfl⟩
  have t0 : Tch (fun _ => False) w w0 := by rw [hw0]; exact Tch.alloc _ _ _
  have hY0 : w0.heap[N]? = some (.cells #[.int .i64 0, .int .i64 0, .string ⟨#[]⟩, .slice none 0 0, .int .i64 0] 29 (0, 0)) := by rw [hw0, hN]; exact alloc_new _ _
  have hb0 : w0.cell? ⟨b, 0, none⟩ = some (.slice to P.length tc) := by rw [t0.cell (p := ⟨b, 0, none⟩) (cell_lt hb) (fun h => h)]; exact hb
  have q1 := id3_any b to tc P F id w0 hb0 (hT.tch t0 (fun _ _ h => h.elim)) hl
  rw [hp] at q1
  have Hq2 : Hid _ := told_none b
  have Hw0 : Hid _ := hw0
  have HN : Hid (N = w.heap.size) := hN
  have Ht0 : Hid (Tch (fun _ => False) w w0) := t0
  have HY0 : Hid _ := hY0
  clear hw0 hN hY0 hT hb hb0 t0 hp
  have hrs : Try.f19.results = #[.cell 4 29, .tmp 5] := by kernel_rfl
  go_enter Try.func19, Try.ntmps19
  go_wp2_with fail
  have hw0 := Hw0.out
  rw [← hw0]
  rw [← HN.out]
  clear hw0
  refine q1.mono ?_
  rintro x w1 ⟨rfl, t1⟩
  clear q1
  have q2 := Hq2.out w1
  go_wp2_with fail
  refine q2.mono ?_
  rintro x w2 ⟨rfl, t2⟩
  clear q2
  have hY : w2.heap[N]? = some (.cells #[.int .i64 0, .int .i64 0, .string ⟨#[]⟩, .slice none 0 0, .int .i64 0] 29 (0, 0)) := by rw [(t1.trans' t2).block N (blk_lt HY0.out) (fun h => h)]; exact HY0.out
  obtain ⟨y0, y1, y2, y3, y4⟩ : w2.cell? ⟨N, 0, none⟩ = some (.int .i64 0) ∧ w2.cell? ⟨N, 1, none⟩ = some (.int .i64 0) ∧ w2.cell? ⟨N, 2, none⟩ = some (.string ⟨#[]⟩) ∧ w2.cell? ⟨N, 3, none⟩ = some (.slice none 0 0) ∧ w2.cell? ⟨N, 4, none⟩ = some (.int .i64 0) := ⟨by rw [blk_cell hY]; rfl, by rw [blk_cell hY]; rfl, by rw [blk_cell hY]; rfl, by rw [blk_cell hY]; rfl, by rw [blk_cell hY]; rfl⟩
  have g0 := blk_frozen hY 0; have g1 := blk_frozen hY 1; have g2 := blk_frozen hY 2; have g3 := blk_frozen hY 3; have g4 := blk_frozen hY 4
  have HT : Hid (∀ W, Tch (fun i => i = N) w2 W → Tch (fun _ => False) w W) := fun W tW => ((Ht0.out.trans' t1).trans' t2).trans tW (fun i hi h => by have := HN.out; omega)
  clear hY t1 t2
  go_wp2_with fail
  refine bodyPost_ret (v := .tuple #[zA, .int .i64 52]) (by simp only [results, hrs]; go_simp) rfl ⟨rfl, HT.out _ ?_⟩
  exact ((((Tch.setCell (fun i => i = N) w2 ⟨N, 0, none⟩ _ rfl).setCellR ⟨N, 1, none⟩ _ rfl).setCellR ⟨N, 2, none⟩ _ rfl).setCellR ⟨N, 3, none⟩ _ rfl).setCellR ⟨N, 4, none⟩ _ rfl

set_option maxHeartbeats 1000000 in
set_option maxRecDepth 100000 in
theorem id_some (b : Nat) (to : Option Addr) (tc : Nat) (P : List (Tbl × Value)) (F : Nat → Prop) (id : Int) (k : Nat) (hk : k < P.length) (w : World) (hb : w.cell? ⟨b, 0, none⟩ = some (.slice to P.length tc)) (hT : TL w F to P) (hl : P.length ≤ 16) (h8 : P[k].1.cols.length ≤ 8) (hp : posP (fun t => decide (t.id = id)) P = k) :
    Calls Try.prog 19 #[.pointer (some ⟨b, 0, none⟩), .int .i64 id] w fun x w' => TK P[k].1 w x w' ∧ Tch (fun _ => False) w w' := by
  obtain ⟨N, hN⟩ : ∃ N, N = w.heap.size := ⟨_, rfl⟩
  obtain ⟨w0, hw0⟩ : ∃ w0, w0 = w.alloc (.cells #[.int .i64 0, .int .i64 0, .string ⟨#[]⟩, .slice none 0 0, .int .i64 0] 29) := ⟨_, rfl⟩
  have t0 : Tch (fun _ => False) w w0 := by rw [hw0]; exact Tch.alloc _ _ _
  have hY0 : w0.heap[N]? = some (.cells #[.int .i64 0, .int .i64 0, .string ⟨#[]⟩, .slice none 0 0, .int .i64 0] 29 (0, 0)) := by rw [hw0, hN]; exact alloc_new _ _
  have hb0 : w0.cell? ⟨b, 0, none⟩ = some (.slice to P.length tc) := by rw [t0.cell (p := ⟨b, 0, none⟩) (cell_lt hb) (fun h => h)]; exact hb
  have q1 := id3_any b to tc P F id w0 hb0 (hT.tch t0 (fun _ _ h => h.elim)) hl
  rw [hp] at q1
  have Hq2 : Hid (∀ W, Tch (fun _ => False) w0 W → Calls Try.prog 50 #[.pointer (some ⟨b, 0, none⟩), .int .i64 k] W fun x w' => TK P[k].1 W x w' ∧ Tch (fun _ => False) W w') := fun W tW => told_some b to tc P F k hk W (by rw [tW.cell (p := ⟨b, 0, none⟩) (cell_lt hb0) (fun h => h)]; exact hb0) ((hT.tch t0 (fun _ _ h => h.elim)).tch tW (fun _ _ h => h.elim)) h8
  obtain ⟨p, hpp⟩ : ∃ p, p = P[k].1 := ⟨_, rfl⟩
  rw [← hpp] at Hq2 ⊢
  have Hw0 : Hid _ := hw0
  have HN : Hid (N = w.heap.size) := hN
  have Ht0 : Hid (Tch (fun _ => False) w w0) := t0
  have HY0 : Hid _ := hY0
  clear hw0 hN hY0 hT hb hb0 t0 hp hpp h8
  have hrs : Try.f19.results = #[.cell 4 29, .tmp 5] := by kernel_rfl
  go_enter Try.func19, Try.ntmps19
  go_wp2_with fail
  have hw0 := Hw0.out
  rw [← hw0]
  rw [← HN.out]
  clear hw0
  refine q1.mono ?_
  rintro x w1 ⟨rfl, t1⟩
  clear q1
  have q2 := Hq2.out w1 t1
  go_wp2_with fail
  refine q2.mono ?_
  rintro x w2 ⟨⟨v, rfl, hv⟩, t2⟩
  clear q2
  obtain ⟨vo, vc, rfl⟩ := row_slice hv
  have hY : w2.heap[N]? = some (.cells #[.int .i64 0, .int .i64 0, .string ⟨#[]⟩, .slice none 0 0, .int .i64 0] 29 (0, 0)) := by rw [(t1.trans' t2).block N (blk_lt HY0.out) (fun h => h)]; exact HY0.out
  obtain ⟨y0, y1, y2, y3, y4⟩ : w2.cell? ⟨N, 0, none⟩ = some (.int .i64 0) ∧ w2.cell? ⟨N, 1, none⟩ = some (.int .i64 0) ∧ w2.cell? ⟨N, 2, none⟩ = some (.string ⟨#[]⟩) ∧ w2.cell? ⟨N, 3, none⟩ = some (.slice none 0 0) ∧ w2.cell? ⟨N, 4, none⟩ = some (.int .i64 0) := ⟨by rw [blk_cell hY]; rfl, by rw [blk_cell hY]; rfl, by rw [blk_cell hY]; rfl, by rw [blk_cell hY]; rfl, by rw [blk_cell hY]; rfl⟩
  have g0 := blk_frozen hY 0; have g1 := blk_frozen hY 1; have g2 := blk_frozen hY 2; have g3 := blk_frozen hY 3; have g4 := blk_frozen hY 4
  have HV : Hid (∀ W, Tch (fun i => i = N) w2 W → W.ownsRow w.heap.size 34 3 (.slice vo p.cols.length vc) p.cols.length (ccl p.cols)) := fun W tW => own_low (own_tch hv tW (fun g e h => by have := row_ge hv e; have := blk_lt HY0.out; have := t1.size; omega)) (Ht0.out.trans' t1).size
  have HT : Hid (∀ W, Tch (fun i => i = N) w2 W → Tch (fun _ => False) w W) := fun W tW => ((Ht0.out.trans' t1).trans' t2).trans tW (fun i hi h => by have := HN.out; omega)
  clear hY hv t1 t2
  go_wp2_with fail
  refine bodyPost_ret (v := .tuple #[tA p.id p.ver p.nm (.slice vo p.cols.length vc) p.key, .int .i64 0]) (by simp only [results, hrs]; go_simp) rfl ⟨⟨.slice vo p.cols.length vc, rfl, HV.out _ ?_⟩, HT.out _ ?_⟩
  all_goals exact ((((Tch.setCell (fun i => i = N) w2 ⟨N, 0, none⟩ _ rfl).setCellR ⟨N, 1, none⟩ _ rfl).setCellR ⟨N, 2, none⟩ _ rfl).setCellR ⟨N, 3, none⟩ _ rfl).setCellR ⟨N, 4, none⟩ _ rfl
end Go.Proofs.Ytblhmjndegfofaa
