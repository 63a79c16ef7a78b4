import Derived.Test.YtolamjipigfocaaCChgD
import Derived.Test.YtolamjipigfocaaCWid3
/- told, Get, ByID. -/
namespace Go.Proofs.Ytolamjipigfocaa
open Go.RowKit Go

/-- A table that came out. -/
def TK (t : Tbl) (w : World) (x : Ending) (w' : World) : Prop := ∃ v, x = .returned (.tuple #[tA t.id t.ver t.nm v t.key, .int .i64 0]) ∧ w'.ownsRow w.heap.size 43 3 v t.cols.length (ccl t.cols)
theorem told_none (b : Nat) (w : World) : Calls Try.prog 54 #[.pointer (some ⟨b, 0, none⟩), .int .i64 (-1)] w fun x w' => x = .returned (.tuple #[zA, .int .i64 52]) ∧ Tch (fun _ => False) w w' := by
  obtain ⟨N, hN⟩ : ∃ N, N = w.heap.size := ⟨_, rfl⟩
  obtain ⟨w0, hw0⟩ : ∃ w0, w0 = w.alloc (.cells #[.int .i64 0, .int .i64 0, .string ⟨#[]⟩, .slice none 0 0, .int .i64 0] 36) := ⟨_, rfl⟩
  have hY : w0.heap[N]? = some (.cells #[.int .i64 0, .int .i64 0, .string ⟨#[]⟩, .slice none 0 0, .int .i64 0] 36 (0, 0)) := by rw [hw0, hN]; exact alloc_new _ _
  obtain ⟨y0, y1, y2, y3, y4⟩ : w0.cell? ⟨N, 0, none⟩ = some (.int .i64 0) ∧ w0.cell? ⟨N, 1, none⟩ = some (.int .i64 0) ∧ w0.cell? ⟨N, 2, none⟩ = some (.string ⟨#[]⟩) ∧ w0.cell? ⟨N, 3, none⟩ = some (.slice none 0 0) ∧ w0.cell? ⟨N, 4, none⟩ = some (.int .i64 0) := ⟨by rw [blk_cell hY]; rfl, by rw [blk_cell hY]; rfl, by rw [blk_cell hY]; rfl, by rw [blk_cell hY]; rfl, by rw [blk_cell hY]; rfl⟩
  have g0 := blk_frozen hY 0; have g1 := blk_frozen hY 1; have g2 := blk_frozen hY 2; have g3 := blk_frozen hY 3; have g4 := blk_frozen hY 4
  have HT : Hid (∀ W, Tch (fun i => i = N) w0 W → Tch (fun _ => False) w W) := fun W tW => by
    have t0 : Tch (fun _ => False) w w0 := by rw [hw0]; exact Tch.alloc _ _ _
    exact t0.trans tW (fun i hi h => by omega)
  have Hw0 : Hid _ := hw0
  have HN : Hid (N = w.heap.size) := hN
  clear hw0 hN hY
  have hrs : Try.f54.results = #[.cell 4 36, .tmp 5] := by kernel_rfl
  go_enter Try.func54, Try.ntmps54
  go_wp2_with fail
  refine bodyPost_ret (v := .tuple #[zA, .int .i64 52]) (by simp only [results, hrs]; go_simp) rfl ⟨rfl, Tch.alloc _ _ _⟩

set_option maxHeartbeats 1000000 in
set_option maxRecDepth 100000 in
theorem told_some (b : Nat) (to : Option Addr) (tc : Nat) (P : List (Tbl × Value)) (F : Nat → Prop) (k : Nat) (hk : k < P.length) (w : World) (hb : w.cell? ⟨b, 0, none⟩ = some (.slice to P.length tc)) (hT : TL w F to P) (h8 : P[k].1.cols.length ≤ 8) :
    Calls Try.prog 54 #[.pointer (some ⟨b, 0, none⟩), .int .i64 k] w fun x w' => TK P[k].1 w x w' ∧ Tch (fun _ => False) w w' := by
  obtain ⟨N, hN⟩ : ∃ N, N = w.heap.size := ⟨_, rfl⟩
  obtain ⟨w0, hw0⟩ : ∃ w0, w0 = w.alloc (.cells #[.int .i64 0, .int .i64 0, .string ⟨#[]⟩, .slice none 0 0, .int .i64 0] 36) := ⟨_, rfl⟩
  have t0 : Tch (fun _ => False) w w0 := by rw [hw0]; exact Tch.alloc _ _ _
  have hY0 : w0.heap[N]? = some (.cells #[.int .i64 0, .int .i64 0, .string ⟨#[]⟩, .slice none 0 0, .int .i64 0] 36 (0, 0)) := by rw [hw0, hN]; exact alloc_new _ _
  obtain ⟨g, o, rfl, c0, c1, c2, c3, c4⟩ := (hT.tch t0 (fun _ _ h => h.elim)).at k hk
  obtain ⟨co, cc, hck⟩ := (hT.tch t0 (fun _ _ h => h.elim)).col k hk
  have hb0 : w0.cell? ⟨b, 0, none⟩ = some (.slice (some ⟨g, o, none⟩) P.length tc) := by rw [t0.cell (p := ⟨b, 0, none⟩) (cell_lt hb) (fun h => h)]; exact hb
  obtain ⟨p, hp⟩ : ∃ p, p = P[k] := ⟨_, rfl⟩
  rw [← hp] at c0 c1 c2 c3 c4 hck h8 ⊢
  have q := copied_any p.1 co cc w0 hck.sl hck.no (by omega)
  rw [hck.eq] at c3
  rw [hw0] at hb0 c0 c1 c2 c3 c4
  obtain ⟨n, hn⟩ : ∃ n, n = P.length := ⟨_, rfl⟩
  rw [← hn] at hb0 hk
  have Hw0 : Hid _ := hw0
  have HN : Hid (N = w.heap.size) := hN
  have Ht0 : Hid (Tch (fun _ => False) w w0) := t0
  have HY0 : Hid _ := hY0
  have hkI : (k : Int) < n := by omega
  clear hw0 hN hY0 hT hb hck t0 hp hn h8
  have hrs : Try.f54.results = #[.cell 4 36, .tmp 5] := by kernel_rfl
  go_enter Try.func54, Try.ntmps54
  go_wp2_with fail
  have hw0 := Hw0.out
  rw [← hw0]
  rw [← HN.out]
  clear hw0 hb0 c0 c1 c2 c3 c4
  refine q.mono ?_
  rintro x w1 ⟨⟨v, rfl, hv⟩, t1⟩
  clear q
  obtain ⟨vo, vc, rfl⟩ := row_slice hv
  have hY : w1.heap[N]? = some (.cells #[.int .i64 0, .int .i64 0, .string ⟨#[]⟩, .slice none 0 0, .int .i64 0] 36 (0, 0)) := by rw [t1.block N (blk_lt HY0.out) (fun h => h)]; exact HY0.out
  obtain ⟨y0, y1, y2, y3, y4⟩ : w1.cell? ⟨N, 0, none⟩ = some (.int .i64 0) ∧ w1.cell? ⟨N, 1, none⟩ = some (.int .i64 0) ∧ w1.cell? ⟨N, 2, none⟩ = some (.string ⟨#[]⟩) ∧ w1.cell? ⟨N, 3, none⟩ = some (.slice none 0 0) ∧ w1.cell? ⟨N, 4, none⟩ = some (.int .i64 0) := ⟨by rw [blk_cell hY]; rfl, by rw [blk_cell hY]; rfl, by rw [blk_cell hY]; rfl, by rw [blk_cell hY]; rfl, by rw [blk_cell hY]; rfl⟩
  have g0 := blk_frozen hY 0; have g1 := blk_frozen hY 1; have g2 := blk_frozen hY 2; have g3 := blk_frozen hY 3; have g4 := blk_frozen hY 4
  have HV : Hid (∀ W, Tch (fun i => i = N) w1 W → W.ownsRow w.heap.size 43 3 (.slice vo p.1.cols.length vc) p.1.cols.length (ccl p.1.cols)) := fun W tW => own_low (own_tch hv tW (fun g e h => by have := row_ge hv e; have := blk_lt HY0.out; omega)) Ht0.out.size
  have HT : Hid (∀ W, Tch (fun i => i = N) w1 W → Tch (fun _ => False) w W) := fun W tW => (Ht0.out.trans' t1).trans tW (fun i hi h => by have := HN.out; omega)
  clear hY hv t1
  go_wp2_with fail
  refine bodyPost_ret (v := .tuple #[tA p.1.id p.1.ver p.1.nm (.slice vo p.1.cols.length vc) p.1.key, .int .i64 0]) (by simp only [results, hrs]; go_simp) rfl ⟨⟨.slice vo p.1.cols.length vc, rfl, HV.out _ ?_⟩, HT.out _ ?_⟩
  all_goals exact ((((Tch.setCell (fun i => i = N) w1 ⟨N, 0, none⟩ _ rfl).setCellR ⟨N, 1, none⟩ _ rfl).setCellR ⟨N, 2, none⟩ _ rfl).setCellR ⟨N, 3, none⟩ _ rfl).setCellR ⟨N, 4, none⟩ _ rfl

theorem nm_none (b : Nat) (to : Option Addr) (tc : Nat) (P : List (Tbl × Value)) (F : Nat → Prop) (nm : ByteArray) (w : World) (hb : w.cell? ⟨b, 0, none⟩ = some (.slice to P.length tc)) (hT : TL w F to P) (hl : P.length ≤ 16) (hp : posP (fun t => decide (t.nm = nm)) P = -1) :
    Calls Try.prog 31 #[.pointer (some ⟨b, 0, none⟩), .string nm] w fun x w' => x = .returned (.tuple #[zA, .int .i64 52]) ∧ Tch (fun _ => False) w w' := by
  obtain ⟨N, hN⟩ : ∃ N, N = w.heap.size := ⟨_, rfl⟩
  obtain ⟨w0, hw0⟩ : ∃ w0, w0 = w.alloc (.cells #[.int .i64 0, .int .i64 0, .string ⟨#[]⟩, .slice none 0 0, .int .i64 0] 36) := ⟨_, rfl⟩
  have t0 : Tch (fun _ => False) w w0 := by rw [hw0]; exact Tch.alloc _ _ _
  have hY0 : w0.heap[N]? = some (.cells #[.int .i64 0, .int .i64 0, .string ⟨#[]⟩, .slice none 0 0, .int .i64 0] 36 (0, 0)) := by rw [hw0, hN]; exact alloc_new _ _
  have hb0 : w0.cell? ⟨b, 0, none⟩ = some (.slice to P.length tc) := by rw [t0.cell (p := ⟨b, 0, none⟩) (cell_lt hb) (fun h => h)]; exact hb
  have q1 := nm3_any b to tc P F nm w0 hb0 (hT.tch t0 (fun _ _ h => h.elim)) hl
  rw [hp] at q1
  have Hq2 : Hid _ := told_none b
  have Hw0 : Hid _ := hw0
  have HN : Hid (N = w.heap.size) := hN
  have Ht0 : Hid (Tch (fun _ => False) w w0) := t0
  have HY0 : Hid _ := hY0
  clear hw0 hN hY0 hT hb hb0 t0 hp
  have hrs : Try.f31.results = #[.cell 4 36, .tmp 5] := by kernel_rfl
  go_enter Try.func31, Try.ntmps31
  go_wp2_with fail
  have hw0 := Hw0.out
  rw [← hw0]
  rw [← HN.out]
  clear hw0
  refine q1.mono ?_
  rintro x w1 ⟨rfl, t1⟩
  clear q1
  have q2 := Hq2.out w1
  go_wp2_with fail
  refine q2.mono ?_
  rintro x w2 ⟨rfl, t2⟩
  clear q2
  have hY : w2.heap[N]? = some (.cells #[.int .i64 0, .int .i64 0, .string ⟨#[]⟩, .slice none 0 0, .int .i64 0] 36 (0, 0)) := by rw [(t1.trans' t2).block N (blk_lt HY0.out) (fun h => h)]; exact HY0.out
  obtain ⟨y0, y1, y2, y3, y4⟩ : w2.cell? ⟨N, 0, none⟩ = some (.int .i64 0) ∧ w2.cell? ⟨N, 1, none⟩ = some (.int .i64 0) ∧ w2.cell? ⟨N, 2, none⟩ = some (.string ⟨#[]⟩) ∧ w2.cell? ⟨N, 3, none⟩ = some (.slice none 0 0) ∧ w2.cell? ⟨N, 4, none⟩ = some (.int .i64 0) := ⟨by rw [blk_cell hY]; rfl, by rw [blk_cell hY]; rfl, by rw [blk_cell hY]; rfl, by rw [blk_cell hY]; rfl, by rw [blk_cell hY]; rfl⟩
  have g0 := blk_frozen hY 0; have g1 := blk_frozen hY 1; have g2 := blk_frozen hY 2; have g3 := blk_frozen hY 3; have g4 := blk_frozen hY 4
  have HT : Hid (∀ W, Tch (fun i => i = N) w2 W → Tch (fun _ => False) w W) := fun W tW => ((Ht0.out.trans' t1).trans' t2).trans tW (fun i hi h => by have := HN.out; omega)
  clear hY t1 t2
  go_wp2_with fail
  refine bodyPost_ret (v := .tuple #[zA, .int .i64 52]) (by simp only [results, hrs]; go_simp) rfl ⟨rfl, HT.out _ ?_⟩
  exact ((((Tch.setCell (fun i => i = N) w2 ⟨N, 0, none⟩ _ rfl).setCellR ⟨N, 1, none⟩ _ rfl).setCellR ⟨N, 2, none⟩ _ rfl).setCellR ⟨N, 3, none⟩ _ rfl).setCellR ⟨N, 4, none⟩ _ rfl

set_option maxHeartbeats 1000000 in
set_option maxRecDepth 100000 in
theorem nm_some (b : Nat) (to : Option Addr) (tc : Nat) (P : List (Tbl × Value)) (F : Nat → Prop) (nm : ByteArray) (k : Nat) (hk : k < P.length) (w : World) (hb : w.cell? ⟨b, 0, none⟩ = some (.slice to P.length tc)) (hT : TL w F to P) (hl : P.length ≤ 16) (h8 : P[k].1.cols.length ≤ 8) (hp : posP (fun t => decide (t.nm = nm)) P = k) :
    Calls Try.prog 31 #[.pointer (some ⟨b, 0, none⟩), .string nm] w fun x w' => TK P[k].1 w x w' ∧ Tch (fun _ => False) w w' := by
  obtain ⟨N, hN⟩ : ∃ N, N = w.heap.size := ⟨_, rfl⟩
  obtain ⟨w0, hw0⟩ : ∃ w0, w0 = w.alloc (.cells #[.int .i64 0, .int .i64 0, .string ⟨#[]⟩, .slice none 0 0, .int .i64 0] 36) := ⟨_, rfl⟩
  have t0 : Tch (fun _ => False) w w0 := by rw [hw0]; exact Tch.alloc _ _ _
  have hY0 : w0.heap[N]? = some (.cells #[.int .i64 0, .int .i64 0, .string ⟨#[]⟩, .slice none 0 0, .int .i64 0] 36 (0, 0)) := by rw [hw0, hN]; exact alloc_new _ _
  have hb0 : w0.cell? ⟨b, 0, none⟩ = some (.slice to P.length tc) := by rw [t0.cell (p := ⟨b, 0, none⟩) (cell_lt hb) (fun h => h)]; exact hb
  have q1 := nm3_any b to tc P F nm w0 hb0 (hT.tch t0 (fun _ _ h => h.elim)) hl
  rw [hp] at q1
  have Hq2 : Hid (∀ W, Tch (fun _ => False) w0 W → Calls Try.prog 54 #[.pointer (some ⟨b, 0, none⟩), .int .i64 k] W fun x w' => TK P[k].1 W x w' ∧ Tch (fun _ => False) W w') := fun W tW => told_some b to tc P F k hk W (by rw [tW.cell (p := ⟨b, 0, none⟩) (cell_lt hb0) (fun h => h)]; exact hb0) ((hT.tch t0 (fun _ _ h => h.elim)).tch tW (fun _ _ h => h.elim)) h8
  obtain ⟨p, hpp⟩ : ∃ p, p = P[k].1 := ⟨_, rfl⟩
  rw [← hpp] at Hq2 ⊢
  have Hw0 : Hid _ := hw0
  have HN : Hid (N = w.heap.size) := hN
  have Ht0 : Hid (Tch (fun _ => False) w w0) := t0
  have HY0 : Hid _ := hY0
  clear hw0 hN hY0 hT hb hb0 t0 hp hpp h8
  have hrs : Try.f31.results = #[.cell 4 36, .tmp 5] := by kernel_rfl
  go_enter Try.func31, Try.ntmps31
  go_wp2_with fail
  have hw0 := Hw0.out
  rw [← hw0]
  rw [← HN.out]
  clear hw0
  refine q1.mono ?_
  rintro x w1 ⟨rfl, t1⟩
  clear q1
  have q2 := Hq2.out w1 t1
  go_wp2_with fail
  refine q2.mono ?_
  rintro x w2 ⟨⟨v, rfl, hv⟩, t2⟩
  clear q2
  obtain ⟨vo, vc, rfl⟩ := row_slice hv
  have hY : w2.heap[N]? = some (.cells #[.int .i64 0, .int .i64 0, .string ⟨#[]⟩, .slice none 0 0, .int .i64 0] 36 (0, 0)) := by rw [(t1.trans' t2).block N (blk_lt HY0.out) (fun h => h)]; exact HY0.out
  obtain ⟨y0, y1, y2, y3, y4⟩ : w2.cell? ⟨N, 0, none⟩ = some (.int .i64 0) ∧ w2.cell? ⟨N, 1, none⟩ = some (.int .i64 0) ∧ w2.cell? ⟨N, 2, none⟩ = some (.string ⟨#[]⟩) ∧ w2.cell? ⟨N, 3, none⟩ = some (.slice none 0 0) ∧ w2.cell? ⟨N, 4, none⟩ = some (.int .i64 0) := ⟨by rw [blk_cell hY]; rfl, by rw [blk_cell hY]; rfl, by rw [blk_cell hY]; rfl, by rw [blk_cell hY]; rfl, by rw [blk_cell hY]; rfl⟩
  have g0 := blk_frozen hY 0; have g1 := blk_frozen hY 1; have g2 := blk_frozen hY 2; have g3 := blk_frozen hY 3; have g4 := blk_frozen hY 4
  have HV : Hid (∀ W, Tch (fun i => i = N) w2 W → W.ownsRow w.heap.size 43 3 (.slice vo p.cols.length vc) p.cols.length (ccl p.cols)) := fun W tW => own_low (own_tch hv tW (fun g e h => by have := row_ge hv e; have := blk_lt HY0.out; have := t1.size; omega)) (Ht0.out.trans' t1).size
  have HT : Hid (∀ W, Tch (fun i => i = N) w2 W → Tch (fun _ => False) w W) := fun W tW => ((Ht0.out.trans' t1).trans' t2).trans tW (fun i hi h => by have := HN.out; omega)
  clear hY hv t1 t2
  go_wp2_with fail
  refine bodyPost_ret (v := .tuple #[tA p.id p.ver p.nm (.slice vo p.cols.length vc) p.key, .int .i64 0]) (by simp only [results, hrs]; go_simp) rfl ⟨⟨.slice vo p.cols.length vc, rfl, HV.out _ ?_⟩, HT.out _ ?_⟩
  all_goals exact ((((Tch.setCell (fun i => i = N) w2 ⟨N, 0, none⟩ _ rfl).setCellR ⟨N, 1, none⟩ _ rfl).setCellR ⟨N, 2, none⟩ _ rfl).setCellR ⟨N, 3, none⟩ _ rfl).setCellR ⟨N, 4, none⟩ _ rfl

theorem id_none (b : Nat) (to : Option Addr) (tc : Nat) (P : List (Tbl × Value)) (F : Nat → Prop) (id : Int) (w : World) (hb : w.cell? ⟨b, 0, none⟩ = some (.slice to P.length tc)) (hT : TL w F to P) (hl : P.length ≤ 16) (hp : posP (fun t => decide (t.id = id)) P = -1) :
    Calls Try.prog 32 #[.pointer (some ⟨b, 0, none⟩), .int .i64 id] w fun x w' => x = .returned (.tuple #[zA, .int .i64 52]) ∧ Tch (fun _ => False) w w' := by
  obtain ⟨N, hN⟩ : ∃ N, N = w.heap.size := ⟨_, rfl⟩
  obtain ⟨w0, hw0⟩ : ∃ w0, w0 = w.alloc (.cells #[.int .i64 0, .int .i64 0, .string ⟨#[]⟩, .slice none 0 0, .int .i64 0] 36) := ⟨_, rfl⟩
  have t0 : Tch (fun _ => False) w w0 := by rw [hw0]; exact Tch.alloc _ _ _
  have hY0 : w0.heap[N]? = some (.cells #[.int .i64 0, .int .i64 0, .string ⟨#[]⟩, .slice none 0 0, .int .i64 0] 36 (0, 0)) := by rw [hw0, hN]; exact alloc_new _ _
  have hb0 : w0.cell? ⟨b, 0, none⟩ = some (.slice to P.length tc) := by rw [t0.cell (p := ⟨b, 0, none⟩) (cell_lt hb) (fun h => h)]; exact hb
  have q1 := id3_any b to tc P F id w0 hb0 (hT.tch t0 (fun _ _ h => h.elim)) hl
  rw [hp] at q1
  have Hq2 : Hid _ := told_none b
  have Hw0 : Hid _ := hw0
  have HN : Hid (N = w.heap.size) := hN
  have Ht0 : Hid (Tch (fun _ => False) w w0) := t0
  have HY0 : Hid _ := hY0
  clear hw0 hN hY0 hT hb hb0 t0 hp
  have hrs : Try.f32.results = #[.cell 4 36, .tmp 5] := by kernel_rfl
  go_enter Try.func32, Try.ntmps32
  go_wp2_with fail
  have hw0 := Hw0.out
  rw [← hw0]
  rw [← HN.out]
  clear hw0
  refine q1.mono ?_
  rintro x w1 ⟨rfl, t1⟩
  clear q1
  have q2 := Hq2.out w1
  go_wp2_with fail
  refine q2.mono ?_
  rintro x w2 ⟨rfl, t2⟩
  clear q2
  have hY : w2.heap[N]? = some (.cells #[.int .i64 0, .int .i64 0, .string ⟨#[]⟩, .slice none 0 0, .int .i64 0] 36 (0, 0)) := by rw [(t1.trans' t2).block N (blk_lt HY0.out) (fun h => h)]; exact HY0.out
  obtain ⟨y0, y1, y2, y3, y4⟩ : w2.cell? ⟨N, 0, none⟩ = some (.int .i64 0) ∧ w2.cell? ⟨N, 1, none⟩ = some (.int .i64 0) ∧ w2.cell? ⟨N, 2, none⟩ = some (.string ⟨#[]⟩) ∧ w2.cell? ⟨N, 3, none⟩ = some (.slice none 0 0) ∧ w2.cell? ⟨N, 4, none⟩ = some (.int .i64 0) := ⟨by rw [blk_cell hY]; rfl, by rw [blk_cell hY]; rfl, by rw [blk_cell hY]; rfl, by rw [blk_cell hY]; rfl, by rw [blk_cell hY]; rfl⟩
  have g0 := blk_frozen hY 0; have g1 := blk_frozen hY 1; have g2 := blk_frozen hY 2; have g3 := blk_frozen hY 3; have g4 := blk_frozen hY 4
  have HT : Hid (∀ W, Tch (fun i => i = N) w2 W → Tch (fun _ => False) w W) := fun W tW => ((Ht0.out.trans' t1).trans' t2).trans tW (fun i hi h => by have := HN.out; omega)
  clear hY t1 t2
  go_wp2_with fail
  refine bodyPost_ret (v := .tuple #[zA, .int .i64 52]) (by simp only [results, hrs]; go_simp) rfl ⟨rfl, HT.out _ ?_⟩
  exact ((((Tch.setCell (fun i => i = N) w2 ⟨N, 0, none⟩ _ rfl).setCellR ⟨N, 1, none⟩ _ rfl).setCellR ⟨N, 2, none⟩ _ rfl).setCellR ⟨N, 3, none⟩ _ rfl).setCellR ⟨N, 4, none⟩ _ rfl

set_option maxHeartbeats 1000000 in
set_option maxRecDepth 100000 in
theorem id_some (b : Nat) (to : Option Addr) (tc : Nat) (P : List (Tbl × Value)) (F : Nat → Prop) (id : Int) (k : Nat) (hk : k < P.length) (w : World) (hb : w.cell? ⟨b, 0, none⟩ = some (.slice to P.length tc)) (hT : TL w F to P) (hl : P.length ≤ 16) (h8 : P[k].1.cols.length ≤ 8) (hp : posP (fun t => decide (t.id = id)) P = k) :
    Calls Try.prog 32 #[.pointer (some ⟨b, 0, none⟩), .int .i64 id] w fun x w' => TK P[k].1 w x w' ∧ Tch (fun _ => False) w w' := by
  obtain ⟨N, hN⟩ : ∃ N, N = w.heap.size := ⟨_, rfl⟩
  obtain ⟨w0, hw0⟩ : ∃ w0, w0 = w.alloc (.cells #[.int .i64 0, .int .i64 0, .string ⟨#[]⟩, .slice none 0 0, .int .i64 0] 36) := ⟨_, rfl⟩
  have t0 : Tch (fun _ => False) w w0 := by rw [hw0]; exact Tch.alloc _ _ _
  have hY0 : w0.heap[N]? = some (.cells #[.int .i64 0, .int .i64 0, .string ⟨#[]⟩, .slice none 0 0, .int .i64 0] 36 (0, 0)) := by rw [hw0, hN]; exact alloc_new _ _
  have hb0 : w0.cell? ⟨b, 0, none⟩ = some (.slice to P.length tc) := by rw [t0.cell (p := ⟨b, 0, none⟩) (cell_lt hb) (fun h => h)]; exact hb
  have q1 := id3_any b to tc P F id w0 hb0 (hT.tch t0 (fun _ _ h => h.elim)) hl
  rw [hp] at q1
  have Hq2 : Hid (∀ W, Tch (fun _ => False) w0 W → Calls Try.prog 54 #[.pointer (some ⟨b, 0, none⟩), .int .i64 k] W fun x w' => TK P[k].1 W x w' ∧ Tch (fun _ => False) W w') := fun W tW => told_some b to tc P F k hk W (by rw [tW.cell (p := ⟨b, 0, none⟩) (cell_lt hb0) (fun h => h)]; exact hb0) ((hT.tch t0 (fun _ _ h => h.elim)).tch tW (fun _ _ h => h.elim)) h8
  obtain ⟨p, hpp⟩ : ∃ p, p = P[k].1 := ⟨_, rfl⟩
  rw [← hpp] at Hq2 ⊢
  have Hw0 : Hid _ := hw0
  have HN : Hid (N = w.heap.size) := hN
  have Ht0 : Hid (Tch (fun _ => False) w w0) := t0
  have HY0 : Hid _ := hY0
  clear hw0 hN hY0 hT hb hb0 t0 hp hpp h8
  have hrs : Try.f32.results = #[.cell 4 36, .tmp 5] := by kernel_rfl
  go_enter Try.func32, Try.ntmps32
  go_wp2_with fail
  have hw0 := Hw0.out
  rw [← hw0]
  rw [← HN.out]
  clear hw0
  refine q1.mono ?_
  rintro x w1 ⟨rfl, t1⟩
  clear q1
  have q2 := Hq2.out w1 t1
  go_wp2_with fail
  refine q2.mono ?_
  rintro x w2 ⟨⟨v, rfl, hv⟩, t2⟩
  clear q2
  obtain ⟨vo, vc, rfl⟩ := row_slice hv
  have hY : w2.heap[N]? = some (.cells #[.int .i64 0, .int .i64 0, .string ⟨#[]⟩, .slice none 0 0, .int .i64 0] 36 (0, 0)) := by rw [(t1.trans' t2).block N (blk_lt HY0.out) (fun h => h)]; exact HY0.out
  obtain ⟨y0, y1, y2, y3, y4⟩ : w2.cell? ⟨N, 0, none⟩ = some (.int .i64 0) ∧ w2.cell? ⟨N, 1, none⟩ = some (.int .i64 0) ∧ w2.cell? ⟨N, 2, none⟩ = some (.string ⟨#[]⟩) ∧ w2.cell? ⟨N, 3, none⟩ = some (.slice none 0 0) ∧ w2.cell? ⟨N, 4, none⟩ = some (.int .i64 0) := ⟨by rw [blk_cell hY]; rfl, by rw [blk_cell hY]; rfl, by rw [blk_cell hY]; rfl, by rw [blk_cell hY]; rfl, by rw [blk_cell hY]; rfl⟩
  have g0 := blk_frozen hY 0; have g1 := blk_frozen hY 1; have g2 := blk_frozen hY 2; have g3 := blk_frozen hY 3; have g4 := blk_frozen hY 4
  have HV : Hid (∀ W, Tch (fun i => i = N) w2 W → W.ownsRow w.heap.size 43 3 (.slice vo p.cols.length vc) p.cols.length (ccl p.cols)) := fun W tW => own_low (own_tch hv tW (fun g e h => by have := row_ge hv e; have := blk_lt HY0.out; have := t1.size; omega)) (Ht0.out.trans' t1).size
  have HT : Hid (∀ W, Tch (fun i => i = N) w2 W → Tch (fun _ => False) w W) := fun W tW => ((Ht0.out.trans' t1).trans' t2).trans tW (fun i hi h => by have := HN.out; omega)
  clear hY hv t1 t2
  go_wp2_with fail
  refine bodyPost_ret (v := .tuple #[tA p.id p.ver p.nm (.slice vo p.cols.length vc) p.key, .int .i64 0]) (by simp only [results, hrs]; go_simp) rfl ⟨⟨.slice vo p.cols.length vc, rfl, HV.out _ ?_⟩, HT.out _ ?_⟩
  all_goals exact ((((Tch.setCell (fun i => i = N) w2 ⟨N, 0, none⟩ _ rfl).setCellR ⟨N, 1, none⟩ _ rfl).setCellR ⟨N, 2, none⟩ _ rfl).setCellR ⟨N, 3, none⟩ _ rfl).setCellR ⟨N, 4, none⟩ _ rfl
end Go.Proofs.Ytolamjipigfocaa
/- The document's catalog: place, at, Next, New, Copied. -/
namespace Go.Proofs.Ytolamjipigfocaa
open Go.RowKit Go

theorem rnew_any (w : World) : Calls Try.prog 5 #[] w fun x w' => x = .returned (.pointer (some ⟨w.heap.size, 0, none⟩)) ∧ w' = w.alloc (.cells #[.slice none 0 0, .int .i64 1] 57) := by
  go_enter Try.func5, Try.ntmps5
  go_wp2
  go_ret
  exact ⟨rfl, rfl⟩
theorem rnext_any (b : Nat) (th : Int) (w : World) (h : w.cell? ⟨b, 1, none⟩ = some (.int .i64 th)) :
    Calls Try.prog 11 #[.pointer (some ⟨b, 0, none⟩)] w fun x w' => x = .returned (.int .i64 th) ∧ w' = w := by
  go_enter Try.func11, Try.ntmps11
  go_wp2
  go_ret
  exact ⟨rfl, rfl⟩
set_option maxHeartbeats 2000000 in
set_option maxRecDepth 100000 in
theorem rplace_any (b : Nat) (to : Option Addr) (tc : Nat) (P : List (Tbl × Value)) (F : Nat → Prop) (nm : ByteArray) (w : World) (hb : w.cell? ⟨b, 0, none⟩ = some (.slice to P.length tc)) (hT : TL w F to P) (hl : P.length ≤ 17) :
    Calls Try.prog 41 #[.pointer (some ⟨b, 0, none⟩), .string nm] w fun x w' => x = .returned (.int .i64 (posP (fun t => decide (t.nm = nm)) P)) ∧ w' = w := by
  obtain ⟨r, hr⟩ : ∃ r, r = posP (fun t => decide (t.nm = nm)) P := ⟨_, rfl⟩
  have HR : Hid (r = posP (fun t => decide (t.nm = nm)) P) := hr
  rw [← hr]
  obtain ⟨n, hn⟩ : ∃ n, n = P.length := ⟨_, rfl⟩
  rw [← hn] at hb hl
  have Hn : Hid (n = P.length) := hn
  have HT : Hid _ := hT
  clear hT hr hn
  go_enter Try.func41, Try.ntmps41
  go_wp2_with fail
  go_loopw [5] (fun i wr => ∃ k : Nat, i = .int .i64 k ∧ k ≤ n ∧ wr = w ∧ Hid (∀ j (h : j < P.length), j < k → decide (P[j].1.nm = nm) = false)) (fun i _ => n - (intOf i).toNat)
  case atStart => exact ⟨0, rfl, by omega, rfl, fun _ _ h => by omega⟩
  case round =>
    obtain ⟨k, rfl, hk, hwr, HK⟩ := hrel
    subst hwr
    by_cases hlt : (k : Int) < n
    · have hkl : k < P.length := by have := Hn.out; omega
      obtain ⟨g, o, rfl, _, _, c2, _, _⟩ := HT.out.at k hkl
      obtain ⟨s, hs⟩ : ∃ s, s = P[k].1.nm := ⟨_, rfl⟩
      rw [← hs] at c2
      by_cases he : s = nm
      · have HE : Hid (r = k) := by
          show _ = _
          rw [HR.out]
          exact posP_some hkl (by rw [← hs]; simp [he]) (fun i hi hik => HK.out i hi hik)
        subst he
        clear hs
        go_wp2_with fail
        go_ret
        exact ⟨by rw [HE.out]; rfl, rfl⟩
      · have hne := str_ne he
        have HE : Hid (∀ j (h : j < P.length), j < k + 1 → decide (P[j].1.nm = nm) = false) := fun j hj hjk => by
          rcases Nat.lt_or_ge j k with h1 | h1
          · exact HK.out j hj h1
          · obtain rfl : j = k := by omega
            rw [← hs]; simp [he]
        clear hs he
        go_wp2_with fail
        go_roundw
        case rel => exact ⟨k + 1, by go_num, by omega, trivial, HE⟩
        case measure => simp [intOf]; omega
    · have HE : Hid (r = -1) := by
        show _ = _
        rw [HR.out]
        exact posP_none (fun i hi => HK.out i hi (by have := Hn.out; omega))
      go_wp2_with fail
      go_ret
      exact ⟨by rw [HE.out]; rfl, rfl⟩
set_option maxHeartbeats 2000000 in
set_option maxRecDepth 100000 in
theorem rat_any (b : Nat) (to : Option Addr) (tc : Nat) (P : List (Tbl × Value)) (F : Nat → Prop) (id : Int) (w : World) (hb : w.cell? ⟨b, 0, none⟩ = some (.slice to P.length tc)) (hT : TL w F to P) (hl : P.length ≤ 17) :
    Calls Try.prog 57 #[.pointer (some ⟨b, 0, none⟩), .int .i64 id] w fun x w' => x = .returned (.int .i64 (posP (fun t => decide (t.id = id)) P)) ∧ w' = w := by
  obtain ⟨r, hr⟩ : ∃ r, r = posP (fun t => decide (t.id = id)) P := ⟨_, rfl⟩
  have HR : Hid (r = posP (fun t => decide (t.id = id)) P) := hr
  rw [← hr]
  obtain ⟨n, hn⟩ : ∃ n, n = P.length := ⟨_, rfl⟩
  rw [← hn] at hb hl
  have Hn : Hid (n = P.length) := hn
  have HT : Hid _ := hT
  clear hT hr hn
  go_enter Try.func57, Try.ntmps57
  go_wp2_with fail
  go_loopw [5] (fun i wr => ∃ k : Nat, i = .int .i64 k ∧ k ≤ n ∧ wr = w ∧ Hid (∀ j (h : j < P.length), j < k → decide (P[j].1.id = id) = false)) (fun i _ => n - (intOf i).toNat)
  case atStart => exact ⟨0, rfl, by omega, rfl, fun _ _ h => by omega⟩
  case round =>
    obtain ⟨k, rfl, hk, hwr, HK⟩ := hrel
    subst hwr
    by_cases hlt : (k : Int) < n
    · have hkl : k < P.length := by have := Hn.out; omega
      obtain ⟨g, o, rfl, c2, _, _, _, _⟩ := HT.out.at k hkl
      obtain ⟨s, hs⟩ : ∃ s, s = P[k].1.id := ⟨_, rfl⟩
      rw [← hs] at c2
      by_cases he : s = id
      · have HE : Hid (r = k) := by
          show _ = _
          rw [HR.out]
          exact posP_some hkl (by rw [← hs]; simp [he]) (fun i hi hik => HK.out i hi hik)
        subst he
        clear hs
        go_wp2_with fail
        go_ret
        exact ⟨by rw [HE.out]; rfl, rfl⟩
      · have hne : (s == id) = false := beq_eq_false_iff_ne.2 he
        have HE : Hid (∀ j (h : j < P.length), j < k + 1 → decide (P[j].1.id = id) = false) := fun j hj hjk => by
          rcases Nat.lt_or_ge j k with h1 | h1
          · exact HK.out j hj h1
          · obtain rfl : j = k := by omega
            rw [← hs]; simp [he]
        clear hs he
        go_wp2_with fail
        go_roundw
        case rel => exact ⟨k + 1, by go_num, by omega, trivial, HE⟩
        case measure => simp [intOf]; omega
    · have HE : Hid (r = -1) := by
        show _ = _
        rw [HR.out]
        exact posP_none (fun i hi => HK.out i hi (by have := Hn.out; omega))
      go_wp2_with fail
      go_ret
      exact ⟨by rw [HE.out]; rfl, rfl⟩
end Go.Proofs.Ytolamjipigfocaa
/- The document's catalog: Copied. -/
namespace Go.Proofs.Ytolamjipigfocaa
open Go.RowKit Go

set_option maxHeartbeats 2000000 in
set_option maxRecDepth 100000 in
theorem rcopied_any (t : Tbl) (ao : Option Addr) (c : Nat) (w : World) (h : SL w ao (ccl t.cols)) (hno : ao = none → t.cols = [] ∧ c = 0) (hlen : t.cols.length * 32 ≤ 140737488351232) :
    Calls Try.prog 28 #[tA t.id t.ver t.nm (.slice ao t.cols.length c) t.key] w fun x w' => (∃ v, x = .returned (tA t.id t.ver t.nm v t.key) ∧ w'.ownsRow w.heap.size 43 3 v t.cols.length (ccl t.cols)) ∧ Tch (fun _ => False) w w' := by
  obtain ⟨N, hN⟩ : ∃ N, N = w.heap.size := ⟨_, rfl⟩
  obtain ⟨w0, hw0⟩ : ∃ w0, w0 = (w.alloc (.cells #[.int .i64 t.id, .int .i64 t.ver, .string t.nm, .slice ao t.cols.length c, .int .i64 t.key] 36)).alloc (.cells #[.int .i64 0, .int .i64 0, .string ⟨#[]⟩, .slice none 0 0, .int .i64 0] 36) := ⟨_, rfl⟩
  have t0 : Tch (fun _ => False) w w0 := by rw [hw0]; exact (Tch.alloc _ _ _).allocR _
  obtain ⟨i0, hi0, hz0, hz1, hz2⟩ := info_parts info_col
  have hX0 : w0.heap[N]? = some (.cells #[.int .i64 t.id, .int .i64 t.ver, .string t.nm, .slice ao t.cols.length c, .int .i64 t.key] 36 (0, 0)) := by
    rw [hw0, hN]
    exact (Tch.alloc (fun _ => False) _ _).block _ (by simp) (fun h => h) |>.trans (alloc_new _ _)
  have x3' : w0.cell? ⟨N, 3, none⟩ = some (.slice ao t.cols.length c) := by rw [blk_cell hX0]; rfl
  have hsl := h.no t0
  have hsz : w.heap.size ≤ w0.heap.size := t0.size
  have Hw0 : Hid _ := hw0
  have HN : Hid (N = w.heap.size) := hN
  rw [hw0, hN] at x3'
  clear h hw0 hN hX0
  have hrs : Try.f28.results = #[.cell 2 36] := by kernel_rfl
  have HXY : Hid (∀ W, Tch (fun _ => False) w0 W → ((W.cell? ⟨w.heap.size, 0, none⟩ = some (.int .i64 t.id) ∧ W.cell? ⟨w.heap.size, 1, none⟩ = some (.int .i64 t.ver) ∧ W.cell? ⟨w.heap.size, 2, none⟩ = some (.string t.nm) ∧ W.cell? ⟨w.heap.size, 3, none⟩ = some (.slice ao t.cols.length c) ∧ W.cell? ⟨w.heap.size, 4, none⟩ = some (.int .i64 t.key)) ∧ W.cell? ⟨w.heap.size + 1, 0, none⟩ = some (.int .i64 0) ∧ W.cell? ⟨w.heap.size + 1, 1, none⟩ = some (.int .i64 0) ∧ W.cell? ⟨w.heap.size + 1, 2, none⟩ = some (.string ⟨#[]⟩) ∧ W.cell? ⟨w.heap.size + 1, 3, none⟩ = some (.slice none 0 0) ∧ W.cell? ⟨w.heap.size + 1, 4, none⟩ = some (.int .i64 0)) ∧ W.frozen? ⟨w.heap.size, 3, none⟩ = false ∧ W.frozen? ⟨w.heap.size + 1, 0, none⟩ = false ∧ W.frozen? ⟨w.heap.size + 1, 1, none⟩ = false ∧ W.frozen? ⟨w.heap.size + 1, 2, none⟩ = false ∧ W.frozen? ⟨w.heap.size + 1, 3, none⟩ = false ∧ W.frozen? ⟨w.heap.size + 1, 4, none⟩ = false) := fun W tW => by
    have hs0 : w0.heap.size = w.heap.size + 2 := by rw [Hw0.out, World.size_alloc, World.size_alloc]
    have hX : W.heap[w.heap.size]? = some (.cells #[.int .i64 t.id, .int .i64 t.ver, .string t.nm, .slice ao t.cols.length c, .int .i64 t.key] 36 (0, 0)) := by
      rw [tW.block _ (by omega) (fun h => h), Hw0.out]
      exact (Tch.alloc (fun _ => False) _ _).block _ (by simp) (fun h => h) |>.trans (alloc_new _ _)
    have hY : W.heap[w.heap.size + 1]? = some (.cells #[.int .i64 0, .int .i64 0, .string ⟨#[]⟩, .slice none 0 0, .int .i64 0] 36 (0, 0)) := by
      rw [tW.block _ (by omega) (fun h => h), Hw0.out, ← World.size_alloc]; exact alloc_new _ _
    exact ⟨⟨⟨by rw [blk_cell hX]; rfl, by rw [blk_cell hX]; rfl, by rw [blk_cell hX]; rfl, by rw [blk_cell hX]; rfl, by rw [blk_cell hX]; rfl⟩, by rw [blk_cell hY]; rfl, by rw [blk_cell hY]; rfl, by rw [blk_cell hY]; rfl, by rw [blk_cell hY]; rfl, by rw [blk_cell hY]; rfl⟩, blk_frozen hX 3, blk_frozen hY 0, blk_frozen hY 1, blk_frozen hY 2, blk_frozen hY 3, blk_frozen hY 4⟩
  have Ht0 : Hid _ := t0
  rcases ao with _ | ad
  · obtain ⟨hc0, rfl⟩ := hno rfl
    have hl0 : t.cols.length = 0 := by rw [hc0]; rfl
    have HV0 : Hid (∀ W : World, W.ownsRow w.heap.size 43 3 (.slice none 0 0) 0 (ccl t.cols)) := fun W => by rw [hc0]; exact World.ownsRow_nil _ _ _ _
    rw [hl0] at x3' ⊢
    clear hl0 hc0 hno hsl hsz hlen HXY t0
    go_enter Try.func28, Try.ntmps28
    go_wp2_with fail
    refine bodyPost_ret (v := tA t.id t.ver t.nm (.slice none 0 0) t.key) (by simp only [results, hrs]; go_simp) rfl ⟨⟨_, rfl, HV0.out _⟩, ?_⟩
    exact (Tch.alloc _ _ _).allocR _
  · have hnews : ∀ j u, (ccl t.cols)[j]? = some u → w0.cell? (ad.add j) = some u := fun j u hu => by
      have hne : ccl t.cols ≠ [] := by rintro e; rw [e] at hu; simp at hu
      obtain ⟨g, o, e, hat⟩ := hsl hne
      injection e with e
      subst e
      rw [add_plain]
      exact hat j u hu
    clear hsl t0
    go_enter Try.func28, Try.ntmps28
    go_wp2_with (at_builtin; have hw0 := Hw0.out; rw [← hw0]; clear hw0; refine wpList_append_keeps _ rfl _ _ 34 rfl w.heap.size 43 i0 (.agg #[.string ⟨#[]⟩, .int .i64 0, .bool false]) 3 32 Try.underlying34 hi0 hz0 hz1 hz2 rfl (by decide) (.slice none 0 0) 0 [] rfl (World.ownsRow_nil _ _ _ _) ad t.cols.length c (ccl t.cols) rfl (ccl_len t.cols) hnews (ccl_one t.cols) (by unfold maxLen; omega) (by omega) hsz ?_; intro v' w1 hown' hgr hat hnil; have HF : Hid (w1.ownsRow w.heap.size 43 3 v' t.cols.length (ccl t.cols)) := (by have h1 := hown'; rw [Nat.zero_add, List.nil_append] at h1; exact h1); have HT1 : Hid (Tch (fun _ => False) w0 w1) := ((grown_at (Tch.refl (fun _ => False) w0) hgr).mono (fun i _ e => by cases e)); have hat' : Hid (v'.ownBlock = none ∨ v'.ownBlock = some w0.heap.size) := hat; obtain ⟨o1, c1, hv1⟩ := row_slice HF.out; subst hv1; obtain ⟨⟨⟨x0, x1, x2, x3, x4⟩, y0, y1, y2, y3, y4⟩, f3, g0, g1, g2, g3, g4⟩ := HXY.out w1 HT1.out)
    have HV : Hid (∀ W, Tch (fun i => i = w.heap.size ∨ i = w.heap.size + 1) w1 W → W.ownsRow w.heap.size 43 3 (.slice o1 t.cols.length c1) t.cols.length (ccl t.cols)) := fun W tW => own_tch HF.out tW (fun g e h => by
      have hs0 : w0.heap.size = w.heap.size + 2 := by rw [Hw0.out, World.size_alloc, World.size_alloc]
      rcases hat'.out with e2 | e2
      · rw [e2] at e; cases e
      · rw [e2] at e; injection e with e; omega)
    have HT : Hid (∀ W, Tch (fun i => i = w.heap.size ∨ i = w.heap.size + 1) w1 W → Tch (fun _ => False) w W) := fun W tW => (Ht0.out.trans' HT1.out).trans tW (fun i hi h => by omega)
    refine bodyPost_ret (v := tA t.id t.ver t.nm (.slice o1 t.cols.length c1) t.key) (by simp only [results, hrs]; go_simp) rfl ⟨⟨.slice o1 t.cols.length c1, rfl, HV.out _ ?_⟩, HT.out _ ?_⟩
    all_goals exact (((((Tch.setCell (fun i => i = w.heap.size ∨ i = w.heap.size + 1) w1 ⟨w.heap.size, 3, none⟩ _ (Or.inl rfl)).setCellR ⟨w.heap.size + 1, 0, none⟩ _ (Or.inr rfl)).setCellR ⟨w.heap.size + 1, 1, none⟩ _ (Or.inr rfl)).setCellR ⟨w.heap.size + 1, 2, none⟩ _ (Or.inr rfl)).setCellR ⟨w.heap.size + 1, 3, none⟩ _ (Or.inr rfl)).setCellR ⟨w.heap.size + 1, 4, none⟩ _ (Or.inr rfl)
end Go.Proofs.Ytolamjipigfocaa
/- The document's catalog: Get, ByID. -/
namespace Go.Proofs.Ytolamjipigfocaa
open Go.RowKit Go

set_option maxHeartbeats 2000000 in
set_option maxRecDepth 100000 in
theorem rget_some (nm : ByteArray) (b : Nat) (to : Option Addr) (tc : Nat) (P : List (Tbl × Value)) (F : Nat → Prop) (k : Nat) (hk : k < P.length) (w : World) (hb : w.cell? ⟨b, 0, none⟩ = some (.slice to P.length tc)) (hT : TL w F to P) (h8 : P[k].1.cols.length ≤ 8) (hl : P.length ≤ 17) (hpos : posP (fun t => decide (t.nm = nm)) P = k) :
    Calls Try.prog 25 #[.pointer (some ⟨b, 0, none⟩), .string nm] w fun x w' => TK P[k].1 w x w' ∧ Tch (fun _ => False) w w' := by
  obtain ⟨N, hN⟩ : ∃ N, N = w.heap.size := ⟨_, rfl⟩
  obtain ⟨w0, hw0⟩ : ∃ w0, w0 = w.alloc (.cells #[.int .i64 0, .int .i64 0, .string ⟨#[]⟩, .slice none 0 0, .int .i64 0] 36) := ⟨_, rfl⟩
  have t0 : Tch (fun _ => False) w w0 := by rw [hw0]; exact Tch.alloc _ _ _
  have hY0 : w0.heap[N]? = some (.cells #[.int .i64 0, .int .i64 0, .string ⟨#[]⟩, .slice none 0 0, .int .i64 0] 36 (0, 0)) := by rw [hw0, hN]; exact alloc_new _ _
  have q0 := rplace_any b to tc P F nm w0 (by rw [t0.cell (p := ⟨b, 0, none⟩) (cell_lt hb) (fun h => h)]; exact hb) (hT.tch t0 (fun _ _ h => h.elim)) hl
  rw [hpos] at q0
  obtain ⟨g, o, rfl, c0, c1, c2, c3, c4⟩ := (hT.tch t0 (fun _ _ h => h.elim)).at k hk
  obtain ⟨co, cc, hck⟩ := (hT.tch t0 (fun _ _ h => h.elim)).col k hk
  have hb0 : w0.cell? ⟨b, 0, none⟩ = some (.slice (some ⟨g, o, none⟩) P.length tc) := by rw [t0.cell (p := ⟨b, 0, none⟩) (cell_lt hb) (fun h => h)]; exact hb
  obtain ⟨p, hp⟩ : ∃ p, p = P[k] := ⟨_, rfl⟩
  rw [← hp] at c0 c1 c2 c3 c4 hck h8 ⊢
  have q := rcopied_any p.1 co cc w0 hck.sl hck.no (by omega)
  rw [hck.eq] at c3
  rw [hw0] at hb0 c0 c1 c2 c3 c4
  obtain ⟨n, hn⟩ : ∃ n, n = P.length := ⟨_, rfl⟩
  rw [← hn] at hb0 hk
  have Hw0 : Hid _ := hw0
  have HN : Hid (N = w.heap.size) := hN
  have Ht0 : Hid (Tch (fun _ => False) w w0) := t0
  have HY0 : Hid _ := hY0
  have hkI : (k : Int) < n := by omega
  clear hw0 hN hY0 hT hb hck t0 hp hn h8 hl hpos
  have hrs : Try.f25.results = #[.cell 4 36, .tmp 5] := by kernel_rfl
  go_enter Try.func25, Try.ntmps25
  go_wp2_with fail
  have hw0 := Hw0.out
  rw [← hw0]
  clear hw0
  refine q0.mono ?_
  rintro y w0' ⟨rfl, hw0'⟩
  subst hw0'
  clear q0
  have hw0 := Hw0.out
  rw [← hw0] at hb0 c0 c1 c2 c3 c4
  clear hw0
  go_wp2_with fail
  rw [← HN.out]
  clear hb0 c0 c1 c2 c3 c4
  refine q.mono ?_
  rintro x w1 ⟨⟨v, rfl, hv⟩, t1⟩
  clear q
  obtain ⟨vo, vc, rfl⟩ := row_slice hv
  have hY : w1.heap[N]? = some (.cells #[.int .i64 0, .int .i64 0, .string ⟨#[]⟩, .slice none 0 0, .int .i64 0] 36 (0, 0)) := by rw [t1.block N (blk_lt HY0.out) (fun h => h)]; exact HY0.out
  obtain ⟨y0, y1, y2, y3, y4⟩ : w1.cell? ⟨N, 0, none⟩ = some (.int .i64 0) ∧ w1.cell? ⟨N, 1, none⟩ = some (.int .i64 0) ∧ w1.cell? ⟨N, 2, none⟩ = some (.string ⟨#[]⟩) ∧ w1.cell? ⟨N, 3, none⟩ = some (.slice none 0 0) ∧ w1.cell? ⟨N, 4, none⟩ = some (.int .i64 0) := ⟨by rw [blk_cell hY]; rfl, by rw [blk_cell hY]; rfl, by rw [blk_cell hY]; rfl, by rw [blk_cell hY]; rfl, by rw [blk_cell hY]; rfl⟩
  have g0 := blk_frozen hY 0; have g1 := blk_frozen hY 1; have g2 := blk_frozen hY 2; have g3 := blk_frozen hY 3; have g4 := blk_frozen hY 4
  have HV : Hid (∀ W, Tch (fun i => i = N) w1 W → W.ownsRow w.heap.size 43 3 (.slice vo p.1.cols.length vc) p.1.cols.length (ccl p.1.cols)) := fun W tW => own_low (own_tch hv tW (fun g e h => by have := row_ge hv e; have := blk_lt HY0.out; omega)) Ht0.out.size
  have HT : Hid (∀ W, Tch (fun i => i = N) w1 W → Tch (fun _ => False) w W) := fun W tW => (Ht0.out.trans' t1).trans tW (fun i hi h => by have := HN.out; omega)
  clear hY hv t1
  go_wp2_with fail
  refine bodyPost_ret (v := .tuple #[tA p.1.id p.1.ver p.1.nm (.slice vo p.1.cols.length vc) p.1.key, .int .i64 0]) (by simp only [results, hrs]; go_simp) rfl ⟨⟨.slice vo p.1.cols.length vc, rfl, HV.out _ ?_⟩, HT.out _ ?_⟩
  all_goals exact ((((Tch.setCell (fun i => i = N) w1 ⟨N, 0, none⟩ _ rfl).setCellR ⟨N, 1, none⟩ _ rfl).setCellR ⟨N, 2, none⟩ _ rfl).setCellR ⟨N, 3, none⟩ _ rfl).setCellR ⟨N, 4, none⟩ _ rfl

set_option maxHeartbeats 2000000 in
set_option maxRecDepth 100000 in
theorem rbyid_some (id : Int) (b : Nat) (to : Option Addr) (tc : Nat) (P : List (Tbl × Value)) (F : Nat → Prop) (k : Nat) (hk : k < P.length) (w : World) (hb : w.cell? ⟨b, 0, none⟩ = some (.slice to P.length tc)) (hT : TL w F to P) (h8 : P[k].1.cols.length ≤ 8) (hl : P.length ≤ 17) (hpos : posP (fun t => decide (t.id = id)) P = k) :
    Calls Try.prog 33 #[.pointer (some ⟨b, 0, none⟩), .int .i64 id] w fun x w' => TK P[k].1 w x w' ∧ Tch (fun _ => False) w w' := by
  obtain ⟨N, hN⟩ : ∃ N, N = w.heap.size := ⟨_, rfl⟩
  obtain ⟨w0, hw0⟩ : ∃ w0, w0 = w.alloc (.cells #[.int .i64 0, .int .i64 0, .string ⟨#[]⟩, .slice none 0 0, .int .i64 0] 36) := ⟨_, rfl⟩
  have t0 : Tch (fun _ => False) w w0 := by rw [hw0]; exact Tch.alloc _ _ _
  have hY0 : w0.heap[N]? = some (.cells #[.int .i64 0, .int .i64 0, .string ⟨#[]⟩, .slice none 0 0, .int .i64 0] 36 (0, 0)) := by rw [hw0, hN]; exact alloc_new _ _
  have q0 := rat_any b to tc P F id w0 (by rw [t0.cell (p := ⟨b, 0, none⟩) (cell_lt hb) (fun h => h)]; exact hb) (hT.tch t0 (fun _ _ h => h.elim)) hl
  rw [hpos] at q0
  obtain ⟨g, o, rfl, c0, c1, c2, c3, c4⟩ := (hT.tch t0 (fun _ _ h => h.elim)).at k hk
  obtain ⟨co, cc, hck⟩ := (hT.tch t0 (fun _ _ h => h.elim)).col k hk
  have hb0 : w0.cell? ⟨b, 0, none⟩ = some (.slice (some ⟨g, o, none⟩) P.length tc) := by rw [t0.cell (p := ⟨b, 0, none⟩) (cell_lt hb) (fun h => h)]; exact hb
  obtain ⟨p, hp⟩ : ∃ p, p = P[k] := ⟨_, rfl⟩
  rw [← hp] at c0 c1 c2 c3 c4 hck h8 ⊢
  have q := rcopied_any p.1 co cc w0 hck.sl hck.no (by omega)
  rw [hck.eq] at c3
  rw [hw0] at hb0 c0 c1 c2 c3 c4
  obtain ⟨n, hn⟩ : ∃ n, n = P.length := ⟨_, rfl⟩
  rw [← hn] at hb0 hk
  have Hw0 : Hid _ := hw0
  have HN : Hid (N = w.heap.size) := hN
  have Ht0 : Hid (Tch (fun _ => False) w w0) := t0
  have HY0 : Hid _ := hY0
  have hkI : (k : Int) < n := by omega
  clear hw0 hN hY0 hT hb hck t0 hp hn h8 hl hpos
  have hrs : Try.f33.results = #[.cell 4 36, .tmp 5] := by kernel_rfl
  go_enter Try.func33, Try.ntmps33
  go_wp2_with fail
  have hw0 := Hw0.out
  rw [← hw0]
  clear hw0
  refine q0.mono ?_
  rintro y w0' ⟨rfl, hw0'⟩
  subst hw0'
  clear q0
  have hw0 := Hw0.out
  rw [← hw0] at hb0 c0 c1 c2 c3 c4
  clear hw0
  go_wp2_with fail
  rw [← HN.out]
  clear hb0 c0 c1 c2 c3 c4
  refine q.mono ?_
  rintro x w1 ⟨⟨v, rfl, hv⟩, t1⟩
  clear q
  obtain ⟨vo, vc, rfl⟩ := row_slice hv
  have hY : w1.heap[N]? = some (.cells #[.int .i64 0, .int .i64 0, .string ⟨#[]⟩, .slice none 0 0, .int .i64 0] 36 (0, 0)) := by rw [t1.block N (blk_lt HY0.out) (fun h => h)]; exact HY0.out
  obtain ⟨y0, y1, y2, y3, y4⟩ : w1.cell? ⟨N, 0, none⟩ = some (.int .i64 0) ∧ w1.cell? ⟨N, 1, none⟩ = some (.int .i64 0) ∧ w1.cell? ⟨N, 2, none⟩ = some (.string ⟨#[]⟩) ∧ w1.cell? ⟨N, 3, none⟩ = some (.slice none 0 0) ∧ w1.cell? ⟨N, 4, none⟩ = some (.int .i64 0) := ⟨by rw [blk_cell hY]; rfl, by rw [blk_cell hY]; rfl, by rw [blk_cell hY]; rfl, by rw [blk_cell hY]; rfl, by rw [blk_cell hY]; rfl⟩
  have g0 := blk_frozen hY 0; have g1 := blk_frozen hY 1; have g2 := blk_frozen hY 2; have g3 := blk_frozen hY 3; have g4 := blk_frozen hY 4
  have HV : Hid (∀ W, Tch (fun i => i = N) w1 W → W.ownsRow w.heap.size 43 3 (.slice vo p.1.cols.length vc) p.1.cols.length (ccl p.1.cols)) := fun W tW => own_low (own_tch hv tW (fun g e h => by have := row_ge hv e; have := blk_lt HY0.out; omega)) Ht0.out.size
  have HT : Hid (∀ W, Tch (fun i => i = N) w1 W → Tch (fun _ => False) w W) := fun W tW => (Ht0.out.trans' t1).trans tW (fun i hi h => by have := HN.out; omega)
  clear hY hv t1
  go_wp2_with fail
  refine bodyPost_ret (v := .tuple #[tA p.1.id p.1.ver p.1.nm (.slice vo p.1.cols.length vc) p.1.key, .int .i64 0]) (by simp only [results, hrs]; go_simp) rfl ⟨⟨.slice vo p.1.cols.length vc, rfl, HV.out _ ?_⟩, HT.out _ ?_⟩
  all_goals exact ((((Tch.setCell (fun i => i = N) w1 ⟨N, 0, none⟩ _ rfl).setCellR ⟨N, 1, none⟩ _ rfl).setCellR ⟨N, 2, none⟩ _ rfl).setCellR ⟨N, 3, none⟩ _ rfl).setCellR ⟨N, 4, none⟩ _ rfl

set_option maxHeartbeats 2000000 in
set_option maxRecDepth 100000 in
theorem rget_none (nm : ByteArray) (b : Nat) (to : Option Addr) (tc : Nat) (P : List (Tbl × Value)) (F : Nat → Prop) (w : World) (hb : w.cell? ⟨b, 0, none⟩ = some (.slice to P.length tc)) (hT : TL w F to P) (hl : P.length ≤ 17) (hpos : posP (fun t => decide (t.nm = nm)) P = -1) :
    Calls Try.prog 25 #[.pointer (some ⟨b, 0, none⟩), .string nm] w fun x w' => x = .returned (.tuple #[zA, .int .i64 52]) ∧ Tch (fun _ => False) w w' := by
  obtain ⟨w0, hw0⟩ : ∃ w0, w0 = w.alloc (.cells #[.int .i64 0, .int .i64 0, .string ⟨#[]⟩, .slice none 0 0, .int .i64 0] 36) := ⟨_, rfl⟩
  have t0 : Tch (fun _ => False) w w0 := by rw [hw0]; exact Tch.alloc _ _ _
  have q0 := rplace_any b to tc P F nm w0 (by rw [t0.cell (p := ⟨b, 0, none⟩) (cell_lt hb) (fun h => h)]; exact hb) (hT.tch t0 (fun _ _ h => h.elim)) hl
  rw [hpos, hw0] at q0
  clear hw0 t0 hb hT hl hpos
  have hrs : Try.f25.results = #[.cell 4 36, .tmp 5] := by kernel_rfl
  go_enter Try.func25, Try.ntmps25
  go_wp2_with fail
  refine q0.mono ?_
  rintro y w0' ⟨rfl, hw0'⟩
  subst hw0'
  clear q0
  go_wp2_with fail
  refine bodyPost_ret (v := .tuple #[zA, .int .i64 52]) (by simp only [results, hrs]; go_simp) rfl ⟨rfl, Tch.alloc _ _ _⟩
set_option maxHeartbeats 2000000 in
set_option maxRecDepth 100000 in
theorem rbyid_none (id : Int) (b : Nat) (to : Option Addr) (tc : Nat) (P : List (Tbl × Value)) (F : Nat → Prop) (w : World) (hb : w.cell? ⟨b, 0, none⟩ = some (.slice to P.length tc)) (hT : TL w F to P) (hl : P.length ≤ 17) (hpos : posP (fun t => decide (t.id = id)) P = -1) :
    Calls Try.prog 33 #[.pointer (some ⟨b, 0, none⟩), .int .i64 id] w fun x w' => x = .returned (.tuple #[zA, .int .i64 52]) ∧ Tch (fun _ => False) w w' := by
  obtain ⟨w0, hw0⟩ : ∃ w0, w0 = w.alloc (.cells #[.int .i64 0, .int .i64 0, .string ⟨#[]⟩, .slice none 0 0, .int .i64 0] 36) := ⟨_, rfl⟩
  have t0 : Tch (fun _ => False) w w0 := by rw [hw0]; exact Tch.alloc _ _ _
  have q0 := rat_any b to tc P F id w0 (by rw [t0.cell (p := ⟨b, 0, none⟩) (cell_lt hb) (fun h => h)]; exact hb) (hT.tch t0 (fun _ _ h => h.elim)) hl
  rw [hpos, hw0] at q0
  clear hw0 t0 hb hT hl hpos
  have hrs : Try.f33.results = #[.cell 4 36, .tmp 5] := by kernel_rfl
  go_enter Try.func33, Try.ntmps33
  go_wp2_with fail
  refine q0.mono ?_
  rintro y w0' ⟨rfl, hw0'⟩
  subst hw0'
  clear q0
  go_wp2_with fail
  refine bodyPost_ret (v := .tuple #[zA, .int .i64 52]) (by simp only [results, hrs]; go_simp) rfl ⟨rfl, Tch.alloc _ _ _⟩
end Go.Proofs.Ytolamjipigfocaa
/- The document's catalog: List. -/
namespace Go.Proofs.Ytolamjipigfocaa
open Go.RowKit Go

/-- A table more at the end of a list of one's own. -/
theorem TO.snoc {W w1 : World} {base M : Nat} {tv tv' : Value} {P : List (Tbl × Value)} (h : TO W base tv P) {t : Tbl} {v : Value} (hv : W.ownsRow M 43 3 v t.cols.length (ccl t.cols)) (hM : base ≤ M) (hlt : ∀ g, BL tv P g → g < M)
    (hgr : W.grownBy w1 tv.ownBlock) (hown : w1.ownsRow base 36 5 tv' (P.length + 1) (tcl (P ++ [(t, v)]))) (hat : tv'.ownBlock = tv.ownBlock ∨ tv'.ownBlock = some W.heap.size) : TO w1 base tv' (P ++ [(t, v)]) := by
  have T := grown_at (Tch.refl (fun _ => False) W) hgr
  have hvl : ∀ g, v.ownBlock = some g → M ≤ g ∧ g < W.heap.size := fun g e => hv.lt g e
  have hcl : ∀ i (hi : i < P.length) g, P[i].2.ownBlock = some g → g < W.heap.size := fun i hi g e => ((h.col i hi).lt g e).2
  have hv1 : w1.ownsRow base 43 3 v t.cols.length (ccl t.cols) := own_low (own_tch hv T (fun g e e2 => by have := hlt g (Or.inl e2); have := (hvl g e).1; omega)) hM
  have hget : ∀ i (hi : i < (P ++ [(t, v)]).length), (∃ hj : i < P.length, (P ++ [(t, v)])[i] = P[i]) ∨ (i = P.length ∧ (P ++ [(t, v)])[i] = (t, v)) := fun i hi => by
    by_cases hj : i < P.length
    · exact Or.inl ⟨hj, List.getElem_append_left hj⟩
    · have : i = P.length := by simp at hi; omega
      subst this
      exact Or.inr ⟨rfl, by simp⟩
  refine ⟨by rw [List.length_append]; exact hown, fun i hi => ?_, fun i hi g e e2 => ?_, fun i j hi hj g hij e e2 => ?_⟩
  · rcases hget i hi with ⟨hj, e⟩ | ⟨_, e⟩
    · rw [e]; exact own_tch (h.col i hj) T (fun g e e2 => h.sep i hj g e e2)
    · rw [e]; exact hv1
  · rcases hat with ha | ha
    · rw [ha] at e2
      rcases hget i hi with ⟨hj, e3⟩ | ⟨_, e3⟩
      · rw [e3] at e; exact h.sep i hj g e e2
      · rw [e3] at e; have := hlt g (Or.inl e2); have := (hvl g e).1; omega
    · rw [ha] at e2
      injection e2 with e2
      rcases hget i hi with ⟨hj, e3⟩ | ⟨_, e3⟩
      · rw [e3] at e; have := hcl i hj g e; omega
      · rw [e3] at e; have := (hvl g e).2; omega
  · rcases hget i hi with ⟨hi', e3⟩ | ⟨hi', e3⟩
    · rcases hget j hj with ⟨hj', e4⟩ | ⟨hj', e4⟩
      · rw [e3] at e; rw [e4] at e2; exact h.dis i j hi' hj' g hij e e2
      · rw [e3] at e; rw [e4] at e2; have := hlt g (Or.inr ⟨i, hi', e⟩); have := (hvl g e2).1; omega
    · rcases hget j hj with ⟨hj', e4⟩ | ⟨hj', e4⟩
      · rw [e3] at e; rw [e4] at e2; have := hlt g (Or.inr ⟨j, hj', e2⟩); have := (hvl g e).1; omega
      · omega

set_option maxHeartbeats 4000000 in
set_option maxRecDepth 100000 in
theorem rlist_any (b : Nat) (to : Option Addr) (tc : Nat) (P : List (Tbl × Value)) (F : Nat → Prop) (w : World) (hb : w.cell? ⟨b, 0, none⟩ = some (.slice to P.length tc)) (hT : TL w F to P) (hl : P.length ≤ 16) (h8 : ∀ i (hi : i < P.length), P[i].1.cols.length ≤ 8) :
    Calls Try.prog 10 #[.pointer (some ⟨b, 0, none⟩)] w fun x w' => ListOut (P.map Prod.fst) w.heap.size x w' ∧ Tch (fun _ => False) w w' := by
  obtain ⟨i0, hi0, hz0, hz1, hz2⟩ := info_parts info_tbl
  obtain ⟨n, hn⟩ : ∃ n, n = P.length := ⟨_, rfl⟩
  have Hn : Hid (n = P.length) := hn
  have HT : Hid (∀ W, Tch (fun i => w.heap.size ≤ i) w W → TL W F to P ∧ W.cell? ⟨b, 0, none⟩ = some (.slice to n tc)) := fun W t => by
    have t' : Tch (fun _ => False) w W := t.mono (fun i h e => by omega)
    exact ⟨hT.tch t' (fun _ _ h => h.elim), by rw [hn, t'.cell (p := ⟨b, 0, none⟩) (cell_lt hb) (fun h => h)]; exact hb⟩
  have H8 : Hid _ := h8
  rw [← hn] at hb hl
  clear hT h8 hn
  go_enter Try.func10, Try.ntmps10
  go_wp2_with fail
  clear hb
  go_loopw [3, 4] (fun v iv wr => ∃ (k : Nat) (Q : List (Tbl × Value)), iv = .int .i64 k ∧ k ≤ n ∧ Hid (Q.map Prod.fst = (P.map Prod.fst).take k ∧ Q.length = k) ∧ Hid (TO wr w.heap.size v Q) ∧ Hid (Tch (fun i => w.heap.size ≤ i) w wr)) (fun _ iv _ => n - (intOf iv).toNat)
  case atStart => exact ⟨0, [], rfl, by omega, ⟨by simp, rfl⟩, ⟨World.ownsRow_nil _ _ _ _, fun i hi => by simp at hi, fun i hi => by simp at hi, fun i j hi => by simp at hi⟩, Tch.refl _ _⟩
  case round =>
    obtain ⟨k, Q, rfl, hk, HQ, HTO, HTw⟩ := hrel
    obtain ⟨wV, hwV⟩ : ∃ wV, wV = wr := ⟨_, rfl⟩
    subst hwV
    obtain ⟨ho, hc, hv⟩ := row_slice HTO.out.own
    subst hv
    obtain ⟨hTL, hb⟩ := HT.out wV HTw.out
    by_cases hlt : (k : Int) < n
    · have hkl : k < P.length := by have := Hn.out; omega
      obtain ⟨g, o, rfl, c0, c1, c2, c3, c4⟩ := hTL.at k hkl
      obtain ⟨co, cc, hck⟩ := hTL.col k hkl
      obtain ⟨p, hp⟩ : ∃ p, p = P[k] := ⟨_, rfl⟩
      have h8k := H8.out k hkl
      rw [← hp] at c0 c1 c2 c3 c4 hck h8k
      have q := rcopied_any p.1 co cc wV hck.sl hck.no (by omega)
      rw [hck.eq] at c3
      have Hp : Hid (p = P[k]) := hp
      clear hTL hck hp
      go_wp2_with fail
      refine q.mono ?_
      rintro x w1 ⟨⟨v, rfl, hv⟩, t1⟩
      clear q c0 c1 c2 c3 c4 hb
      obtain ⟨vo, vc, hvv⟩ := row_slice hv
      subst hvv
      obtain ⟨wa, hwa⟩ : ∃ wa, wa = w1.alloc (.cells #[.int .i64 p.1.id, .int .i64 p.1.ver, .string p.1.nm, .slice vo p.1.cols.length vc, .int .i64 p.1.key] 36) := ⟨_, rfl⟩
      have ta : Tch (fun _ => False) wV wa := by rw [hwa]; exact t1.trans' (Tch.alloc _ _ _)
      have HTa : Hid (TO wa w.heap.size (.slice ho Q.length hc) Q) := HTO.out.tch ta (fun _ _ _ h => h)
      have HVa : Hid (wa.ownsRow wV.heap.size 43 3 (.slice vo p.1.cols.length vc) p.1.cols.length (ccl p.1.cols)) := by rw [hwa]; exact own_tch hv (Tch.alloc (fun _ => False) _ _) (fun _ _ h => h)
      have HBL : Hid (∀ g, BL (.slice ho Q.length hc) Q g → g < wV.heap.size) := fun g hg => by
        rcases hg with e | ⟨i, hi, e⟩
        · exact (HTO.out.own.lt g e).2
        · exact ((HTO.out.col i hi).lt g e).2
      have HNW : Hid (∀ j u, ([.int .i64 p.1.id, .int .i64 p.1.ver, .string p.1.nm, .slice vo p.1.cols.length vc, .int .i64 p.1.key] : List Value)[j]? = some u → wa.cell? ((⟨w1.heap.size, 0, none⟩ : Addr).add j) = some u) := by rw [hwa]; exact World.news_of_block (alloc_new w1 _)
      have hQl : Q.length ≤ 16 := by have := HQ.out.2; omega
      have Hsz : Hid (w.heap.size ≤ wa.heap.size) := Nat.le_trans HTw.out.size ta.size
      have Hsw : Hid (w.heap.size ≤ wV.heap.size) := HTw.out.size
      have Hta : Hid (Tch (fun i => w.heap.size ≤ i) w wa) := HTw.out.trans' (ta.mono (fun _ _ h => h.elim))
      have Hwa : Hid _ := hwa
      clear hwa ta hv t1
      go_wp2_with (at_builtin; have hwa := Hwa.out; rw [← hwa]; clear hwa; refine wpList_append_keeps _ rfl _ _ 37 rfl w.heap.size 36 i0 (.agg #[.int .i64 0, .int .i64 0, .string ⟨#[]⟩, .slice none 0 0, .int .i64 0]) 5 64 Try.underlying37 hi0 hz0 hz1 hz2 rfl (by decide) (.slice ho Q.length hc) Q.length (tcl Q) rfl HTa.out.own ⟨w1.heap.size, 0, none⟩ 1 1 [.int .i64 p.1.id, .int .i64 p.1.ver, .string p.1.nm, .slice vo p.1.cols.length vc, .int .i64 p.1.key] rfl rfl HNW.out (by simp [Value.oneCell']) (by unfold maxLen; omega) (by omega) Hsz.out ?_; intro v6 w6 hown6 hgr6 hat6 _)
      have HT6 : Hid (TO w6 w.heap.size v6 (Q ++ [(p.1, .slice vo p.1.cols.length vc)])) := HTa.out.snoc HVa.out Hsw.out HBL.out hgr6 (by rw [tcl_append]; exact hown6) hat6
      have HTw6 : Hid (Tch (fun i => w.heap.size ≤ i) w w6) := Hta.out.trans (grown_at (Tch.refl (fun _ => False) wa) hgr6) (fun i _ h => (HTa.out.own.lt i h).1)
      have HQ6 : Hid ((Q ++ [(p.1, (.slice vo p.1.cols.length vc : Value))]).map Prod.fst = (P.map Prod.fst).take (k + 1) ∧ (Q ++ [(p.1, (.slice vo p.1.cols.length vc : Value))]).length = k + 1) := by
        refine ⟨?_, by simp [HQ.out.2]⟩
        rw [List.map_append, HQ.out.1, List.take_succ_eq_append_getElem (by simpa using hkl)]
        simp [Hp.out]
      obtain ⟨oo6, oc6, hov6⟩ := row_slice hown6
      subst hov6
      clear hown6 hgr6 hat6
      go_wp2_with fail
      go_roundw
      case rel => exact ⟨k + 1, _, by go_num, by omega, HQ6, HT6, HTw6⟩
      case measure => simp [intOf]; omega
    · have HF : Hid (ListOut (P.map Prod.fst) w.heap.size (.returned (.slice ho Q.length hc)) wV ∧ Tch (fun _ => False) w wV) := by
        refine ⟨⟨_, Q, rfl, ?_, HTO.out⟩, HTw.out.mono (fun i h e => by omega)⟩
        rw [HQ.out.1, List.take_of_length_le (by have := Hn.out; simp; omega)]
      go_wp2_with fail
      go_ret
      exact HF.out
end Go.Proofs.Ytolamjipigfocaa
/- The document's catalog in the world; Clone. -/
namespace Go.Proofs.Ytolamjipigfocaa
open Go.RowKit Go

/-- The document's catalog, one's own. -/
structure RO (W : World) (base b : Nat) (L : List Tbl) (gv : Int) (P : List (Tbl × Value)) (tv : Value) : Prop where
  blk : W.heap[b]? = some (.cells #[tv, .int .i64 gv] 57 (0, 0))
  ge : base ≤ b
  eq : P.map Prod.fst = L
  to : TO W base tv P
  nb : tv.ownBlock ≠ some b ∧ ∀ i (hi : i < P.length), P[i].2.ownBlock ≠ some b
def RCloneOut (L : List Tbl) (gv : Int) (base : Nat) (x : Ending) (w' : World) : Prop := ∃ d tv Q, x = .returned (.pointer (some ⟨d, 0, none⟩)) ∧ RO w' base d L gv Q tv
/-- The document's catalog, for reading (its second cell: the number of the next table). -/
structure RA (W : World) (F : Nat → Prop) (b : Nat) (L : List Tbl) (gv : Int) (P : List (Tbl × Value)) (to : Option Addr) (tc : Nat) : Prop where
  blk : W.heap[b]? = some (.cells #[.slice to P.length tc, .int .i64 gv] 57 (0, 0))
  eq : P.map Prod.fst = L
  tl : TL W (fun i => F i ∨ i = b) to P
  nb : ¬ F b
theorem RA.tch {S F : Nat → Prop} {W W' : World} {b : Nat} {L : List Tbl} {gv : Int} {P : List (Tbl × Value)} {to : Option Addr} {tc : Nat} (h : RA W F b L gv P to tc) (t : Tch S W W') (hS : ∀ i, i < W.heap.size → S i → F i) : RA W' F b L gv P to tc :=
  ⟨by rw [t.block b (blk_lt h.blk) (fun hs => h.nb (hS b (blk_lt h.blk) hs))]; exact h.blk, h.eq, h.tl.tch t (fun i hi hs => Or.inl (hS i hi hs)), h.nb⟩

set_option maxHeartbeats 2000000 in
set_option maxRecDepth 100000 in
theorem rclone_any (b : Nat) (L : List Tbl) (gv : Int) (P : List (Tbl × Value)) (to : Option Addr) (tc : Nat) (F : Nat → Prop) (w : World) (h : RA w F b L gv P to tc) (hl : P.length ≤ 16) (h8 : ∀ i (hi : i < P.length), P[i].1.cols.length ≤ 8) :
    Calls Try.prog 9 #[.pointer (some ⟨b, 0, none⟩)] w fun x w' => RCloneOut L gv w.heap.size x w' ∧ Tch (fun _ => False) w w' := by
  have HA : Hid (∀ W, Tch (fun _ => False) w W → Tch (fun _ => False) w W ∧ W.cell? ⟨b, 0, none⟩ = some (.slice to P.length tc) ∧ W.cell? ⟨b, 1, none⟩ = some (.int .i64 gv)) := fun W tW => by
    have h1 := (h.tch tW (fun _ _ h => h.elim)).blk
    exact ⟨tW, by rw [blk_cell h1]; rfl, by rw [blk_cell h1]; rfl⟩
  have Hq : Hid (∀ W, Tch (fun _ => False) w W → Calls Try.prog 10 #[.pointer (some ⟨b, 0, none⟩)] W fun x w' => ListOut L w.heap.size x w' ∧ Tch (fun _ => False) W w') := fun W tW => by
    refine (rlist_any b to tc P _ W (HA.out W tW).2.1 (h.tch tW (fun _ _ h => h.elim)).tl hl h8).mono ?_
    rintro x w' ⟨⟨tv, Q, hx, hQ, hTO⟩, t'⟩
    refine ⟨⟨tv, Q, hx, by rw [hQ, h.eq], ?_⟩, t'⟩
    exact ⟨own_low hTO.own tW.size, fun i hi => own_low (hTO.col i hi) tW.size, hTO.sep, hTO.dis⟩
  obtain ⟨_, b0, b1⟩ := HA.out w (Tch.refl _ _)
  clear h h8
  go_enter Try.func9, Try.ntmps9
  go_wp2_with fail
  have T0 : Tch (fun _ => False) w w := Tch.refl _ _
  go_region_held3 (fun W => Tch (fun _ => False) w W ∧ W.cell? ⟨b, 0, none⟩ = some (.slice to P.length tc) ∧ W.cell? ⟨b, 1, none⟩ = some (.int .i64 gv))
    ((refine HA.out _ ?_; first | assumption | exact (Tch.refl _ _).drew | exact Tch.allocR (by assumption) _))
    ((go_at_call 10; refine (Hq.out _ (show _ ∧ _ by assumption).1).mono ?_; rintro y w2 ⟨⟨tv, Q, rfl, hQ, hTO⟩, t2⟩; have V2 := Tch.trans' (show _ ∧ _ by assumption).1 t2; obtain ⟨tvo, tvc, htv⟩ := row_slice hTO.own; subst htv))
  have HF : Hid (RCloneOut L gv w.heap.size (.returned (.pointer (some ⟨w2.heap.size, 0, none⟩))) (w2.alloc (.cells #[.slice tvo Q.length tvc, .int .i64 gv] 57))) := by
    have ta : Tch (fun _ => False) w2 (w2.alloc (.cells #[.slice tvo Q.length tvc, .int .i64 gv] 57)) := Tch.alloc _ _ _
    refine ⟨w2.heap.size, .slice tvo Q.length tvc, Q, rfl, alloc_new _ _, V2.size, hQ, hTO.tch ta (fun _ _ _ h => h), fun e => ?_, fun i hi e => ?_⟩
    · have := (hTO.own.lt _ e).2; omega
    · have := ((hTO.col i hi).lt _ e).2; omega
  have HT : Hid (Tch (fun _ => False) w (w2.alloc (.cells #[.slice tvo Q.length tvc, .int .i64 gv] 57))) := V2.allocR _
  clear hQ hTO
  go_wp2_with fail
  go_ret
  exact ⟨HF.out, HT.out⟩
end Go.Proofs.Ytolamjipigfocaa
