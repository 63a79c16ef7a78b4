import Derived.Test.YtblhmjndegfofaaCDrop
/- Widen, where there is no such table. -/
namespace Go.Proofs.Ytblhmjndegfofaa
open Go.RowKit Go

set_option maxHeartbeats 4000000 in
set_option maxRecDepth 100000 in
theorem widenOn_none (base d : Nat) (L L' : List Tbl) (gv g' : Int) (P : List (Tbl × Value)) (tv : Value) (nm : ByteArray) (x : Col) (T : World → Value → Prop) (w : World) (h : CO w base d L gv P tv) (hl : P.length ≤ 16) (hbase : base ≤ w.heap.size)
    (hpos : posP (fun t => decide (t.nm = nm)) P = -1) :
    Calls Try.prog 36 #[wA nm x, .pointer (some ⟨d, 0, none⟩)] w fun y w' => OnOut base d 52 T L' g' y w' ∧ Tch (fun i => base ≤ i) w w' := by
  obtain ⟨to, tc, rfl⟩ := row_slice h.to.own
  obtain ⟨N, hN⟩ : ∃ N, N = w.heap.size := ⟨_, rfl⟩
  obtain ⟨w0, hw0⟩ : ∃ w0, w0 = (w.alloc (.cells #[.string nm, .string x.nm, .int .i64 x.k, .bool x.nl] 86)).alloc (.cells #[.int .i64 0, .int .i64 0, .string ⟨#[]⟩, .slice none 0 0, .int .i64 0] 29) := ⟨_, rfl⟩
  have t0 : Tch (fun _ => False) w w0 := by rw [hw0]; exact (Tch.alloc _ _ _).allocR _
  have hX : w0.heap[N]? = some (.cells #[.string nm, .string x.nm, .int .i64 x.k, .bool x.nl] 86 (0, 0)) := by
    rw [hw0, hN]; exact (Tch.alloc (fun _ => False) _ _).block _ (by simp) (fun h => h) |>.trans (alloc_new _ _)
  have hY : w0.heap[N + 1]? = some (.cells #[.int .i64 0, .int .i64 0, .string ⟨#[]⟩, .slice none 0 0, .int .i64 0] 29 (0, 0)) := by
    rw [hw0, hN, ← World.size_alloc]; exact alloc_new _ _
  have hCO0 := h.tch t0 (fun _ _ _ h => h)
  have q1 := nm3_any d to tc P _ nm w0 (by rw [blk_cell hCO0.blk]; rfl) hCO0.to.toTL hl
  rw [hpos] at q1
  have x0 : w0.cell? ⟨N, 0, none⟩ = some (.string nm) := by rw [blk_cell hX]; rfl
  have HOut : Hid (∀ W, Tch (fun i => i = N + 1) w0 W → DX W base d ∧ Tch (fun i => base ≤ i) w W) := fun W tW => by
    have hdN := blk_lt h.blk
    have tB : Tch (fun i => base ≤ i) w W := (t0.mono (fun _ _ h => h.elim)).trans' (tW.mono (fun i _ e => by have e2 : i = N + 1 := e; omega))
    have hdx := hCO0.dx (by omega)
    have tw : Tch (fun i => i = N + 1) w W := (t0.mono (fun _ _ h => h.elim)).trans' tW
    exact ⟨(h.dx (by omega)).tch tw (fun i _ hi e => by omega), tB⟩
  have HY : Hid _ := hY
  have Hw0 : Hid _ := hw0
  have HN : Hid (N = w.heap.size) := hN
  rw [hw0, hN] at x0
  clear h hN hX hY hCO0 t0 hpos hw0
  go_enter Try.func36, Try.ntmps36
  go_wp2_with fail
  have hw0 := Hw0.out
  rw [← hw0]
  rw [← HN.out]
  clear hw0 x0
  refine q1.mono ?_
  rintro y w1 ⟨rfl, t1⟩
  clear q1
  have hY1 : w1.heap[N + 1]? = some (.cells #[.int .i64 0, .int .i64 0, .string ⟨#[]⟩, .slice none 0 0, .int .i64 0] 29 (0, 0)) := by rw [t1.block (N + 1) (blk_lt HY.out) (fun h => h)]; exact HY.out
  obtain ⟨z0, z1, z2, z3, z4⟩ : w1.cell? ⟨N + 1, 0, none⟩ = some (.int .i64 0) ∧ w1.cell? ⟨N + 1, 1, none⟩ = some (.int .i64 0) ∧ w1.cell? ⟨N + 1, 2, none⟩ = some (.string ⟨#[]⟩) ∧ w1.cell? ⟨N + 1, 3, none⟩ = some (.slice none 0 0) ∧ w1.cell? ⟨N + 1, 4, none⟩ = some (.int .i64 0) := ⟨by rw [blk_cell hY1]; rfl, by rw [blk_cell hY1]; rfl, by rw [blk_cell hY1]; rfl, by rw [blk_cell hY1]; rfl, by rw [blk_cell hY1]; rfl⟩
  have f0 := blk_frozen hY1 0; have f1 := blk_frozen hY1 1; have f2 := blk_frozen hY1 2; have f3 := blk_frozen hY1 3; have f4 := blk_frozen hY1 4
  have hrs : Try.f36.results = #[.cell 4 29, .tmp 5] := by kernel_rfl
  have HFin : Hid (∀ W', W' = ((((w1.setCell ⟨N + 1, 0, none⟩ (.int .i64 0)).setCell ⟨N + 1, 1, none⟩ (.int .i64 0)).setCell ⟨N + 1, 2, none⟩ (.string ⟨#[]⟩)).setCell ⟨N + 1, 3, none⟩ (.slice none 0 0)).setCell ⟨N + 1, 4, none⟩ (.int .i64 0) → (∀ tmps : Array Value, tmps[4]?.getD undef = .pointer (some ⟨N + 1, 0, none⟩) → tmps[5]?.getD undef = .int .i64 52 → (results Try.f36 tmps).run Try.prog W' = .ok (.tuple #[zA, .int .i64 52]) W') ∧ (OnOut base d 52 T L' g' (.returned (.tuple #[zA, .int .i64 52])) W' ∧ Tch (fun i => base ≤ i) w W')) := fun W' hW' => by
    have tE : Tch (fun i => i = N + 1) w1 W' := by rw [hW']; exact ((((Tch.setCell (fun i => i = N + 1) w1 ⟨N + 1, 0, none⟩ _ rfl).setCellR ⟨N + 1, 1, none⟩ _ rfl).setCellR ⟨N + 1, 2, none⟩ _ rfl).setCellR ⟨N + 1, 3, none⟩ _ rfl).setCellR ⟨N + 1, 4, none⟩ _ rfl
    have hb : W'.heap[N + 1]? = some (.cells #[.int .i64 0, .int .i64 0, .string ⟨#[]⟩, .slice none 0 0, .int .i64 0] 29 (0, 0)) := by
      rw [hW', blk_set (blk_set (blk_set (blk_set (blk_set hY1 _) _) _) _) _]; rfl
    obtain ⟨o1, o2⟩ := HOut.out W' ((t1.mono (fun _ _ h => h.elim)).trans' tE)
    exact ⟨fun tmps h4 h5 => res_pair hrs h4 h5 (by rw [blk_cell hb]; rfl) (by rw [blk_cell hb]; rfl) (by rw [blk_cell hb]; rfl) (by rw [blk_cell hb]; rfl) (by rw [blk_cell hb]; rfl), ⟨fun e => by simp at e, fun _ => ⟨rfl, o1⟩⟩, o2⟩
  clear hY1 t1
  go_wp2_with fail
  refine bodyPost_ret ((HFin.out _ rfl).1 _ ?_ ?_) rfl (HFin.out _ rfl).2 <;> rfl

set_option maxHeartbeats 4000000 in
set_option maxRecDepth 100000 in
theorem widen_none (b : Nat) (L : List Tbl) (gv : Int) (P : List (Tbl × Value)) (to : Option Addr) (tc : Nat) (F : Nat → Prop) (nm : ByteArray) (x : Col) (u0 : Tbl) (L' : List Tbl) (w : World) (h : CA w F b L gv P to tc) (hl : P.length ≤ 16) (h8 : ∀ i (hi : i < P.length), P[i].1.cols.length ≤ 8) (hF : ∀ i, F i → i < w.heap.size)
    (hpos : posP (fun t => decide (t.nm = nm)) P = -1) :
    Calls Try.prog 10 #[.pointer (some ⟨b, 0, none⟩), .string nm, cA x.nm x.k x.nl] w fun y w' => ChgOut F b 52 u0 L' gv w y w' := by
  obtain ⟨w00, hw00⟩ : ∃ w00, w00 = w.alloc (.cells #[.string x.nm, .int .i64 x.k, .bool x.nl] 34) := ⟨_, rfl⟩
  obtain ⟨M, hM⟩ : ∃ M, M = w.heap.size := ⟨_, rfl⟩
  have t00 : Tch (fun _ => False) w w00 := by rw [hw00]; exact Tch.alloc _ _ _
  obtain ⟨N, hN⟩ : ∃ N, N = M + 1 := ⟨_, rfl⟩
  have hNw : N = w00.heap.size := by rw [hw00, World.size_alloc, hN, hM]
  obtain ⟨w0, hw0⟩ : ∃ w0, w0 = w00.alloc (.cells #[.int .i64 0, .int .i64 0, .string ⟨#[]⟩, .slice none 0 0, .int .i64 0] 29) := ⟨_, rfl⟩
  have t0 : Tch (fun _ => False) w00 w0 := by rw [hw0]; exact Tch.alloc _ _ _
  have hs0 : w0.heap.size = N + 1 := by rw [hw0, World.size_alloc, hNw]
  have hY : w0.heap[N]? = some (.cells #[.int .i64 0, .int .i64 0, .string ⟨#[]⟩, .slice none 0 0, .int .i64 0] 29 (0, 0)) := by rw [hw0, hNw]; exact alloc_new _ _
  have hXc : w00.heap[M]? = some (.cells #[.string x.nm, .int .i64 x.k, .bool x.nl] 34 (0, 0)) := by rw [hw00, hM]; exact alloc_new _ _
  have hX : w0.heap[M]? = some (.cells #[.string x.nm, .int .i64 x.k, .bool x.nl] 34 (0, 0)) := by rw [t0.block M (blk_lt hXc) (fun h => h)]; exact hXc
  have hbN : b < M := by rw [hM]; exact blk_lt h.blk
  have q1 : Calls Try.prog 33 #[.pointer (some ⟨b, 0, none⟩), .func (.func 36) #[.agg #[.string nm, .string x.nm, .int .i64 x.k, .bool x.nl]] #[]] w0 fun y w' => ChgOut (fun i => F i ∨ i = N) b 52 u0 L' gv w0 y w' := by
    have hca : CA w0 (fun i => F i ∨ i = N) b L gv P to tc := by
      have h2 : CA w (fun i => F i ∨ i = N) b L gv P to tc := h.fresh (fun i hi hh => hh.elim id (fun e => by omega))
      exact (h2.tch t00 (fun _ _ h => h.elim)).tch t0 (fun _ _ h => h.elim)
    have hF0 : ∀ i, (F i ∨ i = N) → i < w0.heap.size := fun i hi => by
      rcases hi with hi | hi
      · have := hF i hi; omega
      · omega
    refine (change_widen b L gv P to tc (fun i => F i ∨ i = N) nm x 52 ⟨0, 0, ⟨#[]⟩, [], 0⟩ L' gv w0 hca hl h8 (by simp) hF0 (fun W d Q tv _ hsz hQl hCO => widenOn_none (w0.heap.size + 1) d L L' gv gv Q tv nm x _ W hCO (by omega) hsz (by rw [posP_congr _ (by rw [hCO.eq, h.eq] : Q.map Prod.fst = P.map Prod.fst)]; exact hpos))).mono ?_
    rintro y w' hO
    exact ⟨fun e => by simp at e, hO.2⟩
  have x0 : w0.cell? ⟨M, 0, none⟩ = some (.string x.nm) := by rw [blk_cell hX]; rfl
  have x1 : w0.cell? ⟨M, 1, none⟩ = some (.int .i64 x.k) := by rw [blk_cell hX]; rfl
  have x2 : w0.cell? ⟨M, 2, none⟩ = some (.bool x.nl) := by rw [blk_cell hX]; rfl
  have Hw0 : Hid ((w.alloc (.cells #[.string x.nm, .int .i64 x.k, .bool x.nl] 34)).alloc (.cells #[.int .i64 0, .int .i64 0, .string ⟨#[]⟩, .slice none 0 0, .int .i64 0] 29) = w0) := by show _ = _; rw [hw0, hw00]
  have HM : Hid (M = w.heap.size) := hM
  have HN : Hid (N = M + 1) := hN
  have HNw : Hid (N = w00.heap.size) := hNw
  have Ht0 : Hid (Tch (fun _ => False) w00 w0) := t0
  have Ht00 : Hid (Tch (fun _ => False) w w00) := t00
  have Hs0 : Hid (w0.heap.size = N + 1) := hs0
  have HY : Hid (w0.heap[N]? = some (.cells #[.int .i64 0, .int .i64 0, .string ⟨#[]⟩, .slice none 0 0, .int .i64 0] 29 (0, 0))) := hY
  rw [← Hw0.out] at x0 x1 x2
  rw [hM] at x0 x1 x2
  clear h hw0 hN hY t0 hs0 h8 hF hpos hw00 hM t00 hNw hXc hX
  go_enter Try.func10, Try.ntmps10
  go_wp2_with fail
  have hw0 := Hw0.out
  rw [hw0]
  clear hw0 x0 x1 x2
  refine q1.mono ?_
  rintro y w2 hO
  clear q1
  rw [← HM.out, ← HN.out]
  obtain ⟨i, j, s, v, kk, rfl, vo, vn, vc, rfl⟩ := chg_shape hO
  have t2 : Tch (fun i => i = b) w0 w2 := by
    exact (hO.2 (by decide)).2.mono (fun _ _ h => h.elim)
  have hY2 : w2.heap[N]? = some (.cells #[.int .i64 0, .int .i64 0, .string ⟨#[]⟩, .slice none 0 0, .int .i64 0] 29 (0, 0)) := by rw [t2.block N (blk_lt HY.out) (by have := HN.out; omega)]; exact HY.out
  obtain ⟨z0, z1, z2, z3, z4⟩ : w2.cell? ⟨N, 0, none⟩ = some (.int .i64 0) ∧ w2.cell? ⟨N, 1, none⟩ = some (.int .i64 0) ∧ w2.cell? ⟨N, 2, none⟩ = some (.string ⟨#[]⟩) ∧ w2.cell? ⟨N, 3, none⟩ = some (.slice none 0 0) ∧ w2.cell? ⟨N, 4, none⟩ = some (.int .i64 0) := ⟨by rw [blk_cell hY2]; rfl, by rw [blk_cell hY2]; rfl, by rw [blk_cell hY2]; rfl, by rw [blk_cell hY2]; rfl, by rw [blk_cell hY2]; rfl⟩
  have f0 := blk_frozen hY2 0; have f1 := blk_frozen hY2 1; have f2 := blk_frozen hY2 2; have f3 := blk_frozen hY2 3; have f4 := blk_frozen hY2 4
  have hrs : Try.f10.results = #[.cell 6 29, .tmp 7] := by kernel_rfl
  have HFin : Hid (∀ W', W' = ((((w2.setCell ⟨N, 0, none⟩ (.int .i64 i)).setCell ⟨N, 1, none⟩ (.int .i64 j)).setCell ⟨N, 2, none⟩ (.string s)).setCell ⟨N, 3, none⟩ (.slice vo vn vc)).setCell ⟨N, 4, none⟩ (.int .i64 kk) → (∀ tmps : Array Value, tmps[6]?.getD undef = .pointer (some ⟨N, 0, none⟩) → tmps[7]?.getD undef = .int .i64 52 → (results Try.f10 tmps).run Try.prog W' = .ok (.tuple #[tA i j s (.slice vo vn vc) kk, .int .i64 52]) W') ∧ ChgOut F b 52 u0 L' gv w (.returned (.tuple #[tA i j s (.slice vo vn vc) kk, .int .i64 52])) W') := fun W' hW' => by
    have tE : Tch (fun i => i = N) w2 W' := by rw [hW']; exact ((((Tch.setCell (fun i => i = N) w2 ⟨N, 0, none⟩ _ rfl).setCellR ⟨N, 1, none⟩ _ rfl).setCellR ⟨N, 2, none⟩ _ rfl).setCellR ⟨N, 3, none⟩ _ rfl).setCellR ⟨N, 4, none⟩ _ rfl
    have hb : W'.heap[N]? = some (.cells #[.int .i64 i, .int .i64 j, .string s, .slice vo vn vc, .int .i64 kk] 29 (0, 0)) := by
      rw [hW', blk_set (blk_set (blk_set (blk_set (blk_set hY2 _) _) _) _) _]; rfl
    exact ⟨fun tmps h4 h5 => res_pair hrs h4 h5 (by rw [blk_cell hb]; rfl) (by rw [blk_cell hb]; rfl) (by rw [blk_cell hb]; rfl) (by rw [blk_cell hb]; rfl) (by rw [blk_cell hb]; rfl), chg_low Ht00.out (chg_end HNw.out Ht0.out Hs0.out hO tE)⟩
  clear hO hY2 t2
  go_wp2_with fail
  refine bodyPost_ret ((HFin.out _ rfl).1 _ ?_ ?_) rfl (HFin.out _ rfl).2 <;> rfl
end Go.Proofs.Ytblhmjndegfofaa
