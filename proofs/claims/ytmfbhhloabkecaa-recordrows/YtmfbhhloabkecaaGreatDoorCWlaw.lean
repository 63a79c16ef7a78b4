import Derived.Test.YtmfbhhloabkecaaGreatDoorCChgD
import Derived.Test.YtmfbhhloabkecaaGreatDoorCChgW
/- Widen of the code. -/
namespace Go.Proofs.YtmfbhhloabkecaaGreatDoor.C
open Go.RowKit Go

theorem posP_congr (f : Tbl → Bool) : ∀ {P Q : List (Tbl × Value)}, P.map Prod.fst = Q.map Prod.fst → posP f P = posP f Q
  | [], [], _ => rfl
  | [], _ :: _, h => by simp at h
  | _ :: _, [], h => by simp at h
  | p :: P, q :: Q, h => by
    simp only [List.map_cons, List.cons.injEq] at h
    unfold posP
    rw [h.1, posP_congr f h.2]
theorem chg_low {F : Nat → Prop} {b : Nat} {E : Int} {t0 : Tbl} {L' : List Tbl} {g' : Int} {w w0 W' : World} {x : Ending} (hw : Tch (fun _ => False) w w0) (h : ChgOut F b E t0 L' g' w0 x W') : ChgOut F b E t0 L' g' w x W' := by
  refine ⟨fun e => ?_, fun e => ?_⟩
  · obtain ⟨v, P, to, tc, hx, hv, hca, ht⟩ := h.1 e
    exact ⟨v, P, to, tc, hx, own_low hv hw.size, hca, (hw.mono (fun _ _ h => h.elim)).trans' ht⟩
  · obtain ⟨hx, ht⟩ := h.2 e
    exact ⟨hx, hw.trans' ht⟩

set_option maxHeartbeats 4000000 in
set_option maxRecDepth 100000 in
theorem widen_any (b : Nat) (L : List Tbl) (gv : Int) (P : List (Tbl × Value)) (to : Option Addr) (tc : Nat) (F : Nat → Prop) (nm : ByteArray) (x : Col) (k : Nat) (hk : k < P.length) (w : World) (h : CA w F b L gv P to tc) (hl : P.length ≤ 16) (h8 : ∀ i (hi : i < P.length), P[i].1.cols.length ≤ 8) (hF : ∀ i, F i → i < w.heap.size)
    (hpos : posP (fun t => decide (t.nm = nm)) P = k) (hver : 0 ≤ P[k].1.ver ∧ P[k].1.ver ≤ 2147483647) :
    Calls Tryz.prog 12 #[.pointer (some ⟨b, 0, none⟩), .string nm, cA x.nm x.k x.nl] w fun y w' => ChgOut F b (widE P[k].1 x) (widT P[k].1 x) (L.set k (widT P[k].1 x)) gv w y w' := by
  obtain ⟨w00, hw00⟩ : ∃ w00, w00 = w.alloc (.cells #[.string x.nm, .int .i64 x.k, .bool x.nl] 43) := ⟨_, rfl⟩
  obtain ⟨M, hM⟩ : ∃ M, M = w.heap.size := ⟨_, rfl⟩
  have t00 : Tch (fun _ => False) w w00 := by rw [hw00]; exact Tch.alloc _ _ _
  obtain ⟨N, hN⟩ : ∃ N, N = M + 1 := ⟨_, rfl⟩
  have hNw : N = w00.heap.size := by rw [hw00, World.size_alloc, hN, hM]
  obtain ⟨w0, hw0⟩ : ∃ w0, w0 = w00.alloc (.cells #[.int .i64 0, .int .i64 0, .string ⟨#[]⟩, .slice none 0 0, .int .i64 0] 29) := ⟨_, rfl⟩
  have t0 : Tch (fun _ => False) w00 w0 := by rw [hw0]; exact Tch.alloc _ _ _
  have hs0 : w0.heap.size = N + 1 := by rw [hw0, World.size_alloc, hNw]
  have hY : w0.heap[N]? = some (.cells #[.int .i64 0, .int .i64 0, .string ⟨#[]⟩, .slice none 0 0, .int .i64 0] 29 (0, 0)) := by rw [hw0, hNw]; exact alloc_new _ _
  have hXc : w00.heap[M]? = some (.cells #[.string x.nm, .int .i64 x.k, .bool x.nl] 43 (0, 0)) := by rw [hw00, hM]; exact alloc_new _ _
  have hX : w0.heap[M]? = some (.cells #[.string x.nm, .int .i64 x.k, .bool x.nl] 43 (0, 0)) := by rw [t0.block M (blk_lt hXc) (fun h => h)]; exact hXc
  have hbN : b < M := by rw [hM]; exact blk_lt h.blk
  obtain ⟨t, ht⟩ : ∃ t, t = P[k].1 := ⟨_, rfl⟩
  rw [← ht] at hver ⊢
  obtain ⟨E, hE⟩ : ∃ E, E = widE t x := ⟨_, rfl⟩
  have ht8 : E = 0 → (widT t x).cols.length ≤ 8 := fun e => by
    rw [hE] at e
    unfold widE at e
    split at e
    · rename_i h2; exact absurd e h2
    · rename_i h2
      have h3 : colsE (t.cols ++ [x]) = 0 := Classical.byContradiction h2
      unfold colsE at h3
      split at h3
      · simp at h3
      · rename_i h4
        show (t.cols ++ [x]).length ≤ 8
        omega
  have q1 : Calls Tryz.prog 24 #[.pointer (some ⟨b, 0, none⟩), .func (.func 29) #[.agg #[.string nm, .string x.nm, .int .i64 x.k, .bool x.nl]] #[]] w0 fun y w' => ChgOut (fun i => F i ∨ i = N) b E (widT t x) (L.set k (widT t x)) gv w0 y w' := by
    have hca : CA w0 (fun i => F i ∨ i = N) b L gv P to tc := by
      have h2 : CA w (fun i => F i ∨ i = N) b L gv P to tc := h.fresh (fun i hi hh => hh.elim id (fun e => by omega))
      exact (h2.tch t00 (fun _ _ h => h.elim)).tch t0 (fun _ _ h => h.elim)
    have hF0 : ∀ i, (F i ∨ i = N) → i < w0.heap.size := fun i hi => by
      rcases hi with hi | hi
      · have := hF i hi; omega
      · omega
    have hon : ∀ t00' : Tbl, (E = 0 → t00' = widT t x) → ∀ W d Q tv, Tch (fun _ => False) w0 W → w0.heap.size + 1 ≤ W.heap.size → Q.length = P.length → CO W (w0.heap.size + 1) d L gv Q tv → Calls Tryz.prog 29 #[.agg #[.string nm, .string x.nm, .int .i64 x.k, .bool x.nl], .pointer (some ⟨d, 0, none⟩)] W fun y w' => OnOut (w0.heap.size + 1) d E (TX b w0.heap.size t00') (L.set k (widT t x)) gv y w' ∧ Tch (fun i => w0.heap.size + 1 ≤ i) W w' := fun t00' ht00 W d Q tv tW hsz hQl hCO => by
      have hmap : Q.map Prod.fst = P.map Prod.fst := by rw [hCO.eq, h.eq]
      have hkQ : k < Q.length := by omega
      have hQk : Q[k].1 = t := by
        have h2 : (Q.map Prod.fst)[k]? = (P.map Prod.fst)[k]? := by rw [hmap]
        rw [List.getElem?_map, List.getElem?_map, List.getElem?_eq_getElem hkQ, List.getElem?_eq_getElem hk] at h2
        rw [ht]
        simpa using h2
      have h88 := h8 k hk
      rw [← ht] at h88
      have q := widenOn_any (w0.heap.size + 1) d L gv Q tv nm x b w0.heap.size k hkQ W hCO (by omega) (by rw [hQk]; exact h88) (by rw [hQk]; exact hver) (by rw [posP_congr _ hmap]; exact hpos) hsz ⟨by omega, by omega⟩
      rw [hQk, ← hE] at q
      refine q.mono ?_
      rintro y w' ⟨hO, t'⟩
      refine ⟨⟨fun e => ?_, hO.2⟩, t'⟩
      rw [ht00 e]
      exact hO.1 e
    by_cases hbig : (widT t x).cols.length ≤ 8
    · exact change_widen b L gv P to tc (fun i => F i ∨ i = N) nm x E (widT t x) _ _ w0 hca hl h8 hbig hF0 (hon _ (fun _ => rfl))
    · have hE0 : E ≠ 0 := fun e => hbig (ht8 e)
      refine (change_widen b L gv P to tc (fun i => F i ∨ i = N) nm x E ⟨0, 0, ⟨#[]⟩, [], 0⟩ _ _ w0 hca hl h8 (by simp) hF0 (hon _ (fun e => absurd e hE0))).mono ?_
      rintro y w' hO
      exact ⟨fun e => absurd e hE0, hO.2⟩
  have x0 : w0.cell? ⟨M, 0, none⟩ = some (.string x.nm) := by rw [blk_cell hX]; rfl
  have x1 : w0.cell? ⟨M, 1, none⟩ = some (.int .i64 x.k) := by rw [blk_cell hX]; rfl
  have x2 : w0.cell? ⟨M, 2, none⟩ = some (.bool x.nl) := by rw [blk_cell hX]; rfl
  have Hw0 : Hid ((w.alloc (.cells #[.string x.nm, .int .i64 x.k, .bool x.nl] 43)).alloc (.cells #[.int .i64 0, .int .i64 0, .string ⟨#[]⟩, .slice none 0 0, .int .i64 0] 29) = w0) := by show _ = _; rw [hw0, hw00]
  have HM : Hid (M = w.heap.size) := hM
  have HN : Hid (N = M + 1) := hN
  have HNw : Hid (N = w00.heap.size) := hNw
  have Ht0 : Hid (Tch (fun _ => False) w00 w0) := t0
  have Ht00 : Hid (Tch (fun _ => False) w w00) := t00
  have Hs0 : Hid (w0.heap.size = N + 1) := hs0
  have HY : Hid (w0.heap[N]? = some (.cells #[.int .i64 0, .int .i64 0, .string ⟨#[]⟩, .slice none 0 0, .int .i64 0] 29 (0, 0))) := hY
  rw [← hE]
  rw [← Hw0.out] at x0 x1 x2
  rw [hM] at x0 x1 x2
  clear h hw0 hN hY t0 hs0 ht8 hE h8 hF hpos hver ht hw00 hM t00 hNw hXc hX
  go_enter Tryz.func12, Tryz.ntmps12
  go_wp2_with fail
  have hw0 := Hw0.out
  rw [hw0]
  clear hw0 x0 x1 x2
  refine q1.mono ?_
  rintro y w2 hO
  clear q1
  rw [← HM.out, ← HN.out]
  obtain ⟨i, j, s, v, kk, rfl, vo, vn, vc, rfl⟩ := chg_shape hO
  have t2 : Tch (fun i => i = b) w0 w2 := by
    by_cases e : E = 0
    · obtain ⟨_, _, _, _, _, _, _, ht⟩ := hO.1 e; exact ht
    · exact (hO.2 e).2.mono (fun _ _ h => h.elim)
  have hY2 : w2.heap[N]? = some (.cells #[.int .i64 0, .int .i64 0, .string ⟨#[]⟩, .slice none 0 0, .int .i64 0] 29 (0, 0)) := by rw [t2.block N (blk_lt HY.out) (by have := HN.out; omega)]; exact HY.out
  obtain ⟨z0, z1, z2, z3, z4⟩ : w2.cell? ⟨N, 0, none⟩ = some (.int .i64 0) ∧ w2.cell? ⟨N, 1, none⟩ = some (.int .i64 0) ∧ w2.cell? ⟨N, 2, none⟩ = some (.string ⟨#[]⟩) ∧ w2.cell? ⟨N, 3, none⟩ = some (.slice none 0 0) ∧ w2.cell? ⟨N, 4, none⟩ = some (.int .i64 0) := ⟨by rw [blk_cell hY2]; rfl, by rw [blk_cell hY2]; rfl, by rw [blk_cell hY2]; rfl, by rw [blk_cell hY2]; rfl, by rw [blk_cell hY2]; rfl⟩
  have f0 := blk_frozen hY2 0; have f1 := blk_frozen hY2 1; have f2 := blk_frozen hY2 2; have f3 := blk_frozen hY2 3; have f4 := blk_frozen hY2 4
  have hrs : Tryz.f12.results = #[.cell 6 29, .tmp 7] := by kernel_rfl
  have HFin : Hid (∀ W', W' = ((((w2.setCell ⟨N, 0, none⟩ (.int .i64 i)).setCell ⟨N, 1, none⟩ (.int .i64 j)).setCell ⟨N, 2, none⟩ (.string s)).setCell ⟨N, 3, none⟩ (.slice vo vn vc)).setCell ⟨N, 4, none⟩ (.int .i64 kk) → (∀ tmps : Array Value, tmps[6]?.getD undef = .pointer (some ⟨N, 0, none⟩) → tmps[7]?.getD undef = .int .i64 E → (results Tryz.f12 tmps).run Tryz.prog W' = .ok (.tuple #[tA i j s (.slice vo vn vc) kk, .int .i64 E]) W') ∧ ChgOut F b E (widT t x) (L.set k (widT t x)) gv w (.returned (.tuple #[tA i j s (.slice vo vn vc) kk, .int .i64 E])) W') := fun W' hW' => by
    have tE : Tch (fun i => i = N) w2 W' := by rw [hW']; exact ((((Tch.setCell (fun i => i = N) w2 ⟨N, 0, none⟩ _ rfl).setCellR ⟨N, 1, none⟩ _ rfl).setCellR ⟨N, 2, none⟩ _ rfl).setCellR ⟨N, 3, none⟩ _ rfl).setCellR ⟨N, 4, none⟩ _ rfl
    have hb : W'.heap[N]? = some (.cells #[.int .i64 i, .int .i64 j, .string s, .slice vo vn vc, .int .i64 kk] 29 (0, 0)) := by
      rw [hW', blk_set (blk_set (blk_set (blk_set (blk_set hY2 _) _) _) _) _]; rfl
    exact ⟨fun tmps h4 h5 => res_pair hrs h4 h5 (by rw [blk_cell hb]; rfl) (by rw [blk_cell hb]; rfl) (by rw [blk_cell hb]; rfl) (by rw [blk_cell hb]; rfl) (by rw [blk_cell hb]; rfl), chg_low Ht00.out (chg_end HNw.out Ht0.out Hs0.out hO tE)⟩
  clear hO hY2 t2
  go_wp2_with fail
  refine bodyPost_ret ((HFin.out _ rfl).1 _ ?_ ?_) rfl (HFin.out _ rfl).2 <;> rfl
end Go.Proofs.YtmfbhhloabkecaaGreatDoor.C
/- Drop of the code. -/
namespace Go.Proofs.YtmfbhhloabkecaaGreatDoor.C
open Go.RowKit Go

end Go.Proofs.YtmfbhhloabkecaaGreatDoor.C
/- Widen, where there is no such table. -/
namespace Go.Proofs.YtmfbhhloabkecaaGreatDoor.C
open Go.RowKit Go

set_option maxHeartbeats 4000000 in
set_option maxRecDepth 100000 in
theorem widenOn_none (base d : Nat) (L L' : List Tbl) (gv g' : Int) (P : List (Tbl × Value)) (tv : Value) (nm : ByteArray) (x : Col) (T : World → Value → Prop) (w : World) (h : CO w base d L gv P tv) (hl : P.length ≤ 16) (hbase : base ≤ w.heap.size)
    (hpos : posP (fun t => decide (t.nm = nm)) P = -1) :
    Calls Tryz.prog 29 #[wA nm x, .pointer (some ⟨d, 0, none⟩)] w fun y w' => OnOut base d 52 T L' g' y w' ∧ Tch (fun i => base ≤ i) w w' := by
  obtain ⟨to, tc, rfl⟩ := row_slice h.to.own
  obtain ⟨N, hN⟩ : ∃ N, N = w.heap.size := ⟨_, rfl⟩
  obtain ⟨w0, hw0⟩ : ∃ w0, w0 = (w.alloc (.cells #[.string nm, .string x.nm, .int .i64 x.k, .bool x.nl] 69)).alloc (.cells #[.int .i64 0, .int .i64 0, .string ⟨#[]⟩, .slice none 0 0, .int .i64 0] 29) := ⟨_, rfl⟩
  have t0 : Tch (fun _ => False) w w0 := by rw [hw0]; exact (Tch.alloc _ _ _).allocR _
  have hX : w0.heap[N]? = some (.cells #[.string nm, .string x.nm, .int .i64 x.k, .bool x.nl] 69 (0, 0)) := by
    rw [hw0, hN]; exact (Tch.alloc (fun _ => False) _ _).block _ (by simp) (fun h => h) |>.trans (alloc_new _ _)
  have hY : w0.heap[N + 1]? = some (.cells #[.int .i64 0, .int .i64 0, .string ⟨#[]⟩, .slice none 0 0, .int .i64 0] 29 (0, 0)) := by
    rw [hw0, hN, ← World.size_alloc]; exact alloc_new _ _
  have hCO0 := h.tch t0 (fun _ _ _ h => h)
  have q1 := nm3_any d to tc P _ nm w0 (by rw [blk_cell hCO0.blk]; rfl) hCO0.to.toTL hl
  rw [hpos] at q1
  have x0 : w0.cell? ⟨N, 0, none⟩ = some (.string nm) := by rw [blk_cell hX]; rfl
  have HOut : Hid (∀ W, Tch (fun i => i = N + 1) w0 W → DX W base d ∧ Tch (fun i => base ≤ i) w W) := fun W tW => by
    have hdN := blk_lt h.blk
    have tB : Tch (fun i => base ≤ i) w W := (t0.mono (fun _ _ h => h.elim)).trans' (tW.mono (fun i _ e => by have e2 : i = N + 1 := e; omega))
    have hdx := hCO0.dx (by omega)
    have tw : Tch (fun i => i = N + 1) w W := (t0.mono (fun _ _ h => h.elim)).trans' tW
    exact ⟨(h.dx (by omega)).tch tw (fun i _ hi e => by omega), tB⟩
  have HY : Hid _ := hY
  have Hw0 : Hid _ := hw0
  have HN : Hid (N = w.heap.size) := hN
  rw [hw0, hN] at x0
  clear h hN hX hY hCO0 t0 hpos hw0
  go_enter Tryz.func29, Tryz.ntmps29
  go_wp2_with fail
  have hw0 := Hw0.out
  rw [← hw0]
  rw [← HN.out]
  clear hw0 x0
  refine q1.mono ?_
  rintro y w1 ⟨rfl, t1⟩
  clear q1
  have hY1 : w1.heap[N + 1]? = some (.cells #[.int .i64 0, .int .i64 0, .string ⟨#[]⟩, .slice none 0 0, .int .i64 0] 29 (0, 0)) := by rw [t1.block (N + 1) (blk_lt HY.out) (fun h => h)]; exact HY.out
  obtain ⟨z0, z1, z2, z3, z4⟩ : w1.cell? ⟨N + 1, 0, none⟩ = some (.int .i64 0) ∧ w1.cell? ⟨N + 1, 1, none⟩ = some (.int .i64 0) ∧ w1.cell? ⟨N + 1, 2, none⟩ = some (.string ⟨#[]⟩) ∧ w1.cell? ⟨N + 1, 3, none⟩ = some (.slice none 0 0) ∧ w1.cell? ⟨N + 1, 4, none⟩ = some (.int .i64 0) := ⟨by rw [blk_cell hY1]; rfl, by rw [blk_cell hY1]; rfl, by rw [blk_cell hY1]; rfl, by rw [blk_cell hY1]; rfl, by rw [blk_cell hY1]; rfl⟩
  have f0 := blk_frozen hY1 0; have f1 := blk_frozen hY1 1; have f2 := blk_frozen hY1 2; have f3 := blk_frozen hY1 3; have f4 := blk_frozen hY1 4
  have hrs : Tryz.f29.results = #[.cell 4 29, .tmp 5] := by kernel_rfl
  have HFin : Hid (∀ W', W' = ((((w1.setCell ⟨N + 1, 0, none⟩ (.int .i64 0)).setCell ⟨N + 1, 1, none⟩ (.int .i64 0)).setCell ⟨N + 1, 2, none⟩ (.string ⟨#[]⟩)).setCell ⟨N + 1, 3, none⟩ (.slice none 0 0)).setCell ⟨N + 1, 4, none⟩ (.int .i64 0) → (∀ tmps : Array Value, tmps[4]?.getD undef = .pointer (some ⟨N + 1, 0, none⟩) → tmps[5]?.getD undef = .int .i64 52 → (results Tryz.f29 tmps).run Tryz.prog W' = .ok (.tuple #[zA, .int .i64 52]) W') ∧ (OnOut base d 52 T L' g' (.returned (.tuple #[zA, .int .i64 52])) W' ∧ Tch (fun i => base ≤ i) w W')) := fun W' hW' => by
    have tE : Tch (fun i => i = N + 1) w1 W' := by rw [hW']; exact ((((Tch.setCell (fun i => i = N + 1) w1 ⟨N + 1, 0, none⟩ _ rfl).setCellR ⟨N + 1, 1, none⟩ _ rfl).setCellR ⟨N + 1, 2, none⟩ _ rfl).setCellR ⟨N + 1, 3, none⟩ _ rfl).setCellR ⟨N + 1, 4, none⟩ _ rfl
    have hb : W'.heap[N + 1]? = some (.cells #[.int .i64 0, .int .i64 0, .string ⟨#[]⟩, .slice none 0 0, .int .i64 0] 29 (0, 0)) := by
      rw [hW', blk_set (blk_set (blk_set (blk_set (blk_set hY1 _) _) _) _) _]; rfl
    obtain ⟨o1, o2⟩ := HOut.out W' ((t1.mono (fun _ _ h => h.elim)).trans' tE)
    exact ⟨fun tmps h4 h5 => res_pair hrs h4 h5 (by rw [blk_cell hb]; rfl) (by rw [blk_cell hb]; rfl) (by rw [blk_cell hb]; rfl) (by rw [blk_cell hb]; rfl) (by rw [blk_cell hb]; rfl), ⟨fun e => by simp at e, fun _ => ⟨rfl, o1⟩⟩, o2⟩
  clear hY1 t1
  go_wp2_with fail
  refine bodyPost_ret ((HFin.out _ rfl).1 _ ?_ ?_) rfl (HFin.out _ rfl).2 <;> rfl

set_option maxHeartbeats 4000000 in
set_option maxRecDepth 100000 in
theorem widen_none (b : Nat) (L : List Tbl) (gv : Int) (P : List (Tbl × Value)) (to : Option Addr) (tc : Nat) (F : Nat → Prop) (nm : ByteArray) (x : Col) (u0 : Tbl) (L' : List Tbl) (w : World) (h : CA w F b L gv P to tc) (hl : P.length ≤ 16) (h8 : ∀ i (hi : i < P.length), P[i].1.cols.length ≤ 8) (hF : ∀ i, F i → i < w.heap.size)
    (hpos : posP (fun t => decide (t.nm = nm)) P = -1) :
    Calls Tryz.prog 12 #[.pointer (some ⟨b, 0, none⟩), .string nm, cA x.nm x.k x.nl] w fun y w' => ChgOut F b 52 u0 L' gv w y w' := by
  obtain ⟨w00, hw00⟩ : ∃ w00, w00 = w.alloc (.cells #[.string x.nm, .int .i64 x.k, .bool x.nl] 43) := ⟨_, rfl⟩
  obtain ⟨M, hM⟩ : ∃ M, M = w.heap.size := ⟨_, rfl⟩
  have t00 : Tch (fun _ => False) w w00 := by rw [hw00]; exact Tch.alloc _ _ _
  obtain ⟨N, hN⟩ : ∃ N, N = M + 1 := ⟨_, rfl⟩
  have hNw : N = w00.heap.size := by rw [hw00, World.size_alloc, hN, hM]
  obtain ⟨w0, hw0⟩ : ∃ w0, w0 = w00.alloc (.cells #[.int .i64 0, .int .i64 0, .string ⟨#[]⟩, .slice none 0 0, .int .i64 0] 29) := ⟨_, rfl⟩
  have t0 : Tch (fun _ => False) w00 w0 := by rw [hw0]; exact Tch.alloc _ _ _
  have hs0 : w0.heap.size = N + 1 := by rw [hw0, World.size_alloc, hNw]
  have hY : w0.heap[N]? = some (.cells #[.int .i64 0, .int .i64 0, .string ⟨#[]⟩, .slice none 0 0, .int .i64 0] 29 (0, 0)) := by rw [hw0, hNw]; exact alloc_new _ _
  have hXc : w00.heap[M]? = some (.cells #[.string x.nm, .int .i64 x.k, .bool x.nl] 43 (0, 0)) := by rw [hw00, hM]; exact alloc_new _ _
  have hX : w0.heap[M]? = some (.cells #[.string x.nm, .int .i64 x.k, .bool x.nl] 43 (0, 0)) := by rw [t0.block M (blk_lt hXc) (fun h => h)]; exact hXc
  have hbN : b < M := by rw [hM]; exact blk_lt h.blk
  have q1 : Calls Tryz.prog 24 #[.pointer (some ⟨b, 0, none⟩), .func (.func 29) #[.agg #[.string nm, .string x.nm, .int .i64 x.k, .bool x.nl]] #[]] w0 fun y w' => ChgOut (fun i => F i ∨ i = N) b 52 u0 L' gv w0 y w' := by
    have hca : CA w0 (fun i => F i ∨ i = N) b L gv P to tc := by
      have h2 : CA w (fun i => F i ∨ i = N) b L gv P to tc := h.fresh (fun i hi hh => hh.elim id (fun e => by omega))
      exact (h2.tch t00 (fun _ _ h => h.elim)).tch t0 (fun _ _ h => h.elim)
    have hF0 : ∀ i, (F i ∨ i = N) → i < w0.heap.size := fun i hi => by
      rcases hi with hi | hi
      · have := hF i hi; omega
      · omega
    refine (change_widen b L gv P to tc (fun i => F i ∨ i = N) nm x 52 ⟨0, 0, ⟨#[]⟩, [], 0⟩ L' gv w0 hca hl h8 (by simp) hF0 (fun W d Q tv _ hsz hQl hCO => widenOn_none (w0.heap.size + 1) d L L' gv gv Q tv nm x _ W hCO (by omega) hsz (by rw [posP_congr _ (by rw [hCO.eq, h.eq] : Q.map Prod.fst = P.map Prod.fst)]; exact hpos))).mono ?_
    rintro y w' hO
    exact ⟨fun e => by simp at e, hO.2⟩
  have x0 : w0.cell? ⟨M, 0, none⟩ = some (.string x.nm) := by rw [blk_cell hX]; rfl
  have x1 : w0.cell? ⟨M, 1, none⟩ = some (.int .i64 x.k) := by rw [blk_cell hX]; rfl
  have x2 : w0.cell? ⟨M, 2, none⟩ = some (.bool x.nl) := by rw [blk_cell hX]; rfl
  have Hw0 : Hid ((w.alloc (.cells #[.string x.nm, .int .i64 x.k, .bool x.nl] 43)).alloc (.cells #[.int .i64 0, .int .i64 0, .string ⟨#[]⟩, .slice none 0 0, .int .i64 0] 29) = w0) := by show _ = _; rw [hw0, hw00]
  have HM : Hid (M = w.heap.size) := hM
  have HN : Hid (N = M + 1) := hN
  have HNw : Hid (N = w00.heap.size) := hNw
  have Ht0 : Hid (Tch (fun _ => False) w00 w0) := t0
  have Ht00 : Hid (Tch (fun _ => False) w w00) := t00
  have Hs0 : Hid (w0.heap.size = N + 1) := hs0
  have HY : Hid (w0.heap[N]? = some (.cells #[.int .i64 0, .int .i64 0, .string ⟨#[]⟩, .slice none 0 0, .int .i64 0] 29 (0, 0))) := hY
  rw [← Hw0.out] at x0 x1 x2
  rw [hM] at x0 x1 x2
  clear h hw0 hN hY t0 hs0 h8 hF hpos hw00 hM t00 hNw hXc hX
  go_enter Tryz.func12, Tryz.ntmps12
  go_wp2_with fail
  have hw0 := Hw0.out
  rw [hw0]
  clear hw0 x0 x1 x2
  refine q1.mono ?_
  rintro y w2 hO
  clear q1
  rw [← HM.out, ← HN.out]
  obtain ⟨i, j, s, v, kk, rfl, vo, vn, vc, rfl⟩ := chg_shape hO
  have t2 : Tch (fun i => i = b) w0 w2 := by
    exact (hO.2 (by decide)).2.mono (fun _ _ h => h.elim)
  have hY2 : w2.heap[N]? = some (.cells #[.int .i64 0, .int .i64 0, .string ⟨#[]⟩, .slice none 0 0, .int .i64 0] 29 (0, 0)) := by rw [t2.block N (blk_lt HY.out) (by have := HN.out; omega)]; exact HY.out
  obtain ⟨z0, z1, z2, z3, z4⟩ : w2.cell? ⟨N, 0, none⟩ = some (.int .i64 0) ∧ w2.cell? ⟨N, 1, none⟩ = some (.int .i64 0) ∧ w2.cell? ⟨N, 2, none⟩ = some (.string ⟨#[]⟩) ∧ w2.cell? ⟨N, 3, none⟩ = some (.slice none 0 0) ∧ w2.cell? ⟨N, 4, none⟩ = some (.int .i64 0) := ⟨by rw [blk_cell hY2]; rfl, by rw [blk_cell hY2]; rfl, by rw [blk_cell hY2]; rfl, by rw [blk_cell hY2]; rfl, by rw [blk_cell hY2]; rfl⟩
  have f0 := blk_frozen hY2 0; have f1 := blk_frozen hY2 1; have f2 := blk_frozen hY2 2; have f3 := blk_frozen hY2 3; have f4 := blk_frozen hY2 4
  have hrs : Tryz.f12.results = #[.cell 6 29, .tmp 7] := by kernel_rfl
  have HFin : Hid (∀ W', W' = ((((w2.setCell ⟨N, 0, none⟩ (.int .i64 i)).setCell ⟨N, 1, none⟩ (.int .i64 j)).setCell ⟨N, 2, none⟩ (.string s)).setCell ⟨N, 3, none⟩ (.slice vo vn vc)).setCell ⟨N, 4, none⟩ (.int .i64 kk) → (∀ tmps : Array Value, tmps[6]?.getD undef = .pointer (some ⟨N, 0, none⟩) → tmps[7]?.getD undef = .int .i64 52 → (results Tryz.f12 tmps).run Tryz.prog W' = .ok (.tuple #[tA i j s (.slice vo vn vc) kk, .int .i64 52]) W') ∧ ChgOut F b 52 u0 L' gv w (.returned (.tuple #[tA i j s (.slice vo vn vc) kk, .int .i64 52])) W') := fun W' hW' => by
    have tE : Tch (fun i => i = N) w2 W' := by rw [hW']; exact ((((Tch.setCell (fun i => i = N) w2 ⟨N, 0, none⟩ _ rfl).setCellR ⟨N, 1, none⟩ _ rfl).setCellR ⟨N, 2, none⟩ _ rfl).setCellR ⟨N, 3, none⟩ _ rfl).setCellR ⟨N, 4, none⟩ _ rfl
    have hb : W'.heap[N]? = some (.cells #[.int .i64 i, .int .i64 j, .string s, .slice vo vn vc, .int .i64 kk] 29 (0, 0)) := by
      rw [hW', blk_set (blk_set (blk_set (blk_set (blk_set hY2 _) _) _) _) _]; rfl
    exact ⟨fun tmps h4 h5 => res_pair hrs h4 h5 (by rw [blk_cell hb]; rfl) (by rw [blk_cell hb]; rfl) (by rw [blk_cell hb]; rfl) (by rw [blk_cell hb]; rfl) (by rw [blk_cell hb]; rfl), chg_low Ht00.out (chg_end HNw.out Ht0.out Hs0.out hO tE)⟩
  clear hO hY2 t2
  go_wp2_with fail
  refine bodyPost_ret ((HFin.out _ rfl).1 _ ?_ ?_) rfl (HFin.out _ rfl).2 <;> rfl
end Go.Proofs.YtmfbhhloabkecaaGreatDoor.C
/- SameTable, of two that are the same. -/
namespace Go.Proofs.YtmfbhhloabkecaaGreatDoor.C
open Go.RowKit Go

end Go.Proofs.YtmfbhhloabkecaaGreatDoor.C
/- CatalogWidens: plain mathematics. -/
namespace Go.Proofs.YtmfbhhloabkecaaGreatDoor.C
open Go.RowKit Go

def tB : ByteArray := ⟨#[116]⟩
def cols3 : List Col := [⟨⟨#[105, 100]⟩, 1, false⟩, ⟨⟨#[115]⟩, 2, true⟩, ⟨⟨#[111, 107]⟩, 3, true⟩]
/-- The table, with these columns more. -/
def tabR (rest : List Col) : Tbl := ⟨1, rest.length + 1, ⟨#[116]⟩, cols3 ++ rest, 0⟩
/-- What holds of them. -/
structure WI (rest : List Col) : Prop where
  col : ∀ c ∈ rest, c.k = 1 ∧ c.nl = true
  ok : colsE (cols3 ++ rest) = 0
theorem colsGo_append : ∀ (l m a : List Col), colsGo a (l ++ m) = if colsGo a l ≠ 0 then colsGo a l else colsGo (a ++ l) m
  | [], m, a => by simp [colsGo]
  | c :: l, m, a => by
    have e1 : colsGo a (c :: l) = if colE a c ≠ 0 then colE a c else colsGo (a ++ [c]) l := rfl
    have e2 : colsGo a (c :: l ++ m) = if colE a c ≠ 0 then colE a c else colsGo (a ++ [c]) (l ++ m) := rfl
    by_cases h : colE a c = 0
    · rw [if_neg (by simp [h])] at e1 e2
      rw [e1, e2, colsGo_append l m (a ++ [c])]
      simp
    · rw [if_pos h] at e1 e2
      rw [e1, e2, if_pos h]
theorem WI.len {rest : List Col} (h : WI rest) : rest.length ≤ 5 := by
  have h1 := h.ok
  unfold colsE at h1
  split at h1
  · simp at h1
  · rename_i h2
    simp [cols3] at h2
    omega
theorem WI.nil : WI [] := ⟨fun c h => by simp at h, by decide⟩
theorem WI.right {rest : List Col} (h : WI rest) : rightE (tabR rest) = 0 := by
  have h5 := h.len
  have e1 : numOk (tabR rest).ver = true := by
    show numOk ((rest.length : Int) + 1) = true
    simp [numOk]; omega
  have e2 : colsE (tabR rest).cols = 0 := h.ok
  have e3 : keyOk (tabR rest).cols (tabR rest).key = true := by
    show keyOk (cols3 ++ rest) 0 = true
    unfold keyOk cols3
    simp
  have e0 : numOk (tabR rest).id = true := rfl
  have e4 : nmOk (tabR rest).nm = true := by show nmOk ⟨#[116]⟩ = true; decide
  unfold rightE
  rw [if_neg (by rw [e0, e1]; simp), if_neg (by rw [e4]; simp), if_neg (by rw [e2]; simp), if_neg (by rw [e3]; simp)]
theorem WI.snoc {rest : List Col} (h : WI rest) (n : ByteArray) (hn : nmOk n = true) : (widE (tabR rest) ⟨n, 1, true⟩ = 0 → WI (rest ++ [⟨n, 1, true⟩])) ∧ (widE (tabR rest) ⟨n, 1, true⟩ = 0 ∨ widE (tabR rest) ⟨n, 1, true⟩ = 54 ∨ widE (tabR rest) ⟨n, 1, true⟩ = 55) := by
  have h5 := h.len
  have key : colsE ((cols3 ++ rest) ++ [⟨n, 1, true⟩]) = 0 ∨ colsE ((cols3 ++ rest) ++ [⟨n, 1, true⟩]) = 54 ∨ colsE ((cols3 ++ rest) ++ [⟨n, 1, true⟩]) = 55 := by
    unfold colsE
    split
    · exact Or.inr (Or.inr rfl)
    · have h1 := h.ok
      unfold colsE at h1
      split at h1
      · simp at h1
      · rw [colsGo_append, h1, if_neg (by simp), List.nil_append]
        have e5 : colsGo (cols3 ++ rest) [⟨n, 1, true⟩] = if colE (cols3 ++ rest) ⟨n, 1, true⟩ ≠ 0 then colE (cols3 ++ rest) ⟨n, 1, true⟩ else 0 := rfl
        have e6 : colE (cols3 ++ rest) ⟨n, 1, true⟩ = if (cols3 ++ rest).any (fun a => decide (a.nm = n)) then 54 else 0 := by
          unfold colE
          rw [if_neg (by rw [hn]; simp), if_neg (c := kdOk 1 = false) (by decide)]
        rw [e5, e6]
        cases (cols3 ++ rest).any (fun a => decide (a.nm = n))
        · exact Or.inl (by simp)
        · exact Or.inr (Or.inl (by simp))
  have hw : widE (tabR rest) ⟨n, 1, true⟩ = colsE ((cols3 ++ rest) ++ [⟨n, 1, true⟩]) := by
    unfold widE
    have e2 : (tabR rest).cols = cols3 ++ rest := rfl
    rw [e2]
    by_cases h0 : colsE ((cols3 ++ rest) ++ [⟨n, 1, true⟩]) = 0
    · rw [h0, if_neg (by simp), if_neg]
      intro hh
      rcases hh with hh | hh
      · simp at hh
      · have e3 : (tabR rest).ver = (rest.length : Int) + 1 := rfl
        rw [e3] at hh; omega
    · rw [if_pos h0]
  rw [hw]
  refine ⟨fun e => ⟨fun c hc => ?_, by rw [← List.append_assoc]; exact e⟩, key⟩
  rw [List.mem_append, List.mem_singleton] at hc
  rcases hc with hc | rfl
  · exact h.col c hc
  · exact ⟨rfl, rfl⟩
theorem widT_tabR (rest : List Col) (x : Col) : widT (tabR rest) x = tabR (rest ++ [x]) := by
  unfold widT tabR
  simp
theorem fitsAll_append : ∀ (l m : List Col) (v u : List Val), l.length = v.length → fitsAll (l ++ m) (v ++ u) = (fitsAll l v && fitsAll m u)
  | [], m, [], u, _ => by simp [fitsAll]
  | [], _, _ :: _, _, h => by simp at h
  | _ :: _, _, [], _, h => by simp at h
  | c :: l, m, v :: vs, u, h => by
    simp only [List.cons_append, fitsAll]
    rw [fitsAll_append l m vs u (by simpa using h), Bool.and_assoc]
theorem fitsAll_null : ∀ (rest : List Col), (∀ c ∈ rest, c.k = 1 ∧ c.nl = true) → fitsAll rest (List.replicate rest.length nullV) = true
  | [], _ => rfl
  | c :: l, h => by
    simp only [List.length_cons, List.replicate_succ, fitsAll, Bool.and_eq_true, decide_eq_true_eq]
    refine ⟨?_, fitsAll_null l (fun c hc => h c (by simp [hc]))⟩
    have h1 := (h c (by simp)).2
    unfold fitE
    rw [show wrg nullV = 0 by decide]
    simp [h1, nullV]
theorem fit_more {rest : List Col} (h : WI rest) (r : List Val) : (r.length ≤ 3 → ((fitR (tabR rest) r).2 = 0 ↔ (fitR (tabR []) r).2 = 0)) ∧ ((fitR (tabR []) r).2 = 0 → r.length ≤ 3 ∧ (fitR (tabR []) r).1.length = 3 ∧ (fitR (tabR rest) r).2 = 0 ∧ (fitR (tabR rest) r).1 = (fitR (tabR []) r).1 ++ List.replicate rest.length nullV) := by
  have hr := h.right
  have hr0 := WI.nil.right
  have hc : (tabR rest).cols = cols3 ++ rest := rfl
  have hc0 : (tabR []).cols = cols3 := by simp [tabR]
  have h3 : cols3.length = 3 := rfl
  have hfull : r.length ≤ 3 → fullR (tabR rest) r = fullR (tabR []) r ++ List.replicate rest.length nullV := fun hl => by
    unfold fullR
    rw [hc, hc0, List.length_append, h3, List.append_assoc, List.replicate_append_replicate]
    congr 2
    omega
  have hl0 : r.length ≤ 3 → (fullR (tabR []) r).length = 3 := fun hl => by rw [fullR_len (by rw [hc0, h3]; exact hl), hc0]; rfl
  have hfa : r.length ≤ 3 → fitsAll (tabR rest).cols (fullR (tabR rest) r) = fitsAll (tabR []).cols (fullR (tabR []) r) := fun hl => by
    rw [hfull hl, hc, hc0, fitsAll_append _ _ _ _ (by rw [hl0 hl]; rfl), fitsAll_null rest h.col, Bool.and_true]
  have e1 : ∀ hl : r.length ≤ 3, fitR (tabR rest) r = if fitsAll (tabR []).cols (fullR (tabR []) r) = false then ([], 57) else (fullR (tabR []) r ++ List.replicate rest.length nullV, 0) := fun hl => by
    unfold fitR
    rw [if_neg (by simp [hr]), if_neg (by rw [hc, List.length_append, h3]; omega), hfa hl, hfull hl]
  have e0 : ∀ hl : r.length ≤ 3, fitR (tabR []) r = if fitsAll (tabR []).cols (fullR (tabR []) r) = false then ([], 57) else (fullR (tabR []) r, 0) := fun hl => by
    unfold fitR
    rw [if_neg (by simp [hr0]), if_neg (by rw [hc0, h3]; omega)]
  refine ⟨fun hl => ?_, fun e => ?_⟩
  · rw [e1 hl, e0 hl]
    split <;> simp
  · have hl : r.length ≤ 3 := by
      by_cases hl : r.length ≤ 3
      · exact hl
      · unfold fitR at e
        rw [if_neg (by simp [hr0]), if_pos (by rw [hc0, h3]; omega)] at e
        simp at e
    rw [e0 hl] at e
    split at e
    · simp at e
    · rename_i hf
      rw [e1 hl, e0 hl, if_neg hf, if_neg hf]
      exact ⟨hl, hl0 hl, rfl, rfl⟩
/-- One of few names. -/
def nmS (k : Nat) : ByteArray := ⟨#[UInt8.ofNat (97 + k)]⟩
theorem nmS_ok {k : Nat} (h : k < 6) : nmOk (nmS k) = true := by
  rcases (by omega : k = 0 ∨ k = 1 ∨ k = 2 ∨ k = 3 ∨ k = 4 ∨ k = 5) with rfl | rfl | rfl | rfl | rfl | rfl <;> decide
theorem creE0 : creE [] 0 ⟨#[116]⟩ cols3 0 = 0 := by decide
theorem creT0 : creT 0 ⟨#[116]⟩ cols3 0 = tabR [] := by simp [creT, tabR]
theorem fit5 : fitR (tabR []) [⟨1, 5, ⟨#[]⟩⟩] = ([⟨1, 5, ⟨#[]⟩⟩, nullV, nullV], 0) := by rfl
end Go.Proofs.YtmfbhhloabkecaaGreatDoor.C
/- CatalogWidens: the law. -/
namespace Go.Proofs.YtmfbhhloabkecaaGreatDoor.C
open Go.RowKit Go

theorem new_any (w : World) : Calls Tryz.prog 7 #[] w fun x w' => x = .returned (.pointer (some ⟨w.heap.size, 0, none⟩)) ∧ w' = w.alloc (.cells #[.slice none 0 0, .int .i64 0] 60) := by
  go_enter Tryz.func7, Tryz.ntmps7
  go_wp2
  go_ret
  exact ⟨rfl, rfl⟩
/-- A list of numbers that is handed in. -/
def IS (l : List Int) : List Value := l.map (fun n => .int .i64 n)
theorem isne {l : List Int} (h : 0 < l.length) : IS l ≠ [] := by
  intro e
  have h2 : (IS l).length = 0 := by rw [e]; rfl
  simp only [IS, List.length_map] at h2
  omega

end Go.Proofs.YtmfbhhloabkecaaGreatDoor.C
