import Derived.Test.YtmfbhhloabkecaaGreatDoorCChgW
set_option maxHeartbeats 4000000
set_option maxRecDepth 100000
namespace Go.Proofs.YtmfbhhloabkecaaGreatDoor.C
open Go.RowKit Go
theorem posP_congr (f : Tbl → Bool) : ∀ {P Q : List (Tbl × Value)}, P.map Prod.fst = Q.map Prod.fst → posP f P = posP f Q
  | [], [], _ => rfl
  | [], _ :: _, h => by simp at h
  | _ :: _, [], h => by simp at h
  | p :: P, q :: Q, h => by
    simp only [List.map_cons, List.cons.injEq] at h
    unfold posP
    rw [h.1, posP_congr f h.2]
theorem chg_low {F : Nat → Prop} {b : Nat} {E : Int} {t0 : Tbl} {L' : List Tbl} {g' : Int} {w w0 W' : World} {x : Ending} (hw : Tch (fun _ => False) w w0) (h : ChgOut F b E t0 L' g' w0 x W') : ChgOut F b E t0 L' g' w x W' := by
  refine ⟨fun e => ?_, fun e => ?_⟩
  · obtain ⟨v, P, to, tc, hx, hv, hca, ht⟩ := h.1 e
    exact ⟨v, P, to, tc, hx, own_low hv hw.size, hca, (hw.mono (fun _ _ h => h.elim)).trans' ht⟩
  · obtain ⟨hx, ht⟩ := h.2 e
    exact ⟨hx, hw.trans' ht⟩
theorem widen_any (b : Nat) (L : List Tbl) (gv : Int) (P : List (Tbl × Value)) (to : Option Addr) (tc : Nat) (F : Nat → Prop) (nm : ByteArray) (x : Col) (k : Nat) (hk : k < P.length) (w : World) (h : CA w F b L gv P to tc) (hl : P.length ≤ 16) (h8 : ∀ i (hi : i < P.length), P[i].1.cols.length ≤ 8) (hF : ∀ i, F i → i < w.heap.size)
    (hpos : posP (fun t => decide (t.nm = nm)) P = k) (hver : 0 ≤ P[k].1.ver ∧ P[k].1.ver ≤ 2147483647) :
    Calls Tryz.prog 12 #[.pointer (some ⟨b, 0, none⟩), .string nm, cA x.nm x.k x.nl] w fun y w' => ChgOut F b (widE P[k].1 x) (widT P[k].1 x) (L.set k (widT P[k].1 x)) gv w y w' := by
  obtain ⟨w00, hw00⟩ : ∃ w00, w00 = w.alloc (.cells #[.string x.nm, .int .i64 x.k, .bool x.nl] 43) := ⟨_, rfl⟩
  obtain ⟨M, hM⟩ : ∃ M, M = w.heap.size := ⟨_, rfl⟩
  have t00 : Tch (fun _ => False) w w00 := by rw [hw00]; exact Tch.alloc _ _ _
  obtain ⟨N, hN⟩ : ∃ N, N = M + 1 := ⟨_, rfl⟩
  have hNw : N = w00.heap.size := by rw [hw00, World.size_alloc, hN, hM]
  obtain ⟨w0, hw0⟩ : ∃ w0, w0 = w00.alloc (.cells #[.int .i64 0, .int .i64 0, .string ⟨#[]⟩, .slice none 0 0, .int .i64 0] 29) := ⟨_, rfl⟩
  have t0 : Tch (fun _ => False) w00 w0 := by rw [hw0]; exact Tch.alloc _ _ _
  have hs0 : w0.heap.size = N + 1 := by rw [hw0, World.size_alloc, hNw]
  have hY : w0.heap[N]? = some (.cells #[.int .i64 0, .int .i64 0, .string ⟨#[]⟩, .slice none 0 0, .int .i64 0] 29 (0, 0)) := by rw [hw0, hNw]; exact alloc_new _ _
  have hXc : w00.heap[M]? = some (.cells #[.string x.nm, .int .i64 x.k, .bool x.nl] 43 (0, 0)) := by rw [hw00, hM]; exact alloc_new _ _
  have hX : w0.heap[M]? = some (.cells #[.string x.nm, .int .i64 x.k, .bool x.nl] 43 (0, 0)) := by rw [t0.block M (blk_lt hXc) (fun h => h)]; exact hXc
  have hbN : b < M := by rw [hM]; exact blk_lt h.blk
  obtain ⟨t, ht⟩ : ∃ t, t = P[k].1 := ⟨_, rfl⟩
  rw [← ht] at hver ⊢
  obtain ⟨E, hE⟩ : ∃ E, E = widE t x := ⟨_, rfl⟩
  have ht8 : E = 0 → (widT t x).cols.length ≤ 8 := fun e => by
    rw [hE] at e
    unfold widE at e
    split at e
    · rename_i h2; exact absurd e h2
    · rename_i h2
      have h3 : colsE (t.cols ++ [x]) = 0 := Classical.byContradiction h2
      unfold colsE at h3
      split at h3
      · simp at h3
      · rename_i h4
        show (t.cols ++ [x]).length ≤ 8
        omega
  have q1 : Calls Tryz.prog 24 #[.pointer (some ⟨b, 0, none⟩), .func (.func 29) #[.agg #[.string nm, .string x.nm, .int .i64 x.k, .bool x.nl]] #[]] w0 fun y w' => ChgOut (fun i => F i ∨ i = N) b E (widT t x) (L.set k (widT t x)) gv w0 y w' := by
    have hca : CA w0 (fun i => F i ∨ i = N) b L gv P to tc := by
      have h2 : CA w (fun i => F i ∨ i = N) b L gv P to tc := h.fresh (fun i hi hh => hh.elim id (fun e => by omega))
      exact (h2.tch t00 (fun _ _ h => h.elim)).tch t0 (fun _ _ h => h.elim)
    have hF0 : ∀ i, (F i ∨ i = N) → i < w0.heap.size := fun i hi => by
      rcases hi with hi | hi
      · have := hF i hi; omega
      · omega
    have hon : ∀ t00' : Tbl, (E = 0 → t00' = widT t x) → ∀ W d Q tv, Tch (fun _ => False) w0 W → w0.heap.size + 1 ≤ W.heap.size → Q.length = P.length → CO W (w0.heap.size + 1) d L gv Q tv → Calls Tryz.prog 29 #[.agg #[.string nm, .string x.nm, .int .i64 x.k, .bool x.nl], .pointer (some ⟨d, 0, none⟩)] W fun y w' => OnOut (w0.heap.size + 1) d E (TX b w0.heap.size t00') (L.set k (widT t x)) gv y w' ∧ Tch (fun i => w0.heap.size + 1 ≤ i) W w' := fun t00' ht00 W d Q tv tW hsz hQl hCO => by
      have hmap : Q.map Prod.fst = P.map Prod.fst := by rw [hCO.eq, h.eq]
      have hkQ : k < Q.length := by omega
      have hQk : Q[k].1 = t := by
        have h2 : (Q.map Prod.fst)[k]? = (P.map Prod.fst)[k]? := by rw [hmap]
        rw [List.getElem?_map, List.getElem?_map, List.getElem?_eq_getElem hkQ, List.getElem?_eq_getElem hk] at h2
        rw [ht]
        simpa using h2
      have h88 := h8 k hk
      rw [← ht] at h88
      have q := widenOn_any (w0.heap.size + 1) d L gv Q tv nm x b w0.heap.size k hkQ W hCO (by omega) (by rw [hQk]; exact h88) (by rw [hQk]; exact hver) (by rw [posP_congr _ hmap]; exact hpos) hsz ⟨by omega, by omega⟩
      rw [hQk, ← hE] at q
      refine q.mono ?_
      rintro y w' ⟨hO, t'⟩
      refine ⟨⟨fun e => ?_, hO.2⟩, t'⟩
      rw [ht00 e]
      exact hO.1 e
    by_cases hbig : (widT t x).cols.length ≤ 8
    · exact change_widen b L gv P to tc (fun i => F i ∨ i = N) nm x E (widT t x) _ _ w0 hca hl h8 hbig hF0 (hon _ (fun _ => rfl))
    · have hE0 : E ≠ 0 := fun e => hbig (ht8 e)
      refine (change_widen b L gv P to tc (fun i => F i ∨ i = N) nm x E ⟨0, 0, ⟨#[]⟩, [], 0⟩ _ _ w0 hca hl h8 (by simp) hF0 (hon _ (fun e => absurd e hE0))).mono ?_
      rintro y w' hO
      exact ⟨fun e => absurd e hE0, hO.2⟩
  have x0 : w0.cell? ⟨M, 0, none⟩ = some (.string x.nm) := by rw [blk_cell hX]; rfl
  have x1 : w0.cell? ⟨M, 1, none⟩ = some (.int .i64 x.k) := by rw [blk_cell hX]; rfl
  have x2 : w0.cell? ⟨M, 2, none⟩ = some (.bool x.nl) := by rw [blk_cell hX]; rfl
  have Hw0 : Hid ((w.alloc (.cells #[.string x.nm, .int .i64 x.k, .bool x.nl] 43)).alloc (.cells #[.int .i64 0, .int .i64 0, .string ⟨#[]⟩, .slice none 0 0, .int .i64 0] 29) = w0) := by show _ = _; rw [hw0, hw00]
  have HM : Hid (M = w.heap.size) := hM
  have HN : Hid (N = M + 1) := hN
  have HNw : Hid (N = w00.heap.size) := hNw
  have Ht0 : Hid (Tch (fun _ => False) w00 w0) := t0
  have Ht00 : Hid (Tch (fun _ => False) w w00) := t00
  have Hs0 : Hid (w0.heap.size = N + 1) := hs0
  have HY : Hid (w0.heap[N]? = some (.cells #[.int .i64 0, .int .i64 0, .string ⟨#[]⟩, .slice none 0 0, .int .i64 0] 29 (0, 0))) := hY
  rw [← hE]
  rw [← Hw0.out] at x0 x1 x2
  rw [hM] at x0 x1 x2
  clear h hw0 hN hY t0 hs0 ht8 hE h8 hF hpos hver ht hw00 hM t00 hNw hXc hX
  go_enter Tryz.func12, Tryz.ntmps12
  go_wp2_with fail
  have hw0 := Hw0.out
  rw [hw0]
  clear hw0 x0 x1 x2
  refine q1.mono ?_
  rintro y w2 hO
  clear q1
  rw [← HM.out, ← HN.out]
  obtain ⟨i, j, s, v, kk, rfl, vo, vn, vc, rfl⟩ := chg_shape hO
  have t2 : Tch (fun i => i = b) w0 w2 := by
    by_cases e : E = 0
    · obtain ⟨_, _, _, _, _, _, _, ht⟩ := hO.1 e; exact ht
    · exact (hO.2 e).2.mono (fun _ _ h => h.elim)
  have hY2 : w2.heap[N]? = some (.cells #[.int .i64 0, .int .i64 0, .string ⟨#[]⟩, .slice none 0 0, .int .i64 0] 29 (0, 0)) := by rw [t2.block N (blk_lt HY.out) (by have := HN.out; omega)]; exact HY.out
  obtain ⟨z0, z1, z2, z3, z4⟩ : w2.cell? ⟨N, 0, none⟩ = some (.int .i64 0) ∧ w2.cell? ⟨N, 1, none⟩ = some (.int .i64 0) ∧ w2.cell? ⟨N, 2, none⟩ = some (.string ⟨#[]⟩) ∧ w2.cell? ⟨N, 3, none⟩ = some (.slice none 0 0) ∧ w2.cell? ⟨N, 4, none⟩ = some (.int .i64 0) := ⟨by rw [blk_cell hY2]; rfl, by rw [blk_cell hY2]; rfl, by rw [blk_cell hY2]; rfl, by rw [blk_cell hY2]; rfl, by rw [blk_cell hY2]; rfl⟩
  have f0 := blk_frozen hY2 0; have f1 := blk_frozen hY2 1; have f2 := blk_frozen hY2 2; have f3 := blk_frozen hY2 3; have f4 := blk_frozen hY2 4
  have hrs : Tryz.f12.results = #[.cell 6 29, .tmp 7] := by kernel_rfl
  have HFin : Hid (∀ W', W' = ((((w2.setCell ⟨N, 0, none⟩ (.int .i64 i)).setCell ⟨N, 1, none⟩ (.int .i64 j)).setCell ⟨N, 2, none⟩ (.string s)).setCell ⟨N, 3, none⟩ (.slice vo vn vc)).setCell ⟨N, 4, none⟩ (.int .i64 kk) → (∀ tmps : Array Value, tmps[6]?.getD undef = .pointer (some ⟨N, 0, none⟩) → tmps[7]?.getD undef = .int .i64 E → (results Tryz.f12 tmps).run Tryz.prog W' = .ok (.tuple #[tA i j s (.slice vo vn vc) kk, .int .i64 E]) W') ∧ ChgOut F b E (widT t x) (L.set k (widT t x)) gv w (.returned (.tuple #[tA i j s (.slice vo vn vc) kk, .int .i64 E])) W') := fun W' hW' => by
    have tE : Tch (fun i => i = N) w2 W' := by rw [hW']; exact ((((Tch.setCell (fun i => i = N) w2 ⟨N, 0, none⟩ _ rfl).setCellR ⟨N, 1, none⟩ _ rfl).setCellR ⟨N, 2, none⟩ _ rfl).setCellR ⟨N, 3, none⟩ _ rfl).setCellR ⟨N, 4, none⟩ _ rfl
    have hb : W'.heap[N]? = some (.cells #[.int .i64 i, .int .i64 j, .string s, .slice vo vn vc, .int .i64 kk] 29 (0, 0)) := by
      rw [hW', blk_set (blk_set (blk_set (blk_set (blk_set hY2 _) _) _) _) _]; rfl
    exact ⟨fun tmps h4 h5 => res_pair hrs h4 h5 (by rw [blk_cell hb]; rfl) (by rw [blk_cell hb]; rfl) (by rw [blk_cell hb]; rfl) (by rw [blk_cell hb]; rfl) (by rw [blk_cell hb]; rfl), chg_low Ht00.out (chg_end HNw.out Ht0.out Hs0.out hO tE)⟩
  clear hO hY2 t2
  go_wp2_with fail
  refine bodyPost_ret ((HFin.out _ rfl).1 _ ?_ ?_) rfl (HFin.out _ rfl).2 <;> rfl
end Go.Proofs.YtmfbhhloabkecaaGreatDoor.C
namespace Go.Proofs.YtmfbhhloabkecaaGreatDoor.C
open Go.RowKit Go
end Go.Proofs.YtmfbhhloabkecaaGreatDoor.C
namespace Go.Proofs.YtmfbhhloabkecaaGreatDoor.C
open Go.RowKit Go
end Go.Proofs.YtmfbhhloabkecaaGreatDoor.C
namespace Go.Proofs.YtmfbhhloabkecaaGreatDoor.C
open Go.RowKit Go
end Go.Proofs.YtmfbhhloabkecaaGreatDoor.C
namespace Go.Proofs.YtmfbhhloabkecaaGreatDoor.C
open Go.RowKit Go
def cols3 : List Col := [⟨⟨#[105, 100]⟩, 1, false⟩, ⟨⟨#[115]⟩, 2, true⟩, ⟨⟨#[111, 107]⟩, 3, true⟩]
structure WI (rest : List Col) : Prop where
  col : ∀ c ∈ rest, c.k = 1 ∧ c.nl = true
  ok : colsE (cols3 ++ rest) = 0
end Go.Proofs.YtmfbhhloabkecaaGreatDoor.C
namespace Go.Proofs.YtmfbhhloabkecaaGreatDoor.C
open Go.RowKit Go
theorem new_any (w : World) : Calls Tryz.prog 7 #[] w fun x w' => x = .returned (.pointer (some ⟨w.heap.size, 0, none⟩)) ∧ w' = w.alloc (.cells #[.slice none 0 0, .int .i64 0] 60) := by
  go_enter Tryz.func7, Tryz.ntmps7
  go_wp2
  go_ret
  exact ⟨rfl, rfl⟩
end Go.Proofs.YtmfbhhloabkecaaGreatDoor.C
