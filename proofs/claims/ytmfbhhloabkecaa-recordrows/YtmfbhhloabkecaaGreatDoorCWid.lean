import Derived.Test.YtmfbhhloabkecaaGreatDoorCChg
import Derived.Deep.RegionLaw
import Derived.Test.YtmfbhhloabkecaaGreatDoorRW5
set_option maxHeartbeats 4000000
set_option maxRecDepth 100000
namespace Go.Proofs.YtmfbhhloabkecaaGreatDoor.C
open Go.RowKit Go
end Go.Proofs.YtmfbhhloabkecaaGreatDoor.C
namespace Go.Proofs.YtmfbhhloabkecaaGreatDoor.C
open Go.RowKit Go
abbrev wA (nm : ByteArray) (x : Col) : Value := .agg #[.string nm, .string x.nm, .int .i64 x.k, .bool x.nl]
theorem widenOn_any (base d : Nat) (L : List Tbl) (gv : Int) (P : List (Tbl × Value)) (tv : Value) (nm : ByteArray) (x : Col) (b RB : Nat) (k : Nat) (hk : k < P.length) (w : World) (h : CO w base d L gv P tv) (hl : P.length ≤ 16) (h8 : P[k].1.cols.length ≤ 8) (hver : 0 ≤ P[k].1.ver ∧ P[k].1.ver ≤ 2147483647)
    (hpos : posP (fun t => decide (t.nm = nm)) P = k) (hbase : base ≤ w.heap.size) (hbb : b < base ∧ RB < base) :
    Calls Tryz.prog 29 #[wA nm x, .pointer (some ⟨d, 0, none⟩)] w fun y w' => OnOut base d (widE P[k].1 x) (TX b RB (widT P[k].1 x)) (L.set k (widT P[k].1 x)) gv y w' ∧ Tch (fun i => base ≤ i) w w' := by
  obtain ⟨i0, hi0, hz0, hz1, hz2⟩ := info_parts info_col
  obtain ⟨T, tc, rfl⟩ : ∃ T tc, tv = .slice (some ⟨T, 0, none⟩) P.length tc := by
    obtain ⟨to, tc, htv⟩ := row_slice h.to.own
    have ho := h.to.own
    rw [htv] at ho
    obtain ⟨T, e, _⟩ := own_at ho (by omega)
    exact ⟨T, tc, by rw [htv, e]⟩
  obtain ⟨t, ht⟩ : ∃ t, t = P[k].1 := ⟨_, rfl⟩
  obtain ⟨v, hv⟩ : ∃ v, v = P[k].2 := ⟨_, rfl⟩
  have hPk : P[k] = (t, v) := by rw [ht, hv]
  have hcol := h.to.col k hk
  rw [← ht, ← hv] at hcol
  obtain ⟨co, cc, rfl⟩ := row_slice hcol
  rw [← ht] at h8 hver ⊢
  obtain ⟨N, hN⟩ : ∃ N, N = w.heap.size := ⟨_, rfl⟩
  obtain ⟨w0, hw0⟩ : ∃ w0, w0 = (w.alloc (.cells #[.string nm, .string x.nm, .int .i64 x.k, .bool x.nl] 69)).alloc (.cells #[.int .i64 0, .int .i64 0, .string ⟨#[]⟩, .slice none 0 0, .int .i64 0] 29) := ⟨_, rfl⟩
  have t0 : Tch (fun _ => False) w w0 := by rw [hw0]; exact (Tch.alloc _ _ _).allocR _
  have hs0 : w0.heap.size = N + 2 := by rw [hw0, World.size_alloc, World.size_alloc, hN]
  have hX : w0.heap[N]? = some (.cells #[.string nm, .string x.nm, .int .i64 x.k, .bool x.nl] 69 (0, 0)) := by
    rw [hw0, hN]; exact (Tch.alloc (fun _ => False) _ _).block _ (by simp) (fun h => h) |>.trans (alloc_new _ _)
  have hY : w0.heap[N + 1]? = some (.cells #[.int .i64 0, .int .i64 0, .string ⟨#[]⟩, .slice none 0 0, .int .i64 0] 29 (0, 0)) := by
    rw [hw0, hN, ← World.size_alloc]; exact alloc_new _ _
  have hdN : d < N := by rw [hN]; exact blk_lt h.blk
  have hTN : T < N := by rw [hN]; exact (h.to.own.lt T rfl).2
  have hTd : T ≠ d := fun e => h.nb.1 (by rw [← e]; rfl)
  have hCO0 : CO w0 base d L gv P (.slice (some ⟨T, 0, none⟩) P.length tc) := h.tch t0 (fun _ _ _ h => h)
  have HQ : Hid (∀ W, Tch (fun i => (Value.slice co t.cols.length cc).ownBlock = some i) w0 W → W.heap[N]? = some (.cells #[.string nm, .string x.nm, .int .i64 x.k, .bool x.nl] 69 (0, 0)) ∧ W.heap[N + 1]? = some (.cells #[.int .i64 0, .int .i64 0, .string ⟨#[]⟩, .slice none 0 0, .int .i64 0] 29 (0, 0)) ∧ W.heap[d]? = some (.cells #[.slice (some ⟨T, 0, none⟩) P.length tc, .int .i64 gv] 60 (0, 0)) ∧ W.ownsRow base 29 5 (.slice (some ⟨T, 0, none⟩) P.length tc) P.length (tcl P)) := fun W tW => by
    have hlt : ∀ g, (Value.slice co t.cols.length cc).ownBlock = some g → g < N ∧ g ≠ d ∧ g ≠ T := fun g e => ⟨by rw [hN]; exact (hcol.lt g e).2, fun e2 => h.nb.2 k hk (by rw [hPk, ← e2]; exact e), fun e2 => h.to.sep k hk g (by rw [hPk]; exact e) (by rw [e2]; rfl)⟩
    refine ⟨by rw [tW.block N (blk_lt hX) (fun e => by have := (hlt N e).1; omega)]; exact hX, by rw [tW.block (N + 1) (blk_lt hY) (fun e => by have := (hlt _ e).1; omega)]; exact hY, by rw [tW.block d (blk_lt hCO0.blk) (fun e => (hlt d e).2.1 rfl)]; exact hCO0.blk, own_tch hCO0.to.own tW (fun g e e2 => (hlt g e2).2.2 ?_)⟩
    have : T = g := by simpa [Value.ownBlock] using e
    exact this.symm
  have HT5 : Hid (∀ W, Tch (fun i => (Value.slice co t.cols.length cc).ownBlock = some i) w0 W → (W.cell? ⟨T, k * 5, none⟩ = some (.int .i64 t.id) ∧ W.cell? ⟨T, k * 5 + 1, none⟩ = some (.int .i64 t.ver) ∧ W.cell? ⟨T, k * 5 + 2, none⟩ = some (.string t.nm) ∧ W.cell? ⟨T, k * 5 + 3, none⟩ = some (.slice co t.cols.length cc) ∧ W.cell? ⟨T, k * 5 + 4, none⟩ = some (.int .i64 t.key)) ∧ (∀ j, W.frozen? ⟨T, j, none⟩ = false) ∧ (W.cell? ⟨N, 0, none⟩ = some (.string nm) ∧ W.cell? ⟨N, 1, none⟩ = some (.string x.nm) ∧ W.cell? ⟨N, 2, none⟩ = some (.int .i64 x.k) ∧ W.cell? ⟨N, 3, none⟩ = some (.bool x.nl)) ∧ W.cell? ⟨d, 0, none⟩ = some (.slice (some ⟨T, 0, none⟩) P.length tc)) := fun W tW => by
    obtain ⟨a1, a2, a3, a4⟩ := HQ.out W tW
    have key : ∀ j u, j < 5 → (tcs P[k])[j]? = some u → W.cell? ⟨T, k * 5 + j, none⟩ = some u := fun j u hj hu => by
      obtain ⟨g, e, _, ha⟩ := own_at a4 (by omega)
      injection e with e; injection e with e; subst e
      have := ha (k * 5 + j) u (by rw [tcl_get P k j hk hj]; exact hu)
      rwa [Nat.zero_add] at this
    rw [hPk] at key
    refine ⟨⟨key 0 _ (by omega) rfl, key 1 _ (by omega) rfl, key 2 _ (by omega) rfl, key 3 _ (by omega) rfl, key 4 _ (by omega) rfl⟩, fun j => ?_, ⟨by rw [blk_cell a1]; rfl, by rw [blk_cell a1]; rfl, by rw [blk_cell a1]; rfl, by rw [blk_cell a1]; rfl⟩, by rw [blk_cell a3]; rfl⟩
    rcases a4.2 with ⟨h1, _⟩ | ⟨g, cap, cur, hv, _, hg, _⟩
    · injection h1 with h1; cases h1
    · injection hv with e1; injection e1 with e1; injection e1 with e1; subst e1; exact blk_frozen hg j
  have q1 := nm3_any d (some ⟨T, 0, none⟩) tc P _ nm w0 (HT5.out w0 (Tch.refl _ _)).2.2.2 (hCO0.to.toTL) hl
  rw [hpos] at q1
  have HcN : Hid (∀ i (hi : i < P.length) g, P[i].2.ownBlock = some g → g < N) := fun i hi g e => by rw [hN]; exact ((h.to.col i hi).lt g e).2
  have HgN : Hid (∀ g, (Value.slice co t.cols.length cc).ownBlock = some g → g < N) := fun g e => by rw [hN]; exact (hcol.lt g e).2
  have H0 : Hid (CO w0 base d L gv P (.slice (some ⟨T, 0, none⟩) P.length tc)) := hCO0
  have Hcol : Hid (w0.ownsRow base 43 3 (.slice co t.cols.length cc) t.cols.length (ccl t.cols)) := own_tch hcol t0 (fun _ _ h => h)
  have HPk : Hid (P[k] = (t, .slice co t.cols.length cc)) := hPk
  have Hw0 : Hid _ := hw0
  have HN : Hid (N = w.heap.size) := hN
  have Ht0 : Hid (Tch (fun _ => False) w w0) := t0
  have Hs0 : Hid (w0.heap.size = N + 2) := hs0
  have hkI : (k : Int) < P.length := by omega
  clear h hw0 hN hX hY t0 hs0 hCO0 hcol hPk ht hv hpos
  obtain ⟨⟨x0, x1, x2, x3, x4⟩, hzf, ⟨y0, y1, y2, y3⟩, d0⟩ := HT5.out w0 (Tch.refl _ _)
  clear hzf
  go_enter Tryz.func29, Tryz.ntmps29
  go_wp2_with fail
  rw [← HN.out]
  have hw0 := Hw0.out
  rw [← hw0]
  clear hw0
  refine q1.mono ?_
  rintro y w1 ⟨rfl, t1⟩
  clear q1 x0 x1 x2 x3 x4 y0 y1 y2 y3 d0
  obtain ⟨⟨x0, x1, x2, x3, x4⟩, hzf, ⟨y0, y1, y2, y3⟩, d0⟩ := HT5.out w1 (t1.mono (fun _ _ h => h.elim))
  go_wp2_with fail
  clear hzf x0 x1 x2 x3 x4 y0 y1 y2 y3 d0
  obtain ⟨n, hn⟩ : ∃ n, n = t.cols.length := ⟨_, rfl⟩
  obtain ⟨K0, hK0⟩ : ∃ K0 : World → Prop, K0 = fun W => Tch (fun i => (Value.slice co t.cols.length cc).ownBlock = some i) w0 W := ⟨_, rfl⟩
  obtain ⟨St, hSt⟩ : ∃ St : List Value → World → Prop, St = fun s W => match s with
    | [] => Tch (fun _ => False) w1 W
    | [y] => Tch (fun _ => False) w1 W ∧ ∃ g, y = .slice (some ⟨g, 0, none⟩) 1 1 ∧ At W g 0 [.string x.nm, .int .i64 x.k, .bool x.nl]
    | [_, z] => ∃ co' cc', z = .slice co' (t.cols.length + 1) cc' ∧ W.ownsRow base 43 3 (.slice co' (t.cols.length + 1) cc') (t.cols.length + 1) (ccl (t.cols ++ [x])) ∧ ((Value.slice co' (t.cols.length + 1) cc').ownBlock = (Value.slice co t.cols.length cc).ownBlock ∨ ∃ g, (Value.slice co' (t.cols.length + 1) cc').ownBlock = some g ∧ w0.heap.size ≤ g)
    | _ => False := ⟨_, rfl⟩
  obtain ⟨C, hC⟩ : ∃ C : List Value → World → Prop, C = fun s W => K0 W ∧ St s W := ⟨_, rfl⟩
  have hK : ∀ s W, C s W → _ := fun s W h => by
    rw [hC] at h
    have h1 := h.1
    rw [hK0] at h1
    exact HT5.out W h1
  have h7 : ∀ W, C [] W → C [.slice (some ⟨W.heap.size, 0, none⟩) 1 1] (W.alloc (.cells #[.string x.nm, .int .i64 x.k, .bool x.nl] 43)) := fun W h => by
    rw [hC, hSt, hK0] at h ⊢
    exact ⟨h.1.allocR _, h.2.allocR _, W.heap.size, rfl, blk_at (alloc_new W (.cells ([.string x.nm, .int .i64 x.k, .bool x.nl] : List Value).toArray 43))⟩
  have h8' : ∀ g W, C [.slice (some ⟨g, 0, none⟩) 1 1] W → ∃ co' cc' w', (Builtin.append_ #[22, 22] 22 #[.slice co t.cols.length cc, .slice (some ⟨g, 0, none⟩) 1 1]).run Tryz.prog W = .ok (.slice co' (t.cols.length + 1) cc') w' ∧ C [.slice (some ⟨g, 0, none⟩) 1 1, .slice co' (t.cols.length + 1) cc'] w' := fun g W h => by
    rw [hC, hSt, hK0] at h
    obtain ⟨h1, tW, g', e, hg⟩ := h
    have e' : g = g' := by simpa using e
    subst e'
    have hown := own_tch (own_tch Hcol.out t1 (fun _ _ h => h)) tW (fun _ _ h => h)
    obtain ⟨v', w', hr, hown', hgr, hat, _⟩ := run_append_keeps (P := Tryz.prog) W base 22 22 43 i0 (.agg #[.string ⟨#[]⟩, .int .i64 0, .bool false]) 3 32 Tryz.underlying22 hi0 hz0 hz1 hz2 rfl (by decide) (.slice co t.cols.length cc) t.cols.length (ccl t.cols) hown ⟨g, 0, none⟩ 1 1 [.string x.nm, .int .i64 x.k, .bool x.nl] rfl (fun j u hu => by rw [add_plain]; exact hg j u hu) (by simp [Value.oneCell']) (by unfold maxLen; omega) (by omega) (by have := Ht0.out.size; have := t1.size; have := tW.size; omega)
    obtain ⟨co', cc', rfl⟩ := row_slice hown'
    refine ⟨co', cc', w', hr, ?_⟩
    rw [hC, hSt, hK0]
    refine ⟨h1.trans' (grown_at (Tch.refl (fun _ => False) W) hgr), co', cc', rfl, by rw [ccl_snoc]; exact hown', hat.imp id (fun e => ⟨_, e, ?_⟩)⟩
    have := t1.size; have := tW.size; omega
  have h0' : C [] w1.drew := by
    rw [hC, hSt, hK0]; exact ⟨(t1.mono (fun _ _ h => h.elim)).drew, (Tch.refl _ _).drew⟩
  have hsh1 : ∀ y W, C [y] W → ∃ g, y = .slice (some ⟨g, 0, none⟩) 1 1 := fun y W h => by
    rw [hC, hSt, hK0] at h
    obtain ⟨_, _, g, rfl, _⟩ := h
    exact ⟨g, rfl⟩
  have hfin : ∀ y z W, C [y, z] W → ∃ co' cc', z = .slice co' (t.cols.length + 1) cc' ∧ W.ownsRow base 43 3 (.slice co' (t.cols.length + 1) cc') (t.cols.length + 1) (ccl (t.cols ++ [x])) ∧ ((Value.slice co' (t.cols.length + 1) cc').ownBlock = (Value.slice co t.cols.length cc).ownBlock ∨ ∃ g, (Value.slice co' (t.cols.length + 1) cc').ownBlock = some g ∧ w0.heap.size ≤ g) ∧ Tch (fun i => (Value.slice co t.cols.length cc).ownBlock = some i) w0 W := fun y z W h => by
    rw [hC, hSt, hK0] at h
    obtain ⟨h1, co', cc', h2, h3, h4⟩ := h
    exact ⟨co', cc', h2, h3, h4, h1⟩
  clear hC hSt hK0 hn
  refine wp_region_ordv [7, 8] C 9 [0, 1, 2, 3, 4, 5, 6, 7, 8] (by kernel_rfl) (by kernel_rfl) h0' ?_
  clear h0'
  refine ordv_read rfl (by go_simp) (by rfl) ?_
  apply Exists.intro
  refine ⟨fun s' W hW b K Q hK' => ?_, fun K hK' => ?_⟩
  · obtain ⟨⟨q0, q1, q2, q3, q4⟩, _, ⟨p0, p1, p2, p3⟩, _⟩ := hK _ W hW
    go_simp
    exact hK' W hW
  go_simp
  refine hK' _ ?_
  clear hK' K
  refine ordv_read rfl (by go_simp) (by rfl) ?_
  apply Exists.intro
  refine ⟨fun s' W hW b K Q hK' => ?_, fun K hK' => ?_⟩
  · obtain ⟨⟨q0, q1, q2, q3, q4⟩, _, ⟨p0, p1, p2, p3⟩, _⟩ := hK _ W hW
    go_simp
    exact hK' W hW
  go_simp
  refine hK' _ ?_
  clear hK' K
  refine ordv_read rfl (by go_simp) (by rfl) ?_
  apply Exists.intro
  refine ⟨fun s' W hW b K Q hK' => ?_, fun K hK' => ?_⟩
  · obtain ⟨⟨q0, q1, q2, q3, q4⟩, _, ⟨p0, p1, p2, p3⟩, _⟩ := hK _ W hW
    go_simp
    exact hK' W hW
  go_simp
  refine hK' _ ?_
  clear hK' K
  refine ordv_read rfl (by go_simp) (by rfl) ?_
  apply Exists.intro
  refine ⟨fun s' W hW b K Q hK' => ?_, fun K hK' => ?_⟩
  · obtain ⟨⟨q0, q1, q2, q3, q4⟩, _, ⟨p0, p1, p2, p3⟩, _⟩ := hK _ W hW
    go_simp
    exact hK' W hW
  go_simp
  refine hK' _ ?_
  clear hK' K
  refine ordv_read rfl (by go_simp) (by rfl) ?_
  apply Exists.intro
  refine ⟨fun s' W hW b K Q hK' => ?_, fun K hK' => ?_⟩
  · obtain ⟨⟨q0, q1, q2, q3, q4⟩, _, ⟨p0, p1, p2, p3⟩, _⟩ := hK _ W hW
    go_simp
    exact hK' W hW
  go_simp
  refine hK' _ ?_
  clear hK' K
  refine ordv_read rfl (by go_simp) (by rfl) ?_
  apply Exists.intro
  refine ⟨fun s' W hW b K Q hK' => ?_, fun K hK' => ?_⟩
  · obtain ⟨⟨q0, q1, q2, q3, q4⟩, _, ⟨p0, p1, p2, p3⟩, _⟩ := hK _ W hW
    go_simp
    exact hK' W hW
  go_simp
  refine hK' _ ?_
  clear hK' K
  refine ordv_read rfl (by go_simp) (by rfl) ?_
  apply Exists.intro
  refine ⟨fun s' W hW b K Q hK' => ?_, fun K hK' => ?_⟩
  · obtain ⟨⟨q0, q1, q2, q3, q4⟩, _, ⟨p0, p1, p2, p3⟩, _⟩ := hK _ W hW
    go_simp
    exact hK' W hW
  go_simp
  refine hK' _ ?_
  clear hK' K
  refine ordv_turn rfl (by go_simp) (by rfl) (fun W hW b K Q hK' => ?_) (fun u hu K hK' => ?_)
  · go_simp
    exact hK' _ _ (h7 W hW)
  obtain ⟨g, rfl⟩ : ∃ g, u = .slice (some ⟨g, 0, none⟩) 1 1 := by
    obtain ⟨W', hW'⟩ := hu
    exact hsh1 u W' hW'
  clear hu h7 hsh1
  go_simp
  refine hK' _ ?_
  clear hK' K
  refine ordv_turn rfl (by go_simp) (by rfl) (fun W hW => ?_) (fun u hu K hK' => ?_)
  · obtain ⟨co', cc', w', hr, h1⟩ := h8' g W hW
    exact yv_append (.tmp 26) (.tmp 29) 22 rfl (.slice co t.cols.length cc) (.slice (some ⟨g, 0, none⟩) 1 1) rfl rfl hr h1
  obtain ⟨co', cc', rfl⟩ : ∃ co' cc', u = .slice co' (t.cols.length + 1) cc' := by
    obtain ⟨W', hW'⟩ := hu
    obtain ⟨co', cc', e, _⟩ := hfin _ u W' hW'
    exact ⟨co', cc', e⟩
  clear hu h8'
  go_simp
  refine hK' _ ?_
  clear hK' K
  refine ordv_nil ?_
  intro w3 hw3
  obtain ⟨⟨x0, x1, x2, x3, x4⟩, hzf, ⟨y0, y1, y2, y3⟩, d0⟩ := hK _ w3 hw3
  obtain ⟨_, _, e1, hown3, hat3, t3⟩ := hfin _ _ w3 hw3
  injection e1 with e1 e2 e3
  subst e1 e3
  clear hfin hK hw3 e2
  obtain ⟨z, hz⟩ : ∃ z, z = Value.slice co' (t.cols.length + 1) cc' := ⟨_, rfl⟩
  obtain ⟨t1', ht1'⟩ : ∃ t1' : Tbl, t1' = ⟨t.id, t.ver, t.nm, t.cols ++ [x], t.key⟩ := ⟨_, rfl⟩
  obtain ⟨w4, hw4⟩ : ∃ w4, w4 = w3.setCell ⟨T, k * 5 + 3, none⟩ z := ⟨_, rfl⟩
  have t4 : Tch (fun i => i = T) w3 w4 := by rw [hw4]; exact Tch.setCell _ _ _ _ rfl
  have hzT : ∀ g, z.ownBlock = some g → g ≠ T ∧ g ≠ d ∧ base ≤ g ∧ g ≠ N ∧ g ≠ N + 1 ∧ ∀ i (hi : i < P.length), i ≠ k → P[i].2.ownBlock ≠ some g := fun g e => by
    rw [hz] at e
    have hge := (hown3.lt g e).1
    rcases hat3 with e2 | ⟨g', e2, hg'⟩
    · rw [e2] at e
      have e3 : P[k].2.ownBlock = some g := by rw [HPk.out]; exact e
      have hgN : g < N := by
        have h1 : g < w0.heap.size := (World.ownsRow.lt Hcol.out g e).2
        have h2 := HgN.out g e
        exact h2
      exact ⟨fun e4 => H0.out.to.sep k hk g e3 (by rw [e4]; rfl), fun e4 => H0.out.nb.2 k hk (e4 ▸ e3), hge, by omega, by omega, fun i hi hik e4 => H0.out.to.dis i k hi hk g hik e4 e3⟩
    · rw [e2] at e; injection e with e
      have hs := Hs0.out
      exact ⟨by omega, by omega, hge, by omega, by omega, fun i hi _ e4 => by have := (World.ownsRow.lt (H0.out.to.col i hi) g e4).2; omega⟩
  have hTO4 : TO w4 base (.slice (some ⟨T, 0, none⟩) (P.set k (t1', z)).length tc) (P.set k (t1', z)) := by
    refine H0.out.to.turn hk (t1', z) ?_ ?_ (fun i hi hik => ?_) (fun g e => ⟨(hzT g e).1, (hzT g e).2.2.2.2.2⟩)
    · have h1 := own_set (j := k * 5 + 3) (HQ.out w3 t3).2.2.2 z
      rw [tcl_set P k 3 hk z (t1', z) (by omega) (by rw [HPk.out, ht1']; rfl)] at h1
      rw [hw4]; exact h1
    · have h1 : w3.ownsRow base 43 3 z (t.cols.length + 1) (ccl (t.cols ++ [x])) := by rw [hz]; exact hown3
      rw [ht1']
      show w4.ownsRow base _ 3 z (t.cols ++ [x]).length _
      rw [List.length_append]
      exact own_tch h1 t4 (fun g e => (hzT g e).1)
    · refine own_tch (own_tch (H0.out.to.col i hi) t3 (fun g e e2 => ?_)) t4 (fun g e e2 => H0.out.to.sep i hi g e (by rw [e2]; rfl))
      exact H0.out.to.dis i k hi hk g hik e (by rw [HPk.out]; exact e2)
  have hown4 : w4.ownsRow base 43 3 (.slice co' (t.cols.length + 1) cc') (t.cols.length + 1) (ccl (t.cols ++ [x])) := own_tch hown3 t4 (fun g e => (hzT g (by rw [hz]; exact e)).1)
  have q6 := wrongColumns_any (t.cols ++ [x]) co' cc' w4 (own_sl hown4) (by rw [List.length_append]; exact own_cap hown4) (by simp; omega)
  rw [List.length_append, List.length_singleton] at q6
  obtain ⟨E, hEq⟩ : ∃ E, E = colsE (t.cols ++ [x]) := ⟨_, rfl⟩
  rw [← hEq] at q6
  have HEq : Hid (E = colsE (t.cols ++ [x])) := hEq
  have Hw4 : Hid (w3.setCell ⟨T, k * 5 + 3, none⟩ (.slice co' (t.cols.length + 1) cc') = w4) := by show _ = _; rw [hw4, hz]
  have f3 := hzf (k * 5 + 3)
  have HTO4 : Hid (TO w4 base (.slice (some ⟨T, 0, none⟩) (P.set k (t1', z)).length tc) (P.set k (t1', z))) := hTO4
  have hNT : N ≠ T ∧ N + 1 ≠ T ∧ d ≠ T := ⟨by omega, by omega, fun e => hTd e.symm⟩
  have HW4 : Hid (w4.heap[N]? = some (.cells #[.string nm, .string x.nm, .int .i64 x.k, .bool x.nl] 69 (0, 0)) ∧ w4.heap[N + 1]? = some (.cells #[.int .i64 0, .int .i64 0, .string ⟨#[]⟩, .slice none 0 0, .int .i64 0] 29 (0, 0)) ∧ w4.heap[d]? = some (.cells #[.slice (some ⟨T, 0, none⟩) P.length tc, .int .i64 gv] 60 (0, 0))) := by
    obtain ⟨a1, a2, a3, _⟩ := HQ.out w3 t3
    exact ⟨by rw [t4.block N (blk_lt a1) hNT.1]; exact a1, by rw [t4.block (N + 1) (blk_lt a2) hNT.2.1]; exact a2, by rw [t4.block d (blk_lt a3) hNT.2.2]; exact a3⟩
  have HT4 : Hid (Tch (fun i => base ≤ i) w w4) := by
    have h1 : Tch (fun i => base ≤ i) w w3 := (Ht0.out.mono (fun _ _ h => h.elim)).trans t3 (fun i hi e => (World.ownsRow.lt Hcol.out i e).1)
    exact h1.trans t4 (fun i hi e => by rw [e]; exact (World.ownsRow.lt H0.out.to.own T rfl).1)
  have Hz : Hid (z = .slice co' (t.cols.length + 1) cc') := hz
  have Ht1 : Hid (t1' = ⟨t.id, t.ver, t.nm, t.cols ++ [x], t.key⟩) := ht1'
  have HzT : Hid (∀ g, z.ownBlock = some g → g ≠ T ∧ g ≠ d ∧ base ≤ g ∧ g ≠ N ∧ g ≠ N + 1 ∧ ∀ i (hi : i < P.length), i ≠ k → P[i].2.ownBlock ≠ some g) := hzT
  have HdT : Hid (∀ g, (BL (.slice (some ⟨T, 0, none⟩) (P.set k (t1', z)).length tc) (P.set k (t1', z)) g) → g ≠ N + 1 ∧ g ≠ N ∧ g ≠ d) := fun g hg => by
    rcases hg with hg | ⟨i, hi, hg⟩
    · have : T = g := by simpa [Value.ownBlock] using hg
      omega
    · rw [List.length_set] at hi
      by_cases hik : i = k
      · subst hik
        simp only [List.getElem_set_self] at hg
        have h1 := hzT g hg
        exact ⟨h1.2.2.2.2.1, h1.2.2.2.1, h1.2.1⟩
      · simp only [List.getElem_set_ne (fun h => hik h.symm)] at hg
        have h1 := HcN.out i hi g hg
        exact ⟨by omega, by omega, fun e => H0.out.nb.2 i hi (e ▸ hg)⟩
  have hrs : Tryz.f29.results = #[.cell 4 29, .tmp 5] := by kernel_rfl
  have HErr : Hid (∀ W, Tch (fun _ => False) w4 W → ∀ e, e ≠ 0 → widE t x = e → ∀ W', W' = ((((W.setCell ⟨N + 1, 0, none⟩ (.int .i64 0)).setCell ⟨N + 1, 1, none⟩ (.int .i64 0)).setCell ⟨N + 1, 2, none⟩ (.string ⟨#[]⟩)).setCell ⟨N + 1, 3, none⟩ (.slice none 0 0)).setCell ⟨N + 1, 4, none⟩ (.int .i64 0) → (∀ tmps : Array Value, tmps[4]?.getD undef = .pointer (some ⟨N + 1, 0, none⟩) → tmps[5]?.getD undef = .int .i64 e → (results Tryz.f29 tmps).run Tryz.prog W' = .ok (.tuple #[zA, .int .i64 e]) W') ∧ OnOut base d (widE t x) (TX b RB (widT t x)) (L.set k (widT t x)) gv (.returned (.tuple #[zA, .int .i64 e])) W' ∧ Tch (fun i => base ≤ i) w W') := fun W tW e he0 he W' hW' => by
    have hY : W.heap[N + 1]? = some (.cells #[.int .i64 0, .int .i64 0, .string ⟨#[]⟩, .slice none 0 0, .int .i64 0] 29 (0, 0)) := by rw [tW.block _ (blk_lt HW4.out.2.1) (fun h => h)]; exact HW4.out.2.1
    have hD : W.heap[d]? = some (.cells #[.slice (some ⟨T, 0, none⟩) P.length tc, .int .i64 gv] 60 (0, 0)) := by rw [tW.block _ (blk_lt HW4.out.2.2) (fun h => h)]; exact HW4.out.2.2
    have tE : Tch (fun i => i = N + 1) W W' := by rw [hW']; exact ((((Tch.setCell (fun i => i = N + 1) W ⟨N + 1, 0, none⟩ _ rfl).setCellR ⟨N + 1, 1, none⟩ _ rfl).setCellR ⟨N + 1, 2, none⟩ _ rfl).setCellR ⟨N + 1, 3, none⟩ _ rfl).setCellR ⟨N + 1, 4, none⟩ _ rfl
    have hb : W'.heap[N + 1]? = some (.cells #[.int .i64 0, .int .i64 0, .string ⟨#[]⟩, .slice none 0 0, .int .i64 0] 29 (0, 0)) := by
      rw [hW', blk_set (blk_set (blk_set (blk_set (blk_set hY _) _) _) _) _]; rfl
    refine ⟨fun tmps h4 h5 => res_pair hrs h4 h5 (by rw [blk_cell hb]; rfl) (by rw [blk_cell hb]; rfl) (by rw [blk_cell hb]; rfl) (by rw [blk_cell hb]; rfl) (by rw [blk_cell hb]; rfl), ⟨fun e2 => absurd (he.symm.trans e2) he0, fun _ => ⟨by rw [he], ?_⟩⟩, (HT4.out.trans' (tW.mono (fun _ _ h => h.elim))).trans tE (fun i hi e => by have := HN.out; omega)⟩
    have h5 := own_tch (own_tch HTO4.out.own tW (fun _ _ h => h)) tE (fun g e => (HdT.out g (Or.inl e)).1)
    rw [List.length_set] at h5
    exact ⟨_, gv, P.length, _, by rw [tE.block d (blk_lt hD) (by omega)]; exact hD, H0.out.ge, h5, H0.out.nb.1, by omega⟩
  clear hTO4 hown4 hown3 hat3 hw4 hz ht1' hzT hzf t4 hEq
  go_wp2_with fail
  have hw4 := Hw4.out
  rw [hw4]
  clear hw4
  refine q6.mono ?_
  rintro y w5 ⟨rfl, t5⟩
  clear q6 x0 x1 x2 x3 x4 y0 y1 y2 y3 d0 f3
  have hY5 : w5.heap[N + 1]? = some (.cells #[.int .i64 0, .int .i64 0, .string ⟨#[]⟩, .slice none 0 0, .int .i64 0] 29 (0, 0)) := by rw [t5.block _ (blk_lt HW4.out.2.1) (fun h => h)]; exact HW4.out.2.1
  have hX5 : w5.heap[N]? = some (.cells #[.string nm, .string x.nm, .int .i64 x.k, .bool x.nl] 69 (0, 0)) := by rw [t5.block _ (blk_lt HW4.out.1) (fun h => h)]; exact HW4.out.1
  have hTO5 : TO w5 base (.slice (some ⟨T, 0, none⟩) (P.set k (t1', z)).length tc) (P.set k (t1', z)) := HTO4.out.tch t5 (fun _ _ _ h => h)
  have y3 : w5.cell? ⟨N, 3, none⟩ = some (.bool x.nl) := by rw [blk_cell hX5]; rfl
  have hkS : k < (P.set k (t1', z)).length := by rw [List.length_set]; exact hk
  have keyT : ∀ j u, j < 5 → (tcs (t1', z))[j]? = some u → w5.cell? ⟨T, k * 5 + j, none⟩ = some u := fun j u hj hu => by
    obtain ⟨g, e, _, ha⟩ := own_at hTO5.own (by omega)
    injection e with e; injection e with e; subst e
    have := ha (k * 5 + j) u (by rw [tcl_get _ k j hkS hj]; simpa using hu)
    rwa [Nat.zero_add] at this
  have x0 : w5.cell? ⟨T, k * 5, none⟩ = some (.int .i64 t.id) := by have := keyT 0 _ (by omega) rfl; rw [Ht1.out] at this; exact this
  have x1 : w5.cell? ⟨T, k * 5 + 1, none⟩ = some (.int .i64 t.ver) := by have := keyT 1 _ (by omega) rfl; rw [Ht1.out] at this; exact this
  have x2 : w5.cell? ⟨T, k * 5 + 2, none⟩ = some (.string t.nm) := by have := keyT 2 _ (by omega) rfl; rw [Ht1.out] at this; exact this
  have x3 : w5.cell? ⟨T, k * 5 + 3, none⟩ = some (.slice co' (t.cols.length + 1) cc') := by have := keyT 3 _ (by omega) rfl; rw [Hz.out] at this; exact this
  have x4 : w5.cell? ⟨T, k * 5 + 4, none⟩ = some (.int .i64 t.key) := by have := keyT 4 _ (by omega) rfl; rw [Ht1.out] at this; exact this
  obtain ⟨z0, z1, z2, z3, z4⟩ : w5.cell? ⟨N + 1, 0, none⟩ = some (.int .i64 0) ∧ w5.cell? ⟨N + 1, 1, none⟩ = some (.int .i64 0) ∧ w5.cell? ⟨N + 1, 2, none⟩ = some (.string ⟨#[]⟩) ∧ w5.cell? ⟨N + 1, 3, none⟩ = some (.slice none 0 0) ∧ w5.cell? ⟨N + 1, 4, none⟩ = some (.int .i64 0) := ⟨by rw [blk_cell hY5]; rfl, by rw [blk_cell hY5]; rfl, by rw [blk_cell hY5]; rfl, by rw [blk_cell hY5]; rfl, by rw [blk_cell hY5]; rfl⟩
  have g0 := blk_frozen hY5 0; have g1 := blk_frozen hY5 1; have g2 := blk_frozen hY5 2; have g3 := blk_frozen hY5 3; have g4 := blk_frozen hY5 4
  have fT : w5.frozen? ⟨T, k * 5 + 1, none⟩ = false := by
    rcases hTO5.own.2 with ⟨h1, _⟩ | ⟨g, cap, cur, hv, _, hg, _⟩
    · injection h1 with h1; cases h1
    · injection hv with e1; injection e1 with e1; injection e1 with e1; subst e1; exact blk_frozen hg _
  have HTO5 : Hid _ := hTO5
  have HY5 : Hid _ := hY5
  have Ht5 : Hid _ := t5
  clear keyT hTO5 hX5 hY5 hkS
  by_cases hE0 : E = 0
  · subst hE0
    by_cases hbad : x.nl = false ∨ t.ver = 2147483647
    · have HE1 : Hid (widE t x = 1) := by
        show _ = _
        unfold widE
        rw [← HEq.out, if_neg (by simp), if_pos hbad]
      have hcase : x.nl = false ∨ (x.nl = true ∧ (t.ver == 2147483647) = true) := by
        rcases hbad with h | h
        · exact Or.inl h
        · cases hx : x.nl
          · exact Or.inl rfl
          · exact Or.inr ⟨rfl, by simpa using h⟩
      clear hbad
      rcases hcase with hx | ⟨hx, hv⟩
      · rw [hx] at y3
        go_wp2_with fail
        refine bodyPost_ret ((HErr.out w5 Ht5.out 1 (by decide) HE1.out _ rfl).1 _ ?_ ?_) rfl (HErr.out w5 Ht5.out 1 (by decide) HE1.out _ rfl).2 <;> rfl
      · rw [hx] at y3
        go_wp2_with fail
        refine bodyPost_ret ((HErr.out w5 Ht5.out 1 (by decide) HE1.out _ rfl).1 _ ?_ ?_) rfl (HErr.out w5 Ht5.out 1 (by decide) HE1.out _ rfl).2 <;> rfl
    · have HE0 : Hid (widE t x = 0) := by
        show _ = _
        unfold widE
        rw [← HEq.out, if_neg (by simp), if_neg hbad]
      have hx : x.nl = true := by
        cases hx : x.nl
        · exact absurd (Or.inl hx) hbad
        · rfl
      have hv : (t.ver == 2147483647) = false := beq_eq_false_iff_ne.2 (fun h => hbad (Or.inr h))
      have hvI : t.ver ≤ 2147483646 := by have : t.ver ≠ 2147483647 := fun h => hbad (Or.inr h); omega
      have hv0 := hver.1
      rw [hx] at y3
      clear hbad hx
      have HFin : Hid (∀ W', W' = (((((w5.setCell ⟨T, k * 5 + 1, none⟩ (.int .i64 (t.ver + 1))).setCell ⟨N + 1, 0, none⟩ (.int .i64 t.id)).setCell ⟨N + 1, 1, none⟩ (.int .i64 (t.ver + 1))).setCell ⟨N + 1, 2, none⟩ (.string t.nm)).setCell ⟨N + 1, 3, none⟩ (.slice co' (t.cols.length + 1) cc')).setCell ⟨N + 1, 4, none⟩ (.int .i64 t.key) → (∀ tmps : Array Value, tmps[4]?.getD undef = .pointer (some ⟨N + 1, 0, none⟩) → tmps[5]?.getD undef = .int .i64 0 → (results Tryz.f29 tmps).run Tryz.prog W' = .ok (.tuple #[tA t.id (t.ver + 1) t.nm (.slice co' (t.cols.length + 1) cc') t.key, .int .i64 0]) W') ∧ OnOut base d (widE t x) (TX b RB (widT t x)) (L.set k (widT t x)) gv (.returned (.tuple #[tA t.id (t.ver + 1) t.nm (.slice co' (t.cols.length + 1) cc') t.key, .int .i64 0])) W' ∧ Tch (fun i => base ≤ i) w W') := fun W' hW' => by
        obtain ⟨w6, hw6⟩ : ∃ w6, w6 = w5.setCell ⟨T, k * 5 + 1, none⟩ (.int .i64 (t.ver + 1)) := ⟨_, rfl⟩
        rw [← hw6] at hW'
        have t6 : Tch (fun i => i = T) w5 w6 := by rw [hw6]; exact Tch.setCell _ _ _ _ rfl
        have hY6 : w6.heap[N + 1]? = some (.cells #[.int .i64 0, .int .i64 0, .string ⟨#[]⟩, .slice none 0 0, .int .i64 0] 29 (0, 0)) := by rw [t6.block _ (blk_lt HY5.out) hNT.2.1]; exact HY5.out
        have tE : Tch (fun i => i = N + 1) w6 W' := by rw [hW']; exact ((((Tch.setCell (fun i => i = N + 1) w6 ⟨N + 1, 0, none⟩ _ rfl).setCellR ⟨N + 1, 1, none⟩ _ rfl).setCellR ⟨N + 1, 2, none⟩ _ rfl).setCellR ⟨N + 1, 3, none⟩ _ rfl).setCellR ⟨N + 1, 4, none⟩ _ rfl
        have hb : W'.heap[N + 1]? = some (.cells #[.int .i64 t.id, .int .i64 (t.ver + 1), .string t.nm, .slice co' (t.cols.length + 1) cc', .int .i64 t.key] 29 (0, 0)) := by
          rw [hW', blk_set (blk_set (blk_set (blk_set (blk_set hY6 _) _) _) _) _]; rfl
        have hTO5 := HTO5.out
        have hkS : k < (P.set k (t1', z)).length := by rw [List.length_set]; exact hk
        have hPS : (P.set k (t1', z))[k] = (t1', z) := by simp
        have hset : (P.set k (t1', z)).set k (widT t x, z) = P.set k (widT t x, z) := by simp
        have hTO6 : TO w6 base (.slice (some ⟨T, 0, none⟩) (P.set k (widT t x, z)).length tc) (P.set k (widT t x, z)) := by
          have h1 := hTO5.turn (W' := w6) hkS (widT t x, z) ?_ ?_ (fun i hi hik => own_tch (hTO5.col i hi) t6 (fun g e e2 => hTO5.sep i hi g e (by rw [e2]; rfl))) (fun g e => ⟨(HzT.out g e).1, fun i hi hik => ?_⟩)
          · rw [hset] at h1; exact h1
          · have h1 := own_set (j := k * 5 + 1) hTO5.own (.int .i64 (t.ver + 1))
            rw [tcl_set _ k 1 hkS _ (widT t x, z) (by omega) (by rw [hPS, Ht1.out]; rfl)] at h1
            rw [hw6]; exact h1
          · have h1 := own_tch (hTO5.col k hkS) t6 (fun g e e2 => hTO5.sep k hkS g e (by rw [e2]; rfl))
            rw [hPS, Ht1.out] at h1
            exact h1
          · rw [List.length_set] at hi
            simp only [List.getElem_set_ne (fun h => hik h.symm)]
            exact (HzT.out g e).2.2.2.2.2 i hi hik
        have hNg : ∀ g, BL (.slice (some ⟨T, 0, none⟩) (P.set k (widT t x, z)).length tc) (P.set k (widT t x, z)) g → g ≠ N + 1 ∧ g ≠ d := fun g hg => by
          have h1 : BL (.slice (some ⟨T, 0, none⟩) (P.set k (t1', z)).length tc) (P.set k (t1', z)) g := by
            rcases hg with hg | ⟨i, hi, hg⟩
            · exact Or.inl hg
            · rw [List.length_set] at hi
              refine Or.inr ⟨i, by rw [List.length_set]; exact hi, ?_⟩
              by_cases hik : i = k
              · subst hik; simp only [List.getElem_set_self] at hg ⊢; exact hg
              · simp only [List.getElem_set_ne (fun h => hik h.symm)] at hg ⊢; exact hg
          exact ⟨(HdT.out g h1).1, (HdT.out g h1).2.2⟩
        have hTOW : TO W' base (.slice (some ⟨T, 0, none⟩) (P.set k (widT t x, z)).length tc) (P.set k (widT t x, z)) := ⟨own_tch hTO6.own tE (fun g e => (hNg g (Or.inl e)).1), fun i hi => own_tch (hTO6.col i hi) tE (fun g e => (hNg g (Or.inr ⟨i, hi, e⟩)).1), hTO6.sep, hTO6.dis⟩
        have hD : W'.heap[d]? = some (.cells #[.slice (some ⟨T, 0, none⟩) P.length tc, .int .i64 gv] 60 (0, 0)) := by
          have a3 := HW4.out.2.2
          have a5 : w5.heap[d]? = some (.cells #[.slice (some ⟨T, 0, none⟩) P.length tc, .int .i64 gv] 60 (0, 0)) := by rw [Ht5.out.block d (blk_lt a3) (fun h => h)]; exact a3
          have a6 : w6.heap[d]? = some (.cells #[.slice (some ⟨T, 0, none⟩) P.length tc, .int .i64 gv] 60 (0, 0)) := by rw [t6.block d (blk_lt a5) hNT.2.2]; exact a5
          rw [tE.block d (blk_lt a6) (by omega)]; exact a6
        refine ⟨fun tmps h4 h5 => res_pair hrs h4 h5 (by rw [blk_cell hb]; rfl) (by rw [blk_cell hb]; rfl) (by rw [blk_cell hb]; rfl) (by rw [blk_cell hb]; rfl) (by rw [blk_cell hb]; rfl), ⟨fun _ => ⟨_, P.set k (widT t x, z), .slice (some ⟨T, 0, none⟩) (P.set k (widT t x, z)).length tc, rfl, ⟨co', cc', ?_, ?_, ?_, ?_⟩, ⟨?_, H0.out.ge, ?_, hTOW, ?_, ?_⟩⟩, fun e => absurd HE0.out e⟩, ?_⟩
        · show tA t.id (t.ver + 1) t.nm (.slice co' (t.cols.length + 1) cc') t.key = tA t.id (t.ver + 1) t.nm (.slice co' (t.cols ++ [x]).length cc') t.key
          rw [List.length_append]; rfl
        · have h1 := hTOW.col k (by rw [List.length_set]; exact hk)
          simp only [List.getElem_set_self] at h1
          rw [Hz.out] at h1
          have h2 : W'.ownsRow base 43 3 (.slice co' (t.cols.length + 1) cc') (t.cols.length + 1) (ccl (t.cols ++ [x])) := by
            have h3 : (widT t x).cols.length = t.cols.length + 1 := by simp [widT]
            rw [h3] at h1; exact h1
          exact own_sl h2
        · intro e
          have h1 := hTOW.col k (by rw [List.length_set]; exact hk)
          simp only [List.getElem_set_self] at h1
          rw [Hz.out, e] at h1
          have h3 : (widT t x).cols.length = t.cols.length + 1 := by simp [widT]
          rw [h3] at h1
          have := (own_none h1).1
          omega
        · intro g o e _
          have h1 := (HzT.out g (by rw [Hz.out, e]; rfl)).2.2.1
          omega
        · rw [List.length_set]; exact hD
        · rw [List.map_set, H0.out.eq]
        · exact fun e => hTd (by simpa [Value.ownBlock] using e)
        · exact fun i hi e => (hNg d (Or.inr ⟨i, hi, e⟩)).2 rfl
        · exact ((HT4.out.trans' (Ht5.out.mono (fun _ _ h => h.elim))).trans t6 (fun i hi e => by rw [e]; exact (World.ownsRow.lt H0.out.to.own T rfl).1)).trans tE (fun i hi e => by have := HN.out; omega)
      go_wp2_with fail
      refine bodyPost_ret ((HFin.out _ rfl).1 _ ?_ ?_) rfl (HFin.out _ rfl).2 <;> rfl
  · have HE1 : Hid (widE t x = E) := by
      show _ = _
      unfold widE
      rw [← HEq.out, if_pos hE0]
    have HE0 : Hid (E ≠ 0) := hE0
    have hb4 : (E != 0) = true := by simpa using hE0
    clear hE0
    go_wp2_with fail
    refine bodyPost_ret ((HErr.out w5 Ht5.out E HE0.out HE1.out _ rfl).1 _ ?_ ?_) rfl (HErr.out w5 Ht5.out E HE0.out HE1.out _ rfl).2 <;> rfl
end Go.Proofs.YtmfbhhloabkecaaGreatDoor.C
