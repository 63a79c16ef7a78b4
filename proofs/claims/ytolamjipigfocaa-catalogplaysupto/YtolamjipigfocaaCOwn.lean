import Derived.Test.YtolamjipigfocaaCRef12
import Derived.Test.YtolamjipigfocaaCPutP
import Derived.Test.YtolamjipigfocaaCPutE
import Derived.Test.YtolamjipigfocaaCLd
import Derived.Test.YtolamjipigfocaaCRPutB
import Derived.Test.YtolamjipigfocaaCRPutC
import Derived.Test.YtolamjipigfocaaCRLd
import Derived.Test.YtolamjipigfocaaCWid3
/- The document's catalog: Widen that goes through. -/
namespace Go.Proofs.Ytolamjipigfocaa
open Go.RowKit Go

set_option maxHeartbeats 4000000 in
set_option maxRecDepth 100000 in
theorem rwiden_ok (b : Nat) (L : List Tbl) (nx : Int) (P : List (Tbl × Value)) (tv : Value) (nm : ByteArray) (x : Col) (w : World) (h : RO w 0 b L nx P tv) (hl : P.length ≤ 16) (k : Nat) (hk : k < P.length) (hpos : posP (fun t => decide (t.nm = nm)) P = k) (hc0 : colsE P[k].1.cols = 0) (hv1 : 1 ≤ P[k].1.ver) (hv0 : P[k].1.ver ≤ 2147483647) (hE : widE P[k].1 x = 0) :
    Calls Try.prog 24 #[.pointer (some ⟨b, 0, none⟩), .string nm, .agg #[.string x.nm, .int .i64 x.k, .bool x.nl]] w fun y w' => RChg b 0 (widT P[k].1 x) (L.set k (widT P[k].1 x)) nx P tv w y w' := by
  obtain ⟨i0, hi0, hz0, hz1, hz2⟩ := info_parts info_col
  obtain ⟨T, tc, hTc, rfl⟩ : ∃ T tc, P.length ≤ tc ∧ tv = .slice (some ⟨T, 0, none⟩) P.length tc := by
    rcases h.to.own.2 with ⟨h1, h2⟩ | ⟨g, cap, cur, hv, hb0, hg, hnc, hcm, hcs, htk⟩
    · exfalso; omega
    · exact ⟨g, cap, hnc, hv⟩
  have hT := h.tl
  have hb : w.cell? ⟨b, 0, none⟩ = some (.slice (some ⟨T, 0, none⟩) P.length tc) := by rw [blk_cell h.blk]; rfl
  obtain ⟨N, hN⟩ : ∃ N, N = w.heap.size := ⟨_, rfl⟩
  obtain ⟨wx, hwx⟩ : ∃ wx, wx = w.alloc (.cells #[.string x.nm, .int .i64 x.k, .bool x.nl] 43) := ⟨_, rfl⟩
  obtain ⟨w0, hw0⟩ : ∃ w0, w0 = wx.alloc (.cells #[.int .i64 0, .int .i64 0, .string ⟨#[]⟩, .slice none 0 0, .int .i64 0] 36) := ⟨_, rfl⟩
  have tx : Tch (fun _ => False) w wx := by rw [hwx]; exact Tch.alloc _ _ _
  have t0' : Tch (fun _ => False) w w0 := by rw [hw0]; exact tx.allocR _
  have hsx : wx.heap.size = N + 1 := by rw [hwx, World.size_alloc, hN]
  have hX : w0.heap[N]? = some (.cells #[.string x.nm, .int .i64 x.k, .bool x.nl] 43 (0, 0)) := by
    have h1 : wx.heap[N]? = some (.cells #[.string x.nm, .int .i64 x.k, .bool x.nl] 43 (0, 0)) := by rw [hwx, hN]; exact alloc_new _ _
    rw [hw0, (Tch.alloc (fun _ => False) wx _).block N (blk_lt h1) (fun h => h)]; exact h1
  have hY : w0.heap[N + 1]? = some (.cells #[.int .i64 0, .int .i64 0, .string ⟨#[]⟩, .slice none 0 0, .int .i64 0] 36 (0, 0)) := by rw [hw0, ← hsx]; exact alloc_new _ _
  have q0 := rplace_any b (some ⟨T, 0, none⟩) tc P _ nm w0 (by rw [t0'.cell (p := ⟨b, 0, none⟩) (cell_lt hb) (fun h => h)]; exact hb) (hT.tch t0' (fun _ _ h => h.elim)) (by omega)
  rw [hpos] at q0
  obtain ⟨g, o, ego, c0, c1, c2, c3, c4⟩ := (hT.tch t0' (fun _ _ h => h.elim)).at k hk
  obtain ⟨rfl, rfl⟩ : T = g ∧ 0 = o := by simpa using ego
  clear ego
  obtain ⟨co, cc, hck⟩ := (hT.tch t0' (fun _ _ h => h.elim)).col k hk
  have hb0 : w0.cell? ⟨b, 0, none⟩ = some (.slice (some ⟨T, 0, none⟩) P.length tc) := by rw [t0'.cell (p := ⟨b, 0, none⟩) (cell_lt hb) (fun h => h)]; exact hb
  obtain ⟨p, hp⟩ : ∃ p, p = P[k] := ⟨_, rfl⟩
  rw [← hp] at c0 c1 c2 c3 c4 hck hE hc0 hv0 hv1 ⊢
  have hc8 := cols_le hc0
  have q := rcopied_any p.1 co cc w0 hck.sl hck.no (by omega)
  rw [hck.eq] at c3
  obtain ⟨E, hEE⟩ : ∃ E, E = widE p.1 x := ⟨_, rfl⟩
  have hR : E = if 8 ≤ p.1.cols.length then 55 else if nmOk x.nm = false then 50 else if p.1.cols.any (fun a => decide (a.nm = x.nm)) then 54 else if kdOk x.k = false then 1 else if x.nl = false ∨ p.1.ver = 2147483647 then 1 else 0 := by
    rw [hEE]; unfold widE
    rw [colsE_snoc x hc0]; unfold colE
    by_cases e1 : 8 ≤ p.1.cols.length
    · simp [e1]
    · by_cases e2 : nmOk x.nm = false
      · simp [e1, e2]
      · by_cases e3 : p.1.cols.any (fun a => decide (a.nm = x.nm)) = true
        · simp only [e1, e2, e3, if_false, if_true]; simp
        · by_cases e4 : kdOk x.k = false
          · simp only [e1, e2, e3, e4, if_false, if_true]; simp
          · simp only [e1, e2, e3, e4, if_false]; simp
  rw [← hEE] at hE
  simp only [Nat.zero_add] at c0 c1 c2 c3 c4
  obtain ⟨g1, g2, g3, g4, g5, g6⟩ : ¬ 8 ≤ p.1.cols.length ∧ nmOk x.nm = true ∧ (∀ j (h : j < p.1.cols.length), p.1.cols[j].nm ≠ x.nm) ∧ kdOk x.k = true ∧ x.nl = true ∧ p.1.ver ≠ 2147483647 := by
    rw [hE] at hR
    by_cases e1 : 8 ≤ p.1.cols.length
    · rw [if_pos e1] at hR; simp at hR
    · rw [if_neg e1] at hR
      by_cases e2 : nmOk x.nm = false
      · rw [if_pos e2] at hR; simp at hR
      · rw [if_neg e2] at hR
        by_cases e3 : p.1.cols.any (fun a => decide (a.nm = x.nm)) = true
        · rw [if_pos e3] at hR; simp at hR
        · rw [if_neg e3] at hR
          by_cases e4 : kdOk x.k = false
          · rw [if_pos e4] at hR; simp at hR
          · rw [if_neg e4] at hR
            by_cases e5 : x.nl = false ∨ p.1.ver = 2147483647
            · rw [if_pos e5] at hR; simp at hR
            · refine ⟨e1, by simpa using e2, fun j hj e => e3 ?_, by simpa using e4, ?_, fun e => e5 (Or.inr e)⟩
              · rw [List.any_eq_true]; exact ⟨_, List.getElem_mem hj, by simpa using e⟩
              · cases hx : x.nl
                · exact absurd (Or.inl hx) e5
                · rfl
  have G3 : Hid _ := g3
  have G2 : Hid (nmOk x.nm = true) := g2
  have G4 : Hid (kdOk x.k = true) := g4
  have G5 : Hid (x.nl = true) := g5
  have hvI : p.1.ver < 2147483647 := by omega
  have H : Hid (RO w 0 b L nx P (.slice (some ⟨T, 0, none⟩) P.length tc)) := h
  have Hp : Hid (p = P[k]) := hp
  have HcP : Hid (∀ W, Tch (fun _ => False) w W → TO W 0 (.slice (some ⟨T, 0, none⟩) P.length tc) P) := fun W tW => h.to.tch tW (fun _ _ _ h => h)
  obtain ⟨n, hn⟩ : ∃ n, n = P.length := ⟨_, rfl⟩
  have Hn : Hid (n = P.length) := hn
  rw [← hn] at hb0 hk hl
  have hkI : (k : Int) < n := by omega
  have HR : Hid _ := hR
  have HE : Hid (E = 0) := hE
  have Hw0 : Hid _ := hw0
  have Hwx : Hid _ := hwx
  have HN : Hid (N = w.heap.size) := hN
  have Hsx : Hid (wx.heap.size = N + 1) := hsx
  have HX : Hid _ := hX
  have HY : Hid _ := hY
  have Ht0 : Hid (Tch (fun _ => False) w w0) := t0'
  have hrs : Try.f24.results = #[.cell 6 36, .tmp 7] := by kernel_rfl
  clear hN hwx hw0 tx t0' hsx hX hY hT hb h hpos hck hp hEE hR hE hn hc0 g2 g3 g4 g5 g6
  go_enter Try.func24, Try.ntmps24
  go_wp2_with fail
  have hwx := Hwx.out
  rw [← hwx]
  clear hwx
  have hw0 := Hw0.out
  rw [← hw0]
  clear hw0
  rw [← HN.out]
  try rw [Hsx.out]
  refine q0.mono ?_
  rintro y w0' ⟨rfl, hw0'⟩
  subst hw0'
  clear q0
  go_wp2_with fail
  clear hb0 c0 c1 c2 c3 c4
  refine q.mono ?_
  rintro y w1 ⟨⟨v, rfl, hv⟩, t1⟩
  clear q
  obtain ⟨vo, vc, hvv⟩ := row_slice hv
  subst hvv
  obtain ⟨M, hM⟩ : ∃ M, M = w1.heap.size := ⟨_, rfl⟩
  obtain ⟨wB, hwB⟩ : ∃ wB, wB = w1.alloc (.cells #[.int .i64 p.1.id, .int .i64 p.1.ver, .string p.1.nm, .slice vo p.1.cols.length vc, .int .i64 p.1.key] 36) := ⟨_, rfl⟩
  have tB : Tch (fun _ => False) w0' wB := by rw [hwB]; exact t1.allocR _
  have hMB : wB.heap[M]? = some (.cells #[.int .i64 p.1.id, .int .i64 p.1.ver, .string p.1.nm, .slice vo p.1.cols.length vc, .int .i64 p.1.key] 36 (0, 0)) := by rw [hwB, hM]; exact alloc_new _ _
  have hvB : wB.ownsRow w0'.heap.size 43 3 (.slice vo p.1.cols.length vc) p.1.cols.length (ccl p.1.cols) := by rw [hwB]; exact own_tch hv (Tch.alloc (fun _ => False) _ _) (fun _ _ h => h)
  have HS : Hid (∀ W, Tch (fun _ => False) wB W → (W.cell? ⟨N, 0, none⟩ = some (.string x.nm) ∧ W.cell? ⟨N, 1, none⟩ = some (.int .i64 x.k) ∧ W.cell? ⟨N, 2, none⟩ = some (.bool x.nl)) ∧ W.cell? ⟨M, 1, none⟩ = some (.int .i64 p.1.ver) ∧ W.cell? ⟨M, 3, none⟩ = some (.slice vo p.1.cols.length vc)) := fun W tW => by
    have h1 : W.heap[N]? = some (.cells #[.string x.nm, .int .i64 x.k, .bool x.nl] 43 (0, 0)) := by rw [(tB.trans' tW).block N (blk_lt HX.out) (fun h => h)]; exact HX.out
    have h2 : W.heap[M]? = some (.cells #[.int .i64 p.1.id, .int .i64 p.1.ver, .string p.1.nm, .slice vo p.1.cols.length vc, .int .i64 p.1.key] 36 (0, 0)) := by rw [tW.block M (blk_lt hMB) (fun h => h)]; exact hMB
    exact ⟨⟨by rw [blk_cell h1]; rfl, by rw [blk_cell h1]; rfl, by rw [blk_cell h1]; rfl⟩, by rw [blk_cell h2]; rfl, by rw [blk_cell h2]; rfl⟩
  have HA : Hid (∀ W, Tch (fun _ => False) wB W → ∀ j (hj : j < p.1.cols.length), ∃ vg vx, vo = some ⟨vg, vx, none⟩ ∧ W.cell? ⟨vg, vx + j * 3, none⟩ = some (.string p.1.cols[j].nm)) := fun W tW j hj => by
    obtain ⟨g', o', e, h'⟩ := ((own_sl hvB).no tW).col hj
    exact ⟨g', o', e, (h'.col j hj).1⟩
  have HNB : Hid (wB.heap[N + 1]? = some (.cells #[.int .i64 0, .int .i64 0, .string ⟨#[]⟩, .slice none 0 0, .int .i64 0] 36 (0, 0)) ∧ wB.heap[N]? = some (.cells #[.string x.nm, .int .i64 x.k, .bool x.nl] 43 (0, 0)) ∧ wB.heap[M]? = some (.cells #[.int .i64 p.1.id, .int .i64 p.1.ver, .string p.1.nm, .slice vo p.1.cols.length vc, .int .i64 p.1.key] 36 (0, 0))) := ⟨by rw [tB.block (N + 1) (blk_lt HY.out) (fun h => h)]; exact HY.out, by rw [tB.block N (blk_lt HX.out) (fun h => h)]; exact HX.out, hMB⟩
  have HVB : Hid (wB.ownsRow w0'.heap.size 43 3 (.slice vo p.1.cols.length vc) p.1.cols.length (ccl p.1.cols)) := hvB
  have HVM : Hid (∀ g, (Value.slice vo p.1.cols.length vc).ownBlock = some g → g < M) := fun g e => by rw [hM]; exact (hv.lt g e).2
  have HsB : Hid (wB.heap.size = M + 1 ∧ w0'.heap.size ≤ M ∧ w.heap.size ≤ w0'.heap.size ∧ N + 1 < w0'.heap.size) := ⟨by rw [hwB, World.size_alloc, hM], by rw [hM]; exact t1.size, Ht0.out.size, blk_lt HY.out⟩
  have HTB : Hid (Tch (fun _ => False) w wB) := Ht0.out.trans' tB
  have HC7 : Hid (∀ W, Tch (fun i => (Value.slice vo p.1.cols.length vc).ownBlock = some i) wB W → (W.cell? ⟨b, 0, none⟩ = some (.slice (some ⟨T, 0, none⟩) n tc) ∧ W.heap[b]? = some (.cells #[.slice (some ⟨T, 0, none⟩) P.length tc, .int .i64 nx] 57 (0, 0))) ∧ (W.cell? ⟨M, 0, none⟩ = some (.int .i64 p.1.id) ∧ W.cell? ⟨M, 1, none⟩ = some (.int .i64 p.1.ver) ∧ W.cell? ⟨M, 2, none⟩ = some (.string p.1.nm) ∧ W.cell? ⟨M, 3, none⟩ = some (.slice vo p.1.cols.length vc) ∧ W.cell? ⟨M, 4, none⟩ = some (.int .i64 p.1.key)) ∧ (W.frozen? ⟨M, 0, none⟩ = false ∧ W.frozen? ⟨M, 1, none⟩ = false ∧ W.frozen? ⟨M, 2, none⟩ = false ∧ W.frozen? ⟨M, 3, none⟩ = false ∧ W.frozen? ⟨M, 4, none⟩ = false)) := fun W tW => by
    have h2 : W.heap[M]? = some (.cells #[.int .i64 p.1.id, .int .i64 p.1.ver, .string p.1.nm, .slice vo p.1.cols.length vc, .int .i64 p.1.key] 36 (0, 0)) := by rw [tW.block M (blk_lt HNB.out.2.2) (fun e => by have := HVM.out M e; omega)]; exact HNB.out.2.2
    have hB : W.heap[b]? = some (.cells #[.slice (some ⟨T, 0, none⟩) P.length tc, .int .i64 nx] 57 (0, 0)) := by
      rw [tW.block b (Nat.lt_of_lt_of_le (blk_lt H.out.blk) HTB.out.size) (fun e => by have := (HVB.out.lt b e).1; have := HsB.out; have := blk_lt H.out.blk; omega), HTB.out.block b (blk_lt H.out.blk) (fun h => h)]; exact H.out.blk
    exact ⟨⟨by rw [blk_cell hB, Hn.out]; rfl, hB⟩, ⟨by rw [blk_cell h2]; rfl, by rw [blk_cell h2]; rfl, by rw [blk_cell h2]; rfl, by rw [blk_cell h2]; rfl, by rw [blk_cell h2]; rfl⟩, blk_frozen h2 0, blk_frozen h2 1, blk_frozen h2 2, blk_frozen h2 3, blk_frozen h2 4⟩
  have HwB : Hid _ := hwB
  have HM : Hid (M = w1.heap.size) := hM
  have hnI : (p.1.cols.length : Int) ≤ 8 := by omega
  obtain ⟨⟨x0, x1, x2⟩, m1, m3⟩ := HS.out wB (Tch.refl _ _)
  have T0 : Tch (fun _ => False) wB wB := Tch.refl _ _
  rw [hwB] at m3
  clear hM hwB tB hMB hvB hv t1
  have h8I : ¬ (8 : Int) ≤ p.1.cols.length := by omega
  have q1 := named_any x.nm wB
  have hM0 := HM.out
  have hw := HwB.out
  rw [hw] at x0
  rw [hM0] at m3
  rw [G2.out] at q1
  clear hM0 hw x1 x2 m1
  go_wp2_with fail
  have hw := HwB.out
  rw [← hw, ← HM.out]
  clear hw x0 m3
  refine q1.mono ?_
  rintro y wB' ⟨rfl, hwB'⟩
  obtain rfl := hwB'.symm
  clear hwB' q1
  go_wp2_with fail
  go_loopw [11] (fun i wr => ∃ m : Nat, i = .int .i64 m ∧ m ≤ p.1.cols.length ∧ Hid (Tch (fun _ => False) wB wr)) (fun i _ => p.1.cols.length - (intOf i).toNat)
  case atStart => exact ⟨0, rfl, by omega, T0⟩
  case round =>
    obtain ⟨m, rfl, hm, HTw⟩ := hrel
    obtain ⟨⟨x0, x1, x2⟩, m1, m3⟩ := HS.out wr HTw.out
    by_cases hlt : (m : Int) < p.1.cols.length
    · have hml : m < p.1.cols.length := by omega
      obtain ⟨vg, vx, rfl, d0⟩ := HA.out wr HTw.out m hml
      obtain ⟨y, hy⟩ : ∃ y, y = p.1.cols[m].nm := ⟨_, rfl⟩
      rw [← hy] at d0
      have hne := str_ne (show ¬ y = x.nm from fun e => G3.out m hml (by rw [← hy]; exact e))
      clear hy
      go_wp2_with fail
      go_quiet (fail)
      go_wp2_with fail
      go_roundw
      case rel => exact ⟨m + 1, by go_num, by omega, HTw.out.drewN _⟩
      case measure => simp [intOf]; omega
    · have q2 := rkind_any x.k wr
      rw [G4.out] at q2
      rw [G5.out] at x2
      have hvv : ¬ (2147483647 : Int) ≤ p.1.ver := by omega
      go_wp2_with fail
      refine q2.mono ?_
      rintro y wr' ⟨rfl, hwr'⟩
      obtain rfl := hwr'.symm
      clear hwr' q2
      obtain ⟨wX, hwX⟩ : ∃ wX, wX = wr.alloc (.cells #[.string x.nm, .int .i64 x.k, .bool true] 43) := ⟨_, rfl⟩
      have tX : Tch (fun _ => False) wB wX := by rw [hwX]; exact HTw.out.allocR _
      have HOX : Hid (wX.ownsRow w0'.heap.size 43 3 (.slice vo p.1.cols.length vc) p.1.cols.length (ccl p.1.cols)) := own_tch HVB.out tX (fun _ _ h => h)
      have HNX : Hid (∀ j u, ([.string x.nm, .int .i64 x.k, .bool true] : List Value)[j]? = some u → wX.cell? ((⟨wr.heap.size, 0, none⟩ : Addr).add j) = some u) := by rw [hwX]; exact World.news_of_block (alloc_new wr _)
      have HwX : Hid _ := hwX
      have HtX : Hid (Tch (fun _ => False) wB wX) := tX
      have HszX : Hid (w0'.heap.size ≤ wX.heap.size) := by have := tX.size; have := HsB.out; show _ ≤ _; omega
      clear hwX tX
      go_wp2_with (at_builtin; have hwX := HwX.out; rw [← hwX]; clear hwX; refine wpList_append_keeps _ rfl _ _ 34 rfl w0'.heap.size 43 i0 (.agg #[.string ⟨#[]⟩, .int .i64 0, .bool false]) 3 32 Try.underlying34 hi0 hz0 hz1 hz2 rfl (by decide) (.slice vo p.1.cols.length vc) p.1.cols.length (ccl p.1.cols) rfl HOX.out ⟨wr.heap.size, 0, none⟩ 1 1 [.string x.nm, .int .i64 x.k, .bool true] rfl rfl HNX.out (by simp [Value.oneCell']) (by unfold maxLen; omega) (by omega) HszX.out ?_; intro v7 w7 hown7 hgr7 hat7 _; have HV7 : Hid (w7.ownsRow w0'.heap.size 43 3 v7 (p.1.cols.length + 1) (ccl (p.1.cols ++ [x]))) := (by show World.ownsRow _ _ _ _ _ _ _; rw [ccl_snoc, G5.out]; exact hown7); have HT7 : Hid (Tch (fun i => (Value.slice vo p.1.cols.length vc).ownBlock = some i) wB w7) := ((HtX.out.mono (fun _ _ h => h.elim)).trans' (grown_at (Tch.refl (fun _ => False) wX) hgr7)); have Hat7 : Hid (∀ g, v7.ownBlock = some g → (Value.slice vo p.1.cols.length vc).ownBlock = some g ∨ wB.heap.size ≤ g) := (fun g e => by rcases hat7 with e2 | e2; { rw [e2] at e; exact Or.inl e }; { rw [e2] at e; injection e with e; have := HtX.out.size; right; omega }); obtain ⟨o7, c7, hv7⟩ := row_slice HV7.out; subst hv7; obtain ⟨⟨b0, _⟩, ⟨k0, k1, k2, k3, k4⟩, l0, l1, l2, l3, l4⟩ := HC7.out w7 HT7.out; clear hown7 hgr7 hat7 x0 x1 x2 m1 m3)
      obtain ⟨wQ, hwQ⟩ : ∃ wQ, wQ = ((w7.setCell ⟨M, 3, none⟩ (.slice o7 (p.1.cols.length + 1) c7)).setCell ⟨M, 1, none⟩ (.int .i64 (p.1.ver + 1))) := ⟨_, rfl⟩
      have hMQ : wQ.heap[M]? = some (.cells #[.int .i64 p.1.id, .int .i64 (p.1.ver + 1), .string p.1.nm, .slice o7 (p.1.cols.length + 1) c7, .int .i64 p.1.key] 36 (0, 0)) := by
        have h1 : w7.heap[M]? = some (.cells #[.int .i64 p.1.id, .int .i64 p.1.ver, .string p.1.nm, .slice vo p.1.cols.length vc, .int .i64 p.1.key] 36 (0, 0)) := by rw [HT7.out.block M (blk_lt HNB.out.2.2) (fun e => by have := HVM.out M e; omega)]; exact HNB.out.2.2
        rw [hwQ, blk_set (blk_set h1 _) _]; rfl
      have t7Q : Tch (fun i => i = M) w7 wQ := by rw [hwQ]; exact (Tch.setCell (fun i => i = M) w7 ⟨M, 3, none⟩ _ rfl).setCellR ⟨M, 1, none⟩ _ rfl
      have twQ : Tch (fun _ => False) w wQ := by
        have h1 := HsB.out
        exact (HTB.out.trans HT7.out (fun i hi e => by have := (HVB.out.lt i e).1; omega)).trans t7Q (fun i hi e => by omega)
      obtain ⟨C, hC⟩ : ∃ C : List Value → World → Prop, C = fun s W => match s with
        | [] => Tch (fun _ => False) wQ W
        | _ => False := ⟨_, rfl⟩
      have hK : ∀ s W, C s W → W.cell? ⟨b, 0, none⟩ = some (.slice (some ⟨T, 0, none⟩) n tc) ∧ (W.cell? ⟨M, 0, none⟩ = some (.int .i64 p.1.id) ∧ W.cell? ⟨M, 1, none⟩ = some (.int .i64 (p.1.ver + 1)) ∧ W.cell? ⟨M, 2, none⟩ = some (.string p.1.nm) ∧ W.cell? ⟨M, 3, none⟩ = some (.slice o7 (p.1.cols.length + 1) c7) ∧ W.cell? ⟨M, 4, none⟩ = some (.int .i64 p.1.key)) := fun s W h => by
        rw [hC] at h
        match s, h with
        | [], h =>
          have h2 : W.heap[M]? = some (.cells #[.int .i64 p.1.id, .int .i64 (p.1.ver + 1), .string p.1.nm, .slice o7 (p.1.cols.length + 1) c7, .int .i64 p.1.key] 36 (0, 0)) := by rw [Tch.block h M (blk_lt hMQ) (fun h => h)]; exact hMQ
          have hB : W.heap[b]? = some (.cells #[.slice (some ⟨T, 0, none⟩) P.length tc, .int .i64 nx] 57 (0, 0)) := by rw [(twQ.trans' h).block b (blk_lt H.out.blk) (fun h => h)]; exact H.out.blk
          exact ⟨by rw [blk_cell hB, Hn.out]; rfl, by rw [blk_cell h2]; rfl, by rw [blk_cell h2]; rfl, by rw [blk_cell h2]; rfl, by rw [blk_cell h2]; rfl, by rw [blk_cell h2]; rfl⟩
      have h0' : C [] wQ.drew := by rw [hC]; exact (Tch.refl _ _).drew
      have Hfin : Hid (∀ W, C [] W → Tch (fun _ => False) wQ W) := fun W h => by rw [hC] at h; exact h
      have HwQ : Hid _ := hwQ
      have HMQ : Hid _ := hMQ
      have Ht7Q : Hid (Tch (fun i => i = M) w7 wQ) := t7Q
      have HtwQ : Hid (Tch (fun _ => False) w wQ) := twQ
      rw [← hwQ]
      clear hC hwQ hMQ t7Q twQ b0 k0 k1 k2 k3 k4 l0 l1 l2 l3 l4
      refine wp_region_ordv [] C 7 [0, 1, 2, 3, 4, 5, 6] (by kernel_rfl) (by kernel_rfl) h0' ?_
      clear h0'
      refine ordv_read rfl (by go_simp) (by rfl) ?_
      apply Exists.intro
      refine ⟨fun s' W hW b K Q hK' => ?_, fun K hK' => ?_⟩
      · obtain ⟨q0, x0, x1, x2, x3, x4⟩ := hK _ W hW
        go_simp
        exact hK' W hW
      go_simp
      refine hK' _ ?_
      clear hK' K
      refine ordv_read rfl (by go_simp) (by rfl) ?_
      apply Exists.intro
      refine ⟨fun s' W hW b K Q hK' => ?_, fun K hK' => ?_⟩
      · obtain ⟨q0, x0, x1, x2, x3, x4⟩ := hK _ W hW
        go_simp
        exact hK' W hW
      go_simp
      refine hK' _ ?_
      clear hK' K
      refine ordv_read rfl (by go_simp) (by rfl) ?_
      apply Exists.intro
      refine ⟨fun s' W hW b K Q hK' => ?_, fun K hK' => ?_⟩
      · obtain ⟨q0, x0, x1, x2, x3, x4⟩ := hK _ W hW
        go_simp
        exact hK' W hW
      go_simp
      refine hK' _ ?_
      clear hK' K
      refine ordv_read rfl (by go_simp) (by rfl) ?_
      apply Exists.intro
      refine ⟨fun s' W hW b K Q hK' => ?_, fun K hK' => ?_⟩
      · obtain ⟨q0, x0, x1, x2, x3, x4⟩ := hK _ W hW
        go_simp
        exact hK' W hW
      go_simp
      refine hK' _ ?_
      clear hK' K
      refine ordv_read rfl (by go_simp) (by rfl) ?_
      apply Exists.intro
      refine ⟨fun s' W hW b K Q hK' => ?_, fun K hK' => ?_⟩
      · obtain ⟨q0, x0, x1, x2, x3, x4⟩ := hK _ W hW
        go_simp
        exact hK' W hW
      go_simp
      refine hK' _ ?_
      clear hK' K
      refine ordv_read rfl (by go_simp) (by rfl) ?_
      apply Exists.intro
      refine ⟨fun s' W hW b K Q hK' => ?_, fun K hK' => ?_⟩
      · obtain ⟨q0, x0, x1, x2, x3, x4⟩ := hK _ W hW
        go_simp
        exact hK' W hW
      go_simp
      refine hK' _ ?_
      clear hK' K
      refine ordv_read rfl (by go_simp) (by rfl) ?_
      apply Exists.intro
      refine ⟨fun s' W hW b K Q hK' => ?_, fun K hK' => ?_⟩
      · obtain ⟨q0, x0, x1, x2, x3, x4⟩ := hK _ W hW
        go_simp
        exact hK' W hW
      go_simp
      refine hK' _ ?_
      clear hK' K
      refine ordv_nil ?_
      intro w8 hw8
      have t8 := Hfin.out w8 hw8
      clear hK hw8 Hfin
      have tw8 : Tch (fun _ => False) w w8 := HtwQ.out.trans' t8
      have hTO8 := HcP.out w8 tw8
      have hsB := HsB.out
      have hkP : k < P.length := by have := Hn.out; omega
      have hv8 : w8.ownsRow w0'.heap.size 43 3 (.slice o7 (p.1.cols.length + 1) c7) (p.1.cols.length + 1) (ccl (p.1.cols ++ [x])) := own_tch (own_tch HV7.out Ht7Q.out (fun g e e2 => by rcases Hat7.out g e with h | h; { have := HVM.out g h; omega }; { omega })) t8 (fun _ _ h => h)
      have hlt8 : ∀ g, BL (.slice (some ⟨T, 0, none⟩) P.length tc) P g → g < w.heap.size ∧ g ≠ b := fun g hg => by
        rcases hg with e | ⟨i, hi, e⟩
        · exact ⟨(H.out.to.own.lt g e).2, fun e2 => H.out.nb.1 (by rw [← e2]; exact e)⟩
        · exact ⟨((H.out.to.col i hi).lt g e).2, fun e2 => H.out.nb.2 i hi (by rw [← e2]; exact e)⟩
      have hTl := hlt8 T (Or.inl rfl)
      obtain ⟨wR, hwR⟩ : ∃ wR, wR = (((((w8.setCell ⟨T, k * 5, none⟩ (.int .i64 p.1.id)).setCell ⟨T, k * 5 + 1, none⟩ (.int .i64 (p.1.ver + 1))).setCell ⟨T, k * 5 + 2, none⟩ (.string p.1.nm)).setCell ⟨T, k * 5 + 3, none⟩ (.slice o7 (p.1.cols.length + 1) c7)).setCell ⟨T, k * 5 + 4, none⟩ (.int .i64 p.1.key)) := ⟨_, rfl⟩
      obtain ⟨hTOR, tR⟩ := hTO8.set5 (M := w0'.heap.size) hkP (widT p.1 x, .slice o7 (p.1.cols.length + 1) c7) (by show World.ownsRow _ _ _ _ _ (p.1.cols ++ [x]).length _; rw [List.length_append]; exact hv8) (Nat.zero_le _) (fun g hg => by have := (hlt8 g hg).1; omega) hwR
      have hvR : wR.ownsRow w0'.heap.size 43 3 (.slice o7 (p.1.cols.length + 1) c7) (p.1.cols.length + 1) (ccl (p.1.cols ++ [x])) := own_tch hv8 tR (fun g e e2 => by have := (hv8.lt g e).1; omega)
      have hM8 : w8.heap[M]? = some (.cells #[.int .i64 p.1.id, .int .i64 (p.1.ver + 1), .string p.1.nm, .slice o7 (p.1.cols.length + 1) c7, .int .i64 p.1.key] 36 (0, 0)) := by rw [t8.block M (blk_lt HMQ.out) (fun h => h)]; exact HMQ.out
      have hMR : wR.heap[M]? = some (.cells #[.int .i64 p.1.id, .int .i64 (p.1.ver + 1), .string p.1.nm, .slice o7 (p.1.cols.length + 1) c7, .int .i64 p.1.key] 36 (0, 0)) := by rw [tR.block M (blk_lt hM8) (by omega)]; exact hM8
      have hNR : wR.heap[N + 1]? = some (.cells #[.int .i64 0, .int .i64 0, .string ⟨#[]⟩, .slice none 0 0, .int .i64 0] 36 (0, 0)) := by
        have h1 : w7.heap[N + 1]? = some (.cells #[.int .i64 0, .int .i64 0, .string ⟨#[]⟩, .slice none 0 0, .int .i64 0] 36 (0, 0)) := by rw [HT7.out.block (N + 1) (blk_lt HNB.out.1) (fun e => by have := (HVB.out.lt _ e).1; omega)]; exact HNB.out.1
        have h2 : w8.heap[N + 1]? = some (.cells #[.int .i64 0, .int .i64 0, .string ⟨#[]⟩, .slice none 0 0, .int .i64 0] 36 (0, 0)) := by rw [t8.block (N + 1) (Nat.lt_of_lt_of_le (blk_lt h1) Ht7Q.out.size) (fun h => h), Ht7Q.out.block (N + 1) (blk_lt h1) (by omega)]; exact h1
        rw [tR.block (N + 1) (blk_lt h2) (by have := HN.out; omega)]; exact h2
      have twR : Tch (fun i => i = T) w wR := (tw8.mono (fun _ _ h => h.elim)).trans' tR
      have hBR : wR.heap[b]? = some (.cells #[.slice (some ⟨T, 0, none⟩) P.length tc, .int .i64 nx] 57 (0, 0)) := by rw [twR.block b (blk_lt H.out.blk) (fun e => hTl.2 e.symm)]; exact H.out.blk
      have q6 : Calls Try.prog 28 #[tA p.1.id (p.1.ver + 1) p.1.nm (.slice o7 (p.1.cols.length + 1) c7) p.1.key] wR fun y w' => (∃ v, y = .returned (tA p.1.id (p.1.ver + 1) p.1.nm v p.1.key) ∧ w'.ownsRow wR.heap.size 43 3 v (p.1.cols.length + 1) (ccl (p.1.cols ++ [x]))) ∧ Tch (fun _ => False) wR w' := by
        have hl9 : (widT p.1 x).cols.length = p.1.cols.length + 1 := by show (p.1.cols ++ [x]).length = _; rw [List.length_append]; rfl
        obtain ⟨co', cc', hck⟩ := own_ck (p := (widT p.1 x, .slice o7 (p.1.cols.length + 1) c7)) (by show World.ownsRow _ _ _ _ _ (p.1.cols ++ [x]).length _; rw [List.length_append]; exact hvR)
        obtain ⟨e10, e11⟩ : o7 = co' ∧ c7 = cc' := by have h9 := hck.eq; injection h9 with h10 _ h11; exact ⟨h10, h11⟩
        have h12 := rcopied_any (widT p.1 x) co' cc' wR hck.sl hck.no (by rw [hl9]; omega)
        rw [hl9, ← e10, ← e11] at h12
        exact h12
      obtain ⟨cur8, hc8b, hc8s, hkt⟩ : ∃ cur : Array Value, w8.heap[T]? = some (.cells cur 36 (0, 0)) ∧ cur.size = tc * 5 ∧ k < tc := by
        rcases hTO8.own.2 with ⟨h1, _⟩ | ⟨g, cap, cur, hv, hb0, hg, hnc, hcm, hcs, htk⟩
        · injection h1 with h1; cases h1
        · injection hv with e1 e2 e3
          injection e1 with e1
          injection e1 with e1
          subst e1 e3
          exact ⟨cur, hg, hcs, by omega⟩
      obtain ⟨⟨zz0, e0⟩, ⟨zz1, e1⟩, ⟨zz2, e2⟩, ⟨zz3, e3⟩, ⟨zz4, e4⟩, hf⟩ := set5_cells hc8b hc8s hkt (.int .i64 p.1.id) (.int .i64 (p.1.ver + 1)) (.string p.1.nm) (.slice o7 (p.1.cols.length + 1) c7)
      have f0 := hf (k * 5); have f1 := hf (k * 5 + 1); have f2 := hf (k * 5 + 2); have f3 := hf (k * 5 + 3); have f4 := hf (k * 5 + 4)
      obtain ⟨y0, y1, y2, y3, y4⟩ : wR.cell? ⟨M, 0, none⟩ = some (.int .i64 p.1.id) ∧ wR.cell? ⟨M, 1, none⟩ = some (.int .i64 (p.1.ver + 1)) ∧ wR.cell? ⟨M, 2, none⟩ = some (.string p.1.nm) ∧ wR.cell? ⟨M, 3, none⟩ = some (.slice o7 (p.1.cols.length + 1) c7) ∧ wR.cell? ⟨M, 4, none⟩ = some (.int .i64 p.1.key) := ⟨by rw [blk_cell hMR]; rfl, by rw [blk_cell hMR]; rfl, by rw [blk_cell hMR]; rfl, by rw [blk_cell hMR]; rfl, by rw [blk_cell hMR]; rfl⟩
      have HwR : Hid _ := hwR
      rw [hwR] at y0 y1 y2 y3 y4
      have HNR : Hid _ := hNR
      have HBR : Hid _ := hBR
      have HvR : Hid (wR.ownsRow w0'.heap.size 43 3 (.slice o7 (p.1.cols.length + 1) c7) (p.1.cols.length + 1) (ccl (p.1.cols ++ [x]))) := hvR
      have HTOR : Hid (TO wR 0 (.slice (some ⟨T, 0, none⟩) (P.set k (widT p.1 x, .slice o7 (p.1.cols.length + 1) c7)).length tc) (P.set k (widT p.1 x, .slice o7 (p.1.cols.length + 1) c7))) := hTOR
      have HtwR : Hid (Tch (fun i => i = T) w wR) := twR
      have Hlt8 : Hid _ := hlt8
      have HsN : Hid (w.heap.size ≤ wR.heap.size) := twR.size
      clear t8 tw8 hTO8 hsB hv8 hlt8 hTl hwR hTOR tR hvR hM8 hMR hNR twR hBR hc8b hc8s hkt hf
      go_wp2_with fail
      have hwR := HwR.out
      rw [← hwR]
      clear hwR y0 y1 y2 y3 y4 e0 e1 e2 e3 e4 f0 f1 f2 f3 f4
      refine q6.mono ?_
      rintro y w9 ⟨⟨v9, rfl, hv9⟩, t9⟩
      clear q6
      obtain ⟨o9, c9, hvv9⟩ := row_slice hv9
      subst hvv9
      have hN9 : w9.heap[N + 1]? = some (.cells #[.int .i64 0, .int .i64 0, .string ⟨#[]⟩, .slice none 0 0, .int .i64 0] 36 (0, 0)) := by rw [t9.block (N + 1) (blk_lt HNR.out) (fun h => h)]; exact HNR.out
      obtain ⟨z0, z1, z2, z3, z4⟩ : w9.cell? ⟨N + 1, 0, none⟩ = some (.int .i64 0) ∧ w9.cell? ⟨N + 1, 1, none⟩ = some (.int .i64 0) ∧ w9.cell? ⟨N + 1, 2, none⟩ = some (.string ⟨#[]⟩) ∧ w9.cell? ⟨N + 1, 3, none⟩ = some (.slice none 0 0) ∧ w9.cell? ⟨N + 1, 4, none⟩ = some (.int .i64 0) := ⟨by rw [blk_cell hN9]; rfl, by rw [blk_cell hN9]; rfl, by rw [blk_cell hN9]; rfl, by rw [blk_cell hN9]; rfl, by rw [blk_cell hN9]; rfl⟩
      have f0 := blk_frozen hN9 0; have f1 := blk_frozen hN9 1; have f2 := blk_frozen hN9 2; have f3 := blk_frozen hN9 3; have f4 := blk_frozen hN9 4
      have HFin : Hid (∀ W', W' = ((((w9.setCell ⟨N + 1, 0, none⟩ (.int .i64 p.1.id)).setCell ⟨N + 1, 1, none⟩ (.int .i64 (p.1.ver + 1))).setCell ⟨N + 1, 2, none⟩ (.string p.1.nm)).setCell ⟨N + 1, 3, none⟩ (.slice o9 (p.1.cols.length + 1) c9)).setCell ⟨N + 1, 4, none⟩ (.int .i64 p.1.key) → (∀ tmps : Array Value, tmps[6]?.getD undef = .pointer (some ⟨N + 1, 0, none⟩) → tmps[7]?.getD undef = .int .i64 0 → (results Try.f24 tmps).run Try.prog W' = .ok (.tuple #[tA p.1.id (p.1.ver + 1) p.1.nm (.slice o9 (p.1.cols.length + 1) c9) p.1.key, .int .i64 0]) W') ∧ RChg b 0 (widT p.1 x) (L.set k (widT p.1 x)) nx P (.slice (some ⟨T, 0, none⟩) P.length tc) w (.returned (.tuple #[tA p.1.id (p.1.ver + 1) p.1.nm (.slice o9 (p.1.cols.length + 1) c9) p.1.key, .int .i64 0])) W') := fun W' hW' => by
        have tE : Tch (fun i => i = N + 1) w9 W' := by rw [hW']; exact ((((Tch.setCell (fun i => i = N + 1) w9 ⟨N + 1, 0, none⟩ _ rfl).setCellR ⟨N + 1, 1, none⟩ _ rfl).setCellR ⟨N + 1, 2, none⟩ _ rfl).setCellR ⟨N + 1, 3, none⟩ _ rfl).setCellR ⟨N + 1, 4, none⟩ _ rfl
        have hb' : W'.heap[N + 1]? = some (.cells #[.int .i64 p.1.id, .int .i64 (p.1.ver + 1), .string p.1.nm, .slice o9 (p.1.cols.length + 1) c9, .int .i64 p.1.key] 36 (0, 0)) := by
          rw [hW', blk_set (blk_set (blk_set (blk_set (blk_set hN9 _) _) _) _) _]; rfl
        have tRE : Tch (fun i => i = N + 1) wR W' := (t9.mono (fun _ _ h => h.elim)).trans' tE
        have hNw := HN.out
        have hsR := blk_lt HNR.out
        have hsN := HsN.out
        have hsB := HsB.out
        have hbl := blk_lt H.out.blk
        have hTOR := HTOR.out
        have hBLs : ∀ g, BL (.slice (some ⟨T, 0, none⟩) (P.set k (widT p.1 x, .slice o7 (p.1.cols.length + 1) c7)).length tc) (P.set k (widT p.1 x, .slice o7 (p.1.cols.length + 1) c7)) g → (BL (.slice (some ⟨T, 0, none⟩) P.length tc) P g ∨ w0'.heap.size ≤ g) ∧ g < wR.heap.size := fun g hg => by
          rcases hg with e | ⟨i, hi, e⟩
          · exact ⟨Or.inl (Or.inl e), (hTOR.own.lt g e).2⟩
          · refine ⟨?_, ((hTOR.col i hi).lt g e).2⟩
            have hi' : i < P.length := by rw [List.length_set] at hi; exact hi
            by_cases hik : i = k
            · subst hik
              simp only [List.getElem_set_self] at e
              exact Or.inr (World.ownsRow.lt HvR.out g e).1
            · simp only [List.getElem_set_ne (fun h => hik h.symm)] at e
              exact Or.inl (Or.inr ⟨i, hi', e⟩)
        have hnb : ∀ g, BL (.slice (some ⟨T, 0, none⟩) (P.set k (widT p.1 x, .slice o7 (p.1.cols.length + 1) c7)).length tc) (P.set k (widT p.1 x, .slice o7 (p.1.cols.length + 1) c7)) g → g ≠ b ∧ g ≠ N + 1 := fun g hg => by
          rcases (hBLs g hg).1 with h | h
          · have := Hlt8.out g h; exact ⟨this.2, by omega⟩
          · exact ⟨by omega, by omega⟩
        have hl9 : (p.1.cols ++ [x]).length = p.1.cols.length + 1 := by rw [List.length_append]; rfl
        have hTOE := hTOR.tch2 tRE (fun g e e2 => (hnb g (Or.inl e)).2 e2) (fun i hi g e e2 => (hnb g (Or.inr ⟨i, hi, e⟩)).2 e2)
        have hBE : W'.heap[b]? = some (.cells #[.slice (some ⟨T, 0, none⟩) (P.set k (widT p.1 x, .slice o7 (p.1.cols.length + 1) c7)).length tc, .int .i64 nx] 57 (0, 0)) := by rw [tRE.block b (blk_lt HBR.out) (by omega), List.length_set]; exact HBR.out
        refine ⟨fun tmps h4 h5 => res_pair hrs h4 h5 (by rw [blk_cell hb']; rfl) (by rw [blk_cell hb']; rfl) (by rw [blk_cell hb']; rfl) (by rw [blk_cell hb']; rfl) (by rw [blk_cell hb']; rfl), fun _ => ⟨_, (P.set k (widT p.1 x, .slice o7 (p.1.cols.length + 1) c7)), _, rfl, ?_, ⟨hBE, Nat.zero_le _, ?_, hTOE, fun e => (hnb b (Or.inl e)).1 rfl, fun i hi e => (hnb b (Or.inr ⟨i, hi, e⟩)).1 rfl⟩, fun g hg => (hBLs g hg).1.imp id (fun h => by omega), fun g e => ⟨Or.inr (by have := (hv9.lt g e).1; omega), fun e2 => by have := (hv9.lt g e).1; omega, fun hg => by have := (hv9.lt g e).1; have := (hBLs g hg).2; omega⟩, ?_⟩, fun e => absurd rfl e⟩
        · show World.ownsRow _ _ _ _ _ (p.1.cols ++ [x]).length (ccl (p.1.cols ++ [x]))
          rw [hl9]
          exact own_low (own_tch hv9 tE (fun g e e2 => by have := (hv9.lt g e).1; omega)) (Nat.zero_le _)
        · rw [List.map_set, H.out.eq]
        · exact (HtwR.out.mono (fun i _ h => Or.inr (Or.inl (by rw [h]; rfl)))).trans tRE (fun i hi h => by omega)
      clear hN9 hv9 t9
      go_wp2_with fail
      refine bodyPost_ret ((HFin.out _ rfl).1 _ ?_ ?_) rfl (HFin.out _ rfl).2 <;> rfl
end Go.Proofs.Ytolamjipigfocaa
/- sameTables, of two lists that are the same. -/
namespace Go.Proofs.Ytolamjipigfocaa
open Go.RowKit Go

set_option maxHeartbeats 2000000 in
set_option maxRecDepth 100000 in
theorem sames_true (A B : List (Tbl × Value)) (ao bo : Option Addr) (ac bc : Nat) (F G : Nat → Prop) (w : World) (hA : TL w F ao A) (hB : TL w G bo B) (hAB : A.map Prod.fst = B.map Prod.fst) (hl : A.length ≤ 16) (h8 : ∀ i (hi : i < A.length), A[i].1.cols.length ≤ 8) :
    Calls Try.prog 58 #[.slice ao A.length ac, .slice bo B.length bc] w fun x w' => x = .returned (.bool true) ∧ Tch (fun _ => False) w w' := by
  obtain ⟨n, hn⟩ : ∃ n, n = A.length := ⟨_, rfl⟩
  have hBl : B.length = n := by have h3 := congrArg List.length hAB; rw [List.length_map, List.length_map] at h3; omega
  have hAi : ∀ i (hi : i < A.length), ∀ hj : i < B.length, A[i].1 = B[i].1 := fun i hi hj => by
    have h3 : (A.map Prod.fst)[i]? = (B.map Prod.fst)[i]? := by rw [hAB]
    rw [List.getElem?_map, List.getElem?_map, List.getElem?_eq_getElem hi, List.getElem?_eq_getElem hj] at h3
    simpa using h3
  have HA : Hid (TL w F ao A) := hA
  have HB : Hid (TL w G bo B) := hB
  have HAi : Hid _ := hAi
  have H8 : Hid _ := h8
  have Hn : Hid (n = A.length ∧ B.length = n) := ⟨hn, hBl⟩
  have hn16 : n ≤ 16 := by omega
  rw [hBl, ← hn]
  clear hA hB hAi hAB h8 hn hBl hl
  go_enter Try.func58, Try.ntmps58
  go_wp2_with fail
  go_loopw [5] (fun i wr => ∃ k : Nat, i = .int .i64 k ∧ k ≤ n ∧ Hid (Tch (fun _ => False) w wr)) (fun i _ => n - (intOf i).toNat)
  case atStart => exact ⟨0, rfl, by omega, Tch.refl _ _⟩
  case round =>
    obtain ⟨k, rfl, hk, HT⟩ := hrel
    obtain ⟨wV, hwV⟩ : ∃ wV, wV = wr := ⟨_, rfl⟩
    subst hwV
    by_cases hlt : (k : Int) < n
    · have hkA : k < A.length := by have := Hn.out; omega
      have hkB : k < B.length := by have := Hn.out; omega
      have hTA := HA.out.tch HT.out (fun _ _ h => h.elim)
      have hTB := HB.out.tch HT.out (fun _ _ h => h.elim)
      obtain ⟨ga, oa, rfl, a0, a1, a2, a3, a4⟩ := hTA.at k hkA
      obtain ⟨gb, ob, rfl, b0, b1, b2, b3, b4⟩ := hTB.at k hkB
      obtain ⟨ca, cca, hca⟩ := hTA.col k hkA
      obtain ⟨cb, ccb, hcb⟩ := hTB.col k hkB
      obtain ⟨t, ht⟩ : ∃ t, t = A[k].1 := ⟨_, rfl⟩
      have ht2 : B[k].1 = t := by rw [ht]; exact (HAi.out k hkA hkB).symm
      have e1 : A[k].2 = .slice ca t.cols.length cca := by rw [ht]; exact hca.eq
      have e2 : B[k].2 = .slice cb t.cols.length ccb := by rw [← ht2]; exact hcb.eq
      rw [← ht] at a0 a1 a2 a4
      rw [ht2] at b0 b1 b2 b4
      rw [e1] at a3
      rw [e2] at b3
      obtain ⟨m, hm⟩ : ∃ m, m = t.cols.length := ⟨_, rfl⟩
      rw [← hm] at a3 b3
      have hsa : SL wV ca (ccl t.cols) := by rw [ht]; exact hca.sl
      have hsb : SL wV cb (ccl t.cols) := by rw [← ht2]; exact hcb.sl
      have h8t : t.cols.length ≤ 8 := by rw [ht]; exact H8.out k hkA
      have Hq : Hid (∀ W, Tch (fun _ => False) wV W → Calls Try.prog 44 #[tA t.id t.ver t.nm (.slice ca m cca) t.key, tA t.id t.ver t.nm (.slice cb m ccb) t.key] W fun x w' => x = .returned (.bool true) ∧ Tch (fun _ => False) W w') := fun W tW => by
        rw [hm]; exact same_true t ca cb cca ccb W (hsa.no tW) (hsb.no tW) h8t
      have HS : Hid (∀ W, Tch (fun _ => False) wV W → Tch (fun _ => False) wV W ∧ (W.cell? ⟨ga, oa + k * 5, none⟩ = some (.int .i64 t.id) ∧ W.cell? ⟨ga, oa + k * 5 + 1, none⟩ = some (.int .i64 t.ver) ∧ W.cell? ⟨ga, oa + k * 5 + 2, none⟩ = some (.string t.nm) ∧ W.cell? ⟨ga, oa + k * 5 + 3, none⟩ = some (.slice ca m cca) ∧ W.cell? ⟨ga, oa + k * 5 + 4, none⟩ = some (.int .i64 t.key)) ∧ (W.cell? ⟨gb, ob + k * 5, none⟩ = some (.int .i64 t.id) ∧ W.cell? ⟨gb, ob + k * 5 + 1, none⟩ = some (.int .i64 t.ver) ∧ W.cell? ⟨gb, ob + k * 5 + 2, none⟩ = some (.string t.nm) ∧ W.cell? ⟨gb, ob + k * 5 + 3, none⟩ = some (.slice cb m ccb) ∧ W.cell? ⟨gb, ob + k * 5 + 4, none⟩ = some (.int .i64 t.key))) := fun W tW => by
        have key : ∀ (a : Addr) u, wV.cell? a = some u → W.cell? a = some u := fun a u h => by rw [tW.cell (p := a) (cell_lt h) (fun h => h)]; exact h
        exact ⟨tW, ⟨key _ _ a0, key _ _ a1, key _ _ a2, key _ _ a3, key _ _ a4⟩, key _ _ b0, key _ _ b1, key _ _ b2, key _ _ b3, key _ _ b4⟩
      clear hTA hTB hca hcb ht ht2 e1 e2 hm hsa hsb h8t
      go_wp2_with fail
      clear a0 a1 a2 a3 a4 b0 b1 b2 b3 b4
      obtain ⟨_, ⟨a0, a1, a2, a3, a4⟩, b0, b1, b2, b3, b4⟩ := HS.out wV (Tch.refl _ _)
      go_region_held3 (fun W => Tch (fun _ => False) wV W ∧ (W.cell? ⟨ga, oa + k * 5, none⟩ = some (.int .i64 t.id) ∧ W.cell? ⟨ga, oa + k * 5 + 1, none⟩ = some (.int .i64 t.ver) ∧ W.cell? ⟨ga, oa + k * 5 + 2, none⟩ = some (.string t.nm) ∧ W.cell? ⟨ga, oa + k * 5 + 3, none⟩ = some (.slice ca m cca) ∧ W.cell? ⟨ga, oa + k * 5 + 4, none⟩ = some (.int .i64 t.key)) ∧ (W.cell? ⟨gb, ob + k * 5, none⟩ = some (.int .i64 t.id) ∧ W.cell? ⟨gb, ob + k * 5 + 1, none⟩ = some (.int .i64 t.ver) ∧ W.cell? ⟨gb, ob + k * 5 + 2, none⟩ = some (.string t.nm) ∧ W.cell? ⟨gb, ob + k * 5 + 3, none⟩ = some (.slice cb m ccb) ∧ W.cell? ⟨gb, ob + k * 5 + 4, none⟩ = some (.int .i64 t.key)))
        ((refine HS.out _ ?_; first | assumption | exact (Tch.refl _ _).drew))
        ((go_at_call 44; refine (Hq.out _ (show _ ∧ _ by assumption).1).mono ?_; rintro y w5 ⟨rfl, t5⟩; have V5 := Tch.trans' (show _ ∧ _ by assumption).1 t5))
      go_wp2_with fail
      go_roundw
      case rel => exact ⟨k + 1, by go_num, by omega, HT.out.trans' V5⟩
      case measure => simp [intOf]; omega
    · go_wp2_with fail
      go_ret
      exact ⟨rfl, HT.out⟩
end Go.Proofs.Ytolamjipigfocaa
/- Owners of blocks. -/
namespace Go.Proofs.Ytolamjipigfocaa
open Go.RowKit Go

/-- Owners: what a step of the owners K does. -/
structure Ev (K : Nat → Prop) (w : World) (o : Nat → Nat) (w' : World) (o' : Nat → Nat) : Prop where
  tch : Tch (fun i => K (o i)) w w'
  old : ∀ i, i < w.heap.size → ¬ K (o i) → o' i = o i
  own : ∀ i, i < w.heap.size → K (o i) → K (o' i)
  new : ∀ i, w.heap.size ≤ i → i < w'.heap.size → K (o' i)
def Oth (w : World) (o : Nat → Nat) (k : Nat) : Nat → Prop := fun i => i < w.heap.size ∧ o i ≠ k
theorem Ev.oth {K : Nat → Prop} {w w' : World} {o o' : Nat → Nat} (e : Ev K w o w' o') {k : Nat} (hk : ¬ K k) {i : Nat} (h : Oth w' o' k i) : Oth w o k i ∨ (w.heap.size ≤ i ∧ i < w'.heap.size) := by
  rcases Nat.lt_or_ge i w.heap.size with hi | hi
  · refine Or.inl ⟨hi, fun e1 => h.2 ?_⟩
    rw [e.old i hi (by rw [e1]; exact hk), e1]
  · exact Or.inr ⟨hi, h.1⟩
theorem Ev.trans {K : Nat → Prop} {a b c : World} {o o1 o2 : Nat → Nat} (h : Ev K a o b o1) (g : Ev K b o1 c o2) : Ev K a o c o2 := by
  refine ⟨?_, fun i hi hn => ?_, fun i hi hk => g.own i (Nat.lt_of_lt_of_le hi h.tch.size) (h.own i hi hk), fun i hi hc => ?_⟩
  · refine h.tch.trans g.tch (fun i hi hk => Classical.byContradiction fun hn => ?_)
    rw [h.old i hi hn] at hk
    exact hn hk
  · have := h.old i hi hn
    rw [g.old i (Nat.lt_of_lt_of_le hi h.tch.size) (by rw [this]; exact hn), this]
  · rcases Nat.lt_or_ge i b.heap.size with hb | hb
    · exact g.own i hb (h.new i hi hb)
    · exact g.new i hb hc
theorem Ev.mono {K M : Nat → Prop} {a b : World} {o o1 : Nat → Nat} (h : Ev K a o b o1) (hM : ∀ k, K k → M k) : Ev M a o b o1 := by
  refine ⟨h.tch.mono (fun i _ hk => hM _ hk), fun i hi hn => h.old i hi (fun hk => hn (hM _ hk)), fun i hi hk => ?_, fun i hi hb => hM _ (h.new i hi hb)⟩
  by_cases hK : K (o i)
  · exact hM _ (h.own i hi hK)
  · rw [h.old i hi hK]; exact hk
theorem Ev.refl {K : Nat → Prop} (w : World) (o : Nat → Nat) : Ev K w o w o := ⟨Tch.refl _ _, fun _ _ _ => rfl, fun _ _ h => h, fun i hi hl => by omega⟩
theorem Ev.drew {K : Nat → Prop} (w : World) (o : Nat → Nat) (q : Nat) : Ev K w o (w.drewN q) o :=
  ⟨(Tch.refl (fun _ => False) w).drewN q |>.mono (fun _ _ h => h.elim), fun _ _ _ => rfl, fun _ _ h => h, fun i hi hl => by simp at hl; omega⟩
def ext (w : World) (o : Nat → Nat) (k : Nat) : Nat → Nat := fun i => if i < w.heap.size then o i else k
/-- Nothing was turned, something may have been made. -/
theorem Ev.quiet {w w' : World} {o : Nat → Nat} (k : Nat) (t : Tch (fun _ => False) w w') : Ev (fun j => j = k) w o w' (ext w o k) :=
  ⟨t.mono (fun _ _ h => h.elim), fun i hi _ => if_pos hi, fun i hi e => by show ext w o k i = k; unfold ext; rw [if_pos hi]; exact e, fun i hi _ => if_neg (by omega)⟩
def extv (w : World) (o : Nat → Nat) (k : Nat) (v : Value) (kv : Nat) : Nat → Nat := fun i => if v.ownBlock = some i then kv else if i < w.heap.size then o i else k
theorem extv_old {w : World} {o : Nat → Nat} {k kv : Nat} {v : Value} {i : Nat} (h1 : v.ownBlock ≠ some i) (h2 : i < w.heap.size) : extv w o k v kv i = o i := by
  unfold extv; rw [if_neg h1, if_pos h2]
theorem extv_v {w : World} {o : Nat → Nat} {k kv : Nat} {v : Value} {i : Nat} (h1 : v.ownBlock = some i) : extv w o k v kv i = kv := if_pos h1
theorem extv_new {w : World} {o : Nat → Nat} {k kv : Nat} {v : Value} {i : Nat} (h1 : v.ownBlock ≠ some i) (h2 : w.heap.size ≤ i) : extv w o k v kv i = k := by
  unfold extv; rw [if_neg h1, if_neg (by omega)]
theorem Ev.extv {w w' : World} {o : Nat → Nat} {k kv : Nat} {v : Value} {S : Nat → Prop} (t : Tch S w w') (hS : ∀ i, i < w.heap.size → S i → o i = k) (hv : ∀ g, v.ownBlock = some g → o g = k ∨ w.heap.size ≤ g) : Ev (fun j => j = k ∨ j = kv) w o w' (extv w o k v kv) := by
  refine ⟨t.mono (fun i hi h => Or.inl (hS i hi h)), fun i hi hn => ?_, fun i hi hk => ?_, fun i hi hl => ?_⟩
  · refine extv_old (fun e => ?_) hi
    rcases hv i e with h | h
    · exact hn (Or.inl h)
    · omega
  · by_cases e : v.ownBlock = some i
    · exact Or.inr (extv_v e)
    · show Go.Proofs.Ytolamjipigfocaa.extv w o k v kv i = k ∨ Go.Proofs.Ytolamjipigfocaa.extv w o k v kv i = kv
      rw [extv_old e hi]; exact hk
  · by_cases e : v.ownBlock = some i
    · exact Or.inr (extv_v e)
    · exact Or.inl (extv_new e hi)
/-- Columns that an owner has alone. -/
structure RowC (w : World) (o : Nat → Nat) (k : Nat) (v : Value) (l : List Col) : Prop where
  row : w.ownsRow 0 43 3 v l.length (ccl l)
  lab : ∀ g, v.ownBlock = some g → o g = k
theorem RowC.ev {K : Nat → Prop} {w w' : World} {o o' : Nat → Nat} {k : Nat} {v : Value} {l : List Col} (h : RowC w o k v l) (e : Ev K w o w' o') (hk : ¬ K k) : RowC w' o' k v l := by
  refine ⟨own_tch h.row e.tch (fun g hg hs => hk (by rw [← h.lab g hg]; exact hs)), fun g hg => ?_⟩
  rw [e.old g (h.row.lt g hg).2 (by rw [h.lab g hg]; exact hk), h.lab g hg]
theorem RowC.nil (w : World) (o : Nat → Nat) (k : Nat) : RowC w o k (.slice none 0 0) [] := ⟨⟨rfl, Or.inl ⟨rfl, rfl⟩⟩, fun g e => by cases e⟩
/-- Tables that an owner has alone. -/
structure TabsO (w : World) (o : Nat → Nat) (k : Nat) (v : Value) (P : List (Tbl × Value)) : Prop where
  to : TO w 0 v P
  lab : ∀ g, BL v P g → o g = k
theorem TO.bl_lt {w : World} {base : Nat} {v : Value} {P : List (Tbl × Value)} (h : TO w base v P) {g : Nat} (hg : BL v P g) : base ≤ g ∧ g < w.heap.size := by
  rcases hg with e | ⟨i, hi, e⟩
  · exact h.own.lt g e
  · exact (h.col i hi).lt g e
theorem TO.low {w : World} {base : Nat} {v : Value} {P : List (Tbl × Value)} (h : TO w base v P) : TO w 0 v P := ⟨own_low h.own (Nat.zero_le _), fun i hi => own_low (h.col i hi) (Nat.zero_le _), h.sep, h.dis⟩
theorem TabsO.ev {K : Nat → Prop} {w w' : World} {o o' : Nat → Nat} {k : Nat} {v : Value} {P : List (Tbl × Value)} (h : TabsO w o k v P) (e : Ev K w o w' o') (hk : ¬ K k) : TabsO w' o' k v P := by
  refine ⟨h.to.tch2 e.tch (fun g hg hs => hk (by rw [← h.lab g (Or.inl hg)]; exact hs)) (fun i hi g hg hs => hk (by rw [← h.lab g (Or.inr ⟨i, hi, hg⟩)]; exact hs)), fun g hg => ?_⟩
  rw [e.old g (h.to.bl_lt hg).2 (by rw [h.lab g hg]; exact hk), h.lab g hg]
/-- The code's catalog, the document's: all its blocks are an owner's. -/
def CF (w : World) (o : Nat → Nat) (k b : Nat) (L : List Tbl) (gv : Int) : Prop := ∃ P to tc, CA w (Oth w o k) b L gv P to tc
def RF (w : World) (o : Nat → Nat) (k b : Nat) (L : List Tbl) (gv : Int) : Prop := ∃ P tv, RO w 0 b L (gv + 1) P tv ∧ o b = k ∧ ∀ g, BL tv P g → o g = k
theorem CF.ev {K : Nat → Prop} {w w' : World} {o o' : Nat → Nat} {k b : Nat} {L : List Tbl} {gv : Int} (h : CF w o k b L gv) (e : Ev K w o w' o') (hk : ¬ K k) : CF w' o' k b L gv := by
  obtain ⟨P, to, tc, h⟩ := h
  have h1 : CA w' (Oth w o k) b L gv P to tc := h.tch e.tch (fun i hi hs => ⟨hi, fun e1 => hk (by rw [← e1]; exact hs)⟩)
  refine ⟨P, to, tc, h1.blk, h1.eq, ⟨h1.tl.sl, fun hP g o2 e2 hf => ?_, fun i hi => ?_⟩, fun hf => ?_⟩
  · obtain ⟨g', o', e', ha⟩ := h.tl.sl (tcl_nil hP)
    rw [e'] at e2; injection e2 with e2; injection e2 with e3 e4; subst e3
    rcases hf with hf | hf
    · rcases e.oth hk hf with h5 | h5
      · exact h.tl.nf hP g' o' e' (Or.inl h5)
      · have := ha.lt (tcl_nil hP); omega
    · exact h.tl.nf hP g' o' e' (Or.inr hf)
  · obtain ⟨co, cc, hck⟩ := h.tl.col i hi
    obtain ⟨co1, cc1, hck1⟩ := h1.tl.col i hi
    have e1 := hck.eq
    rw [hck1.eq] at e1
    injection e1 with e1 _ e2
    subst e1 e2
    refine ⟨co1, cc1, hck1.eq, hck1.sl, hck1.no, hck1.cap, fun hne g o2 e2 => ⟨fun hf => ?_, (hck1.nf hne g o2 e2).2⟩⟩
    rcases hf with hf | hf
    · rcases e.oth hk hf with h5 | h5
      · exact (hck.nf hne g o2 e2).1 (Or.inl h5)
      · have := (hck.nf hne g o2 e2).2; omega
    · exact (hck.nf hne g o2 e2).1 (Or.inr hf)
  · rcases e.oth hk hf with h5 | h5
    · exact h.nb h5
    · have := blk_lt h.blk; omega
theorem RF.ev {K : Nat → Prop} {w w' : World} {o o' : Nat → Nat} {k b : Nat} {L : List Tbl} {gv : Int} (h : RF w o k b L gv) (e : Ev K w o w' o') (hk : ¬ K k) : RF w' o' k b L gv := by
  obtain ⟨P, tv, h, hb, hg⟩ := h
  have key : ∀ i, (i = b ∨ BL tv P i) → ¬ K (o i) := fun i hi => by
    rcases hi with rfl | hi
    · rw [hb]; exact hk
    · rw [hg i hi]; exact hk
  refine ⟨P, tv, h.tch e.tch (fun i _ hi => key i hi), ?_, fun g hgl => ?_⟩
  · rw [e.old b (blk_lt h.blk) (key b (Or.inl rfl)), hb]
  · rw [e.old g (h.bl_lt hgl).1 (key g (Or.inr hgl)), hg g hgl]
end Go.Proofs.Ytolamjipigfocaa
