import Derived.Test.YtmfbhhloabkecaaGreatDoorRV7
import Derived.Test.YtmfbhhloabkecaaGreatDoorLP0
import Derived.Deep.DeepCutAuto
import Derived.Deep.CutBlock
import Derived.Test.YtmfbhhloabkecaaGreatDoorCWlaw
set_option maxHeartbeats 8000000
set_option maxRecDepth 100000
namespace Go.Proofs.YtmfbhhloabkecaaGreatDoor.C
open Go.RowKit Go Go.Sort
theorem lsameTab (t : Tbl) (ao bo : Option Addr) (ac bc : Nat) (w : World) (hA : SL w ao (ccl t.cols)) (hB : SL w bo (ccl t.cols)) (hl : t.cols.length ≤ 8) :
    Calls Tryz.prog 38 #[tA t.id t.ver t.nm (.slice ao t.cols.length ac) t.key, tA t.id t.ver t.nm (.slice bo t.cols.length bc) t.key] w fun x w' => x = .returned (.bool true) ∧ Tch (fun _ => False) w w' := by
  obtain ⟨n, hn⟩ : ∃ n, n = t.cols.length := ⟨_, rfl⟩
  obtain ⟨N, hN⟩ : ∃ N, N = w.heap.size := ⟨_, rfl⟩
  obtain ⟨w0, hw0⟩ : ∃ w0, w0 = (w.alloc (.cells #[.int .i64 t.id, .int .i64 t.ver, .string t.nm, .slice ao n ac, .int .i64 t.key] 29)).alloc (.cells #[.int .i64 t.id, .int .i64 t.ver, .string t.nm, .slice bo n bc, .int .i64 t.key] 29) := ⟨_, rfl⟩
  have t0 : Tch (fun _ => False) w w0 := by rw [hw0]; exact (Tch.alloc _ _ _).allocR _
  have hX : w0.heap[N]? = some (.cells #[.int .i64 t.id, .int .i64 t.ver, .string t.nm, .slice ao n ac, .int .i64 t.key] 29 (0, 0)) := by
    rw [hw0, hN]; exact (Tch.alloc (fun _ => False) _ _).block _ (by simp) (fun h => h) |>.trans (alloc_new _ _)
  have hY : w0.heap[N + 1]? = some (.cells #[.int .i64 t.id, .int .i64 t.ver, .string t.nm, .slice bo n bc, .int .i64 t.key] 29 (0, 0)) := by
    rw [hw0, hN, ← World.size_alloc]; exact alloc_new _ _
  have HB : Hid (∀ W, Tch (fun _ => False) w0 W → W.cell? ⟨N, 3, none⟩ = some (.slice ao n ac) ∧ W.cell? ⟨N + 1, 3, none⟩ = some (.slice bo n bc) ∧ SL W ao (ccl t.cols) ∧ SL W bo (ccl t.cols)) := fun W tW => by
    have h1 : W.heap[N]? = _ := (tW.block N (blk_lt hX) (fun h => h)).trans hX
    have h2 : W.heap[N + 1]? = _ := (tW.block (N + 1) (blk_lt hY) (fun h => h)).trans hY
    exact ⟨by rw [blk_cell h1]; rfl, by rw [blk_cell h2]; rfl, hA.no (t0.trans' tW), hB.no (t0.trans' tW)⟩
  have HT0 : Hid (Tch (fun _ => False) w w0) := t0
  have Hw0 : Hid _ := hw0
  have HN : Hid (N = w.heap.size) := hN
  have Hn : Hid (n = t.cols.length) := hn
  have hn8 : n ≤ 8 := by omega
  rw [← hn]
  clear hA hB hw0 hN hX hY t0 hn
  go_enter Tryz.func38, Tryz.ntmps38
  go_wp2_with fail
  have hw0 := Hw0.out
  rw [← hw0]
  rw [← HN.out]
  clear hw0
  go_loopw [5] (fun i wr => ∃ k : Nat, i = .int .i64 k ∧ k ≤ n ∧ Hid (Tch (fun _ => False) w0 wr)) (fun i _ => n - (intOf i).toNat)
  case atStart => exact ⟨0, rfl, by omega, Tch.refl _ _⟩
  case round =>
    obtain ⟨k, rfl, hk, HT⟩ := hrel
    obtain ⟨wV, hwV⟩ : ∃ wV, wV = wr := ⟨_, rfl⟩
    subst hwV
    obtain ⟨b3, b4, s1, s2⟩ := HB.out wV HT.out
    by_cases hlt : (k : Int) < n
    · have hkl : k < t.cols.length := by have := Hn.out; omega
      obtain ⟨ga, oa, rfl, ha⟩ := s1.col hkl
      obtain ⟨gb, ob, rfl, hb⟩ := s2.col hkl
      obtain ⟨c0, c1, c2⟩ := ha.col k hkl
      obtain ⟨d0, d1, d2⟩ := hb.col k hkl
      obtain ⟨x, hx⟩ : ∃ x, x = t.cols[k] := ⟨_, rfl⟩
      rw [← hx] at c0 c1 c2 d0 d1 d2
      obtain ⟨dd, hdd, hnd⟩ := ne_col x x
      obtain rfl : dd = false := by cases dd with
        | false => rfl
        | true => exact absurd rfl (hdd.1 rfl)
      have HTQ : Hid (∀ nq, Tch (fun _ => False) w0 (wV.drewN nq)) := fun nq => HT.out.drewN _
      clear hdd ha hb hx s1 s2 hkl
      go_wp2_with fail
      go_quiet (fail)
      clear c0 c1 c2 d0 d1 d2 hnd b3 b4
      have HTq := HTQ.out nq
      go_wp2_with fail
      go_roundw
      case rel => exact ⟨k + 1, by go_num, by omega, HTq⟩
      case measure => simp [intOf]; omega
    · go_wp2_with fail
      go_ret
      exact ⟨rfl, HT0.out.trans' HT.out⟩
theorem lsameRow (xs : List Val) (ao bo : Option Addr) (ca cb : Nat) (w : World) (ha : RowOf w ao xs) (hb : RowOf w bo xs) (h1 : xs.length ≤ 9223372036854775807) :
    Calls Tryz.prog 39 #[.slice ao xs.length ca, .slice bo xs.length cb] w fun x w' => x = .returned (.bool true) ∧ Tch (fun _ => False) w w' := by
  have HA : Hid (∀ W, Tch (fun _ => False) w W → RowOf W ao xs) := fun W t => ha.no t
  have HB : Hid (∀ W, Tch (fun _ => False) w W → RowOf W bo xs) := fun W t => hb.no t
  obtain ⟨n, hn⟩ : ∃ n, n = xs.length := ⟨_, rfl⟩
  rw [← hn] at h1 ⊢
  have HN : Hid (n = xs.length) := hn
  clear ha hb hn
  go_enter Tryz.func39, Tryz.ntmps39
  go_wp2_with fail
  go_loopw [5] (fun i wr => ∃ (k : Nat), i = .int .i64 k ∧ k ≤ n ∧ Hid (Tch (fun _ => False) w wr)) (fun i _ => n - (intOf i).toNat)
  case atStart => exact ⟨0, rfl, by omega, Tch.refl _ _⟩
  case round =>
    obtain ⟨k, rfl, hk, HT⟩ := hrel
    obtain ⟨wV, hwV⟩ : ∃ wV, wV = wr := ⟨_, rfl⟩
    subst hwV
    by_cases hlt : (k : Int) < n
    · have hx : k < xs.length := by have := HN.out; omega
      have hne : xs ≠ [] := by intro e; rw [e] at hx; simp at hx
      obtain ⟨ga, oa, rfl, hra⟩ := HA.out wV HT.out hne
      obtain ⟨gb, ob, rfl, hrb⟩ := HB.out wV HT.out hne
      obtain ⟨a0, a1, a2⟩ := hra k hx
      obtain ⟨b0, b1, b2⟩ := hrb k hx
      obtain ⟨u, hu⟩ : ∃ u, u = xs[k] := ⟨_, rfl⟩
      rw [← hu] at a0 a1 a2 b0 b1 b2
      obtain ⟨dd, hdd, hnd⟩ := ne_val u u
      obtain rfl : dd = false := by cases dd with
        | false => rfl
        | true => exact absurd rfl (hdd.1 rfl)
      have HTQ : Hid (∀ nq, Tch (fun _ => False) w (wV.drewN nq)) := fun nq => HT.out.drewN _
      clear hra hrb hu hdd hne
      go_wp2_with fail
      go_quiet (fail)
      clear a0 a1 a2 b0 b1 b2 hnd
      have HTq := HTQ.out nq
      go_wp2_with fail
      go_roundw
      case rel => exact ⟨k + 1, by go_num, by omega, HTq⟩
      case measure => simp [intOf]; omega
    · go_wp2_with fail
      go_ret
      exact ⟨rfl, HT.out⟩
theorem lsame (r : Rc) (s u : Sk) (F G : Nat → Prop) (w : World) (h1 : RW w F r s) (h2 : RW w G r u) (h8 : r.tb.cols.length ≤ 8) (h16 : r.tbs.length ≤ 16) (hp8 : ∀ t ∈ r.tbs, t.cols.length ≤ 8) :
    Calls Tryz.prog 15 #[rV r s, rV r u] w fun x w' => x = .returned (.bool true) ∧ Tch (fun _ => False) w w' := by
  obtain ⟨n, hn⟩ : ∃ n, n = s.P.length := ⟨_, rfl⟩
  have hnr : n = r.tbs.length := by rw [hn, ← h1.eq, List.length_map]
  have hnu : n = u.P.length := by rw [hnr, ← h2.eq, List.length_map]
  have hn16 : n ≤ 16 := by omega
  obtain ⟨w0, hw0⟩ : ∃ w0, w0 = (w.alloc (.cells #[.int .i64 r.k, .int .i64 r.x, .int .i64 r.p, .int .i64 r.t, .slice s.oo r.o.length s.oc, .slice s.no r.n.length s.nc, .string r.nm, .int .i64 r.org, .int .i64 r.tb.id, .int .i64 r.tb.ver, .string r.tb.nm, .slice s.co r.tb.cols.length s.cc, .int .i64 r.tb.key, .slice s.to n s.tc] 37)).alloc (.cells #[.int .i64 r.k, .int .i64 r.x, .int .i64 r.p, .int .i64 r.t, .slice u.oo r.o.length u.oc, .slice u.no r.n.length u.nc, .string r.nm, .int .i64 r.org, .int .i64 r.tb.id, .int .i64 r.tb.ver, .string r.tb.nm, .slice u.co r.tb.cols.length u.cc, .int .i64 r.tb.key, .slice u.to n u.tc] 37) := ⟨_, rfl⟩
  have t0 : Tch (fun _ => False) w w0 := by rw [hw0]; exact (Tch.alloc _ _ _).allocR _
  have bA : w0.heap[w.heap.size]? = some (.cells #[.int .i64 r.k, .int .i64 r.x, .int .i64 r.p, .int .i64 r.t, .slice s.oo r.o.length s.oc, .slice s.no r.n.length s.nc, .string r.nm, .int .i64 r.org, .int .i64 r.tb.id, .int .i64 r.tb.ver, .string r.tb.nm, .slice s.co r.tb.cols.length s.cc, .int .i64 r.tb.key, .slice s.to n s.tc] 37 (0, 0)) := by
    rw [hw0]; exact ((Tch.alloc (fun _ => False) _ _).block _ (by simp) (fun h => h)).trans (heap_new w _)
  have bB : w0.heap[w.heap.size + 1]? = some (.cells #[.int .i64 r.k, .int .i64 r.x, .int .i64 r.p, .int .i64 r.t, .slice u.oo r.o.length u.oc, .slice u.no r.n.length u.nc, .string r.nm, .int .i64 r.org, .int .i64 r.tb.id, .int .i64 r.tb.ver, .string r.tb.nm, .slice u.co r.tb.cols.length u.cc, .int .i64 r.tb.key, .slice u.to n u.tc] 37 (0, 0)) := by
    rw [hw0, ← World.size_alloc]; exact heap_new _ _
  have HK : Hid (∀ W, Tch (fun _ => False) w0 W → W.heap[w.heap.size]? = some (.cells #[.int .i64 r.k, .int .i64 r.x, .int .i64 r.p, .int .i64 r.t, .slice s.oo r.o.length s.oc, .slice s.no r.n.length s.nc, .string r.nm, .int .i64 r.org, .int .i64 r.tb.id, .int .i64 r.tb.ver, .string r.tb.nm, .slice s.co r.tb.cols.length s.cc, .int .i64 r.tb.key, .slice s.to n s.tc] 37 (0, 0)) ∧ W.heap[w.heap.size + 1]? = some (.cells #[.int .i64 r.k, .int .i64 r.x, .int .i64 r.p, .int .i64 r.t, .slice u.oo r.o.length u.oc, .slice u.no r.n.length u.nc, .string r.nm, .int .i64 r.org, .int .i64 r.tb.id, .int .i64 r.tb.ver, .string r.tb.nm, .slice u.co r.tb.cols.length u.cc, .int .i64 r.tb.key, .slice u.to n u.tc] 37 (0, 0))) := fun W t =>
    ⟨(t.block _ (blk_lt bA) (fun h => h)).trans bA, (t.block _ (blk_lt bB) (fun h => h)).trans bB⟩
  have HTL : Hid (∀ W, Tch (fun _ => False) w W → TL W F s.to s.P ∧ TL W G u.to u.P) := fun W t => ⟨(h1.no t).tbs, (h2.no t).tbs⟩
  have HO : Hid (∀ W, Tch (fun _ => False) w W → Calls Tryz.prog 39 #[.slice s.oo r.o.length s.oc, .slice u.oo r.o.length u.oc] W fun x w' => x = .returned (.bool true) ∧ Tch (fun _ => False) W w') := fun W t => lsameRow r.o s.oo u.oo s.oc u.oc W (h1.no t).o.row (h2.no t).o.row h1.ol
  have HN : Hid (∀ W, Tch (fun _ => False) w W → Calls Tryz.prog 39 #[.slice s.no r.n.length s.nc, .slice u.no r.n.length u.nc] W fun x w' => x = .returned (.bool true) ∧ Tch (fun _ => False) W w') := fun W t => lsameRow r.n s.no u.no s.nc u.nc W (h1.no t).n.row (h2.no t).n.row h1.nl
  have HT : Hid (∀ W, Tch (fun _ => False) w W → Calls Tryz.prog 38 #[tA r.tb.id r.tb.ver r.tb.nm (.slice s.co r.tb.cols.length s.cc) r.tb.key, tA r.tb.id r.tb.ver r.tb.nm (.slice u.co r.tb.cols.length u.cc) r.tb.key] W fun x w' => x = .returned (.bool true) ∧ Tch (fun _ => False) W w') := fun W t => lsameTab r.tb s.co u.co s.cc u.cc W (h1.no t).tb.sl (h2.no t).tb.sl h8
  have HPQ : Hid (∀ k (hs : k < s.P.length) (hu : k < u.P.length), s.P[k].1 = u.P[k].1 ∧ s.P[k].1.cols.length ≤ 8) := fun k hs hu => by
    have e1 : (s.P.map Prod.fst)[k]? = r.tbs[k]? := by rw [h1.eq]
    have e2 : (u.P.map Prod.fst)[k]? = r.tbs[k]? := by rw [h2.eq]
    have hk : k < r.tbs.length := by rw [← h1.eq, List.length_map]; exact hs
    rw [List.getElem?_map, List.getElem?_eq_getElem hs, List.getElem?_eq_getElem hk] at e1
    rw [List.getElem?_map, List.getElem?_eq_getElem hu, List.getElem?_eq_getElem hk] at e2
    have e1' : s.P[k].1 = r.tbs[k] := by simpa using e1
    have e2' : u.P[k].1 = r.tbs[k] := by simpa using e2
    exact ⟨e1'.trans e2'.symm, by rw [e1']; exact hp8 _ (List.getElem_mem hk)⟩
  have HNN : Hid (n = s.P.length ∧ n = u.P.length) := ⟨hn, hnu⟩
  have HT0 : Hid (Tch (fun _ => False) w w0) := t0
  have HW0 : Hid (w0 = (w.alloc (.cells #[.int .i64 r.k, .int .i64 r.x, .int .i64 r.p, .int .i64 r.t, .slice s.oo r.o.length s.oc, .slice s.no r.n.length s.nc, .string r.nm, .int .i64 r.org, .int .i64 r.tb.id, .int .i64 r.tb.ver, .string r.tb.nm, .slice s.co r.tb.cols.length s.cc, .int .i64 r.tb.key, .slice s.to n s.tc] 37)).alloc (.cells #[.int .i64 r.k, .int .i64 r.x, .int .i64 r.p, .int .i64 r.t, .slice u.oo r.o.length u.oc, .slice u.no r.n.length u.nc, .string r.nm, .int .i64 r.org, .int .i64 r.tb.id, .int .i64 r.tb.ver, .string r.tb.nm, .slice u.co r.tb.cols.length u.cc, .int .i64 r.tb.key, .slice u.to n u.tc] 37)) := hw0
  rw [rV, rV, ← hn, ← hnu]
  clear h1 h2 bA bB t0 hw0 hn hnr hnu h8 h16 hp8
  go_enter Tryz.func15, Tryz.ntmps15
  go_wp2_with fail
  have hw0 := HW0.out
  rw [← hw0]
  clear hw0
  go_loopw [5] (fun i wr => ∃ k : Nat, i = .int .i64 k ∧ k ≤ n ∧ Hid (Tch (fun _ => False) w0 wr)) (fun i _ => n - (intOf i).toNat)
  case atStart => exact ⟨0, rfl, by omega, Tch.refl _ _⟩
  case round =>
    obtain ⟨k, rfl, hk, HTr⟩ := hrel
    obtain ⟨wV, hwV⟩ : ∃ wV, wV = wr := ⟨_, rfl⟩
    subst hwV
    obtain ⟨bA, bB⟩ := HK.out wV HTr.out
    have HTw : Hid (Tch (fun _ => False) w wV) := HT0.out.trans' HTr.out
    by_cases hlt : (k : Int) < n
    · have hks : k < s.P.length := by have := HNN.out.1; omega
      have hku : k < u.P.length := by have := HNN.out.2; omega
      obtain ⟨hA, hB⟩ := HTL.out wV HTw.out
      obtain ⟨ga, oa, ea, a0, a1, a2, a3, a4⟩ := hA.at k hks
      obtain ⟨gb, ob, eb, b0, b1, b2, b3, b4⟩ := hB.at k hku
      obtain ⟨co, cc, hc⟩ := hA.col k hks
      obtain ⟨do', dc, hd⟩ := hB.col k hku
      obtain ⟨p, hp⟩ : ∃ p, p = s.P[k] := ⟨_, rfl⟩
      obtain ⟨q, hq⟩ : ∃ q, q = u.P[k] := ⟨_, rfl⟩
      obtain ⟨hpq, hp8⟩ := HPQ.out k hks hku
      rw [← hp] at a0 a1 a2 a3 a4 hc hpq hp8
      rw [← hq] at b0 b1 b2 b3 b4 hd hpq
      rw [hc.eq] at a3
      rw [hd.eq] at b3
      have hcs := hc.sl
      have hds := hd.sl
      rw [← hpq] at b0 b1 b2 b3 b4 hds
      have cS : ∀ d os, Calls Tryz.prog 38 #[tA p.1.id p.1.ver p.1.nm (.slice co p.1.cols.length cc) p.1.key, tA p.1.id p.1.ver p.1.nm (.slice do' p.1.cols.length dc) p.1.key] (grow (redrawn wV d) os) fun e w'' => e = .returned (.bool true) ∧ ∃ p : Regrown, w'' = grow (redrawn wV p.d) p.os := regrown_calls (fun W t => lsameTab p.1 co do' cc dc W (hcs.no t) (hds.no t) hp8)
      have x13 : wV.cell? ⟨w.heap.size, 13, none⟩ = some (.slice s.to n s.tc) := blk_cell bA 13
      have y13 : wV.cell? ⟨w.heap.size + 1, 13, none⟩ = some (.slice u.to n u.tc) := blk_cell bB 13
      rw [ea] at x13
      rw [eb] at y13
      have k0 := cell_regrown a0; have k1 := cell_regrown a1; have k2 := cell_regrown a2; have k3 := cell_regrown a3; have k4 := cell_regrown a4
      have l0 := cell_regrown b0; have l1 := cell_regrown b1; have l2 := cell_regrown b2; have l3 := cell_regrown b3; have l4 := cell_regrown b4
      have k13 := cell_regrown x13; have l13 := cell_regrown y13
      clear hA hB hc hd hp hq hpq hcs hds bA bB hp8 ea eb
      go_wp2_with fail
      refine wp_region_quiet_below (by kernel_rfl) (by kernel_rfl) ?_
      repeat (quiet_step ((go_at_call 38; exact cS _ _)))
      refine wpQuiet_nil ?_
      rintro w2 ⟨p', rfl⟩
      have HTq : Hid (Tch (fun _ => False) w0 (grow (redrawn wV p'.d) p'.os)) := HTr.out.trans' (Tch.regrown wV p'.d p'.os)
      obtain ⟨W2, hW2⟩ : ∃ W2, W2 = grow (redrawn wV p'.d) p'.os := ⟨_, rfl⟩
      rw [← hW2] at HTq ⊢
      clear hW2 a0 a1 a2 a3 a4 b0 b1 b2 b3 b4 k0 k1 k2 k3 k4 l0 l1 l2 l3 l4 k13 l13 x13 y13 cS
      go_wp2_with fail
      go_roundw
      case rel => exact ⟨k + 1, by go_num, by omega, HTq⟩
      case measure => simp [intOf]; omega
    · have x13 : wV.cell? ⟨w.heap.size, 13, none⟩ = some (.slice s.to n s.tc) := blk_cell bA 13
      have x4 : wV.cell? ⟨w.heap.size, 4, none⟩ = some (.slice s.oo r.o.length s.oc) := blk_cell bA 4
      have y4 : wV.cell? ⟨w.heap.size + 1, 4, none⟩ = some (.slice u.oo r.o.length u.oc) := blk_cell bB 4
      clear bA bB
      go_wp2_with fail
      refine (HO.out wV HTw.out).mono ?_
      rintro x w1 ⟨rfl, t1⟩
      have U1 := HTr.out.trans' t1
      have T1 := HTw.out.trans' t1
      obtain ⟨bA, bB⟩ := HK.out w1 U1
      have x5 : w1.cell? ⟨w.heap.size, 5, none⟩ = some (.slice s.no r.n.length s.nc) := blk_cell bA 5
      have y5 : w1.cell? ⟨w.heap.size + 1, 5, none⟩ = some (.slice u.no r.n.length u.nc) := blk_cell bB 5
      clear bA bB x4 y4 x13 t1
      go_wp2_with fail
      refine (HN.out w1 T1).mono ?_
      rintro x w2 ⟨rfl, t2⟩
      have U2 := U1.trans' t2
      have T2 := T1.trans' t2
      obtain ⟨bA, bB⟩ := HK.out w2 U2
      have x8 : w2.cell? ⟨w.heap.size, 8, none⟩ = some (.int .i64 r.tb.id) := blk_cell bA 8
      have y8 : w2.cell? ⟨w.heap.size + 1, 8, none⟩ = some (.int .i64 r.tb.id) := blk_cell bB 8
      have x9 : w2.cell? ⟨w.heap.size, 9, none⟩ = some (.int .i64 r.tb.ver) := blk_cell bA 9
      have y9 : w2.cell? ⟨w.heap.size + 1, 9, none⟩ = some (.int .i64 r.tb.ver) := blk_cell bB 9
      have x10 : w2.cell? ⟨w.heap.size, 10, none⟩ = some (.string r.tb.nm) := blk_cell bA 10
      have y10 : w2.cell? ⟨w.heap.size + 1, 10, none⟩ = some (.string r.tb.nm) := blk_cell bB 10
      have x11 : w2.cell? ⟨w.heap.size, 11, none⟩ = some (.slice s.co r.tb.cols.length s.cc) := blk_cell bA 11
      have y11 : w2.cell? ⟨w.heap.size + 1, 11, none⟩ = some (.slice u.co r.tb.cols.length u.cc) := blk_cell bB 11
      have x12 : w2.cell? ⟨w.heap.size, 12, none⟩ = some (.int .i64 r.tb.key) := blk_cell bA 12
      have y12 : w2.cell? ⟨w.heap.size + 1, 12, none⟩ = some (.int .i64 r.tb.key) := blk_cell bB 12
      clear bA bB x5 y5 t2
      go_wp2_with fail
      refine (HT.out w2 T2).mono ?_
      rintro x w3 ⟨rfl, t3⟩
      have T3 := T2.trans' t3
      clear x8 y8 x9 y9 x10 y10 x11 y11 x12 y12 t3
      go_wp2_with fail
      go_ret
      exact ⟨rfl, T3⟩
end Go.Proofs.YtmfbhhloabkecaaGreatDoor.C
namespace Go.Proofs.YtmfbhhloabkecaaGreatDoor.C
open Go.RowKit Go Go.Sort
def rcs (p : Rc × Sk) : List Value := [.int .i64 p.1.k, .int .i64 p.1.x, .int .i64 p.1.p, .int .i64 p.1.t, .slice p.2.oo p.1.o.length p.2.oc, .slice p.2.no p.1.n.length p.2.nc, .string p.1.nm, .int .i64 p.1.org, .int .i64 p.1.tb.id, .int .i64 p.1.tb.ver, .string p.1.tb.nm, .slice p.2.co p.1.tb.cols.length p.2.cc, .int .i64 p.1.tb.key, .slice p.2.to p.2.P.length p.2.tc]
def rcl (l : List (Rc × Sk)) : List Value := l.flatMap rcs
theorem rcl_len : ∀ l : List (Rc × Sk), (rcl l).length = l.length * 14
  | [] => rfl
  | p :: l => by
    have h := rcl_len l
    show (rcs p ++ rcl l).length = _
    rw [List.length_append, h, List.length_cons]
    show 14 + _ = _
    omega
theorem rcl_get : ∀ (l : List (Rc × Sk)) (k j : Nat) (hk : k < l.length), j < 14 → (rcl l)[k * 14 + j]? = (rcs l[k])[j]?
  | p :: l, 0, j, _, hj => by
    show (rcs p ++ rcl l)[0 * 14 + j]? = _
    rw [Nat.zero_mul, Nat.zero_add, List.getElem?_append_left (by show j < 14; omega)]; rfl
  | p :: l, k + 1, j, hk, hj => by
    show (rcs p ++ rcl l)[(k + 1) * 14 + j]? = _
    rw [List.getElem?_append_right (by show 14 ≤ _; omega)]
    have e : (k + 1) * 14 + j - (rcs p).length = k * 14 + j := by show (k + 1) * 14 + j - 14 = _; omega
    rw [e, rcl_get l k j (by simpa using hk) hj]; rfl
theorem rcl_ne {l : List (Rc × Sk)} {k : Nat} (hk : k < l.length) : rcl l ≠ [] := fun e => by
  have := rcl_len l
  rw [e, List.length_nil] at this
  omega
def loopsOf : Code → List Code
  | .loop c => c :: loopsOf c
  | .seq a b => loopsOf a ++ loopsOf b
  | .block _ c => loopsOf c
  | .scope c => loopsOf c
  | .cond _ a b => loopsOf a ++ loopsOf b
  | _ => []
noncomputable def rowsLoop : Code := (Tryz.f3.body.elim [] loopsOf).getD 0 .skip
theorem loopR (wL : World) (n lc : Nat) (lo : Option Addr) (l : List (Rc × Sk)) (F : Nat → Prop) (Hn : Hid (n = l.length)) (hn : n ≤ 10) (HL : Hid (∀ W, Tch (fun _ => False) wL W → SL W lo (rcl l) ∧ HE W ∧ ∀ p ∈ l, RW W F p.1 p.2)) (HG : Hid (∀ p ∈ l, Good p.1)) (Q0 : Exit → Act → World → Prop)
    (u0 u1 u2 u3 u4 u5 u6 u7 u8 u9 u10 u11 u12 u13 u14 u15 u16 u18 u19 u21 u22 u23 u24 u25 u26 u27 u28 u29 u30 u31 u32 u33 u34 u35 u36 u37 u38 u39 u40 u41 u42 u43 u44 u45 u46 u47 u48 u49 u50 u51 u52 u53 u54 u55 u56 u57 u58 u59 u60 u61 u62 u63 u64 u65 u66 u67 u68 u69 u70 u71 u72 u73 u74 u75 u76 u77 u78 u79 u80 u81 u82 u83 u84 u85 u86 u87 u88 u89 u90 u91 u92 u93 u94 u95 u96 u97 u98 u99 u100 u101 u102 u103 u104 u105 u106 u107 u108 u109 u110 u111 u112 u113 u114 u115 u116 u117 u118 u119 u120 u121 u122 u123 u124 u125 u126 u127 u128 u129 u130 u131 u132 u133 u134 u135 u136 u137 u138 u139 u140 u141 u142 u143 u144 u145 u146 u147 u148 u149 u150 u151 u152 u153 u154 : Value)
    (Hexit : Hid (∀ (v10 v20 v21 v22 v23 v24 v25 v104 v105 v106 v107 v108 v109 v110 v111 v112 v113 v114 v115 v116 v117 v118 v119 v120 v121 v122 v123 v124 v125 v126 v127 v128 v129 v130 v131 v132 v133 v134 v135 v136 v137 v138 : Value) (wx : World), Hid (Tch (fun _ => False) wL wx) → Q0 (.exit 0) ⟨List.toArray (u0 :: u1 :: u2 :: u3 :: u4 :: u5 :: u6 :: u7 :: u8 :: u9 :: (v10) :: u11 :: u12 :: u13 :: u14 :: u15 :: u16 :: (.slice lo n lc) :: u18 :: u19 :: (v20) :: (v21) :: (v22) :: (v23) :: (v24) :: (v25) :: u26 :: u27 :: u28 :: u29 :: u30 :: u31 :: u32 :: u33 :: u34 :: u35 :: u36 :: u37 :: u38 :: u39 :: u40 :: u41 :: u42 :: u43 :: u44 :: u45 :: u46 :: u47 :: u48 :: u49 :: u50 :: u51 :: u52 :: u53 :: u54 :: u55 :: u56 :: u57 :: u58 :: u59 :: u60 :: u61 :: u62 :: u63 :: u64 :: u65 :: u66 :: u67 :: u68 :: u69 :: u70 :: u71 :: u72 :: u73 :: u74 :: u75 :: u76 :: u77 :: u78 :: u79 :: u80 :: u81 :: u82 :: u83 :: u84 :: u85 :: u86 :: u87 :: u88 :: u89 :: u90 :: u91 :: u92 :: u93 :: u94 :: u95 :: u96 :: u97 :: u98 :: u99 :: u100 :: u101 :: u102 :: u103 :: (v104) :: (v105) :: (v106) :: (v107) :: (v108) :: (v109) :: (v110) :: (v111) :: (v112) :: (v113) :: (v114) :: (v115) :: (v116) :: (v117) :: (v118) :: (v119) :: (v120) :: (v121) :: (v122) :: (v123) :: (v124) :: (v125) :: (v126) :: (v127) :: (v128) :: (v129) :: (v130) :: (v131) :: (v132) :: (v133) :: (v134) :: (v135) :: (v136) :: (v137) :: (v138) :: u139 :: u140 :: u141 :: u142 :: u143 :: u144 :: u145 :: u146 :: u147 :: u148 :: u149 :: u150 :: u151 :: u152 :: u153 :: u154 :: []), []⟩ wx)) :
    Code.wp Tryz.prog (Code.loop rowsLoop) Q0 ⟨List.toArray (u0 :: u1 :: u2 :: u3 :: u4 :: u5 :: u6 :: u7 :: u8 :: u9 :: u10 :: u11 :: u12 :: u13 :: u14 :: u15 :: u16 :: (.slice lo n lc) :: u18 :: u19 :: (.int .i64 0) :: u21 :: u22 :: u23 :: u24 :: u25 :: u26 :: u27 :: u28 :: u29 :: u30 :: u31 :: u32 :: u33 :: u34 :: u35 :: u36 :: u37 :: u38 :: u39 :: u40 :: u41 :: u42 :: u43 :: u44 :: u45 :: u46 :: u47 :: u48 :: u49 :: u50 :: u51 :: u52 :: u53 :: u54 :: u55 :: u56 :: u57 :: u58 :: u59 :: u60 :: u61 :: u62 :: u63 :: u64 :: u65 :: u66 :: u67 :: u68 :: u69 :: u70 :: u71 :: u72 :: u73 :: u74 :: u75 :: u76 :: u77 :: u78 :: u79 :: u80 :: u81 :: u82 :: u83 :: u84 :: u85 :: u86 :: u87 :: u88 :: u89 :: u90 :: u91 :: u92 :: u93 :: u94 :: u95 :: u96 :: u97 :: u98 :: u99 :: u100 :: u101 :: u102 :: u103 :: u104 :: u105 :: u106 :: u107 :: u108 :: u109 :: u110 :: u111 :: u112 :: u113 :: u114 :: u115 :: u116 :: u117 :: u118 :: u119 :: u120 :: u121 :: u122 :: u123 :: u124 :: u125 :: u126 :: u127 :: u128 :: u129 :: u130 :: u131 :: u132 :: u133 :: u134 :: u135 :: u136 :: u137 :: u138 :: u139 :: u140 :: u141 :: u142 :: u143 :: u144 :: u145 :: u146 :: u147 :: u148 :: u149 :: u150 :: u151 :: u152 :: u153 :: u154 :: []), []⟩ wL := by
  conv => arg 2; arg 1; whnf
  go_loopw [20] (fun i wr => ∃ k : Nat, i = .int .i64 k ∧ k ≤ n ∧ Hid (Tch (fun _ => False) wL wr)) (fun i _ => n - (intOf i).toNat)
  case atStart => exact ⟨0, rfl, by omega, Tch.refl _ _⟩
  case round =>
    obtain ⟨k, rfl, hk, HT⟩ := hrel
    obtain ⟨wA, hwA⟩ : ∃ wA, wA = wr := ⟨_, rfl⟩
    subst hwA
    by_cases hlt : (k : Int) < n
    · have hkl : k < l.length := by have := Hn.out; omega
      obtain ⟨hS, hE, hR⟩ := HL.out wA HT.out
      obtain ⟨g, o, elo, ha⟩ := hS (rcl_ne hkl)
      have hG := HG.out l[k] (List.getElem_mem hkl)
      have hR := hR l[k] (List.getElem_mem hkl)
      have HC : Hid (∀ W, Tch (fun _ => False) wA W → ∀ j u, j < 14 → (rcs l[k])[j]? = some u → W.cell? ⟨g, o + k * 14 + j, none⟩ = some u) := fun W t j u hj hu => by
        have h1 := ha (k * 14 + j) u (by rw [rcl_get l k j hkl hj]; exact hu)
        rw [← Nat.add_assoc] at h1
        exact (t.cell (p := ⟨_, _, none⟩) (cell_lt h1) (fun h => h)).trans h1
      obtain ⟨p, hp⟩ : ∃ p, p = l[k] := ⟨_, rfl⟩
      rw [← hp] at hG hR HC
      clear hp
      obtain ⟨r, s⟩ := p
      simp only at hG hR
      obtain ⟨lo', hlo'⟩ : ∃ lo', lo' = lo := ⟨_, rfl⟩
      rw [← hlo'] at elo ⊢
      subst elo
      have HRW : Hid (∀ W, Tch (fun _ => False) wA W → RW W F r s) := fun W t => hR.no t
      have HHE : Hid (∀ W, Tch (fun _ => False) wA W → HE W) := fun W t => hE.tch t (fun h => h)
      have HGD : Hid (Good r) := hG
      obtain ⟨S, hSS⟩ : ∃ S : ByteArray, S = ⟨(recL r).toArray⟩ := ⟨_, rfl⟩
      have hsz : S.size ≤ 281474976710656 := by
        have h1 := rc_len hG
        rw [hSS]
        show (recL r).toArray.size ≤ _
        simp only [List.size_toArray]; omega
      have q1 := encode_ok r s F wA hE hR hG.right hG.cut
      rw [← hSS] at q1
      have HQ2 : Hid (∀ W, Tch (fun _ => False) wA W → Calls Tryz.prog 14 #[.string S] W fun x w' => DcOut r W x w') := fun W t => decode_ok r S W hSS hsz (HHE.out W t) hG.right hG.cut hG.oi hG.ni
      have c0 := HC.out wA (Tch.refl _ _) 0 _ (by omega) rfl
      have c1 := HC.out wA (Tch.refl _ _) 1 _ (by omega) rfl
      have c2 := HC.out wA (Tch.refl _ _) 2 _ (by omega) rfl
      have c3 := HC.out wA (Tch.refl _ _) 3 _ (by omega) rfl
      have c4 := HC.out wA (Tch.refl _ _) 4 _ (by omega) rfl
      have c5 := HC.out wA (Tch.refl _ _) 5 _ (by omega) rfl
      have c6 := HC.out wA (Tch.refl _ _) 6 _ (by omega) rfl
      have c7 := HC.out wA (Tch.refl _ _) 7 _ (by omega) rfl
      have c8 := HC.out wA (Tch.refl _ _) 8 _ (by omega) rfl
      have c9 := HC.out wA (Tch.refl _ _) 9 _ (by omega) rfl
      have c10 := HC.out wA (Tch.refl _ _) 10 _ (by omega) rfl
      have c11 := HC.out wA (Tch.refl _ _) 11 _ (by omega) rfl
      have c12 := HC.out wA (Tch.refl _ _) 12 _ (by omega) rfl
      have c13 := HC.out wA (Tch.refl _ _) 13 _ (by omega) rfl
      simp only [Nat.add_zero] at c0
      clear hS hE hR hG ha hSS hsz hlo' hkl
      go_wp2_with fail
      refine q1.mono ?_
      rintro x w1 ⟨rfl, t1⟩
      clear q1 c0 c1 c2 c3 c4 c5 c6 c7 c8 c9 c10 c11 c12 c13
      go_wp2_with fail
      refine (HQ2.out w1 t1).mono ?_
      rintro x w2 ⟨s2, rfl, hN, t2⟩
      have T2 := t1.trans' t2
      obtain ⟨w3, hw3⟩ : ∃ w3, w3 = w2.alloc (.cells #[.int .i64 r.k, .int .i64 r.x, .int .i64 r.p, .int .i64 r.t, .slice s2.oo r.o.length s2.oc, .slice s2.no r.n.length s2.nc, .string r.nm, .int .i64 r.org, .int .i64 r.tb.id, .int .i64 r.tb.ver, .string r.tb.nm, .slice s2.co r.tb.cols.length s2.cc, .int .i64 r.tb.key, .slice s2.to s2.P.length s2.tc] 37) := ⟨_, rfl⟩
      have t3 : Tch (fun _ => False) w2 w3 := by rw [hw3]; exact Tch.alloc _ _ _
      have T3 := T2.trans' t3
      have b3 : w3.heap[w2.heap.size]? = some (.cells #[.int .i64 r.k, .int .i64 r.x, .int .i64 r.p, .int .i64 r.t, .slice s2.oo r.o.length s2.oc, .slice s2.no r.n.length s2.nc, .string r.nm, .int .i64 r.org, .int .i64 r.tb.id, .int .i64 r.tb.ver, .string r.tb.nm, .slice s2.co r.tb.cols.length s2.cc, .int .i64 r.tb.key, .slice s2.to s2.P.length s2.tc] 37 (0, 0)) := by rw [hw3]; exact heap_new w2 _
      have cS : ∀ d os, Calls Tryz.prog 15 #[rV r s2, rV r s] (grow (redrawn w3 d) os) fun e w'' => e = .returned (.bool true) ∧ ∃ p : Regrown, w'' = grow (redrawn w3 p.d) p.os := regrown_calls (fun W t => lsame r s2 s (fun i => i < w1.heap.size) F W (((hN.tch (t3.trans' t) (fun _ _ _ h => h)).rw HGD.out.oi HGD.out.ni)) (HRW.out W (T3.trans' t)) HGD.out.tb HGD.out.tl HGD.out.ts)
      have y0 : w3.cell? ⟨w2.heap.size, 0, none⟩ = some (.int .i64 r.k) := blk_cell b3 0
      have y1 : w3.cell? ⟨w2.heap.size, 1, none⟩ = some (.int .i64 r.x) := blk_cell b3 1
      have y2 : w3.cell? ⟨w2.heap.size, 2, none⟩ = some (.int .i64 r.p) := blk_cell b3 2
      have y3 : w3.cell? ⟨w2.heap.size, 3, none⟩ = some (.int .i64 r.t) := blk_cell b3 3
      have y4 : w3.cell? ⟨w2.heap.size, 4, none⟩ = some (.slice s2.oo r.o.length s2.oc) := blk_cell b3 4
      have y5 : w3.cell? ⟨w2.heap.size, 5, none⟩ = some (.slice s2.no r.n.length s2.nc) := blk_cell b3 5
      have y6 : w3.cell? ⟨w2.heap.size, 6, none⟩ = some (.string r.nm) := blk_cell b3 6
      have y7 : w3.cell? ⟨w2.heap.size, 7, none⟩ = some (.int .i64 r.org) := blk_cell b3 7
      have y8 : w3.cell? ⟨w2.heap.size, 8, none⟩ = some (.int .i64 r.tb.id) := blk_cell b3 8
      have y9 : w3.cell? ⟨w2.heap.size, 9, none⟩ = some (.int .i64 r.tb.ver) := blk_cell b3 9
      have y10 : w3.cell? ⟨w2.heap.size, 10, none⟩ = some (.string r.tb.nm) := blk_cell b3 10
      have y11 : w3.cell? ⟨w2.heap.size, 11, none⟩ = some (.slice s2.co r.tb.cols.length s2.cc) := blk_cell b3 11
      have y12 : w3.cell? ⟨w2.heap.size, 12, none⟩ = some (.int .i64 r.tb.key) := blk_cell b3 12
      have y13 : w3.cell? ⟨w2.heap.size, 13, none⟩ = some (.slice s2.to s2.P.length s2.tc) := blk_cell b3 13
      have c0 := HC.out w3 T3 0 _ (by omega) rfl
      have c1 := HC.out w3 T3 1 _ (by omega) rfl
      have c2 := HC.out w3 T3 2 _ (by omega) rfl
      have c3 := HC.out w3 T3 3 _ (by omega) rfl
      have c4 := HC.out w3 T3 4 _ (by omega) rfl
      have c5 := HC.out w3 T3 5 _ (by omega) rfl
      have c6 := HC.out w3 T3 6 _ (by omega) rfl
      have c7 := HC.out w3 T3 7 _ (by omega) rfl
      have c8 := HC.out w3 T3 8 _ (by omega) rfl
      have c9 := HC.out w3 T3 9 _ (by omega) rfl
      have c10 := HC.out w3 T3 10 _ (by omega) rfl
      have c11 := HC.out w3 T3 11 _ (by omega) rfl
      have c12 := HC.out w3 T3 12 _ (by omega) rfl
      have c13 := HC.out w3 T3 13 _ (by omega) rfl
      simp only [Nat.add_zero] at c0
      have k0 := cell_regrown y0
      have l0 := cell_regrown c0
      have k1 := cell_regrown y1
      have l1 := cell_regrown c1
      have k2 := cell_regrown y2
      have l2 := cell_regrown c2
      have k3 := cell_regrown y3
      have l3 := cell_regrown c3
      have k4 := cell_regrown y4
      have l4 := cell_regrown c4
      have k5 := cell_regrown y5
      have l5 := cell_regrown c5
      have k6 := cell_regrown y6
      have l6 := cell_regrown c6
      have k7 := cell_regrown y7
      have l7 := cell_regrown c7
      have k8 := cell_regrown y8
      have l8 := cell_regrown c8
      have k9 := cell_regrown y9
      have l9 := cell_regrown c9
      have k10 := cell_regrown y10
      have l10 := cell_regrown c10
      have k11 := cell_regrown y11
      have l11 := cell_regrown c11
      have k12 := cell_regrown y12
      have l12 := cell_regrown c12
      have k13 := cell_regrown y13
      have l13 := cell_regrown c13
      have HT3 : Hid (Tch (fun _ => False) wL w3) := HT.out.trans' T3
      have HW3 : Hid (w3 = w2.alloc (.cells #[.int .i64 r.k, .int .i64 r.x, .int .i64 r.p, .int .i64 r.t, .slice s2.oo r.o.length s2.oc, .slice s2.no r.n.length s2.nc, .string r.nm, .int .i64 r.org, .int .i64 r.tb.id, .int .i64 r.tb.ver, .string r.tb.nm, .slice s2.co r.tb.cols.length s2.cc, .int .i64 r.tb.key, .slice s2.to s2.P.length s2.tc] 37)) := hw3
      clear hw3 t1 t2 t3 T2 T3 b3 hN HQ2 HRW HHE HGD HC
      go_wp2_with fail
      rw [← HW3.out]
      refine wp_region_quiet_below (by kernel_rfl) (by kernel_rfl) ?_
      repeat (quiet_step ((go_at_call 15; exact cS _ _)))
      refine wpQuiet_nil ?_
      rintro w4 ⟨p', rfl⟩
      have HT4 : Hid (Tch (fun _ => False) wL (grow (redrawn w3 p'.d) p'.os)) := HT3.out.trans' (Tch.regrown w3 p'.d p'.os)
      obtain ⟨W4, hW4⟩ : ∃ W4, W4 = grow (redrawn w3 p'.d) p'.os := ⟨_, rfl⟩
      rw [← hW4] at HT4 ⊢
      clear hW4 y0 c0 k0 l0 y1 c1 k1 l1 y2 c2 k2 l2 y3 c3 k3 l3 y4 c4 k4 l4 y5 c5 k5 l5 y6 c6 k6 l6 y7 c7 k7 l7 y8 c8 k8 l8 y9 c9 k9 l9 y10 c10 k10 l10 y11 c11 k11 l11 y12 c12 k12 l12 y13 c13 k13 l13 cS HW3
      go_wp2_with fail
      exact ⟨⟨k + 1, by go_num, by omega, HT4⟩, by simp [intOf]; omega⟩
    · skip
      go_wp2_with fail
      exact Hexit.out _ _ _ _ _ _ _ _ _ _ _ _ _ _ _ _ _ _ _ _ _ _ _ _ _ _ _ _ _ _ _ _ _ _ _ _ _ _ _ _ _ _ _ HT
end Go.Proofs.YtmfbhhloabkecaaGreatDoor.C
namespace Go.Proofs.YtmfbhhloabkecaaGreatDoor.C
open Go.RowKit Go Go.Sort
theorem info_rec : (Tryz.prog.info? 37).map (fun i => (i.zero, i.size, i.bytes)) = some (some (.agg #[.int .i64 0, .int .i64 0, .int .i64 0, .int .i64 0, .slice none 0 0, .slice none 0 0, .string ⟨#[]⟩, .int .i64 0, .int .i64 0, .int .i64 0, .string ⟨#[]⟩, .slice none 0 0, .int .i64 0, .slice none 0 0]), 14, 192) := by kernel_rfl
theorem rw_shape {W : World} {k x : Int} {t : Tbl} {vo : Option Addr} {vc base : Nat} (h : W.ownsRow base 43 3 (.slice vo t.cols.length vc) t.cols.length (ccl t.cols)) (hl : t.cols.length ≤ 8) : RW W (fun _ => False) { rc0 k with x := x, tb := t } { sk0 with co := vo, cc := vc } := by
  obtain ⟨co, cc, hck⟩ := own_ck (p := (t, .slice vo t.cols.length vc)) h
  have e := hck.eq
  simp only [Value.slice.injEq] at e
  obtain ⟨e1, _, e2⟩ := e
  subst e1 e2
  have n0 : ∀ v ∈ ([] : List Val), v.i64 := fun v hv => by simp at hv
  have z0 : (0 : Nat) ≤ 9223372036854775807 := Nat.zero_le _
  exact ⟨sl_nil W _ rfl, sl_nil W _ rfl, ⟨hck.eq, hck.sl, hck.no, hck.cap, fun h1 g o e => ⟨fun h => h, (hck.nf h1 g o e).2⟩⟩, tl_nil W _, rfl, fun h => absurd rfl h, fun h => absurd rfl h, n0, n0, z0, z0, (show t.cols.length ≤ _ by omega), z0, fun i hi => absurd hi (Nat.not_lt_zero i)⟩
theorem rw_check {W : World} {x n : Int} {t : Tbl} {tw : Option Addr} {tc base : Nat} {Q : List (Tbl × Value)} (h : TO W base (.slice tw Q.length tc) Q) (he : Q.map Prod.fst = [t]) (hl : t.cols.length ≤ 8) : RW W (fun _ => False) { rc0 15 with x := x, t := n, tbs := [t] } { sk0 with P := Q, «to» := tw, tc := tc } := by
  have n0 : ∀ v ∈ ([] : List Val), v.i64 := fun v hv => by simp at hv
  have z0 : (0 : Nat) ≤ 9223372036854775807 := Nat.zero_le _
  have hQ : Q.length = 1 := by have := congrArg List.length he; simpa using this
  refine ⟨sl_nil W _ rfl, sl_nil W _ rfl, ck_nil W _, h.toTL.fresh (fun _ _ h => h.elim), he, fun h => absurd rfl h, fun h => absurd rfl h, n0, n0, z0, z0, z0, (show Q.length ≤ _ by omega), fun i hi => ?_⟩
  have hi : i < Q.length := hi
  have h1 : Q[i].1 ∈ Q.map Prod.fst := List.mem_map_of_mem (List.getElem_mem hi)
  rw [he] at h1
  show Q[i].1.cols.length ≤ _
  rw [List.mem_singleton.1 h1]; omega
theorem rw_rows {W : World} {k x ti : Int} {al : List Val} {ao : Option Addr} {ac base : Nat} (h : W.ownsRow base 58 3 (.slice ao al.length ac) al.length (vcl al)) (hl : al.length ≤ 8) (hi : ∀ v ∈ al, v.i64) :
    RW W (fun _ => False) { rc0 k with x := x, t := ti, n := al } { sk0 with no := ao, nc := ac } ∧ RW W (fun _ => False) { rc0 k with x := x, t := ti, o := al } { sk0 with oo := ao, oc := ac } ∧ RW W (fun _ => False) { rc0 k with x := x, t := ti, o := al, n := al } { sk0 with oo := ao, oc := ac, no := ao, nc := ac } := by
  have n0 : ∀ v ∈ ([] : List Val), v.i64 := fun v hv => by simp at hv
  have z0 : (0 : Nat) ≤ 9223372036854775807 := Nat.zero_le _
  have zl : al.length ≤ 9223372036854775807 := by omega
  have hs := own_sl h
  have p0 : ∀ i (hi : i < ([] : List (Tbl × Value)).length), ([] : List (Tbl × Value))[i].1.cols.length ≤ 9223372036854775807 := fun i hi => by simp at hi
  exact ⟨⟨sl_nil W _ rfl, hs, ck_nil W _, tl_nil W _, rfl, fun h => absurd rfl h, fun _ _ _ _ h => h, n0, hi, z0, zl, z0, z0, p0⟩, ⟨hs, sl_nil W _ rfl, ck_nil W _, tl_nil W _, rfl, fun _ _ _ _ h => h, fun h => absurd rfl h, hi, n0, zl, z0, z0, z0, p0⟩, ⟨hs, hs, ck_nil W _, tl_nil W _, rfl, fun _ _ _ _ h => h, fun _ _ _ _ h => h, hi, hi, zl, zl, z0, z0, p0⟩⟩
theorem own_two {W : World} (a b : Rc × Sk) : (W.alloc (.cells (rcl [a, b]).toArray 37)).ownsRow W.heap.size 37 14 (.slice (some ⟨W.heap.size, 0, none⟩) 2 2) 2 (rcl [a, b]) := by
  refine ⟨rfl, Or.inr ⟨W.heap.size, 2, _, rfl, Nat.le_refl _, heap_new W _, Nat.le_refl _, by unfold maxLen; omega, rfl, ?_⟩⟩
  rfl
theorem rcs_one (p : Rc × Sk) : ∀ u ∈ rcs p, u.oneCell' = true := fun u hu => by
  simp only [rcs, List.mem_cons, List.not_mem_nil, or_false] at hu
  rcases hu with rfl | rfl | rfl | rfl | rfl | rfl | rfl | rfl | rfl | rfl | rfl | rfl | rfl | rfl <;> rfl
theorem rcl_one (l : List (Rc × Sk)) : ∀ u ∈ rcl l, u.oneCell' = true := fun u hu => by
  obtain ⟨p, _, h⟩ := List.mem_flatMap.1 hu
  exact rcs_one p u h
theorem rcl_append (l m : List (Rc × Sk)) : rcl (l ++ m) = rcl l ++ rcl m := by simp [rcl]
theorem pos_one {P : List (Tbl × Value)} {T : Tbl} (h : P.map Prod.fst = [T]) : posP (fun t => decide (t.nm = T.nm)) P = (0 : Nat) ∧ 0 < P.length ∧ ∀ (hk : 0 < P.length), P[0].1 = T := by
  have hl : P.length = 1 := by have := congrArg List.length h; simpa using this
  obtain ⟨p, rfl⟩ : ∃ p, P = [p] := List.length_eq_one_iff.1 hl
  have e : p.1 = T := by simpa using h
  refine ⟨?_, by simp, fun _ => e⟩
  exact posP_some (k := 0) (by simp) (by simp [e]) (fun i hi hi2 => by omega)
end Go.Proofs.YtmfbhhloabkecaaGreatDoor.C
