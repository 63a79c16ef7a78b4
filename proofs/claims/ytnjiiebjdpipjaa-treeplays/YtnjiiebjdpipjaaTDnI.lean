import Derived.Test.YtnjiiebjdpipjaaTDnL
import Derived.Lib.QuietBelow
/- shiftDown_inner. -/
namespace Go.Proofs.Ytnjiiebjdpipjaa
open Go.RowKit Go

set_option maxHeartbeats 4000000 in
set_option maxRecDepth 100000 in
theorem shiftDown_inner (w : World) (p : Nat) (iv kv : Value) (L : List It) (ps : List Nat) (s : Int) (a : Nat) (ia ka : Value) (l : List It) (ql : List Nat) (sa : Int) (c : Nat) (ic kc : Value) (r : List It) (qr : List Nat) (sc : Int) (pl : Nat) (m : It) (mx : It)
    (hP : FN w p iv kv L ps s) (hA : FN w a ia ka l ql sa) (hB : FN w c ic kc r qr sc) (hnod : Nod (fb p iv kv ++ (fb a ia ka ++ fb c ic kc))) (hpl : ps[pl]? = some a) (hpc : ps[pl + 1]? = some c) (hm : L[pl]? = some m) (hL : L.length < 100) (hps : ps.length < 100) (hl : l.length < 100) (hr : r.length < 100)
    (hql : ql.length = l.length + 1) (hqr : qr.length = r.length + 1) (hmx : r[0]? = some mx)
    (hz : ∀ q ∈ ql ++ qr, w.cell? ⟨q, 2, none⟩ = some (.int .i64 (zsz w q)) ∧ 0 ≤ zsz w q ∧ q ∉ fb p iv kv ++ (fb a ia ka ++ fb c ic kc)) (hb : zsum w (ql ++ qr) ≤ 1000000000000000000) :
    Calls Try.prog 84 #[pv p, .int .i64 pl] w fun x w' => x = .returned (.tuple #[]) ∧ ShiftOut w w' (fb p iv kv ++ (fb a ia ka ++ fb c ic kc)) p (L.set pl mx) ps s a c (l ++ [m]) (r.drop 1) (ql ++ qr.take 1) (qr.drop 1) := by
  obtain ⟨po, pc, rfl⟩ := row_slice hP.its
  obtain ⟨ko, kd, rfl⟩ := row_slice hP.kids
  obtain ⟨ao, ac, rfl⟩ := row_slice hA.its
  obtain ⟨qo, qc, rfl⟩ := row_slice hA.kids
  obtain ⟨co, cc, rfl⟩ := row_slice hB.its
  obtain ⟨xo, xc, rfl⟩ := row_slice hB.kids
  obtain ⟨hplt, hpa⟩ := List.getElem?_eq_some_iff.1 hpl
  obtain ⟨hplt2, hpc2⟩ := List.getElem?_eq_some_iff.1 hpc
  obtain ⟨hmt, hm2⟩ := List.getElem?_eq_some_iff.1 hm
  obtain ⟨kg, kd', ek, hkc, hkm, hkg, k0, -⟩ := kid_at hP.kids hplt
  injection ek with ek1 ek2 ek3
  subst ek1; subst ek3
  obtain ⟨kg', kd', ek, -, -, -, k1, -⟩ := kid_at hP.kids hplt2
  injection ek with ek1 ek2' ek3
  injection ek1 with ek1
  injection ek1 with ek1
  subst ek1; subst ek3
  rw [hpa] at k0
  rw [hpc2] at k1
  obtain ⟨pg, pc', ep, hpgc, hpgm, hpgg, j0, j1, jf⟩ := it_at hP.its hmt
  injection ep with ep1 ep2 ep3
  subst ep1; subst ep3
  rw [hm2] at j0 j1
  obtain ⟨-, d1, -, -⟩ := hP.nd.cells
  have H0 : Hid (S3 w w _ p (.slice (some ⟨pg, 0, none⟩) L.length pc) (.slice (some ⟨kg, 0, none⟩) ps.length kd) L ps s a (.slice ao l.length ac) (.slice qo ql.length qc) l ql sa c (.slice co r.length cc) (.slice xo qr.length xc) r qr sc) := S3.start hP hA hB hnod
  obtain ⟨Fo, hFo⟩ : ∃ Fo, Fo = fb p (.slice (some ⟨pg, 0, none⟩) L.length pc) (.slice (some ⟨kg, 0, none⟩) ps.length kd) ++ (fb a (.slice ao l.length ac) (.slice qo ql.length qc) ++ fb c (.slice co r.length cc) (.slice xo qr.length xc)) := ⟨_, rfl⟩
  rw [← hFo] at H0 hz hnod ⊢
  have HinA : Hid (a ∈ Fo) := by show a ∈ Fo; rw [hFo]; simp [fb]
  have HinB : Hid (c ∈ Fo) := by show c ∈ Fo; rw [hFo]; simp [fb]
  have HZ : Hid (∀ q ∈ ql ++ qr, w.cell? ⟨q, 2, none⟩ = some (.int .i64 (zsz w q)) ∧ 0 ≤ zsz w q ∧ q ∉ Fo) := hz
  have HB2 : Hid (zsum w (ql ++ qr) ≤ 1000000000000000000) := hb
  have hpi : (pl : Int) < ps.length := by omega
  have hpi1 : (pl : Int) + 1 < ps.length := by omega
  have hpi2 : (0 : Int) ≤ (pl : Int) + 1 := by omega
  have hpw : IntKind.i64.wrap ((pl : Int) + 1) = (pl : Int) + 1 := by rw [IntKind.wrap_i64]; omega
  have hpt : ((pl : Int) + 1).toNat = pl + 1 := by omega
  have hpL : (pl : Int) < L.length := by omega
  have HJ0 : Hid (L[pl]? = some m) := hm
  obtain ⟨np, hnp⟩ : ∃ np, np = L.length := ⟨_, rfl⟩
  obtain ⟨mp, hmp⟩ : ∃ mp, mp = ps.length := ⟨_, rfl⟩
  obtain ⟨na, hna⟩ : ∃ na, na = l.length := ⟨_, rfl⟩
  obtain ⟨nq, hnq⟩ : ∃ nq, nq = ql.length := ⟨_, rfl⟩
  obtain ⟨nc, hnc⟩ : ∃ nc, nc = r.length := ⟨_, rfl⟩
  obtain ⟨nx, hnx⟩ : ∃ nx, nx = qr.length := ⟨_, rfl⟩
  rw [← hnp, ← hmp, ← hna, ← hnq, ← hnc, ← hnx] at H0
  rw [← hmp] at d1 hpi hpi1
  rw [← hnp] at hpL
  have Hnp : Hid (np = L.length) := hnp
  have Hmp : Hid (mp = ps.length) := hmp
  have Hna : Hid (na = l.length) := hna
  have Hnq : Hid (nq = ql.length) := hnq
  have Hnc : Hid (nc = r.length) := hnc
  have Hnx : Hid (nx = qr.length) := hnx
  have hnp1 : np < 100 := by omega
  have hmp1 : mp < 100 := by omega
  have hna1 : na < 100 := by omega
  have hnc1 : nc < 100 := by omega
  have Hql : Hid _ := hql
  have Hqr : Hid _ := hqr
  have hnq0 : nq = na + 1 := by rw [hnq, hna]; exact hql
  have hnx0 : nx = nc + 1 := by rw [hnx, hnc]; exact hqr
  subst hnq0
  subst hnx0
  obtain ⟨hr0, hmx2⟩ := List.getElem?_eq_some_iff.1 hmx
  have Hmx : Hid (r[0]? = some mx) := hmx
  have hnc0 : 0 < nc := by omega
  obtain ⟨cg, cc', ec, hcc1, hcc2, -, -, -, -⟩ := it_at hB.its hr0
  injection ec with ec1 ec2 ec3
  subst ec1; subst ec3
  clear hP hA hB hnod hpl hpc hm hL hps hl hr hql hqr hz hb hpa hpc2 hm2 hplt hplt2 hmt ek2 ek2' ep2 hkc hkm hkg hpgc hpgm hpgg jf hnp hmp hna hnq hnc hnx hFo j0 j1 hmx hr0 hmx2 ec2
  go_enter Try.func84, Try.ntmps84
  go_wp2_with fail
  go_quiet (fail)
  obtain ⟨w1, hw1⟩ : ∃ w1, w1 = w.drewN nq := ⟨_, rfl⟩
  rw [← hw1]
  have H1 := H0.out.no (show Tch (fun _ => False) w w1 by rw [hw1]; exact (Tch.refl _ _).drewN _)
  replace H1 : Hid _ := H1
  clear hw1 k0 k1 d1 nq
  go_wp2_with fail
  obtain ⟨g9, c9, e9, -, -, -, y0, y1, -⟩ := it_at H1.out.P.its (show pl < L.length by have := Hnp.out; omega)
  have e9' : pg = g9 := by injection e9 with e1 e2 e3; injection e1 with e1; injection e1
  subst e9'
  rw [(List.getElem?_eq_some_iff.1 HJ0.out).2] at y0 y1
  have fp := H1.out.P.nd.cells.1
  clear e9
  have fa := H1.out.A.nd.cells.1
  obtain ⟨l2, hl2⟩ : ∃ l2, l2 = l ++ [m] := ⟨_, rfl⟩
  have Hl2 : Hid (l2 = l ++ [m]) := hl2
  have hln2 : l2.length = na + 1 := by rw [hl2, List.length_append, ← Hna.out]; rfl
  have na0 := (show (Value.slice ao na ac).ownBlock ≠ some a from (fun e => by have h := cnt9 H1.out.nod a; have h1 := count_mem (mem_bl.2 e); have h2 := count_mem (List.mem_singleton.2 (rfl : a = a)); omega))
  have na1 := (show (Value.slice ao na ac).ownBlock ≠ some p from (fun e => by have h := cnt9 H1.out.nod p; have h1 := count_mem (mem_bl.2 e); have h2 := count_mem (List.mem_singleton.2 (rfl : p = p)); omega))
  have na2 := (show (Value.slice ao na ac).ownBlock ≠ some pg from (fun e => by have h := cnt9 H1.out.nod pg; have h1 := count_mem (mem_bl.2 e); have h2 := count_mem (mem_bl.2 (show (Value.slice (some ⟨pg, 0, none⟩) np pc).ownBlock = some pg from rfl)); omega))
  have HD : Hid (∀ g W, Tch (fun _ => False) w1 W → W.heap[g]? = some (.cells #[.string m.1, ev m.2] 74 (0, 0)) → ∃ o c w', (Builtin.append_ #[65, 65] 65 #[.slice ao na ac, .slice (some ⟨g, 0, none⟩) 1 1]).run Try.prog W = .ok (.slice o (na + 1) c) w' ∧ RI (.slice ao na ac) (.slice o (na + 1) c) l2 w1 w') := fun g W tW hg => by
    have ho := own_tch H1.out.A.its tW (fun _ _ h => h)
    rw [← Hna.out] at ho
    obtain ⟨v', w', hr, R⟩ := Iapp W (.slice ao na ac) _ na 1 (icl l) [.string m.1, ev m.2] ho (own_one hg rfl) (by simp [Value.oneCell']) (by omega)
    have e : icl l ++ [.string m.1, ev m.2] = icl l2 := by rw [Hl2.out, icl_app]; rfl
    rw [e] at R
    obtain ⟨o, c, rfl⟩ := row_slice R.own
    exact ⟨o, c, w', hr, RS.pre (by rw [hln2]; exact R) tW⟩
  clear hl2
  have HK : Hid (∀ W, Tch (fun i => (Value.slice ao na ac).ownBlock = some i) w1 W → (W.cell? ⟨a, 0, none⟩ = some (.slice ao na ac) ∧ W.cell? ⟨p, 0, none⟩ = some (.slice (some ⟨pg, 0, none⟩) np pc) ∧ W.cell? ⟨pg, pl * 2, none⟩ = some (.string m.1) ∧ W.cell? ⟨pg, pl * 2 + 1, none⟩ = some (ev m.2))) := fun W tW => ⟨by rw [tW.cell (p := ⟨a, 0, none⟩) (cell_lt fa) na0]; exact fa, by rw [tW.cell (p := ⟨p, 0, none⟩) (cell_lt fp) na1]; exact fp, by rw [tW.cell (p := ⟨pg, pl * 2, none⟩) (cell_lt y0) na2]; exact y0, by rw [tW.cell (p := ⟨pg, pl * 2 + 1, none⟩) (cell_lt y1) na2]; exact y1⟩
  obtain ⟨C, hC⟩ : ∃ C : List Value → World → Prop, C = fun s W => match s with
    | [] => Tch (fun _ => False) w1 W
    | [x] => Tch (fun _ => False) w1 W ∧ ∃ g, x = .slice (some ⟨g, 0, none⟩) 1 1 ∧ W.heap[g]? = some (.cells #[.string m.1, ev m.2] 74 (0, 0)) ∧ w1.heap.size ≤ g
    | [_, y] => ∃ o c, y = .slice o (na + 1) c ∧ RI (.slice ao na ac) (.slice o (na + 1) c) l2 w1 W
    | _ => False := ⟨_, rfl⟩
  have hK : ∀ s W, C s W → W.cell? ⟨a, 0, none⟩ = some (.slice ao na ac) ∧ W.cell? ⟨p, 0, none⟩ = some (.slice (some ⟨pg, 0, none⟩) np pc) ∧ W.cell? ⟨pg, pl * 2, none⟩ = some (.string m.1) ∧ W.cell? ⟨pg, pl * 2 + 1, none⟩ = some (ev m.2) := fun s W h => by
    rw [hC] at h
    match s, h with
    | [], h => exact HK.out W (h.mono (fun _ _ h => h.elim))
    | [_], h => exact HK.out W (h.1.mono (fun _ _ h => h.elim))
    | [_, _], ⟨o, c, _, h⟩ => exact HK.out W h.tch
  have h1 : ∀ W, C [] W → C [.slice (some ⟨W.heap.size, 0, none⟩) 1 1] (W.alloc (.cells #[.string m.1, ev m.2] 74)) := fun W h => by
    rw [hC] at h ⊢
    exact ⟨h.allocR _, W.heap.size, rfl, alloc_new _ _, h.size⟩
  have h1s : ∀ x W, C [x] W → ∃ g, x = .slice (some ⟨g, 0, none⟩) 1 1 := fun x W h => by
    rw [hC] at h
    obtain ⟨_, g, e, _⟩ := h
    exact ⟨g, e⟩
  have h2s : ∀ x y W, C [x, y] W → ∃ o c, y = .slice o (na + 1) c := fun x y W h => by
    rw [hC] at h
    obtain ⟨o, c, e, _⟩ := h
    exact ⟨o, c, e⟩
  have Hfin : Hid (∀ x o c W, C [x, .slice o (na + 1) c] W → RI (.slice ao na ac) (.slice o (na + 1) c) l2 w1 W) := fun x o c W h => by
    rw [hC] at h
    obtain ⟨o', c', e, hr⟩ := h
    rw [e]; exact hr
  have h2 : ∀ g W, C [.slice (some ⟨g, 0, none⟩) 1 1] W → ∃ o c w', (Builtin.append_ #[65, 65] 65 #[.slice ao na ac, .slice (some ⟨g, 0, none⟩) 1 1]).run Try.prog W = .ok (.slice o (na + 1) c) w' ∧ C [.slice (some ⟨g, 0, none⟩) 1 1, .slice o (na + 1) c] w' := fun g W h => by
    rw [hC] at h
    obtain ⟨tW, g', e, hg, hge⟩ := h
    have e' : g = g' := by simpa using e
    subst e'
    obtain ⟨o, c, w', hr, hR⟩ := HD.out g W tW hg
    exact ⟨o, c, w', hr, by rw [hC]; exact ⟨o, c, rfl, hR⟩⟩
  have h0' : C [] w1.drew := by rw [hC]; exact (Tch.refl _ _).drew
  clear hC HK
  refine wp_region_ordv [12, 13] C 14 [0, 1, 2, 3, 4, 5, 6, 7, 8, 9, 10, 11, 12, 13] (by kernel_rfl) (by kernel_rfl) h0' ?_
  clear h0'
  refine ordv_read rfl (by go_simp) (by rfl) ?_
  apply Exists.intro
  refine ⟨fun s' Wy hW b K Q hK' => ?_, fun K hK' => ?_⟩
  · obtain ⟨y0, y1, y2, y3⟩ := hK _ Wy hW
    go_simp
    exact hK' Wy hW
  go_simp
  refine hK' _ ?_
  clear hK' K
  refine ordv_read rfl (by go_simp) (by rfl) ?_
  apply Exists.intro
  refine ⟨fun s' Wy hW b K Q hK' => ?_, fun K hK' => ?_⟩
  · obtain ⟨y0, y1, y2, y3⟩ := hK _ Wy hW
    go_simp
    exact hK' Wy hW
  go_simp
  refine hK' _ ?_
  clear hK' K
  refine ordv_read rfl (by go_simp) (by rfl) ?_
  apply Exists.intro
  refine ⟨fun s' Wy hW b K Q hK' => ?_, fun K hK' => ?_⟩
  · obtain ⟨y0, y1, y2, y3⟩ := hK _ Wy hW
    go_simp
    exact hK' Wy hW
  go_simp
  refine hK' _ ?_
  clear hK' K
  refine ordv_read rfl (by go_simp) (by rfl) ?_
  apply Exists.intro
  refine ⟨fun s' Wy hW b K Q hK' => ?_, fun K hK' => ?_⟩
  · obtain ⟨y0, y1, y2, y3⟩ := hK _ Wy hW
    go_simp
    exact hK' Wy hW
  go_simp
  refine hK' _ ?_
  clear hK' K
  refine ordv_read rfl (by go_simp) (by rfl) ?_
  apply Exists.intro
  refine ⟨fun s' Wy hW b K Q hK' => ?_, fun K hK' => ?_⟩
  · obtain ⟨y0, y1, y2, y3⟩ := hK _ Wy hW
    go_simp
    exact hK' Wy hW
  go_simp
  refine hK' _ ?_
  clear hK' K
  refine ordv_read rfl (by go_simp) (by rfl) ?_
  apply Exists.intro
  refine ⟨fun s' Wy hW b K Q hK' => ?_, fun K hK' => ?_⟩
  · obtain ⟨y0, y1, y2, y3⟩ := hK _ Wy hW
    go_simp
    exact hK' Wy hW
  go_simp
  refine hK' _ ?_
  clear hK' K
  refine ordv_read rfl (by go_simp) (by rfl) ?_
  apply Exists.intro
  refine ⟨fun s' Wy hW b K Q hK' => ?_, fun K hK' => ?_⟩
  · obtain ⟨y0, y1, y2, y3⟩ := hK _ Wy hW
    go_simp
    exact hK' Wy hW
  go_simp
  refine hK' _ ?_
  clear hK' K
  refine ordv_read rfl (by go_simp) (by rfl) ?_
  apply Exists.intro
  refine ⟨fun s' Wy hW b K Q hK' => ?_, fun K hK' => ?_⟩
  · obtain ⟨y0, y1, y2, y3⟩ := hK _ Wy hW
    go_simp
    exact hK' Wy hW
  go_simp
  refine hK' _ ?_
  clear hK' K
  refine ordv_read rfl (by go_simp) (by rfl) ?_
  apply Exists.intro
  refine ⟨fun s' Wy hW b K Q hK' => ?_, fun K hK' => ?_⟩
  · obtain ⟨y0, y1, y2, y3⟩ := hK _ Wy hW
    go_simp
    exact hK' Wy hW
  go_simp
  refine hK' _ ?_
  clear hK' K
  refine ordv_read rfl (by go_simp) (by rfl) ?_
  apply Exists.intro
  refine ⟨fun s' Wy hW b K Q hK' => ?_, fun K hK' => ?_⟩
  · obtain ⟨y0, y1, y2, y3⟩ := hK _ Wy hW
    go_simp
    exact hK' Wy hW
  go_simp
  refine hK' _ ?_
  clear hK' K
  refine ordv_read rfl (by go_simp) (by rfl) ?_
  apply Exists.intro
  refine ⟨fun s' Wy hW b K Q hK' => ?_, fun K hK' => ?_⟩
  · obtain ⟨y0, y1, y2, y3⟩ := hK _ Wy hW
    go_simp
    exact hK' Wy hW
  go_simp
  refine hK' _ ?_
  clear hK' K
  refine ordv_read rfl (by go_simp) (by rfl) ?_
  apply Exists.intro
  refine ⟨fun s' Wy hW b K Q hK' => ?_, fun K hK' => ?_⟩
  · obtain ⟨y0, y1, y2, y3⟩ := hK _ Wy hW
    go_simp
    exact hK' Wy hW
  go_simp
  refine hK' _ ?_
  clear hK' K
  refine ordv_turn rfl (by go_simp) (by rfl) (fun Wy hW b K Q hK' => ?_) (fun u hu K hK' => ?_)
  · go_simp
    exact hK' _ _ (h1 Wy hW)
  obtain ⟨g, rfl⟩ : ∃ g, u = .slice (some ⟨g, 0, none⟩) 1 1 := by
    obtain ⟨W', hW'⟩ := hu
    exact h1s u W' hW'
  clear hu h1 h1s
  go_simp
  refine hK' _ ?_
  clear hK' K
  refine ordv_turn rfl (by go_simp) (by rfl) (fun Wy hW => ?_) (fun u hu K hK' => ?_)
  · obtain ⟨o, c, w', hr, h3⟩ := h2 g Wy hW
    exact yv_append (.tmp 25) (.tmp 33) 65 rfl (.slice ao na ac) (.slice (some ⟨g, 0, none⟩) 1 1) rfl rfl hr h3
  obtain ⟨o2, c2, rfl⟩ : ∃ o c, u = .slice o (na + 1) c := by
    obtain ⟨W', hW'⟩ := hu
    exact h2s _ u W' hW'
  clear hu h2 h2s
  go_simp
  refine hK' _ ?_
  clear hK' K
  refine ordv_nil ?_
  intro w2a hw9
  have R9 : Hid (RI (.slice ao na ac) (.slice o2 (na + 1) c2) l2 w1 w2a) := Hfin.out _ _ _ _ hw9
  clear Hfin hK hw9
  have H2 : Hid (S3 w (w2a.setCell ⟨a, 0, none⟩ (.slice o2 (na + 1) c2)) Fo p (.slice (some ⟨pg, 0, none⟩) np pc) (.slice (some ⟨kg, 0, none⟩) mp kd) L ps s a (.slice o2 (na + 1) c2) (.slice qo (na + 1) qc) l2 ql sa c (.slice (some ⟨cg, 0, none⟩) nc cc) (.slice xo (nc + 1) xc) r qr sc) := H1.out.aI R9.out
  have f3 := (H1.out.A.nd.tch R9.out.tch na0).cells.1
  have f4 := (H1.out.A.nd.tch R9.out.tch na0).cells.2.2.2 0
  obtain ⟨w2, hw2⟩ : ∃ w2, w2 = w2a.setCell ⟨a, 0, none⟩ (.slice o2 (na + 1) c2) := ⟨_, rfl⟩
  rw [← hw2] at H2
  have Hw2 : Hid _ := hw2
  clear hw2 y0 y1 fp fa na0 na1 na2 HD R9 C
  go_wp2_with fail
  have hw := Hw2.out
  rw [← hw]
  clear hw f3 f4
  have fp := H2.out.P.nd.cells.1
  have fs := H2.out.B.nd.cells.1
  obtain ⟨L3, hL3⟩ : ∃ L3, L3 = L.set pl mx := ⟨_, rfl⟩
  have HL3 : Hid (L3 = L.set pl mx) := hL3
  obtain ⟨g8, c8, e8, -, -, -, jc0, jc1, jf⟩ := it_at H2.out.P.its (show pl < L.length by have := Hnp.out; omega)
  have e8' : pg = g8 := by injection e8 with e1 e2 e3; injection e1 with e1; injection e1
  subst e8'
  have jf0 := jf (pl * 2)
  have jf1 := jf (pl * 2 + 1)
  have HS : Hid (∀ W, Tch (fun _ => False) w2 W → S3 w ((W.setCell ⟨pg, pl * 2, none⟩ (.string mx.1)).setCell ⟨pg, pl * 2 + 1, none⟩ (ev mx.2)) Fo p (.slice (some ⟨pg, 0, none⟩) np pc) (.slice (some ⟨kg, 0, none⟩) mp kd) L3 ps s a (.slice o2 (na + 1) c2) (.slice qo (na + 1) qc) l2 ql sa c (.slice (some ⟨cg, 0, none⟩) nc cc) (.slice xo (nc + 1) xc) r qr sc) := fun W tW => by
    have h := H2.out.no tW
    have hP := h.P
    rw [Hnp.out] at hP
    have hn := h.apA.1
    rw [Hnp.out] at hn
    obtain ⟨h1, h2⟩ := hP.setIt (e := mx) hn (show pl < L.length by have := Hnp.out; omega)
    rw [← HL3.out, show L3.length = np by rw [HL3.out, List.length_set, ← Hnp.out]] at h1
    exact h.pF h1 rfl (h2.mono (fun i _ e => by rw [e]; rfl))
  obtain ⟨g7, c7, e7, -, -, -, y0, y1, -⟩ := it_at H2.out.B.its (show 0 < r.length by have := Hnc.out; omega)
  have e7' : cg = g7 := by injection e7 with e1 e2 e3; injection e1 with e1; injection e1
  subst e7'
  rw [(List.getElem?_eq_some_iff.1 Hmx.out).2] at y0 y1
  rw [Nat.zero_mul] at y0 y1
  rw [Nat.zero_add] at y1
  have hn0 : (0 : Int) < nc := by omega
  clear e7
  clear hL3 jf e8
  go_wp2_with fail
  go_region
  obtain ⟨w3, hw3⟩ : ∃ w3, w3 = ((w2.setCell ⟨pg, pl * 2, none⟩ (.string mx.1)).setCell ⟨pg, pl * 2 + 1, none⟩ (ev mx.2)).drew := ⟨_, rfl⟩
  rw [← hw3]
  have H3 : Hid (S3 w w3 Fo p (.slice (some ⟨pg, 0, none⟩) np pc) (.slice (some ⟨kg, 0, none⟩) mp kd) L3 ps s a (.slice o2 (na + 1) c2) (.slice qo (na + 1) qc) l2 ql sa c (.slice (some ⟨cg, 0, none⟩) nc cc) (.slice xo (nc + 1) xc) r qr sc) := by rw [hw3]; exact (HS.out w2 (Tch.refl _ _)).no (Tch.refl _ _).drew
  clear hw3 HS fp fs y0 y1 jf0 jf1 jc0 jc1
  obtain ⟨x4, hx4⟩ : ∃ x4, x4 = r.drop 1 := ⟨_, rfl⟩
  have Hx4 : Hid (x4 = r.drop 1) := hx4
  have hxn4 : x4.length = (nc - 1) := by rw [hx4, List.length_drop, ← Hnc.out]
  have q : Calls Try.prog 54 #[.slice (some ⟨cg, 0, none⟩) nc cc, .int .i64 0, .int .i64 1] w3 fun x w' => ∃ o c, x = .returned (.slice o (nc - 1) c) ∧ RI (.slice (some ⟨cg, 0, none⟩) nc cc) (.slice o (nc - 1) c) x4 w3 w' := by
    have ho := H3.out.B.its
    rw [← Hnc.out] at ho
    have q0 := Idelete_any (.slice (some ⟨cg, 0, none⟩) nc cc) nc 0 1 (icl r) w3 ho (by omega) (by omega) (by omega) (icl_one r)
    rw [show ((0 : Nat) : Int) = 0 from rfl, show (0 : Int) + ((1 : Nat) : Int) = 1 from rfl] at q0
    refine q0.mono ?_
    rintro x w' ⟨⟨v', rfl, hb', own'⟩, t'⟩
    rw [icl_take, icl_drop, ← icl_app, List.take_zero, List.nil_append, ← Hx4.out] at own'
    obtain ⟨o, c, rfl⟩ := row_slice own'
    exact ⟨o, c, rfl, by rw [hxn4]; exact own', Or.inl hb', t'⟩
  have f0 := H3.out.B.nd.cells.1
  have n0 : (Value.slice (some ⟨cg, 0, none⟩) nc cc).ownBlock ≠ some c := (nod_self H3.out.apA.2.2).1
  clear hx4
  go_wp2_with fail
  refine q.mono ?_
  rintro x w4a ⟨o4, c4, rfl, R9⟩
  have H4 : Hid (S3 w (w4a.setCell ⟨c, 0, none⟩ (.slice o4 (nc - 1) c4)) Fo p (.slice (some ⟨pg, 0, none⟩) np pc) (.slice (some ⟨kg, 0, none⟩) mp kd) L3 ps s a (.slice o2 (na + 1) c2) (.slice qo (na + 1) qc) l2 ql sa c (.slice o4 (nc - 1) c4) (.slice xo (nc + 1) xc) x4 qr sc) := H3.out.bI R9
  have f3 := (H3.out.B.nd.tch R9.tch n0).cells.1
  have f4 := (H3.out.B.nd.tch R9.tch n0).cells.2.2.2 0
  obtain ⟨w4, hw4⟩ : ∃ w4, w4 = w4a.setCell ⟨c, 0, none⟩ (.slice o4 (nc - 1) c4) := ⟨_, rfl⟩
  rw [← hw4] at H4
  have Hw4 : Hid _ := hw4
  clear R9 n0 q f0 hw4
  have q := leaf_any c (.slice o4 (nc - 1) c4) (.slice xo (nc + 1) xc) x4 qr sc w4 H4.out.B
  rw [show qr.isEmpty = false by have := Hqr.out; cases qr with | nil => simp at this | cons => rfl] at q
  go_wp2_with fail
  have hw := Hw4.out
  rw [← hw]
  clear hw f3 f4
  refine q.mono ?_
  rintro x w4b ⟨rfl, hwb⟩
  subst hwb
  clear q
  obtain ⟨xg, xc', ex, -, -, -, yk, -⟩ := kid_at H4.out.B.kids (show 0 < qr.length by have := Hqr.out; omega)
  have ex' : xo = some ⟨xg, 0, none⟩ := by injection ex
  subst ex'
  obtain ⟨qe, hqe⟩ : ∃ qe, qe = qr[0]'(by have := Hqr.out; omega) := ⟨_, rfl⟩
  rw [← hqe] at yk
  have Hqe : Hid (qr.take 1 = [qe]) := by
    show _ = _
    have h0 : 0 < qr.length := by have := Hqr.out; omega
    rw [hqe]
    exact List.take_succ_eq_append_getElem h0
  have fa := H4.out.A.nd.cells.2.1
  have fc := H4.out.B.nd.cells.2.1
  obtain ⟨q5, hq5⟩ : ∃ q5, q5 = ql ++ qr.take 1 := ⟨_, rfl⟩
  have Hq5 : Hid (q5 = ql ++ qr.take 1) := hq5
  have hqn5 : q5.length = na + 1 + 1 := by rw [hq5, Hqe.out, List.length_append, Hql.out, ← Hna.out]; rfl
  have na0 := (show (Value.slice qo (na + 1) qc).ownBlock ≠ some a from (fun e => by have h := cnt9 H4.out.nod a; have h1 := count_mem (mem_bl.2 e); have h2 := count_mem (List.mem_singleton.2 (rfl : a = a)); omega))
  have na1 := (show (Value.slice qo (na + 1) qc).ownBlock ≠ some c from (fun e => by have h := cnt9 H4.out.nod c; have h1 := count_mem (mem_bl.2 e); have h2 := count_mem (List.mem_singleton.2 (rfl : c = c)); omega))
  have na2 := (show (Value.slice qo (na + 1) qc).ownBlock ≠ some xg from (fun e => by have h := cnt9 H4.out.nod xg; have h1 := count_mem (mem_bl.2 e); have h2 := count_mem (mem_bl.2 (show (Value.slice (some ⟨xg, 0, none⟩) (nc + 1) xc).ownBlock = some xg from rfl)); omega))
  have HD : Hid (∀ g W, Tch (fun _ => False) w4b W → W.heap[g]? = some (.cells #[pv qe] 62 (0, 0)) → ∃ o c w', (Builtin.append_ #[66, 66] 66 #[.slice qo (na + 1) qc, .slice (some ⟨g, 0, none⟩) 1 1]).run Try.prog W = .ok (.slice o (na + 1 + 1) c) w' ∧ RK (.slice qo (na + 1) qc) (.slice o (na + 1 + 1) c) q5 w4b w') := fun g W tW hg => by
    have ho := own_tch H4.out.A.kids tW (fun _ _ h => h)
    rw [Hql.out, ← Hna.out] at ho
    obtain ⟨v', w', hr, R⟩ := Kapp W (.slice qo (na + 1) qc) _ (na + 1) 1 (pcl ql) [pv qe] ho (own_one hg rfl) (by simp [Value.oneCell']) (by omega)
    have e : pcl ql ++ [pv qe] = pcl q5 := by rw [Hq5.out, Hqe.out, pcl_app]; rfl
    rw [e] at R
    obtain ⟨o, c, rfl⟩ := row_slice R.own
    exact ⟨o, c, w', hr, RS.pre (by rw [hqn5]; exact R) tW⟩
  have hx0 : (0 : Int) < (nc : Int) + 1 := by omega
  clear hq5 hqe ex
  go_wp2_with fail
  have HK : Hid (∀ W, Tch (fun i => (Value.slice qo (na + 1) qc).ownBlock = some i) w4b W → (W.cell? ⟨a, 1, none⟩ = some (.slice qo (na + 1) qc) ∧ W.cell? ⟨c, 1, none⟩ = some (.slice (some ⟨xg, 0, none⟩) (nc + 1) xc) ∧ W.cell? ⟨xg, 0, none⟩ = some (pv qe))) := fun W tW => ⟨by rw [tW.cell (p := ⟨a, 1, none⟩) (cell_lt fa) na0]; exact fa, by rw [tW.cell (p := ⟨c, 1, none⟩) (cell_lt fc) na1]; exact fc, by rw [tW.cell (p := ⟨xg, 0, none⟩) (cell_lt yk) na2]; exact yk⟩
  obtain ⟨C, hC⟩ : ∃ C : List Value → World → Prop, C = fun s W => match s with
    | [] => Tch (fun _ => False) w4b W
    | [x] => Tch (fun _ => False) w4b W ∧ ∃ g, x = .slice (some ⟨g, 0, none⟩) 1 1 ∧ W.heap[g]? = some (.cells #[pv qe] 62 (0, 0)) ∧ w4b.heap.size ≤ g
    | [_, y] => ∃ o c, y = .slice o (na + 1 + 1) c ∧ RK (.slice qo (na + 1) qc) (.slice o (na + 1 + 1) c) q5 w4b W
    | _ => False := ⟨_, rfl⟩
  have hK : ∀ s W, C s W → W.cell? ⟨a, 1, none⟩ = some (.slice qo (na + 1) qc) ∧ W.cell? ⟨c, 1, none⟩ = some (.slice (some ⟨xg, 0, none⟩) (nc + 1) xc) ∧ W.cell? ⟨xg, 0, none⟩ = some (pv qe) := fun s W h => by
    rw [hC] at h
    match s, h with
    | [], h => exact HK.out W (h.mono (fun _ _ h => h.elim))
    | [_], h => exact HK.out W (h.1.mono (fun _ _ h => h.elim))
    | [_, _], ⟨o, c, _, h⟩ => exact HK.out W h.tch
  have h1 : ∀ W, C [] W → C [.slice (some ⟨W.heap.size, 0, none⟩) 1 1] (W.alloc (.cells #[pv qe] 62)) := fun W h => by
    rw [hC] at h ⊢
    exact ⟨h.allocR _, W.heap.size, rfl, alloc_new _ _, h.size⟩
  have h1s : ∀ x W, C [x] W → ∃ g, x = .slice (some ⟨g, 0, none⟩) 1 1 := fun x W h => by
    rw [hC] at h
    obtain ⟨_, g, e, _⟩ := h
    exact ⟨g, e⟩
  have h2s : ∀ x y W, C [x, y] W → ∃ o c, y = .slice o (na + 1 + 1) c := fun x y W h => by
    rw [hC] at h
    obtain ⟨o, c, e, _⟩ := h
    exact ⟨o, c, e⟩
  have Hfin : Hid (∀ x o c W, C [x, .slice o (na + 1 + 1) c] W → RK (.slice qo (na + 1) qc) (.slice o (na + 1 + 1) c) q5 w4b W) := fun x o c W h => by
    rw [hC] at h
    obtain ⟨o', c', e, hr⟩ := h
    rw [e]; exact hr
  have h2 : ∀ g W, C [.slice (some ⟨g, 0, none⟩) 1 1] W → ∃ o c w', (Builtin.append_ #[66, 66] 66 #[.slice qo (na + 1) qc, .slice (some ⟨g, 0, none⟩) 1 1]).run Try.prog W = .ok (.slice o (na + 1 + 1) c) w' ∧ C [.slice (some ⟨g, 0, none⟩) 1 1, .slice o (na + 1 + 1) c] w' := fun g W h => by
    rw [hC] at h
    obtain ⟨tW, g', e, hg, hge⟩ := h
    have e' : g = g' := by simpa using e
    subst e'
    obtain ⟨o, c, w', hr, hR⟩ := HD.out g W tW hg
    exact ⟨o, c, w', hr, by rw [hC]; exact ⟨o, c, rfl, hR⟩⟩
  have h0' : C [] w4b.drew := by rw [hC]; exact (Tch.refl _ _).drew
  clear hC HK
  refine wp_region_ordv [11, 12] C 13 [0, 1, 2, 3, 4, 5, 6, 7, 8, 9, 10, 11, 12] (by kernel_rfl) (by kernel_rfl) h0' ?_
  clear h0'
  refine ordv_read rfl (by go_simp) (by rfl) ?_
  apply Exists.intro
  refine ⟨fun s' Wy hW b K Q hK' => ?_, fun K hK' => ?_⟩
  · obtain ⟨y0, y1, y2⟩ := hK _ Wy hW
    go_simp
    exact hK' Wy hW
  go_simp
  refine hK' _ ?_
  clear hK' K
  refine ordv_read rfl (by go_simp) (by rfl) ?_
  apply Exists.intro
  refine ⟨fun s' Wy hW b K Q hK' => ?_, fun K hK' => ?_⟩
  · obtain ⟨y0, y1, y2⟩ := hK _ Wy hW
    go_simp
    exact hK' Wy hW
  go_simp
  refine hK' _ ?_
  clear hK' K
  refine ordv_read rfl (by go_simp) (by rfl) ?_
  apply Exists.intro
  refine ⟨fun s' Wy hW b K Q hK' => ?_, fun K hK' => ?_⟩
  · obtain ⟨y0, y1, y2⟩ := hK _ Wy hW
    go_simp
    exact hK' Wy hW
  go_simp
  refine hK' _ ?_
  clear hK' K
  refine ordv_read rfl (by go_simp) (by rfl) ?_
  apply Exists.intro
  refine ⟨fun s' Wy hW b K Q hK' => ?_, fun K hK' => ?_⟩
  · obtain ⟨y0, y1, y2⟩ := hK _ Wy hW
    go_simp
    exact hK' Wy hW
  go_simp
  refine hK' _ ?_
  clear hK' K
  refine ordv_read rfl (by go_simp) (by rfl) ?_
  apply Exists.intro
  refine ⟨fun s' Wy hW b K Q hK' => ?_, fun K hK' => ?_⟩
  · obtain ⟨y0, y1, y2⟩ := hK _ Wy hW
    go_simp
    exact hK' Wy hW
  go_simp
  refine hK' _ ?_
  clear hK' K
  refine ordv_read rfl (by go_simp) (by rfl) ?_
  apply Exists.intro
  refine ⟨fun s' Wy hW b K Q hK' => ?_, fun K hK' => ?_⟩
  · obtain ⟨y0, y1, y2⟩ := hK _ Wy hW
    go_simp
    exact hK' Wy hW
  go_simp
  refine hK' _ ?_
  clear hK' K
  refine ordv_read rfl (by go_simp) (by rfl) ?_
  apply Exists.intro
  refine ⟨fun s' Wy hW b K Q hK' => ?_, fun K hK' => ?_⟩
  · obtain ⟨y0, y1, y2⟩ := hK _ Wy hW
    go_simp
    exact hK' Wy hW
  go_simp
  refine hK' _ ?_
  clear hK' K
  refine ordv_read rfl (by go_simp) (by rfl) ?_
  apply Exists.intro
  refine ⟨fun s' Wy hW b K Q hK' => ?_, fun K hK' => ?_⟩
  · obtain ⟨y0, y1, y2⟩ := hK _ Wy hW
    go_simp
    exact hK' Wy hW
  go_simp
  refine hK' _ ?_
  clear hK' K
  refine ordv_read rfl (by go_simp) (by rfl) ?_
  apply Exists.intro
  refine ⟨fun s' Wy hW b K Q hK' => ?_, fun K hK' => ?_⟩
  · obtain ⟨y0, y1, y2⟩ := hK _ Wy hW
    go_simp
    exact hK' Wy hW
  go_simp
  refine hK' _ ?_
  clear hK' K
  refine ordv_read rfl (by go_simp) (by rfl) ?_
  apply Exists.intro
  refine ⟨fun s' Wy hW b K Q hK' => ?_, fun K hK' => ?_⟩
  · obtain ⟨y0, y1, y2⟩ := hK _ Wy hW
    go_simp
    exact hK' Wy hW
  go_simp
  refine hK' _ ?_
  clear hK' K
  refine ordv_read rfl (by go_simp) (by rfl) ?_
  apply Exists.intro
  refine ⟨fun s' Wy hW b K Q hK' => ?_, fun K hK' => ?_⟩
  · obtain ⟨y0, y1, y2⟩ := hK _ Wy hW
    go_simp
    exact hK' Wy hW
  go_simp
  refine hK' _ ?_
  clear hK' K
  refine ordv_turn rfl (by go_simp) (by rfl) (fun Wy hW b K Q hK' => ?_) (fun u hu K hK' => ?_)
  · go_simp
    exact hK' _ _ (h1 Wy hW)
  obtain ⟨g, rfl⟩ : ∃ g, u = .slice (some ⟨g, 0, none⟩) 1 1 := by
    obtain ⟨W', hW'⟩ := hu
    exact h1s u W' hW'
  clear hu h1 h1s
  go_simp
  refine hK' _ ?_
  clear hK' K
  refine ordv_turn rfl (by go_simp) (by rfl) (fun Wy hW => ?_) (fun u hu K hK' => ?_)
  · obtain ⟨o, c, w', hr, h3⟩ := h2 g Wy hW
    exact yv_append (.tmp 64) (.tmp 71) 66 rfl (.slice qo (na + 1) qc) (.slice (some ⟨g, 0, none⟩) 1 1) rfl rfl hr h3
  obtain ⟨o5, c5, rfl⟩ : ∃ o c, u = .slice o (na + 1 + 1) c := by
    obtain ⟨W', hW'⟩ := hu
    exact h2s _ u W' hW'
  clear hu h2 h2s
  go_simp
  refine hK' _ ?_
  clear hK' K
  refine ordv_nil ?_
  intro w5a hw9
  have R9 : Hid (RK (.slice qo (na + 1) qc) (.slice o5 (na + 1 + 1) c5) q5 w4b w5a) := Hfin.out _ _ _ _ hw9
  clear Hfin hK hw9
  have H5 : Hid (S3 w (w5a.setCell ⟨a, 1, none⟩ (.slice o5 (na + 1 + 1) c5)) Fo p (.slice (some ⟨pg, 0, none⟩) np pc) (.slice (some ⟨kg, 0, none⟩) mp kd) L3 ps s a (.slice o2 (na + 1) c2) (.slice o5 (na + 1 + 1) c5) l2 q5 sa c (.slice o4 (nc - 1) c4) (.slice (some ⟨xg, 0, none⟩) (nc + 1) xc) x4 qr sc) := H4.out.aK R9.out
  have f3 := (H4.out.A.nd.tch R9.out.tch na0).cells.2.1
  have f4 := (H4.out.A.nd.tch R9.out.tch na0).cells.2.2.2 1
  obtain ⟨w5, hw5⟩ : ∃ w5, w5 = w5a.setCell ⟨a, 1, none⟩ (.slice o5 (na + 1 + 1) c5) := ⟨_, rfl⟩
  rw [← hw5] at H5
  have Hw5 : Hid _ := hw5
  have f5 := H5.out.B.nd.cells.2.1
  rw [hw5] at f5
  clear hw5 fa fc yk na0 na1 na2 HD R9 C
  obtain ⟨x6, hx6⟩ : ∃ x6, x6 = qr.drop 1 := ⟨_, rfl⟩
  have Hx6 : Hid (x6 = qr.drop 1) := hx6
  have hxn6 : x6.length = nc := by rw [hx6, List.length_drop, Hqr.out, ← Hnc.out]; omega
  have q : Calls Try.prog 80 #[.slice (some ⟨xg, 0, none⟩) (nc + 1) xc, .int .i64 0, .int .i64 1] w5 fun x w' => ∃ o c, x = .returned (.slice o nc c) ∧ RK (.slice (some ⟨xg, 0, none⟩) (nc + 1) xc) (.slice o nc c) x6 w5 w' := by
    have ho := H5.out.B.kids
    rw [Hqr.out, ← Hnc.out] at ho
    have q0 := Kdelete_any (.slice (some ⟨xg, 0, none⟩) (nc + 1) xc) (nc + 1) 0 1 (pcl qr) w5 ho (by omega) (by omega) (by omega) (pcl_one qr)
    rw [show ((0 : Nat) : Int) = 0 from rfl, show (0 : Int) + ((1 : Nat) : Int) = 1 from rfl] at q0
    refine q0.mono ?_
    rintro x w' ⟨⟨v', rfl, hb', own'⟩, t'⟩
    rw [pcl_take, pcl_drop, ← pcl_app, List.take_zero, List.nil_append, ← Hx6.out] at own'
    obtain ⟨o, c, rfl⟩ := row_slice own'
    exact ⟨o, c, rfl, by rw [hxn6]; exact own', Or.inl hb', t'⟩
  have n0 : (Value.slice (some ⟨xg, 0, none⟩) (nc + 1) xc).ownBlock ≠ some c := (nod_self H5.out.apA.2.2).2
  clear hx6
  go_wp2_with fail
  have hw := Hw5.out
  rw [← hw]
  clear hw f3 f4 f5
  refine q.mono ?_
  rintro x w6a ⟨o6, c6, rfl, R9⟩
  have H6 : Hid (S3 w (w6a.setCell ⟨c, 1, none⟩ (.slice o6 nc c6)) Fo p (.slice (some ⟨pg, 0, none⟩) np pc) (.slice (some ⟨kg, 0, none⟩) mp kd) L3 ps s a (.slice o2 (na + 1) c2) (.slice o5 (na + 1 + 1) c5) l2 q5 sa c (.slice o4 (nc - 1) c4) (.slice o6 nc c6) x4 x6 sc) := H5.out.bK R9
  have f3 := (H5.out.B.nd.tch R9.tch n0).cells.2.1
  have f4 := (H5.out.B.nd.tch R9.tch n0).cells.2.2.2 1
  obtain ⟨w6, hw6⟩ : ∃ w6, w6 = w6a.setCell ⟨c, 1, none⟩ (.slice o6 nc c6) := ⟨_, rfl⟩
  rw [← hw6] at H6
  have Hw6 : Hid _ := hw6
  clear R9 n0 q hw6
  have HNN : Hid (∀ q ∈ ql ++ qr, 0 ≤ zsz w q) := fun q hq => (HZ.out q hq).2.1
  have HBA : Hid (zsum w q5 ≤ 1000000000000000000) := by
    show _ ≤ _
    have h1 := HB2.out
    have h2 := zsum_split w qr 1
    have h3 := zsum_nonneg w 0 (qr.drop 1) (fun q hq => HNN.out q (List.mem_append_right _ (List.mem_of_mem_drop hq)))
    rw [zsum_app] at h1
    rw [Hq5.out, zsum_app]
    omega
  have HBB : Hid (zsum w x6 ≤ 1000000000000000000) := by
    show _ ≤ _
    have h1 := HB2.out
    have h2 := zsum_split w qr 1
    have h3 := zsum_nonneg w 0 ql (fun q hq => HNN.out q (List.mem_append_left _ hq))
    have h4 := zsum_nonneg w 0 (qr.take 1) (fun q hq => HNN.out q (List.mem_append_right _ (List.mem_of_mem_take hq)))
    rw [zsum_app] at h1
    rw [Hx6.out]
    omega
  have z1 := H6.out.zs (qs := q5) (fun q hq => HZ.out q ((fun h => by rw [Hq5.out] at h; rcases List.mem_append.1 h with h | h; exact List.mem_append_left _ h; exact List.mem_append_right _ (List.mem_of_mem_take h)) hq))
  have q := recount_any a (.slice o2 (na + 1) c2) (.slice o5 (na + 1 + 1) c5) l2 q5 sa w6 H6.out.A (fun q hq => ⟨(z1.1 q hq).1, (z1.1 q hq).2, fun e => (HZ.out q ((fun h => by rw [Hq5.out] at h; rcases List.mem_append.1 h with h | h; exact List.mem_append_left _ h; exact List.mem_append_right _ (List.mem_of_mem_take h)) hq)).2.2 (by rw [e]; exact HinA.out)⟩) (by rw [z1.2]; exact HBA.out) (by omega) (by omega) (nod_self H6.out.apA.2.1).1 (nod_self H6.out.apA.2.1).2
  rw [z1.2] at q
  clear z1
  go_wp2_with fail
  have hw := Hw6.out
  rw [← hw]
  clear hw f3 f4
  refine q.mono ?_
  rintro x w7 ⟨rfl, Fq, tq⟩
  have H7 : Hid (S3 w w7 Fo p (.slice (some ⟨pg, 0, none⟩) np pc) (.slice (some ⟨kg, 0, none⟩) mp kd) L3 ps s a (.slice o2 (na + 1) c2) (.slice o5 (na + 1 + 1) c5) l2 q5 (l2.length + zsum w q5) c (.slice o4 (nc - 1) c4) (.slice o6 nc c6) x4 x6 sc) := H6.out.aZ Fq tq
  clear q Fq tq
  have z1 := H7.out.zs (qs := x6) (fun q hq => HZ.out q ((fun h => by rw [Hx6.out] at h; exact List.mem_append_right _ (List.mem_of_mem_drop h)) hq))
  have q := recount_any c (.slice o4 (nc - 1) c4) (.slice o6 nc c6) x4 x6 sc w7 H7.out.B (fun q hq => ⟨(z1.1 q hq).1, (z1.1 q hq).2, fun e => (HZ.out q ((fun h => by rw [Hx6.out] at h; exact List.mem_append_right _ (List.mem_of_mem_drop h)) hq)).2.2 (by rw [e]; exact HinB.out)⟩) (by rw [z1.2]; exact HBB.out) (by omega) (by omega) (nod_self H7.out.apA.2.2).1 (nod_self H7.out.apA.2.2).2
  rw [z1.2] at q
  clear z1
  go_wp2_with fail
  refine q.mono ?_
  rintro x w8 ⟨rfl, Fq, tq⟩
  have H8 : Hid (S3 w w8 Fo p (.slice (some ⟨pg, 0, none⟩) np pc) (.slice (some ⟨kg, 0, none⟩) mp kd) L3 ps s a (.slice o2 (na + 1) c2) (.slice o5 (na + 1 + 1) c5) l2 q5 (l2.length + zsum w q5) c (.slice o4 (nc - 1) c4) (.slice o6 nc c6) x4 x6 (x4.length + zsum w x6)) := H7.out.bZ Fq tq
  clear q Fq tq
  go_wp2_with fail
  go_end0
  have h := H8.out
  rw [HL3.out, Hx4.out, Hl2.out, Hq5.out, Hx6.out] at h
  exact ⟨rfl, _, _, _, _, _, _, h⟩
end Go.Proofs.Ytnjiiebjdpipjaa
