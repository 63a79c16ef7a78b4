import Derived.Test.YtnjiiebjdpipjaaTDnL
import Derived.Lib.QuietBelow
/- join_any. -/
namespace Go.Proofs.Ytnjiiebjdpipjaa
open Go.RowKit Go

set_option maxHeartbeats 4000000 in
set_option maxRecDepth 100000 in
theorem join_any (w : World) (p : Nat) (iv kv : Value) (L : List It) (ps : List Nat) (s : Int) (a : Nat) (ia ka : Value) (l : List It) (ql : List Nat) (sa : Int) (c : Nat) (ic kc : Value) (r : List It) (qr : List Nat) (sc : Int) (pl : Nat) (m : It)
    (hP : FN w p iv kv L ps s) (hA : FN w a ia ka l ql sa) (hB : FN w c ic kc r qr sc) (hnod : Nod (fb p iv kv ++ (fb a ia ka ++ fb c ic kc))) (hpl : ps[pl]? = some a) (hpc : ps[pl + 1]? = some c) (hm : L[pl]? = some m) (hL : L.length < 100) (hps : ps.length < 100) (hl : l.length < 100) (hr : r.length < 100)
    (hql : ql.length < 100) (hqr : qr.length < 100)
    (hz : ∀ q ∈ ql ++ qr, w.cell? ⟨q, 2, none⟩ = some (.int .i64 (zsz w q)) ∧ 0 ≤ zsz w q ∧ q ∉ fb p iv kv ++ (fb a ia ka ++ fb c ic kc)) (hb : zsum w (ql ++ qr) ≤ 1000000000000000000) :
    Calls Try.prog 85 #[pv p, .int .i64 pl] w fun x w' => x = .returned (.tuple #[]) ∧ JoinOut w w' (fb p iv kv ++ (fb a ia ka ++ fb c ic kc)) p (L.take pl ++ L.drop (pl + 1)) (ps.take (pl + 1) ++ ps.drop (pl + 2)) s a c (l ++ m :: r) (ql ++ qr) := by
  obtain ⟨po, pc, rfl⟩ := row_slice hP.its
  obtain ⟨ko, kd, rfl⟩ := row_slice hP.kids
  obtain ⟨ao, ac, rfl⟩ := row_slice hA.its
  obtain ⟨qo, qc, rfl⟩ := row_slice hA.kids
  obtain ⟨co, cc, rfl⟩ := row_slice hB.its
  obtain ⟨xo, xc, rfl⟩ := row_slice hB.kids
  obtain ⟨hplt, hpa⟩ := List.getElem?_eq_some_iff.1 hpl
  obtain ⟨hplt2, hpc2⟩ := List.getElem?_eq_some_iff.1 hpc
  obtain ⟨hmt, hm2⟩ := List.getElem?_eq_some_iff.1 hm
  obtain ⟨kg, kd', ek, hkc, hkm, hkg, k0, -⟩ := kid_at hP.kids hplt
  injection ek with ek1 ek2 ek3
  subst ek1; subst ek3
  obtain ⟨kg', kd', ek, -, -, -, k1, -⟩ := kid_at hP.kids hplt2
  injection ek with ek1 ek2' ek3
  injection ek1 with ek1
  injection ek1 with ek1
  subst ek1; subst ek3
  rw [hpa] at k0
  rw [hpc2] at k1
  obtain ⟨pg, pc', ep, hpgc, hpgm, hpgg, j0, j1, jf⟩ := it_at hP.its hmt
  injection ep with ep1 ep2 ep3
  subst ep1; subst ep3
  rw [hm2] at j0 j1
  obtain ⟨-, d1, -, -⟩ := hP.nd.cells
  have H0 : Hid (S3 w w _ p (.slice (some ⟨pg, 0, none⟩) L.length pc) (.slice (some ⟨kg, 0, none⟩) ps.length kd) L ps s a (.slice ao l.length ac) (.slice qo ql.length qc) l ql sa c (.slice co r.length cc) (.slice xo qr.length xc) r qr sc) := S3.start hP hA hB hnod
  obtain ⟨Fo, hFo⟩ : ∃ Fo, Fo = fb p (.slice (some ⟨pg, 0, none⟩) L.length pc) (.slice (some ⟨kg, 0, none⟩) ps.length kd) ++ (fb a (.slice ao l.length ac) (.slice qo ql.length qc) ++ fb c (.slice co r.length cc) (.slice xo qr.length xc)) := ⟨_, rfl⟩
  rw [← hFo] at H0 hz hnod ⊢
  have HinA : Hid (a ∈ Fo) := by show a ∈ Fo; rw [hFo]; simp [fb]
  have HinB : Hid (c ∈ Fo) := by show c ∈ Fo; rw [hFo]; simp [fb]
  have HZ : Hid (∀ q ∈ ql ++ qr, w.cell? ⟨q, 2, none⟩ = some (.int .i64 (zsz w q)) ∧ 0 ≤ zsz w q ∧ q ∉ Fo) := hz
  have HB2 : Hid (zsum w (ql ++ qr) ≤ 1000000000000000000) := hb
  have hpi : (pl : Int) < ps.length := by omega
  have hpi1 : (pl : Int) + 1 < ps.length := by omega
  have hpi2 : (0 : Int) ≤ (pl : Int) + 1 := by omega
  have hpw : IntKind.i64.wrap ((pl : Int) + 1) = (pl : Int) + 1 := by rw [IntKind.wrap_i64]; omega
  have hpt : ((pl : Int) + 1).toNat = pl + 1 := by omega
  have hpL : (pl : Int) < L.length := by omega
  have HJ0 : Hid (L[pl]? = some m) := hm
  obtain ⟨np, hnp⟩ : ∃ np, np = L.length := ⟨_, rfl⟩
  obtain ⟨mp, hmp⟩ : ∃ mp, mp = ps.length := ⟨_, rfl⟩
  obtain ⟨na, hna⟩ : ∃ na, na = l.length := ⟨_, rfl⟩
  obtain ⟨nq, hnq⟩ : ∃ nq, nq = ql.length := ⟨_, rfl⟩
  obtain ⟨nc, hnc⟩ : ∃ nc, nc = r.length := ⟨_, rfl⟩
  obtain ⟨nx, hnx⟩ : ∃ nx, nx = qr.length := ⟨_, rfl⟩
  rw [← hnp, ← hmp, ← hna, ← hnq, ← hnc, ← hnx] at H0
  rw [← hmp] at d1 hpi hpi1
  rw [← hnp] at hpL
  have Hnp : Hid (np = L.length) := hnp
  have Hmp : Hid (mp = ps.length) := hmp
  have Hna : Hid (na = l.length) := hna
  have Hnq : Hid (nq = ql.length) := hnq
  have Hnc : Hid (nc = r.length) := hnc
  have Hnx : Hid (nx = qr.length) := hnx
  have hnp1 : np < 100 := by omega
  have hmp1 : mp < 100 := by omega
  have hna1 : na < 100 := by omega
  have hnc1 : nc < 100 := by omega
  have Hql : Hid _ := hql
  have Hqr : Hid _ := hqr
  have hnq1 : nq < 100 := by omega
  have hnx1 : nx < 100 := by omega
  obtain ⟨nk, hnk⟩ : ∃ nk, nk = nq := ⟨_, rfl⟩
  rw [← hnk] at H0 Hnq hnq1
  clear hP hA hB hnod hpl hpc hm hL hps hl hr hql hqr hz hb hpa hpc2 hm2 hplt hplt2 hmt ek2 ek2' ep2 hkc hkm hkg hpgc hpgm hpgg jf hnp hmp hna hnq hnc hnx hFo j0 j1 hnk
  go_enter Try.func85, Try.ntmps85
  go_wp2_with fail
  go_quiet (fail)
  obtain ⟨w1, hw1⟩ : ∃ w1, w1 = w.drewN nq := ⟨_, rfl⟩
  rw [← hw1]
  have H1 := H0.out.no (show Tch (fun _ => False) w w1 by rw [hw1]; exact (Tch.refl _ _).drewN _)
  replace H1 : Hid _ := H1
  clear hw1 k0 k1 d1 nq
  go_wp2_with fail
  obtain ⟨g9, c9, e9, -, -, -, y0, y1, -⟩ := it_at H1.out.P.its (show pl < L.length by have := Hnp.out; omega)
  have e9' : pg = g9 := by injection e9 with e1 e2 e3; injection e1 with e1; injection e1
  subst e9'
  rw [(List.getElem?_eq_some_iff.1 HJ0.out).2] at y0 y1
  have fp := H1.out.P.nd.cells.1
  clear e9
  have fa := H1.out.A.nd.cells.1
  obtain ⟨l2, hl2⟩ : ∃ l2, l2 = l ++ [m] := ⟨_, rfl⟩
  have Hl2 : Hid (l2 = l ++ [m]) := hl2
  have hln2 : l2.length = na + 1 := by rw [hl2, List.length_append, ← Hna.out]; rfl
  have na0 := (show (Value.slice ao na ac).ownBlock ≠ some a from (fun e => by have h := cnt9 H1.out.nod a; have h1 := count_mem (mem_bl.2 e); have h2 := count_mem (List.mem_singleton.2 (rfl : a = a)); omega))
  have na1 := (show (Value.slice ao na ac).ownBlock ≠ some p from (fun e => by have h := cnt9 H1.out.nod p; have h1 := count_mem (mem_bl.2 e); have h2 := count_mem (List.mem_singleton.2 (rfl : p = p)); omega))
  have na2 := (show (Value.slice ao na ac).ownBlock ≠ some pg from (fun e => by have h := cnt9 H1.out.nod pg; have h1 := count_mem (mem_bl.2 e); have h2 := count_mem (mem_bl.2 (show (Value.slice (some ⟨pg, 0, none⟩) np pc).ownBlock = some pg from rfl)); omega))
  have HD : Hid (∀ g W, Tch (fun _ => False) w1 W → W.heap[g]? = some (.cells #[.string m.1, ev m.2] 74 (0, 0)) → ∃ o c w', (Builtin.append_ #[65, 65] 65 #[.slice ao na ac, .slice (some ⟨g, 0, none⟩) 1 1]).run Try.prog W = .ok (.slice o (na + 1) c) w' ∧ RI (.slice ao na ac) (.slice o (na + 1) c) l2 w1 w') := fun g W tW hg => by
    have ho := own_tch H1.out.A.its tW (fun _ _ h => h)
    rw [← Hna.out] at ho
    obtain ⟨v', w', hr, R⟩ := Iapp W (.slice ao na ac) _ na 1 (icl l) [.string m.1, ev m.2] ho (own_one hg rfl) (by simp [Value.oneCell']) (by omega)
    have e : icl l ++ [.string m.1, ev m.2] = icl l2 := by rw [Hl2.out, icl_app]; rfl
    rw [e] at R
    obtain ⟨o, c, rfl⟩ := row_slice R.own
    exact ⟨o, c, w', hr, RS.pre (by rw [hln2]; exact R) tW⟩
  clear hl2
  have HK : Hid (∀ W, Tch (fun i => (Value.slice ao na ac).ownBlock = some i) w1 W → (W.cell? ⟨a, 0, none⟩ = some (.slice ao na ac) ∧ W.cell? ⟨p, 0, none⟩ = some (.slice (some ⟨pg, 0, none⟩) np pc) ∧ W.cell? ⟨pg, pl * 2, none⟩ = some (.string m.1) ∧ W.cell? ⟨pg, pl * 2 + 1, none⟩ = some (ev m.2))) := fun W tW => ⟨by rw [tW.cell (p := ⟨a, 0, none⟩) (cell_lt fa) na0]; exact fa, by rw [tW.cell (p := ⟨p, 0, none⟩) (cell_lt fp) na1]; exact fp, by rw [tW.cell (p := ⟨pg, pl * 2, none⟩) (cell_lt y0) na2]; exact y0, by rw [tW.cell (p := ⟨pg, pl * 2 + 1, none⟩) (cell_lt y1) na2]; exact y1⟩
  obtain ⟨C, hC⟩ : ∃ C : List Value → World → Prop, C = fun s W => match s with
    | [] => Tch (fun _ => False) w1 W
    | [x] => Tch (fun _ => False) w1 W ∧ ∃ g, x = .slice (some ⟨g, 0, none⟩) 1 1 ∧ W.heap[g]? = some (.cells #[.string m.1, ev m.2] 74 (0, 0)) ∧ w1.heap.size ≤ g
    | [_, y] => ∃ o c, y = .slice o (na + 1) c ∧ RI (.slice ao na ac) (.slice o (na + 1) c) l2 w1 W
    | _ => False := ⟨_, rfl⟩
  have hK : ∀ s W, C s W → W.cell? ⟨a, 0, none⟩ = some (.slice ao na ac) ∧ W.cell? ⟨p, 0, none⟩ = some (.slice (some ⟨pg, 0, none⟩) np pc) ∧ W.cell? ⟨pg, pl * 2, none⟩ = some (.string m.1) ∧ W.cell? ⟨pg, pl * 2 + 1, none⟩ = some (ev m.2) := fun s W h => by
    rw [hC] at h
    match s, h with
    | [], h => exact HK.out W (h.mono (fun _ _ h => h.elim))
    | [_], h => exact HK.out W (h.1.mono (fun _ _ h => h.elim))
    | [_, _], ⟨o, c, _, h⟩ => exact HK.out W h.tch
  have h1 : ∀ W, C [] W → C [.slice (some ⟨W.heap.size, 0, none⟩) 1 1] (W.alloc (.cells #[.string m.1, ev m.2] 74)) := fun W h => by
    rw [hC] at h ⊢
    exact ⟨h.allocR _, W.heap.size, rfl, alloc_new _ _, h.size⟩
  have h1s : ∀ x W, C [x] W → ∃ g, x = .slice (some ⟨g, 0, none⟩) 1 1 := fun x W h => by
    rw [hC] at h
    obtain ⟨_, g, e, _⟩ := h
    exact ⟨g, e⟩
  have h2s : ∀ x y W, C [x, y] W → ∃ o c, y = .slice o (na + 1) c := fun x y W h => by
    rw [hC] at h
    obtain ⟨o, c, e, _⟩ := h
    exact ⟨o, c, e⟩
  have Hfin : Hid (∀ x o c W, C [x, .slice o (na + 1) c] W → RI (.slice ao na ac) (.slice o (na + 1) c) l2 w1 W) := fun x o c W h => by
    rw [hC] at h
    obtain ⟨o', c', e, hr⟩ := h
    rw [e]; exact hr
  have h2 : ∀ g W, C [.slice (some ⟨g, 0, none⟩) 1 1] W → ∃ o c w', (Builtin.append_ #[65, 65] 65 #[.slice ao na ac, .slice (some ⟨g, 0, none⟩) 1 1]).run Try.prog W = .ok (.slice o (na + 1) c) w' ∧ C [.slice (some ⟨g, 0, none⟩) 1 1, .slice o (na + 1) c] w' := fun g W h => by
    rw [hC] at h
    obtain ⟨tW, g', e, hg, hge⟩ := h
    have e' : g = g' := by simpa using e
    subst e'
    obtain ⟨o, c, w', hr, hR⟩ := HD.out g W tW hg
    exact ⟨o, c, w', hr, by rw [hC]; exact ⟨o, c, rfl, hR⟩⟩
  have h0' : C [] w1.drew := by rw [hC]; exact (Tch.refl _ _).drew
  clear hC HK
  refine wp_region_ordv [12, 13] C 14 [0, 1, 2, 3, 4, 5, 6, 7, 8, 9, 10, 11, 12, 13] (by kernel_rfl) (by kernel_rfl) h0' ?_
  clear h0'
  refine ordv_read rfl (by go_simp) (by rfl) ?_
  apply Exists.intro
  refine ⟨fun s' Wy hW b K Q hK' => ?_, fun K hK' => ?_⟩
  · obtain ⟨y0, y1, y2, y3⟩ := hK _ Wy hW
    go_simp
    exact hK' Wy hW
  go_simp
  refine hK' _ ?_
  clear hK' K
  refine ordv_read rfl (by go_simp) (by rfl) ?_
  apply Exists.intro
  refine ⟨fun s' Wy hW b K Q hK' => ?_, fun K hK' => ?_⟩
  · obtain ⟨y0, y1, y2, y3⟩ := hK _ Wy hW
    go_simp
    exact hK' Wy hW
  go_simp
  refine hK' _ ?_
  clear hK' K
  refine ordv_read rfl (by go_simp) (by rfl) ?_
  apply Exists.intro
  refine ⟨fun s' Wy hW b K Q hK' => ?_, fun K hK' => ?_⟩
  · obtain ⟨y0, y1, y2, y3⟩ := hK _ Wy hW
    go_simp
    exact hK' Wy hW
  go_simp
  refine hK' _ ?_
  clear hK' K
  refine ordv_read rfl (by go_simp) (by rfl) ?_
  apply Exists.intro
  refine ⟨fun s' Wy hW b K Q hK' => ?_, fun K hK' => ?_⟩
  · obtain ⟨y0, y1, y2, y3⟩ := hK _ Wy hW
    go_simp
    exact hK' Wy hW
  go_simp
  refine hK' _ ?_
  clear hK' K
  refine ordv_read rfl (by go_simp) (by rfl) ?_
  apply Exists.intro
  refine ⟨fun s' Wy hW b K Q hK' => ?_, fun K hK' => ?_⟩
  · obtain ⟨y0, y1, y2, y3⟩ := hK _ Wy hW
    go_simp
    exact hK' Wy hW
  go_simp
  refine hK' _ ?_
  clear hK' K
  refine ordv_read rfl (by go_simp) (by rfl) ?_
  apply Exists.intro
  refine ⟨fun s' Wy hW b K Q hK' => ?_, fun K hK' => ?_⟩
  · obtain ⟨y0, y1, y2, y3⟩ := hK _ Wy hW
    go_simp
    exact hK' Wy hW
  go_simp
  refine hK' _ ?_
  clear hK' K
  refine ordv_read rfl (by go_simp) (by rfl) ?_
  apply Exists.intro
  refine ⟨fun s' Wy hW b K Q hK' => ?_, fun K hK' => ?_⟩
  · obtain ⟨y0, y1, y2, y3⟩ := hK _ Wy hW
    go_simp
    exact hK' Wy hW
  go_simp
  refine hK' _ ?_
  clear hK' K
  refine ordv_read rfl (by go_simp) (by rfl) ?_
  apply Exists.intro
  refine ⟨fun s' Wy hW b K Q hK' => ?_, fun K hK' => ?_⟩
  · obtain ⟨y0, y1, y2, y3⟩ := hK _ Wy hW
    go_simp
    exact hK' Wy hW
  go_simp
  refine hK' _ ?_
  clear hK' K
  refine ordv_read rfl (by go_simp) (by rfl) ?_
  apply Exists.intro
  refine ⟨fun s' Wy hW b K Q hK' => ?_, fun K hK' => ?_⟩
  · obtain ⟨y0, y1, y2, y3⟩ := hK _ Wy hW
    go_simp
    exact hK' Wy hW
  go_simp
  refine hK' _ ?_
  clear hK' K
  refine ordv_read rfl (by go_simp) (by rfl) ?_
  apply Exists.intro
  refine ⟨fun s' Wy hW b K Q hK' => ?_, fun K hK' => ?_⟩
  · obtain ⟨y0, y1, y2, y3⟩ := hK _ Wy hW
    go_simp
    exact hK' Wy hW
  go_simp
  refine hK' _ ?_
  clear hK' K
  refine ordv_read rfl (by go_simp) (by rfl) ?_
  apply Exists.intro
  refine ⟨fun s' Wy hW b K Q hK' => ?_, fun K hK' => ?_⟩
  · obtain ⟨y0, y1, y2, y3⟩ := hK _ Wy hW
    go_simp
    exact hK' Wy hW
  go_simp
  refine hK' _ ?_
  clear hK' K
  refine ordv_read rfl (by go_simp) (by rfl) ?_
  apply Exists.intro
  refine ⟨fun s' Wy hW b K Q hK' => ?_, fun K hK' => ?_⟩
  · obtain ⟨y0, y1, y2, y3⟩ := hK _ Wy hW
    go_simp
    exact hK' Wy hW
  go_simp
  refine hK' _ ?_
  clear hK' K
  refine ordv_turn rfl (by go_simp) (by rfl) (fun Wy hW b K Q hK' => ?_) (fun u hu K hK' => ?_)
  · go_simp
    exact hK' _ _ (h1 Wy hW)
  obtain ⟨g, rfl⟩ : ∃ g, u = .slice (some ⟨g, 0, none⟩) 1 1 := by
    obtain ⟨W', hW'⟩ := hu
    exact h1s u W' hW'
  clear hu h1 h1s
  go_simp
  refine hK' _ ?_
  clear hK' K
  refine ordv_turn rfl (by go_simp) (by rfl) (fun Wy hW => ?_) (fun u hu K hK' => ?_)
  · obtain ⟨o, c, w', hr, h3⟩ := h2 g Wy hW
    exact yv_append (.tmp 25) (.tmp 33) 65 rfl (.slice ao na ac) (.slice (some ⟨g, 0, none⟩) 1 1) rfl rfl hr h3
  obtain ⟨o2, c2, rfl⟩ : ∃ o c, u = .slice o (na + 1) c := by
    obtain ⟨W', hW'⟩ := hu
    exact h2s _ u W' hW'
  clear hu h2 h2s
  go_simp
  refine hK' _ ?_
  clear hK' K
  refine ordv_nil ?_
  intro w2a hw9
  have R9 : Hid (RI (.slice ao na ac) (.slice o2 (na + 1) c2) l2 w1 w2a) := Hfin.out _ _ _ _ hw9
  clear Hfin hK hw9
  have H2 : Hid (S3 w (w2a.setCell ⟨a, 0, none⟩ (.slice o2 (na + 1) c2)) Fo p (.slice (some ⟨pg, 0, none⟩) np pc) (.slice (some ⟨kg, 0, none⟩) mp kd) L ps s a (.slice o2 (na + 1) c2) (.slice qo nk qc) l2 ql sa c (.slice co nc cc) (.slice xo nx xc) r qr sc) := H1.out.aI R9.out
  have f3 := (H1.out.A.nd.tch R9.out.tch na0).cells.1
  have f4 := (H1.out.A.nd.tch R9.out.tch na0).cells.2.2.2 0
  obtain ⟨w2, hw2⟩ : ∃ w2, w2 = w2a.setCell ⟨a, 0, none⟩ (.slice o2 (na + 1) c2) := ⟨_, rfl⟩
  rw [← hw2] at H2
  have Hw2 : Hid _ := hw2
  clear hw2 y0 y1 fp fa na0 na1 na2 HD R9 C
  go_wp2_with fail
  have hw := Hw2.out
  rw [← hw]
  clear hw f3 f4
  have fa := H2.out.A.nd.cells.1
  have fc := H2.out.B.nd.cells.1
  obtain ⟨l3, hl3⟩ : ∃ l3, l3 = l2 ++ r := ⟨_, rfl⟩
  have Hl3 : Hid (l3 = l2 ++ r) := hl3
  have hln3 : l3.length = na + 1 + nc := by rw [hl3, List.length_append, hln2, ← Hnc.out]
  have na0 := (show (Value.slice o2 (na + 1) c2).ownBlock ≠ some a from (fun e => by have h := cnt9 H2.out.nod a; have h1 := count_mem (mem_bl.2 e); have h2 := count_mem (List.mem_singleton.2 (rfl : a = a)); omega))
  have na1 := (show (Value.slice o2 (na + 1) c2).ownBlock ≠ some c from (fun e => by have h := cnt9 H2.out.nod c; have h1 := count_mem (mem_bl.2 e); have h2 := count_mem (List.mem_singleton.2 (rfl : c = c)); omega))
  have HD : Hid (∀ W, Tch (fun _ => False) w2 W → ∃ o c w', (Builtin.append_ #[65, 65] 65 #[.slice o2 (na + 1) c2, .slice co nc cc]).run Try.prog W = .ok (.slice o (na + 1 + nc) c) w' ∧ RI (.slice o2 (na + 1) c2) (.slice o (na + 1 + nc) c) l3 w2 w') := fun W tW => by
    have ho := own_tch H2.out.A.its tW (fun _ _ h => h)
    rw [hln2] at ho
    have hc := own_tch H2.out.B.its tW (fun _ _ h => h)
    rw [← Hnc.out] at hc
    obtain ⟨v', w', hr, R⟩ := Iapp W (.slice o2 (na + 1) c2) _ (na + 1) nc (icl l2) (icl r) ho hc (icl_one r) (by omega)
    rw [← icl_app, ← Hl3.out] at R
    obtain ⟨o, c, rfl⟩ := row_slice R.own
    exact ⟨o, c, w', hr, RS.pre (by rw [hln3]; exact R) tW⟩
  clear hl3
  have HK : Hid (∀ W, Tch (fun i => (Value.slice o2 (na + 1) c2).ownBlock = some i) w2 W → (W.cell? ⟨a, 0, none⟩ = some (.slice o2 (na + 1) c2) ∧ W.cell? ⟨c, 0, none⟩ = some (.slice co nc cc))) := fun W tW => ⟨by rw [tW.cell (p := ⟨a, 0, none⟩) (cell_lt fa) na0]; exact fa, by rw [tW.cell (p := ⟨c, 0, none⟩) (cell_lt fc) na1]; exact fc⟩
  obtain ⟨C, hC⟩ : ∃ C : List Value → World → Prop, C = fun s W => match s with
    | [] => Tch (fun _ => False) w2 W
    | [y] => ∃ o c, y = .slice o (na + 1 + nc) c ∧ RI (.slice o2 (na + 1) c2) (.slice o (na + 1 + nc) c) l3 w2 W
    | _ => False := ⟨_, rfl⟩
  have hK : ∀ s W, C s W → W.cell? ⟨a, 0, none⟩ = some (.slice o2 (na + 1) c2) ∧ W.cell? ⟨c, 0, none⟩ = some (.slice co nc cc) := fun s W h => by
    rw [hC] at h
    match s, h with
    | [], h => exact HK.out W (h.mono (fun _ _ h => h.elim))
    | [_], ⟨o, c, _, h⟩ => exact HK.out W h.tch
  have h2s : ∀ y W, C [y] W → ∃ o c, y = .slice o (na + 1 + nc) c := fun y W h => by
    rw [hC] at h
    obtain ⟨o, c, e, _⟩ := h
    exact ⟨o, c, e⟩
  have Hfin : Hid (∀ o c W, C [.slice o (na + 1 + nc) c] W → RI (.slice o2 (na + 1) c2) (.slice o (na + 1 + nc) c) l3 w2 W) := fun o c W h => by
    rw [hC] at h
    obtain ⟨o', c', e, hr⟩ := h
    rw [e]; exact hr
  have h2 : ∀ W, C [] W → ∃ o c w', (Builtin.append_ #[65, 65] 65 #[.slice o2 (na + 1) c2, .slice co nc cc]).run Try.prog W = .ok (.slice o (na + 1 + nc) c) w' ∧ C [.slice o (na + 1 + nc) c] w' := fun W tW => by
    rw [hC] at tW
    obtain ⟨o, c, w', hr, hR⟩ := HD.out W tW
    exact ⟨o, c, w', hr, by rw [hC]; exact ⟨o, c, rfl, hR⟩⟩
  have h0' : C [] w2.drew := by rw [hC]; exact (Tch.refl _ _).drew
  clear hC HK
  refine wp_region_ordv [9] C 10 [0, 1, 2, 3, 4, 5, 6, 7, 8, 9] (by kernel_rfl) (by kernel_rfl) h0' ?_
  clear h0'
  refine ordv_read rfl (by go_simp) (by rfl) ?_
  apply Exists.intro
  refine ⟨fun s' Wy hW b K Q hK' => ?_, fun K hK' => ?_⟩
  · obtain ⟨y0, y1⟩ := hK _ Wy hW
    go_simp
    exact hK' Wy hW
  go_simp
  refine hK' _ ?_
  clear hK' K
  refine ordv_read rfl (by go_simp) (by rfl) ?_
  apply Exists.intro
  refine ⟨fun s' Wy hW b K Q hK' => ?_, fun K hK' => ?_⟩
  · obtain ⟨y0, y1⟩ := hK _ Wy hW
    go_simp
    exact hK' Wy hW
  go_simp
  refine hK' _ ?_
  clear hK' K
  refine ordv_read rfl (by go_simp) (by rfl) ?_
  apply Exists.intro
  refine ⟨fun s' Wy hW b K Q hK' => ?_, fun K hK' => ?_⟩
  · obtain ⟨y0, y1⟩ := hK _ Wy hW
    go_simp
    exact hK' Wy hW
  go_simp
  refine hK' _ ?_
  clear hK' K
  refine ordv_read rfl (by go_simp) (by rfl) ?_
  apply Exists.intro
  refine ⟨fun s' Wy hW b K Q hK' => ?_, fun K hK' => ?_⟩
  · obtain ⟨y0, y1⟩ := hK _ Wy hW
    go_simp
    exact hK' Wy hW
  go_simp
  refine hK' _ ?_
  clear hK' K
  refine ordv_read rfl (by go_simp) (by rfl) ?_
  apply Exists.intro
  refine ⟨fun s' Wy hW b K Q hK' => ?_, fun K hK' => ?_⟩
  · obtain ⟨y0, y1⟩ := hK _ Wy hW
    go_simp
    exact hK' Wy hW
  go_simp
  refine hK' _ ?_
  clear hK' K
  refine ordv_read rfl (by go_simp) (by rfl) ?_
  apply Exists.intro
  refine ⟨fun s' Wy hW b K Q hK' => ?_, fun K hK' => ?_⟩
  · obtain ⟨y0, y1⟩ := hK _ Wy hW
    go_simp
    exact hK' Wy hW
  go_simp
  refine hK' _ ?_
  clear hK' K
  refine ordv_read rfl (by go_simp) (by rfl) ?_
  apply Exists.intro
  refine ⟨fun s' Wy hW b K Q hK' => ?_, fun K hK' => ?_⟩
  · obtain ⟨y0, y1⟩ := hK _ Wy hW
    go_simp
    exact hK' Wy hW
  go_simp
  refine hK' _ ?_
  clear hK' K
  refine ordv_read rfl (by go_simp) (by rfl) ?_
  apply Exists.intro
  refine ⟨fun s' Wy hW b K Q hK' => ?_, fun K hK' => ?_⟩
  · obtain ⟨y0, y1⟩ := hK _ Wy hW
    go_simp
    exact hK' Wy hW
  go_simp
  refine hK' _ ?_
  clear hK' K
  refine ordv_read rfl (by go_simp) (by rfl) ?_
  apply Exists.intro
  refine ⟨fun s' Wy hW b K Q hK' => ?_, fun K hK' => ?_⟩
  · obtain ⟨y0, y1⟩ := hK _ Wy hW
    go_simp
    exact hK' Wy hW
  go_simp
  refine hK' _ ?_
  clear hK' K
  refine ordv_turn rfl (by go_simp) (by rfl) (fun Wy hW => ?_) (fun u hu K hK' => ?_)
  · obtain ⟨o, c, w', hr, h3⟩ := h2 Wy hW
    exact yv_append (.tmp 41) (.tmp 45) 65 rfl (.slice o2 (na + 1) c2) (.slice co nc cc) rfl rfl hr h3
  obtain ⟨o3, c3, rfl⟩ : ∃ o c, u = .slice o (na + 1 + nc) c := by
    obtain ⟨W', hW'⟩ := hu
    exact h2s u W' hW'
  clear hu h2 h2s
  go_simp
  refine hK' _ ?_
  clear hK' K
  refine ordv_nil ?_
  intro w3a hw9
  have R9 : Hid (RI (.slice o2 (na + 1) c2) (.slice o3 (na + 1 + nc) c3) l3 w2 w3a) := Hfin.out _ _ _ hw9
  clear Hfin hK hw9
  have H3 : Hid (S3 w (w3a.setCell ⟨a, 0, none⟩ (.slice o3 (na + 1 + nc) c3)) Fo p (.slice (some ⟨pg, 0, none⟩) np pc) (.slice (some ⟨kg, 0, none⟩) mp kd) L ps s a (.slice o3 (na + 1 + nc) c3) (.slice qo nk qc) l3 ql sa c (.slice co nc cc) (.slice xo nx xc) r qr sc) := H2.out.aI R9.out
  have f3 := (H2.out.A.nd.tch R9.out.tch na0).cells.1
  have f4 := (H2.out.A.nd.tch R9.out.tch na0).cells.2.2.2 0
  obtain ⟨w3, hw3⟩ : ∃ w3, w3 = w3a.setCell ⟨a, 0, none⟩ (.slice o3 (na + 1 + nc) c3) := ⟨_, rfl⟩
  rw [← hw3] at H3
  have Hw3 : Hid _ := hw3
  clear hw3 fa fc na0 na1 HD R9 C
  go_wp2_with fail
  have hw := Hw3.out
  rw [← hw]
  clear hw f3 f4
  have fa := H3.out.A.nd.cells.2.1
  have fc := H3.out.B.nd.cells.2.1
  obtain ⟨q4, hq4⟩ : ∃ q4, q4 = ql ++ qr := ⟨_, rfl⟩
  have Hq4 : Hid (q4 = ql ++ qr) := hq4
  have hqn4 : q4.length = nk + nx := by rw [hq4, List.length_append, ← Hnq.out, ← Hnx.out]
  have na0 := (show (Value.slice qo nk qc).ownBlock ≠ some a from (fun e => by have h := cnt9 H3.out.nod a; have h1 := count_mem (mem_bl.2 e); have h2 := count_mem (List.mem_singleton.2 (rfl : a = a)); omega))
  have na1 := (show (Value.slice qo nk qc).ownBlock ≠ some c from (fun e => by have h := cnt9 H3.out.nod c; have h1 := count_mem (mem_bl.2 e); have h2 := count_mem (List.mem_singleton.2 (rfl : c = c)); omega))
  have HD : Hid (∀ W, Tch (fun _ => False) w3 W → ∃ o c w', (Builtin.append_ #[66, 66] 66 #[.slice qo nk qc, .slice xo nx xc]).run Try.prog W = .ok (.slice o (nk + nx) c) w' ∧ RK (.slice qo nk qc) (.slice o (nk + nx) c) q4 w3 w') := fun W tW => by
    have ho := own_tch H3.out.A.kids tW (fun _ _ h => h)
    rw [← Hnq.out] at ho
    have hc := own_tch H3.out.B.kids tW (fun _ _ h => h)
    rw [← Hnx.out] at hc
    obtain ⟨v', w', hr, R⟩ := Kapp W (.slice qo nk qc) _ nk nx (pcl ql) (pcl qr) ho hc (pcl_one qr) (by omega)
    rw [← pcl_app, ← Hq4.out] at R
    obtain ⟨o, c, rfl⟩ := row_slice R.own
    exact ⟨o, c, w', hr, RS.pre (by rw [hqn4]; exact R) tW⟩
  clear hq4
  have HK : Hid (∀ W, Tch (fun i => (Value.slice qo nk qc).ownBlock = some i) w3 W → (W.cell? ⟨a, 1, none⟩ = some (.slice qo nk qc) ∧ W.cell? ⟨c, 1, none⟩ = some (.slice xo nx xc))) := fun W tW => ⟨by rw [tW.cell (p := ⟨a, 1, none⟩) (cell_lt fa) na0]; exact fa, by rw [tW.cell (p := ⟨c, 1, none⟩) (cell_lt fc) na1]; exact fc⟩
  obtain ⟨C, hC⟩ : ∃ C : List Value → World → Prop, C = fun s W => match s with
    | [] => Tch (fun _ => False) w3 W
    | [y] => ∃ o c, y = .slice o (nk + nx) c ∧ RK (.slice qo nk qc) (.slice o (nk + nx) c) q4 w3 W
    | _ => False := ⟨_, rfl⟩
  have hK : ∀ s W, C s W → W.cell? ⟨a, 1, none⟩ = some (.slice qo nk qc) ∧ W.cell? ⟨c, 1, none⟩ = some (.slice xo nx xc) := fun s W h => by
    rw [hC] at h
    match s, h with
    | [], h => exact HK.out W (h.mono (fun _ _ h => h.elim))
    | [_], ⟨o, c, _, h⟩ => exact HK.out W h.tch
  have h2s : ∀ y W, C [y] W → ∃ o c, y = .slice o (nk + nx) c := fun y W h => by
    rw [hC] at h
    obtain ⟨o, c, e, _⟩ := h
    exact ⟨o, c, e⟩
  have Hfin : Hid (∀ o c W, C [.slice o (nk + nx) c] W → RK (.slice qo nk qc) (.slice o (nk + nx) c) q4 w3 W) := fun o c W h => by
    rw [hC] at h
    obtain ⟨o', c', e, hr⟩ := h
    rw [e]; exact hr
  have h2 : ∀ W, C [] W → ∃ o c w', (Builtin.append_ #[66, 66] 66 #[.slice qo nk qc, .slice xo nx xc]).run Try.prog W = .ok (.slice o (nk + nx) c) w' ∧ C [.slice o (nk + nx) c] w' := fun W tW => by
    rw [hC] at tW
    obtain ⟨o, c, w', hr, hR⟩ := HD.out W tW
    exact ⟨o, c, w', hr, by rw [hC]; exact ⟨o, c, rfl, hR⟩⟩
  have h0' : C [] w3.drew := by rw [hC]; exact (Tch.refl _ _).drew
  clear hC HK
  refine wp_region_ordv [9] C 10 [0, 1, 2, 3, 4, 5, 6, 7, 8, 9] (by kernel_rfl) (by kernel_rfl) h0' ?_
  clear h0'
  refine ordv_read rfl (by go_simp) (by rfl) ?_
  apply Exists.intro
  refine ⟨fun s' Wy hW b K Q hK' => ?_, fun K hK' => ?_⟩
  · obtain ⟨y0, y1⟩ := hK _ Wy hW
    go_simp
    exact hK' Wy hW
  go_simp
  refine hK' _ ?_
  clear hK' K
  refine ordv_read rfl (by go_simp) (by rfl) ?_
  apply Exists.intro
  refine ⟨fun s' Wy hW b K Q hK' => ?_, fun K hK' => ?_⟩
  · obtain ⟨y0, y1⟩ := hK _ Wy hW
    go_simp
    exact hK' Wy hW
  go_simp
  refine hK' _ ?_
  clear hK' K
  refine ordv_read rfl (by go_simp) (by rfl) ?_
  apply Exists.intro
  refine ⟨fun s' Wy hW b K Q hK' => ?_, fun K hK' => ?_⟩
  · obtain ⟨y0, y1⟩ := hK _ Wy hW
    go_simp
    exact hK' Wy hW
  go_simp
  refine hK' _ ?_
  clear hK' K
  refine ordv_read rfl (by go_simp) (by rfl) ?_
  apply Exists.intro
  refine ⟨fun s' Wy hW b K Q hK' => ?_, fun K hK' => ?_⟩
  · obtain ⟨y0, y1⟩ := hK _ Wy hW
    go_simp
    exact hK' Wy hW
  go_simp
  refine hK' _ ?_
  clear hK' K
  refine ordv_read rfl (by go_simp) (by rfl) ?_
  apply Exists.intro
  refine ⟨fun s' Wy hW b K Q hK' => ?_, fun K hK' => ?_⟩
  · obtain ⟨y0, y1⟩ := hK _ Wy hW
    go_simp
    exact hK' Wy hW
  go_simp
  refine hK' _ ?_
  clear hK' K
  refine ordv_read rfl (by go_simp) (by rfl) ?_
  apply Exists.intro
  refine ⟨fun s' Wy hW b K Q hK' => ?_, fun K hK' => ?_⟩
  · obtain ⟨y0, y1⟩ := hK _ Wy hW
    go_simp
    exact hK' Wy hW
  go_simp
  refine hK' _ ?_
  clear hK' K
  refine ordv_read rfl (by go_simp) (by rfl) ?_
  apply Exists.intro
  refine ⟨fun s' Wy hW b K Q hK' => ?_, fun K hK' => ?_⟩
  · obtain ⟨y0, y1⟩ := hK _ Wy hW
    go_simp
    exact hK' Wy hW
  go_simp
  refine hK' _ ?_
  clear hK' K
  refine ordv_read rfl (by go_simp) (by rfl) ?_
  apply Exists.intro
  refine ⟨fun s' Wy hW b K Q hK' => ?_, fun K hK' => ?_⟩
  · obtain ⟨y0, y1⟩ := hK _ Wy hW
    go_simp
    exact hK' Wy hW
  go_simp
  refine hK' _ ?_
  clear hK' K
  refine ordv_read rfl (by go_simp) (by rfl) ?_
  apply Exists.intro
  refine ⟨fun s' Wy hW b K Q hK' => ?_, fun K hK' => ?_⟩
  · obtain ⟨y0, y1⟩ := hK _ Wy hW
    go_simp
    exact hK' Wy hW
  go_simp
  refine hK' _ ?_
  clear hK' K
  refine ordv_turn rfl (by go_simp) (by rfl) (fun Wy hW => ?_) (fun u hu K hK' => ?_)
  · obtain ⟨o, c, w', hr, h3⟩ := h2 Wy hW
    exact yv_append (.tmp 53) (.tmp 57) 66 rfl (.slice qo nk qc) (.slice xo nx xc) rfl rfl hr h3
  obtain ⟨o4, c4, rfl⟩ : ∃ o c, u = .slice o (nk + nx) c := by
    obtain ⟨W', hW'⟩ := hu
    exact h2s u W' hW'
  clear hu h2 h2s
  go_simp
  refine hK' _ ?_
  clear hK' K
  refine ordv_nil ?_
  intro w4a hw9
  have R9 : Hid (RK (.slice qo nk qc) (.slice o4 (nk + nx) c4) q4 w3 w4a) := Hfin.out _ _ _ hw9
  clear Hfin hK hw9
  have H4 : Hid (S3 w (w4a.setCell ⟨a, 1, none⟩ (.slice o4 (nk + nx) c4)) Fo p (.slice (some ⟨pg, 0, none⟩) np pc) (.slice (some ⟨kg, 0, none⟩) mp kd) L ps s a (.slice o3 (na + 1 + nc) c3) (.slice o4 (nk + nx) c4) l3 q4 sa c (.slice co nc cc) (.slice xo nx xc) r qr sc) := H3.out.aK R9.out
  have f3 := (H3.out.A.nd.tch R9.out.tch na0).cells.2.1
  have f4 := (H3.out.A.nd.tch R9.out.tch na0).cells.2.2.2 1
  obtain ⟨w4, hw4⟩ : ∃ w4, w4 = w4a.setCell ⟨a, 1, none⟩ (.slice o4 (nk + nx) c4) := ⟨_, rfl⟩
  rw [← hw4] at H4
  have Hw4 : Hid _ := hw4
  have HBA : Hid (zsum w q4 ≤ 1000000000000000000) := by show _ ≤ _; rw [Hq4.out]; exact HB2.out
  clear hw4 fa fc na0 na1 HD R9 C
  have z1 := H4.out.zs (qs := q4) (fun q hq => HZ.out q ((fun h => Hq4.out ▸ h) hq))
  have q := recount_any a (.slice o3 (na + 1 + nc) c3) (.slice o4 (nk + nx) c4) l3 q4 sa w4 H4.out.A (fun q hq => ⟨(z1.1 q hq).1, (z1.1 q hq).2, fun e => (HZ.out q ((fun h => Hq4.out ▸ h) hq)).2.2 (by rw [e]; exact HinA.out)⟩) (by rw [z1.2]; exact HBA.out) (by omega) (by omega) (nod_self H4.out.apA.2.1).1 (nod_self H4.out.apA.2.1).2
  rw [z1.2] at q
  clear z1
  go_wp2_with fail
  have hw := Hw4.out
  rw [← hw]
  clear hw f3 f4
  refine q.mono ?_
  rintro x w5 ⟨rfl, Fq, tq⟩
  have H5 : Hid (S3 w w5 Fo p (.slice (some ⟨pg, 0, none⟩) np pc) (.slice (some ⟨kg, 0, none⟩) mp kd) L ps s a (.slice o3 (na + 1 + nc) c3) (.slice o4 (nk + nx) c4) l3 q4 (l3.length + zsum w q4) c (.slice co nc cc) (.slice xo nx xc) r qr sc) := H4.out.aZ Fq tq
  clear q Fq tq
  obtain ⟨L6, hL6⟩ : ∃ L6, L6 = L.take pl ++ L.drop (pl + 1) := ⟨_, rfl⟩
  have HL6 : Hid (L6 = L.take pl ++ L.drop (pl + 1)) := hL6
  have hLn6 : L6.length = np - 1 := by rw [hL6]; have := Hnp.out; simp only [List.length_append, List.length_take, List.length_drop]; omega
  have q : Calls Try.prog 54 #[.slice (some ⟨pg, 0, none⟩) np pc, .int .i64 pl, .int .i64 (pl + 1)] w5 fun x w' => ∃ o c, x = .returned (.slice o (np - 1) c) ∧ RI (.slice (some ⟨pg, 0, none⟩) np pc) (.slice o (np - 1) c) L6 w5 w' := by
    have ho := H5.out.P.its
    rw [← Hnp.out] at ho
    refine (Idelete_any (.slice (some ⟨pg, 0, none⟩) np pc) np pl 1 (icl L) w5 ho (by omega) (by omega) (by omega) (icl_one L)).mono ?_
    rintro x w' ⟨⟨v', rfl, hb', own'⟩, t'⟩
    rw [icl_take, icl_drop, ← icl_app, ← HL6.out] at own'
    obtain ⟨o, c, rfl⟩ := row_slice own'
    exact ⟨o, c, rfl, by rw [hLn6]; exact own', Or.inl hb', t'⟩
  have f0 := H5.out.P.nd.cells.1
  have n0 : (Value.slice (some ⟨pg, 0, none⟩) np pc).ownBlock ≠ some p := (nod_self H5.out.apA.1).1
  clear hL6
  go_wp2_with fail
  refine q.mono ?_
  rintro x w6 ⟨o6, c6, rfl, R9⟩
  have H6 : Hid (S3 w (w6.setCell ⟨p, 0, none⟩ (.slice o6 (np - 1) c6)) Fo p (.slice o6 (np - 1) c6) (.slice (some ⟨kg, 0, none⟩) mp kd) L6 ps s a (.slice o3 (na + 1 + nc) c3) (.slice o4 (nk + nx) c4) l3 q4 (l3.length + zsum w q4) c (.slice co nc cc) (.slice xo nx xc) r qr sc) := H5.out.pI R9
  have f3 := (H5.out.P.nd.tch R9.tch n0).cells.1
  have f4 := (H5.out.P.nd.tch R9.tch n0).cells.2.2.2 0
  have f5 := (H5.out.P.nd.tch R9.tch n0).cells.2.1
  obtain ⟨w7, hw7⟩ : ∃ w7, w7 = w6.setCell ⟨p, 0, none⟩ (.slice o6 (np - 1) c6) := ⟨_, rfl⟩
  rw [← hw7] at H6
  have Hw7 : Hid _ := hw7
  clear R9 n0 q f0 hw7
  obtain ⟨ps8, hps8⟩ : ∃ ps8, ps8 = ps.take (pl + 1) ++ ps.drop (pl + 2) := ⟨_, rfl⟩
  have Hps8 : Hid (ps8 = ps.take (pl + 1) ++ ps.drop (pl + 2)) := hps8
  have hpn8 : ps8.length = mp - 1 := by rw [hps8]; have := Hmp.out; simp only [List.length_append, List.length_take, List.length_drop]; omega
  have q : Calls Try.prog 80 #[.slice (some ⟨kg, 0, none⟩) mp kd, .int .i64 (pl + 1), .int .i64 (pl + 2)] w7 fun x w' => ∃ o c, x = .returned (.slice o (mp - 1) c) ∧ RK (.slice (some ⟨kg, 0, none⟩) mp kd) (.slice o (mp - 1) c) ps8 w7 w' := by
    have ho := H6.out.P.kids
    rw [← Hmp.out] at ho
    have q0 := Kdelete_any (.slice (some ⟨kg, 0, none⟩) mp kd) mp (pl + 1) 1 (pcl ps) w7 ho (by omega) (by omega) (by omega) (pcl_one ps)
    rw [show (((pl + 1 : Nat)) : Int) = (pl : Int) + 1 by omega, show (pl : Int) + 1 + ((1 : Nat) : Int) = (pl : Int) + 2 by omega] at q0
    refine q0.mono ?_
    rintro x w' ⟨⟨v', rfl, hb', own'⟩, t'⟩
    rw [pcl_take, pcl_drop, ← pcl_app, show pl + 1 + 1 = pl + 2 by omega, ← Hps8.out] at own'
    obtain ⟨o, c, rfl⟩ := row_slice own'
    exact ⟨o, c, rfl, by rw [hpn8]; exact own', Or.inl hb', t'⟩
  have n0 : (Value.slice (some ⟨kg, 0, none⟩) mp kd).ownBlock ≠ some p := (nod_self H6.out.apA.1).2
  have hpw2 : IntKind.i64.wrap ((pl : Int) + 2) = (pl : Int) + 2 := by rw [IntKind.wrap_i64]; omega
  clear hps8
  go_wp2_with fail
  have hw := Hw7.out
  rw [← hw]
  clear hw f3 f4 f5
  refine q.mono ?_
  rintro x w8 ⟨o8, c8, rfl, R9⟩
  have H8 : Hid (S3 w (w8.setCell ⟨p, 1, none⟩ (.slice o8 (mp - 1) c8)) Fo p (.slice o6 (np - 1) c6) (.slice o8 (mp - 1) c8) L6 ps8 s a (.slice o3 (na + 1 + nc) c3) (.slice o4 (nk + nx) c4) l3 q4 (l3.length + zsum w q4) c (.slice co nc cc) (.slice xo nx xc) r qr sc) := H6.out.pK R9
  have f3 := (H6.out.P.nd.tch R9.tch n0).cells.2.1
  have f4 := (H6.out.P.nd.tch R9.tch n0).cells.2.2.2 1
  clear R9 n0 q
  go_wp2_with fail
  go_end0
  have h := H8.out
  rw [HL6.out, Hps8.out, Hq4.out, Hl3.out, Hl2.out] at h
  rw [show l ++ m :: r = l ++ [m] ++ r by simp]
  exact ⟨rfl, _, _, _, _, _, _, _, _, _, h⟩
end Go.Proofs.Ytnjiiebjdpipjaa
