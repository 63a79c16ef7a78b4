import Derived.Test.YtmnhkgibplnnnaaVR0
/- MergePlays: the document's Next over lists of the law's own. -/
namespace Go.Proofs.Ytmnhkgibplnnnaa
open Go.RowKit Go

/-- Row j of the document's merge, for reading. -/
theorem RV.at {base : Nat} {w : World} {rb nL nA : Nat} {loL loA : Option Addr} {lcL lcA : Nat} {hd : List Value} {ls : List (List Rc)} {nx : List Nat} (h : RV base w rb (.slice loL nL lcL) (.slice loA nA lcA) hd ls nx) {j : Nat} (hj : j < ls.length) :
    ∃ gL gA ao cp l n, loL = some ⟨gL, 0, none⟩ ∧ loA = some ⟨gA, 0, none⟩ ∧ ls[j]? = some l ∧ nx[j]? = some n ∧ n ≤ l.length ∧ l.length ≤ cp ∧ cp ≤ 9223372036854775807 ∧ w.cell? ⟨gL, j, none⟩ = some (.slice ao l.length cp) ∧ w.cell? ⟨gA, j, none⟩ = some (.int .i64 (n : Int)) ∧ (∀ c, l[n]? = some c → ∃ g o, ao = some ⟨g, o, none⟩ ∧ w.cell? ⟨g, o + n * 6, none⟩ = some (.int .i64 c.l)) := by
  obtain ⟨l, hl⟩ : ∃ l, ls[j]? = some l := ⟨_, List.getElem?_eq_getElem hj⟩
  obtain ⟨n, hn⟩ : ∃ n, nx[j]? = some n := ⟨_, List.getElem?_eq_getElem (by rw [h.nl]; exact hj)⟩
  obtain ⟨ao, cp, e, hr⟩ := h.el j l hl
  rcases id h.oL.2 with ⟨_, e0⟩ | ⟨gL, _, _, eL, _, hgL, _⟩
  · omega
  rcases id h.oA.2 with ⟨_, e0⟩ | ⟨gA, _, _, eA, _, hgA, _⟩
  · omega
  simp only [Value.slice.injEq] at eL eA
  obtain ⟨rfl, _, _⟩ := eL
  obtain ⟨rfl, _, _⟩ := eA
  have c1 := h.oL.cells (g := gL) rfl j _ e
  have c2 := h.oA.cells (g := gA) rfl j (.int .i64 (n : Int)) (by show (nx.map _)[j]? = _; rw [List.getElem?_map, hn]; rfl)
  rw [add_plain, Nat.zero_add] at c1 c2
  refine ⟨gL, gA, ao, cp, l, n, rfl, rfl, hl, hn, h.le j l n hl hn, hr.len, hr.cap, c1, c2, fun c hc => ?_⟩
  obtain ⟨g, o, e2, hk⟩ := hr.nth hc
  exact ⟨g, o, e2, hk 0 _ rfl⟩
/-- A change's block of nobody's is turned. -/
theorem RV.z {base : Nat} {w w' : World} {rb z : Nat} {vL vA : Value} {hd : List Value} {ls : List (List Rc)} {nx : List Nat} {cs : Array Value} (h : RV base w rb vL vA hd ls nx) (hz : w.heap[z]? = some (.cells cs 27 (0, 0))) (hM : ∀ v ∈ hd, v.ownBlock ≠ some z) (t : Tch (fun i => i = z) w w') : RV base w' rb vL vA hd ls nx :=
  ⟨(t.block rb (blk_lt h.blk) (ne_ty h.blk hz (by decide))).trans h.blk, own_tch h.oL t (fun g e e2 => by
    subst e2
    obtain ⟨cur, hc⟩ := own_ty h.oL e
    exact ne_ty hc hz (by decide) rfl), own_tch h.oA t (fun g e e2 => by
    subst e2
    obtain ⟨cur, hc⟩ := own_ty h.oA e
    exact ne_ty hc hz (by decide) rfl), fun j l e => by
    obtain ⟨ao, cp, e2, hr⟩ := h.el j l e
    exact ⟨ao, cp, e2, own_tch hr t (fun g e3 e4 => hM _ (List.mem_of_getElem? e2) (by rw [← e4]; exact e3))⟩, h.nl, h.le, h.lo⟩
/-- What the document's Next leaves. -/
def RvO (base : Nat) (w : World) (rb : Nat) (vL vA : Value) (hd : List Value) (ls : List (List Rc)) (nx : List Nat) (rs : List (List Rc)) (e : Ending) (w' : World) : Prop := ∃ (d : Bool) (c : Rc) (nx' : List Nat), e = .returned (.tuple #[rcV c, .bool d]) ∧ (d = true → ∃ j u, Pk Rc.l rs j c u ∧ rsOf ls nx' = rs.set j u) ∧ (d = false → nx' = nx ∧ c = k0 ∧ ∀ (i : Nat) (d : Rc) (v : List Rc), rs[i]? ≠ some (d :: v)) ∧ RV base w' rb vL vA hd ls nx' ∧ Tch (fun i => vA.ownBlock = some i) w w'
set_option maxHeartbeats 8000000 in
set_option maxRecDepth 1000000 in
theorem rvnext_any (base : Nat) (w : World) (rb : Nat) (vL vA : Value) (hd : List Value) (ls : List (List Rc)) (nx : List Nat) (h : RV base w rb vL vA hd ls nx) (hs : ls.length ≤ 1000000000) (hls : ∀ l ∈ ls, l.length ≤ 1000000000000) :
    Calls Try.prog 14 #[.pointer (some ⟨rb, 0, none⟩)] w fun e w' => RvO base w rb vL vA hd ls nx (rsOf ls nx) e w' := by
  obtain ⟨loL, lcL, rfl⟩ := row_slice h.oL
  obtain ⟨loA, lcA, rfl⟩ := row_slice h.oA
  obtain ⟨n, hn⟩ : ∃ n, n = ls.length := ⟨_, rfl⟩
  obtain ⟨w0, hw0⟩ : ∃ w0, w0 = w.alloc (.cells #[.int .i64 0, .int .i64 0, .int .i64 0, .int .i64 0, .slice none 0 0, .slice none 0 0] 27) := ⟨_, rfl⟩
  have t0 : Tch (fun _ => False) w w0 := by rw [hw0]; exact Tch.alloc _ _ _
  have b0 : w0.heap[w.heap.size]? = some (.cells #[.int .i64 0, .int .i64 0, .int .i64 0, .int .i64 0, .slice none 0 0, .slice none 0 0] 27 (0, 0)) := by rw [hw0]; exact alloc_new _ _
  have h0 := h.no t0
  have HMW : Hid (∀ v ∈ hd, v.ownBlock ≠ some w.heap.size) := fun v hv e => by
    obtain ⟨j, hj⟩ := List.getElem?_of_mem hv
    have hjl : j < ls.length := by have := h.oL.1; have := (List.getElem?_eq_some_iff.1 hj).1; omega
    obtain ⟨ao, cp, e2, hr⟩ := h.el j _ (List.getElem?_eq_getElem hjl)
    rw [hj] at e2
    obtain rfl : v = _ := by simpa using e2
    have := (hr.lt _ e).2
    omega
  have HF : Hid (∀ W, Tch (fun _ => False) w0 W → W.cell? ⟨rb, 0, none⟩ = some (.slice loL n lcL) ∧ W.cell? ⟨rb, 1, none⟩ = some (.slice loA n lcA)) := fun W t => by
    have hb := (t.block rb (blk_lt h0.blk) (fun h => h)).trans h0.blk
    rw [hn]; exact ⟨blk_cell hb 0, blk_cell hb 1⟩
  have HR0 : Hid _ := h0
  have HB0 : Hid _ := And.intro b0 t0
  have HW : Hid (w0 = _) := hw0
  have Hn : Hid (n = ls.length) := hn
  have HLS : Hid _ := hls
  have hs' : n ≤ 1000000000 := by omega
  obtain ⟨rs, hrs⟩ : ∃ rs, rs = rsOf ls nx := ⟨_, rfl⟩
  have HRS : Hid (rs = rsOf ls nx) := hrs
  rw [← hrs]
  clear h h0 b0 t0 hw0 hls hs hn hrs
  go_enter Try.func14, Try.ntmps14
  go_upto_region 1 with (fail)
  rw [← HW.out]
  go_wp2_with fail
  go_loopg [4, 5] n (fun kx s4 s5 wr => ∃ i : Nat, s5 = .int .i64 i ∧ n - i ≤ kx ∧ i ≤ n ∧ Hid (Bst rs i s4) ∧ Hid (Tch (fun _ => False) w0 wr))
  case atStart => exact ⟨0, rfl, by omega, by omega, (show Bst rs 0 (.int .i64 (-1)) from .inl ⟨rfl, fun j _ _ h => absurd h (Nat.not_lt_zero j)⟩), (Tch.refl _ _ : Tch (fun _ => False) w0 w0)⟩
  case round =>
    obtain ⟨i, rfl, hk, hin, J, T⟩ := hrel
    obtain ⟨a0, a1⟩ := HF.out wr T.out
    by_cases hi : i < n
    · have hi' : (i : Int) < (n : Int) := by omega
      obtain ⟨gL, gA, ao, cp, l, k, hloL, hloA, hl, hk0, hkl, hlc, hcm, rL, rA, hel⟩ := (HR0.out.no T.out).at (j := i) (by rw [← Hn.out]; exact hi)
      have hri : rs[i]? = some (l.drop k) := by rw [HRS.out]; exact rsOf_get hl hk0
      have hlb : l.length ≤ 1000000000000 := HLS.out l (List.mem_of_getElem? hl)
      subst hloL hloA
      obtain ⟨m, hm⟩ : ∃ m, m = l.length := ⟨_, rfl⟩
      rw [← hm] at rL hkl hlc hlb
      by_cases hkm : k < m
      · have hkm' : (k : Int) < (m : Int) := by omega
        have hkl2 : k < l.length := by omega
        obtain ⟨c, hc⟩ : ∃ c, c = l[k] := ⟨_, rfl⟩
        obtain ⟨ge, oe, hao, rE⟩ := hel c (by rw [List.getElem?_eq_getElem hkl2, hc])
        subst hao
        have hrc : rs[i]? = some (c :: l.drop (k + 1)) := by rw [hri, List.drop_eq_getElem_cons hkl2, hc]
        obtain ⟨x, hx⟩ : ∃ x, x = c.l := ⟨_, rfl⟩
        rw [← hx] at rE
        have HC : Hid (rs[i]? = some (c :: l.drop (k + 1)) ∧ x = c.l) := ⟨hrc, hx⟩
        rcases J.out with ⟨rfl, hno⟩ | ⟨b, cb, ub, rfl, hbi, hrb, hmin⟩
        · have JB : Hid (Bst rs (i + 1) (.int .i64 (i : Int))) := .inr ⟨i, c, _, rfl, by omega, HC.out.1, fun j d v hj e => by
            by_cases hji : j = i
            · subst hji
              rw [HC.out.1] at e
              simp only [Option.some.injEq, List.cons.injEq] at e
              exact .inr ⟨by rw [e.1], Nat.le_refl _⟩
            · exact absurd e (hno j d v (by omega))⟩
          clear hno hri hl hk0 hel hm hc hx hrc
          go_wp2_with fail
          go_quiet (fail)
          have TQ : Hid (Tch (fun _ => False) w0 (wr.drewN nq)) := T.out.drewN nq
          clear a0 a1 rL rA
          go_wp2
          go_roundg (n - (i + 1))
          case measure => omega
          case rel => exact ⟨i + 1, rfl, by omega, by omega, JB, TQ⟩
        · obtain ⟨gL', gA', aob, cpb, lb, kb, hloL, hloA, hlb0, hkb0, hkbl, hlcb, hcmb, rLb, rAb, helb⟩ := (HR0.out.no T.out).at (j := b) (by rw [← Hn.out]; omega)
          simp only [Option.some.injEq, Addr.mk.injEq, and_true] at hloL hloA
          subst hloL hloA
          have hrb2 : lb.drop kb = cb :: ub := by
            have : rs[b]? = some (lb.drop kb) := by rw [HRS.out]; exact rsOf_get hlb0 hkb0
            rw [hrb] at this; simpa using this.symm
          have hkb2 : kb < lb.length := by
            rcases Nat.lt_or_ge kb lb.length with h | h
            · exact h
            · rw [List.drop_eq_nil_of_le h] at hrb2; cases hrb2
          obtain ⟨gb, ob, haob, rEb⟩ := helb cb (by
            rw [List.drop_eq_getElem_cons hkb2] at hrb2
            simp only [List.cons.injEq] at hrb2
            rw [List.getElem?_eq_getElem hkb2, hrb2.1])
          subst haob
          obtain ⟨mb, hmb⟩ : ∃ mb, mb = lb.length := ⟨_, rfl⟩
          rw [← hmb] at rLb hlcb hkb2
          obtain ⟨y, hy⟩ : ∃ y, y = cb.l := ⟨_, rfl⟩
          rw [← hy] at rEb
          have hlbb : mb ≤ 1000000000000 := by rw [hmb]; exact HLS.out lb (List.mem_of_getElem? hlb0)
          have hb' : (b : Int) < (n : Int) := by omega
          have hkb' : (kb : Int) < (mb : Int) := by omega
          have g1 : decide ((b : Int) < 0) = false := decide_eq_false (by omega)
          by_cases hxy : x < y
          · have JB : Hid (Bst rs (i + 1) (.int .i64 (i : Int))) := .inr ⟨i, c, _, rfl, by omega, HC.out.1, fun j d v hj e => by
              by_cases hji : j = i
              · subst hji
                rw [HC.out.1] at e
                simp only [Option.some.injEq, List.cons.injEq] at e
                exact .inr ⟨by rw [e.1], Nat.le_refl _⟩
              · have := hmin j d v (by omega) e
                have := HC.out.2
                exact .inl (by omega)⟩
            clear hmin hrb hrb2 hlb0 hkb0 helb hri hl hk0 hel hm hc hx hrc hmb hy
            go_wp2_with fail
            go_quiet (fail)
            have TQ : Hid (Tch (fun _ => False) w0 (wr.drewN nq)) := T.out.drewN nq
            clear a0 a1 rL rA rLb rAb rE rEb
            go_wp2
            go_roundg (n - (i + 1))
            case measure => omega
            case rel => exact ⟨i + 1, rfl, by omega, by omega, JB, TQ⟩
          · have g2 : decide (x < y) = false := decide_eq_false hxy
            have JB : Hid (Bst rs (i + 1) (.int .i64 (b : Int))) := .inr ⟨b, cb, ub, rfl, by omega, hrb, fun j d v hj e => by
              by_cases hji : j = i
              · subst hji
                rw [HC.out.1] at e
                simp only [Option.some.injEq, List.cons.injEq] at e
                have := HC.out.2
                rw [← e.1]
                omega
              · exact hmin j d v (by omega) e⟩
            clear hmin hrb hrb2 hlb0 hkb0 helb hri hl hk0 hel hm hc hx hrc hmb hy hxy
            go_wp2_with fail
            go_quiet (fail)
            have TQ : Hid (Tch (fun _ => False) w0 (wr.drewN nq)) := T.out.drewN nq
            clear a0 a1 rL rA rLb rAb rE rEb
            go_wp2
            go_roundg (n - (i + 1))
            case measure => omega
            case rel => exact ⟨i + 1, rfl, by omega, by omega, JB, TQ⟩
      · have g1 : decide ((k : Int) < (m : Int)) = false := decide_eq_false (by omega)
        have hno : ∀ (d : Rc) (v : List Rc), rs[i]? ≠ some (d :: v) := fun d v e => by
          rw [hri, List.drop_eq_nil_of_le (by omega)] at e; cases e
        obtain ⟨s4, hs4⟩ : ∃ s4, s4 = s4 := ⟨(.int .i64 0 : Value), rfl⟩
        clear hs4 s4
        rcases J.out with ⟨rfl, hno2⟩ | ⟨b, cb, ub, rfl, hbi, hrb, hmin⟩
        · have JB : Hid (Bst rs (i + 1) (.int .i64 (-1))) := .inl ⟨rfl, fun j d v hj e => by
            by_cases hji : j = i
            · subst hji; exact hno d v e
            · exact hno2 j d v (by omega) e⟩
          clear hno hno2 hri hl hk0 hel hm
          go_wp2_with fail
          go_quiet (fail)
          have TQ : Hid (Tch (fun _ => False) w0 (wr.drewN nq)) := T.out.drewN nq
          clear a0 a1 rL rA
          go_wp2
          go_roundg (n - (i + 1))
          case measure => omega
          case rel => exact ⟨i + 1, rfl, by omega, by omega, JB, TQ⟩
        · have JB : Hid (Bst rs (i + 1) (.int .i64 (b : Int))) := .inr ⟨b, cb, ub, rfl, by omega, hrb, fun j d v hj e => by
            by_cases hji : j = i
            · subst hji; exact absurd e (hno d v)
            · exact hmin j d v (by omega) e⟩
          clear hno hmin hrb hri hl hk0 hel hm
          go_wp2_with fail
          go_quiet (fail)
          have TQ : Hid (Tch (fun _ => False) w0 (wr.drewN nq)) := T.out.drewN nq
          clear a0 a1 rL rA
          go_wp2
          go_roundg (n - (i + 1))
          case measure => omega
          case rel => exact ⟨i + 1, rfl, by omega, by omega, JB, TQ⟩
    · have hi' : ¬ (i : Int) < (n : Int) := by omega
      obtain rfl : i = n := by omega
      have hrl : rs.length = i := by rw [HRS.out, rsOf_len HR0.out.nl, Hn.out]
      have hz := (T.out.block w.heap.size (blk_lt HB0.out.1) (fun h => h)).trans HB0.out.1
      rcases J.out with ⟨rfl, hno⟩ | ⟨b, cb, ub, rfl, hbi, hrb, hmin⟩
      · obtain ⟨e0, e1, e2, e3, e4, e5⟩ := get6 hz
        have fz := blk_frozen hz
        have HZ : Hid _ := hz
        have HNO : Hid (∀ (j : Nat) (d : Rc) (v : List Rc), rs[j]? ≠ some (d :: v)) := fun j d v e => hno j d v (by rw [← hrl]; exact (List.getElem?_eq_some_iff.1 e).1) e
        clear hz hno hrl
        go_wp2
        refine bodyPost_ret (res_ch2 rs_rn rfl rfl (set6 HZ.out _ _ _ _ _ _)) rfl ?_
        refine ⟨false, k0, nx, rfl, fun h => (by cases h), fun _ => ⟨rfl, rfl, HNO.out⟩, (HR0.out.no T.out).z HZ.out HMW.out (tch6 _ _ _ _ _ _ _ _), ?_⟩
        exact ((HB0.out.2.trans' T.out).mono (T := fun i => (Value.slice loA ls.length lcA).ownBlock = some i) (fun _ _ h => h.elim)).trans (tch6 _ _ _ _ _ _ _ _) (fun j hj e => by omega)
      · have hRM := HR0.out.no T.out
        obtain ⟨gL, gA, ao, cp, l, k, hloL, hloA, hl, hk0, hkl, hlc, hcm, rL, rA, -⟩ := hRM.at (j := b) (by rw [← Hn.out]; exact hbi)
        subst hloL hloA
        have hrb2 : l.drop k = cb :: ub := by
          have : rs[b]? = some (l.drop k) := by rw [HRS.out]; exact rsOf_get hl hk0
          rw [hrb] at this; simpa using this.symm
        have hkb : k < l.length := by
          rcases Nat.lt_or_ge k l.length with h | h
          · exact h
          · rw [List.drop_eq_nil_of_le h] at hrb2; cases hrb2
        have hcu : l[k] = cb ∧ l.drop (k + 1) = ub := by
          rw [List.drop_eq_getElem_cons hkb] at hrb2
          simp only [List.cons.injEq] at hrb2
          exact hrb2
        obtain ⟨ao2, cp2, e2, hr2⟩ := hRM.el b l hl
        obtain ⟨gA2, hgA2⟩ : ∃ cur, wr.heap[gA]? = some (.cells cur 3 (0, 0)) := own_ty hRM.oA rfl
        obtain ⟨w1, hw1⟩ : ∃ w1, w1 = wr.setCell ⟨gA, b, none⟩ (.int .i64 ((k : Int) + 1)) := ⟨_, rfl⟩
        have t1 : Tch (fun i => i = gA) wr w1 := by rw [hw1]; exact Tch.setCell (fun i => i = gA) _ _ _ rfl
        have hA1 : w1.ownsRow base 3 1 (.slice (some ⟨gA, 0, none⟩) ls.length lcA) ls.length (ncl (nx.set b (k + 1))) := by
          have := own_set1 (u := .int .i64 ((k : Int) + 1)) hRM.oA (i := b)
          rw [hw1]
          have e3 : ncl (nx.set b (k + 1)) = (ncl nx).set b (.int .i64 ((k : Int) + 1)) := by simp [ncl, List.map_set]
          rw [e3]; exact this
        have hRM1 : RV base w1 rb (.slice (some ⟨gL, 0, none⟩) ls.length lcL) (.slice (some ⟨gA, 0, none⟩) ls.length lcA) hd ls (nx.set b (k + 1)) := by
          refine ⟨(t1.block rb (blk_lt hRM.blk) (fun e => by subst e; exact ne_ty hRM.blk hgA2 (by decide) rfl)).trans hRM.blk, own_tch hRM.oL t1 (fun g e e3 => by
            subst e3
            obtain ⟨cur, hc⟩ := own_ty hRM.oL e
            exact ne_ty hc hgA2 (by decide) rfl), hA1, fun j l' hj => ?_, by rw [List.length_set]; exact hRM.nl, fun j l' n' hj hn' => ?_, hRM.lo⟩
          · obtain ⟨a, c2, e3, hr⟩ := hRM.el j l' hj
            exact ⟨a, c2, e3, hr.ty t1 (fun g cur hg e => by subst e; exact ne_ty hg hgA2 (by decide) rfl)⟩
          · by_cases hjb : j = b
            · subst hjb
              rw [List.getElem?_set_self (by rw [hRM.nl, ← Hn.out]; exact hbi)] at hn'
              rw [hl] at hj
              obtain rfl : l = l' := by simpa using hj
              obtain rfl : k + 1 = n' := by simpa using hn'
              exact hkb
            · rw [List.getElem?_set_ne (Ne.symm hjb)] at hn'
              exact hRM.le j l' n' hj hn'
        obtain ⟨b0', b1', -⟩ : w1.cell? ⟨rb, 0, none⟩ = some (.slice (some ⟨gL, 0, none⟩) i lcL) ∧ w1.cell? ⟨rb, 1, none⟩ = some (.slice (some ⟨gA, 0, none⟩) i lcA) ∧ True := by
          rw [Hn.out]; exact ⟨blk_cell hRM1.blk 0, blk_cell hRM1.blk 1, trivial⟩
        obtain ⟨gL', gA', ao3, cp3, l3, k3, hloL, hloA, hl3, hk3, -, hlc3, hcm3, rL3, rA3, -⟩ := hRM1.at (j := b) (by rw [← Hn.out]; exact hbi)
        simp only [Option.some.injEq, Addr.mk.injEq, and_true] at hloL hloA
        subst hloL hloA
        rw [hl] at hl3
        obtain rfl : l = l3 := by simpa using hl3
        rw [List.getElem?_set_self (by rw [hRM.nl, ← Hn.out]; exact hbi)] at hk3
        obtain rfl : k + 1 = k3 := by simpa using hk3
        obtain ⟨ao4, cp4, e4, hr4⟩ := hRM1.el b l hl
        have e5 := hRM1.oL.cells (g := gL) rfl b _ e4
        rw [add_plain, Nat.zero_add, rL3] at e5
        simp only [Option.some.injEq, Value.slice.injEq, true_and] at e5
        obtain ⟨rfl, rfl⟩ := e5
        obtain ⟨ge, oe, hao, hE⟩ := hr4.nth (n := k) (c := cb) (by rw [List.getElem?_eq_getElem hkb, hcu.1])
        subst hao
        have E0 := hE 0 _ rfl
        have E1 := hE 1 _ rfl
        have E2 := hE 2 _ rfl
        have E3 := hE 3 _ rfl
        have E4 := hE 4 _ rfl
        have E5 := hE 5 _ rfl
        rw [Nat.add_zero] at E0
        have hzA : w.heap.size ≠ gA := ne_ty hz hgA2 (by decide)
        have hz1 := (t1.block w.heap.size (blk_lt hz) hzA).trans hz
        obtain ⟨z0, z1, z2, z3, z4, z5⟩ := get6 hz1
        have fz := blk_frozen hz1
        have fA := blk_frozen hgA2 b
        have HZ : Hid _ := hz1
        obtain ⟨m, hm⟩ : ∃ m, m = l.length := ⟨_, rfl⟩
        have hlb : l.length ≤ 1000000000000 := HLS.out l (List.mem_of_getElem? hl)
        rw [← hm] at rL3 hlc3 hkb hlb
        have HFI : Hid (∀ W, Tch (fun i => i = w.heap.size) w1 W → RvO base w rb (.slice (some ⟨gL, 0, none⟩) ls.length lcL) (.slice (some ⟨gA, 0, none⟩) ls.length lcA) hd ls nx rs (.returned (.tuple #[.agg #[.int .i64 cb.l, .int .i64 cb.x, .int .i64 cb.k, .int .i64 cb.t, .slice cb.oa cb.ol cb.oc, .slice cb.na cb.nl cb.nc], .bool true])) W) := fun W tW => by
          refine ⟨true, cb, nx.set b (k + 1), rfl, fun _ => ⟨b, ub, ⟨hrb, fun j d v e => hmin j d v (by rw [← hrl]; exact (List.getElem?_eq_some_iff.1 e).1) e⟩, ?_⟩, fun h => (by cases h), hRM1.z hz1 HMW.out tW, ?_⟩
          · rw [rsOf_set HR0.out.nl hl, ← HRS.out, hcu.2]
          · exact (((HB0.out.2.trans' T.out).mono (T := fun i => (Value.slice (some ⟨gA, 0, none⟩) ls.length lcA).ownBlock = some i) (fun _ _ h => h.elim)).trans t1 (fun j hj e => by rw [e]; rfl)).trans tW (fun j hj e => by omega)
        have rA4 : w1.cell? ⟨gA, b, none⟩ = some (.int .i64 ((k : Int) + 1)) := rA3
        clear rA3
        have hb' : (b : Int) < (i : Int) := by omega
        have hkb' : (k : Int) < (m : Int) := by omega
        have g1 : ¬ (b : Int) < 0 := by omega
        have hwk : IntKind.i64.wrap (k : Int) = (k : Int) := wrap_of (by omega) (by omega)
        have HW1 : Hid (w1 = _) := hw1
        clear hrl hz hrb hmin hRM hrb2 hcu e2 hr2 hgA2 hw1 t1 hA1 hRM1 hl hk0 hkl hlc hl3 hk3 e4 hr4 hE hzA hz1 hm rL
        go_upto_region 10 with (fail)
        rw [← HW1.out]
        clear rA fA a0 a1
        refine wp_region_drew_tail 17 (by kernel_rfl) (by kernel_rfl) ?_
        repeat (quiet_step (fail))
        refine wpQuiet_nil ?_
        rintro w7 ⟨q, rfl⟩
        obtain ⟨w8, hw8⟩ : ∃ w8, w8 = w1.drewN q := ⟨_, rfl⟩
        rw [← hw8]
        have t8 : Tch (fun _ => False) w1 w8 := by rw [hw8]; exact (Tch.refl _ _).drewN q
        have hz8 := (t8.block w.heap.size (blk_lt HZ.out) (fun h => h)).trans HZ.out
        clear z0 z1 z2 z3 z4 z5 fz E0 E1 E2 E3 E4 E5 b0' b1' rL3 rA4
        obtain ⟨z0, z1, z2, z3, z4, z5⟩ := get6 hz8
        have fz := blk_frozen hz8
        have HZ8 : Hid _ := hz8
        have HT8 : Hid (Tch (fun _ => False) w1 w8) := t8
        clear hw8 t8 hz8
        go_wp2
        refine bodyPost_ret (res_ch2 rs_rn rfl rfl (set6 HZ8.out _ _ _ _ _ _)) rfl ?_
        exact HFI.out _ ((HT8.out.mono (fun _ _ h => h.elim)).trans' (tch6 _ _ _ _ _ _ _ _))
end Go.Proofs.Ytmnhkgibplnnnaa
