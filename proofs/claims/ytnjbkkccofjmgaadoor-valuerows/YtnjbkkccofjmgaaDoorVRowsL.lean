/- ValueRows, walked. -/
import Derived.Test.YtnjbkkccofjmgaaDoorVRows2
import Derived.Test.YtnjbkkccofjmgaaDoorVLit
namespace Go.Proofs.YtnjbkkccofjmgaaDoor
open Go.RowKit Go.Sort

def kAsk : ByteArray := ⟨#[4, 1, 10, 0, 2, 1, 97, 4]⟩
def askd (S : ByteArray) (i : Nat) : ByteArray := if i = 2 then kAsk else S
theorem askd_size {S : ByteArray} (hS : S.size ≤ 281474976710656) (i : Nat) : (askd S i).size ≤ 281474976710656 := by
  unfold askd; split
  · show (8 : Nat) ≤ _; omega
  · exact hS
theorem drop_rev (l : List Val) (k : Nat) (hk : k < l.length) : (l.drop k).reverse = (l.drop (k + 1)).reverse ++ [l[k]] := by
  rw [List.drop_eq_getElem_cons hk, List.reverse_cons]
set_option maxHeartbeats 1000000 in
set_option maxRecDepth 100000 in
theorem rows_law (l : List Val) (ro : Option Addr) (c : Nat) (S : ByteArray) (w : World) (hg : HE w) (hwd : HWd w) (hr : RowOf w ro l) (hrn : ro = none → l = [] ∧ c = 0) (hl : l.length * 32 ≤ 140737488351232) (hi : ∀ v ∈ l, v.i64) (hS : S.size ≤ 281474976710656) :
    Calls Tryd.prog 7 #[.slice ro l.length c, .string S] w fun x w' => x = .returned (.bool true) ∧ Tch (fun _ => False) w w' := by
  obtain ⟨i0, hii, hz0, hz1, hz2⟩ := info_parts info_val
  obtain ⟨i1, hi1, hy0, hy1, hy2⟩ := info_parts info_row
  have hel : 2 < w.heap.size := cell_lt hg
  obtain ⟨N, hN⟩ : ∃ N, N = w.heap.size := ⟨_, rfl⟩
  have HG : Hid (∀ W, Tch (fun i => N ≤ i) w W → HE W) := fun W t => hg.tch t (by omega)
  have Hr : Hid (∀ W, Tch (fun i => N ≤ i) w W → RowOf W ro l) := fun W t => hr.old2 (Tch.refl _ w) t (fun g h1 h => by omega)
  have Hrb : Hid (l ≠ [] → ∀ g o, ro = some ⟨g, o, none⟩ → g < N) := fun h g o e => by have := hr.lt h e; omega
  have HK : Hid (Calls Tryd.prog 8 #[] w fun x w' => x = .returned (.bool true) ∧ Tch (fun _ => False) w w') := known_any w hg hwd
  have Hrn : Hid (ro = none → l = [] ∧ c = 0) := hrn
  have Hl : Hid (l.length * 32 ≤ 140737488351232) := hl
  have HI : Hid (∀ v ∈ l, v.i64) := hi
  have HIr : Hid (∀ v ∈ l.reverse, v.i64) := fun v hv => hi v (by simpa using hv)
  have HN : Hid (N = w.heap.size) := hN
  have hl9 : l.length ≤ 4398046510976 := by omega
  obtain ⟨A, E, hAE⟩ : ∃ A E, (⟨(encR l).1.toArray⟩, (encR l).2) = ((A, E) : ByteArray × Int) := ⟨_, _, rfl⟩
  obtain ⟨A2, E2, hAE2⟩ : ∃ A E, (⟨(encR l.reverse).1.toArray⟩, (encR l.reverse).2) = ((A, E) : ByteArray × Int) := ⟨_, _, rfl⟩
  simp only [Prod.mk.injEq] at hAE hAE2
  have He1 : Hid (∀ W o c', RowOf W o l → Calls Tryd.prog 22 #[.slice o l.length c'] W fun x w' => x = .returned (.tuple #[.string A, .int .i64 E]) ∧ Tch (fun _ => False) W w') := fun W o c' h => by rw [← hAE.1, ← hAE.2]; exact renc_u l o c' W h hi (by omega)
  have He2 : Hid (∀ W o c', HE W → RowOf W o l → Calls Tryd.prog 23 #[.slice o l.length c'] W fun x w' => x = .returned (.tuple #[.string A, .int .i64 E]) ∧ Tch (fun _ => False) W w') := fun W o c' hE h => by rw [← hAE.1, ← hAE.2]; exact enc_u l o c' W hE h hi (by omega)
  have He3 : Hid (∀ W o c', RowOf W o l.reverse → Calls Tryd.prog 22 #[.slice o l.length c'] W fun x w' => x = .returned (.tuple #[.string A2, .int .i64 E2]) ∧ Tch (fun _ => False) W w') := fun W o c' h => by rw [← hAE2.1, ← hAE2.2, ← List.length_reverse]; exact renc_u l.reverse o c' W h HIr.out (by rw [List.length_reverse]; omega)
  have He4 : Hid (∀ W o c', HE W → RowOf W o l.reverse → Calls Tryd.prog 23 #[.slice o l.length c'] W fun x w' => x = .returned (.tuple #[.string A2, .int .i64 E2]) ∧ Tch (fun _ => False) W w') := fun W o c' hE h => by rw [← hAE2.1, ← hAE2.2, ← List.length_reverse]; exact enc_u l.reverse o c' W hE h HIr.out (by rw [List.length_reverse]; omega)
  clear hg hwd hr hrn hl hi hN hel hAE hAE2
  go_enter Tryd.func7, Tryd.ntmps7
  go_wp2_with fail
  refine HK.out.mono ?_
  rintro x w1 ⟨rfl, t1⟩
  have T1 : Tch (fun i => N ≤ i) w w1 := no_mono t1
  clear HK t1
  go_wp2_with fail
  refine (lent_b l ro c w1 (Hr.out _ T1) Hrn.out Hl.out).mono ?_
  rintro x w2 ⟨xo, cx, rfl, ⟨X2, B2⟩, t2⟩
  have T2 : Tch (fun i => N ≤ i) w w2 := T1.trans' (no_mono t2)
  have hN1 : N ≤ w1.heap.size := by rw [HN.out]; exact T1.size
  clear t2
  go_wp2_with fail
  refine (He1.out w2 ro c (Hr.out _ T2)).mono ?_
  rintro x w3 ⟨rfl, t3⟩
  have T3 : Tch (fun i => N ≤ i) w w3 := T2.trans' (no_mono t3)
  have X3 := X2.tch t3 (fun _ _ h => h)
  have B3 := B2.tch t3 (fun _ _ h => h)
  clear t3 X2 B2 T2
  go_wp2_with fail
  refine (He2.out w3 xo cx (HG.out _ T3) X3.row).mono ?_
  rintro x w4 ⟨rfl, t4⟩
  have T4 : Tch (fun i => N ≤ i) w w4 := T3.trans' (no_mono t4)
  have X4 := X3.tch t4 (fun _ _ h => h)
  have B4 := B3.tch t4 (fun _ _ h => h)
  clear t4 X3 B3 T3
  go_wp2_with fail
  refine (asLent_b l ro c w1.heap.size xo cx w4 X4 B4 (Hr.out _ T4) (fun h g o e => by have := Hrb.out h g o e; omega) Hl.out).mono ?_
  rintro x w5 ⟨rfl, t5, B5⟩
  have T5 : Tch (fun i => N ≤ i) w w5 := T4.trans' (t5.mono (fun i _ h => by omega))
  clear t5 X4 B4 T4
  obtain ⟨M5, hM5⟩ : ∃ M5, M5 = w5.heap.size := ⟨_, rfl⟩
  have hN5 : N ≤ M5 := by rw [hM5, HN.out]; exact T5.size
  have HM5 : Hid (M5 = w5.heap.size) := hM5
  clear hM5
  have hsub : IntKind.i64.wrap ((l.length : Int) - 1) = (l.length : Int) - 1 := by rw [IntKind.wrap_i64]; omega
  go_wp2_with fail
  go_loopw [12, 13] (fun v i wr => ∃ (k : Nat) (us : List Val), i = .int .i64 ((k : Int) - 1) ∧ k ≤ l.length ∧ us.length ≤ l.length ∧ Hid (us = (l.drop k).reverse) ∧ wr.ownsRow M5 23 3 v us.length (rcl us) ∧ (M5 ≤ wr.heap.size ∧ Hid (Tch (fun i => M5 ≤ i) w5 wr))) (fun _ i _ => (intOf i + 1).toNat)
  case atStart => exact ⟨l.length, [], rfl, Nat.le_refl _, by simp, by show _ = _; simp, ⟨rfl, Or.inl ⟨rfl, rfl⟩⟩, by rw [HM5.out]; exact Nat.le_refl _, Tch.refl _ _⟩
  case round =>
    obtain ⟨k, us, rfl, hk, hul, HU, hown, hsz, HT⟩ := hrel
    obtain ⟨uo, cu, hv⟩ := row_slice hown
    subst hv
    rcases Nat.eq_zero_or_pos k with hk0 | hk0
    · subst hk0
      have e1 : (((0 : Nat) : Int) - 1) = -1 := by omega
      rw [e1]
      clear e1
      have hU : us = l.reverse := by rw [HU.out]; simp
      subst hU
      rw [List.length_reverse] at hown ⊢
      have T6 : Tch (fun _ => False) w5 wr := HT.out.mono (fun i hi h => by have := HM5.out; omega)
      obtain ⟨W7, hcp, t7, R7⟩ := copy_rows xo uo cx cu w1.heap.size M5 l.reverse wr (by rw [List.length_reverse]; exact B5.tch T6 (fun _ _ h => h)) (by rw [List.length_reverse]; exact hown)
      rw [List.length_reverse] at hcp
      have hxlt : ∀ g, xo = some ⟨g, 0, none⟩ → w1.heap.size ≤ g ∧ g < M5 := fun g e => by have := B5.lt e; have := HM5.out; omega
      have T7 : Tch (fun i => N ≤ i) w W7 := (T5.trans' (HT.out.mono (fun i _ h => by omega))).trans' (t7.mono (fun i _ h => by have := hxlt i h; omega))
      have U7 : RowOf W7 uo l.reverse := by
        intro hne
        obtain ⟨gu, e, hgu, hru⟩ := row_at (by rw [List.length_reverse]; exact hown) hne
        exact ⟨gu, 0, e, hru.tch t7 (fun _ h => by have := hxlt gu h; omega)⟩
      clear HT hown t7 T6 HU
      go_wp2_with fail
      refine (He3.out W7 uo cu U7).mono ?_
      rintro x w8 ⟨rfl, t8⟩
      have T8 : Tch (fun i => N ≤ i) w w8 := T7.trans' (no_mono t8)
      have R8 := R7.no t8
      clear hcp t8 T7 R7 U7
      go_wp2_with fail
      refine (He4.out w8 xo cx (HG.out _ T8) R8).mono ?_
      rintro x w9 ⟨rfl, t9⟩
      have T9 : Tch (fun i => N ≤ i) w w9 := T8.trans' (no_mono t9)
      clear t9 T8 R8 He1 He2 He3 He4
      go_wp2_with fail
      obtain ⟨wQ, hwQ⟩ : ∃ wQ, wQ = w9.alloc (.cells #[.string S, .string S, .string ⟨#[4, 1, 10, 0, 2, 1, 97, 4]⟩, .string S, .string S] 9) := ⟨_, rfl⟩
      obtain ⟨ga, hga⟩ : ∃ ga, ga = w9.heap.size := ⟨_, rfl⟩
      have HQ : Hid (∀ W, Tch (fun _ => False) wQ W → ∀ p, p < 5 → W.cell? ⟨ga, p, none⟩ = some (.string (askd S p))) := fun W t p hp => by
        have h0 : wQ.cell? ⟨ga, p, none⟩ = some (.string (askd S p)) := by
          rw [hwQ, hga]
          obtain rfl | rfl | rfl | rfl | rfl : p = 0 ∨ p = 1 ∨ p = 2 ∨ p = 3 ∨ p = 4 := by omega
          all_goals simp [askd, kAsk]
        rw [t.cell (p := ⟨ga, p, none⟩) (cell_lt h0) (fun h => h)]; exact h0
      have TQ : Tch (fun i => N ≤ i) w wQ := by rw [hwQ]; exact T9.allocR _
      rw [← hwQ, ← hga]
      obtain ⟨N9, hN9⟩ : ∃ N9, N9 = wQ.heap.size := ⟨_, rfl⟩
      have HN9 : Hid (N9 = wQ.heap.size) := hN9
      clear hwQ hga T9 hN9
      go_loopw [19, 20] (fun rv i wr => ∃ (p : Nat) (Ls : List Value), i = .int .i64 p ∧ p ≤ 5 ∧ (Ls.length ≤ 5 ∧ Hid (Ls.length = p)) ∧ Hid (RWS wr N9 Ls rv (askd S)) ∧ Tch (fun _ => False) wQ wr) (fun _ i _ => 5 - (intOf i).toNat)
      case atStart => exact ⟨0, [], rfl, by omega, ⟨by simp, rfl⟩, ⟨⟨rfl, Or.inl ⟨rfl, rfl⟩⟩, fun j hj => by simp at hj, fun i j hi => by simp at hi⟩, Tch.refl _ _⟩
      case round =>
        obtain ⟨p, Ls, rfl, hp, ⟨hLs, HLs⟩, HW, tW⟩ := hrel
        obtain ⟨vo, vc, hv⟩ := row_slice HW.out.own
        subst hv
        by_cases hp5 : (p : Int) < 5
        · have hc := HQ.out _ tW p (by omega)
          obtain ⟨Sp, hSp⟩ : ∃ Sp, Sp = askd S p := ⟨_, rfl⟩
          have hSs : Sp.size ≤ 281474976710656 := by rw [hSp]; exact askd_size hS p
          rw [← hSp] at hc
          obtain ⟨D, F, hDF⟩ : ∃ D F, dv Sp = (D, F) := ⟨_, _, rfl⟩
          have hD8 : D.length ≤ 8 := by have := dv_len Sp; rw [hDF] at this; exact this
          have Hrd : Hid (∀ W, Calls Tryd.prog 24 #[.string Sp] W fun x w' => (∃ ro c, x = .returned (.tuple #[.slice ro D.length c, .int .i64 F]) ∧ RowOf w' ro D) ∧ Tch (fun _ => False) W w') := fun W => by have := rdec_u Sp W hSs; rw [hDF] at this; exact this
          have Hdc : Hid (∀ W, HE W → Calls Tryd.prog 25 #[.string Sp] W fun x w' => (∃ uo cu, x = .returned (.tuple #[.slice uo D.length cu, .int .i64 F]) ∧ RWi w' W.heap.size (.slice uo D.length cu) Sp) ∧ Tch (fun _ => False) W w') := fun W hE => by have := dec_u Sp W hE hSs; rw [hDF] at this; exact this
          have HRW : Hid (∀ W n v, RWi W n v Sp → ∃ uo cu, v = .slice uo D.length cu ∧ RowOf W uo D) := fun W n v h => by
            obtain ⟨uo, cu, h1, h2, _⟩ := h
            rw [hDF] at h1 h2
            exact ⟨uo, cu, h1, h2⟩
          have HSp : Hid (Sp = askd S p) := hSp
          clear hSp hDF hSs
          go_wp2_with fail
          refine (Hrd.out _).mono ?_
          rintro x wA ⟨⟨ra, ca, rfl, RA⟩, tA⟩
          have tWA := tW.trans' tA
          have hcA := HQ.out _ tWA p (by omega)
          rw [← HSp.out] at hcA
          clear hc
          go_wp2_with fail
          refine (Hdc.out _ (HG.out _ (TQ.trans' (no_mono tWA)))).mono ?_
          rintro x wB ⟨⟨ub, cb, rfl, UB⟩, tB⟩
          have tWB := tWA.trans' tB
          obtain ⟨ub', cb', hb1, UB1⟩ := HRW.out _ _ _ UB
          simp only [Value.slice.injEq, true_and] at hb1
          obtain ⟨rfl, rfl⟩ := hb1
          clear hcA
          go_wp2_with fail
          refine (lsame_any D D ub ra cb ca wB UB1 (RA.no tB) (by omega)).mono ?_
          rintro x wC ⟨bb, rfl, hbb, m, rfl⟩
          obtain rfl : bb = true := hbb.2 rfl
          have tC : Tch (fun _ => False) wB (wB.drewN m) := (Tch.refl _ _).drewN m
          obtain ⟨wC, hwC⟩ : ∃ wC, wC = wB.drewN m := ⟨_, rfl⟩
          rw [← hwC] at tC ⊢
          clear hwC hbb UB1 RA
          have hszW : N9 ≤ wr.heap.size := by rw [HN9.out]; exact tW.size
          have tWC := tA.trans' (tB.trans' tC)
          have HUB : Hid (RWi wB wr.heap.size (.slice ub D.length cb) (askd S p)) := by rw [← HSp.out]; exact UB.low tA.size
          have HtB : Hid (Tch (fun _ => False) wr wB) := tA.trans' tB
          have HtC : Hid (Tch (fun _ => False) wB wC) := tC
          have hzC := tWC.size
          clear UB
          go_wp2_with (at_builtin; refine wpList_append_keeps _ rfl _ _ 44 rfl N9 36 i1 (.slice none 0 0) 1 24 Tryd.underlying44 hi1 hy0 hy1 hy2 rfl (by decide) (.slice vo Ls.length vc) Ls.length Ls rfl (own_tch HW.out.own (tWC.allocR _) (fun _ _ h => h)) ⟨wC.heap.size, 0, none⟩ 1 1 [.slice ub D.length cb] rfl rfl (World.news_of_block (alloc_new _ _)) (by simp [Value.oneCell']) (by unfold maxLen; omega) (by omega) (by simp; omega) ?_; intro v1 wD hown1 hgr1 hat1 _)
          have HW2 : Hid _ := HW.out.step HLs.out hszW HtB.out HUB.out (HtC.out.allocR _) hgr1 hown1 hat1
          have hvlt : ∀ g, (Value.slice vo Ls.length vc).ownBlock = some g → N9 ≤ g := fun g e => row_ge HW.out.own e
          have tD : Tch (fun _ => False) wQ wD := (tW.trans' tWC).trans (grown_at (Tch.alloc _ _ _) hgr1) (fun i hi h => by have := hvlt i h; have := HN9.out; omega)
          obtain ⟨ao1, ca1, hv1⟩ := row_slice hown1
          subst hv1
          exact ⟨⟨p + 1, Ls ++ [.slice ub D.length cb], by go_num, by omega, ⟨by have := HLs.out; rw [List.length_append]; simp; omega, by show _ = _; rw [List.length_append, HLs.out]; rfl⟩, HW2, tD⟩, by simp [intOf]; omega⟩
        · obtain rfl : p = 5 := by omega
          obtain ⟨wV, hwV⟩ : ∃ wV, wV = wr := ⟨_, rfl⟩
          subst hwV
          obtain ⟨gl, rfl, hLc⟩ : ∃ gl, vo = some ⟨gl, 0, none⟩ ∧ ∀ W, Tch (fun _ => False) wV W → ∀ j (hj : j < Ls.length), W.cell? ⟨gl, j, none⟩ = some Ls[j] := by
            rcases HW.out.own.2 with ⟨h1, h2⟩ | ⟨G, c', cur, hv, _, hh, hc, hm, hs, ht⟩
            · have := HLs.out; omega
            · simp only [Value.slice.injEq] at hv
              refine ⟨G, hv.1, fun W t j hj => ?_⟩
              have hh' : W.heap[G]? = some (.cells cur 36 (0, 0)) := by rw [t.block G (blk_lt hh) (fun h => h)]; exact hh
              rw [blk_cell hh', ← Array.getElem?_toList]
              have h1 : (cur.toList.take (Ls.length * 1))[j]? = Ls[j]? := by rw [ht]
              rw [List.getElem?_take_of_lt (by omega), List.getElem?_eq_getElem hj] at h1
              exact h1
          have HLc : Hid _ := hLc
          have hL5 : (Ls.length : Int) = 5 := by have := HLs.out; omega
          have HL5 : Hid (Ls.length = 5) := HLs.out
          clear hLc
          go_wp2_with fail
          go_loopw [26] (fun i W => ∃ j : Nat, i = .int .i64 j ∧ j ≤ 5 ∧ Tch (fun _ => False) wV W) (fun i _ => 5 - (intOf i).toNat)
          case atStart => exact ⟨0, rfl, by omega, Tch.refl _ _⟩
          case round =>
            obtain ⟨j, rfl, hj, tX⟩ := hrel
            by_cases hj5 : (j : Int) < 5
            · have hjL : j < Ls.length := by have := HL5.out; omega
              have hc := HQ.out _ (tW.trans' tX) j (by omega)
              obtain ⟨Sp, hSp⟩ : ∃ Sp, Sp = askd S j := ⟨_, rfl⟩
              have hSs : Sp.size ≤ 281474976710656 := by rw [hSp]; exact askd_size hS j
              rw [← hSp] at hc
              obtain ⟨D, F, hDF⟩ : ∃ D F, dv Sp = (D, F) := ⟨_, _, rfl⟩
              have hD8 : D.length ≤ 8 := by have := dv_len Sp; rw [hDF] at this; exact this
              have Hrd : Hid (∀ W, Calls Tryd.prog 24 #[.string Sp] W fun x w' => (∃ ro c, x = .returned (.tuple #[.slice ro D.length c, .int .i64 F]) ∧ RowOf w' ro D) ∧ Tch (fun _ => False) W w') := fun W => by have := rdec_u Sp W hSs; rw [hDF] at this; exact this
              obtain ⟨uo, cu, hU1, HU2⟩ : ∃ uo cu, Ls[j] = .slice uo D.length cu ∧ ∀ W, Tch (fun _ => False) wV W → RowOf W uo D := by
                obtain ⟨uo, cu, h1, h2, _⟩ := (HW.out.rows j hjL).1
                rw [← hSp, hDF] at h1 h2
                exact ⟨uo, cu, h1, fun W t => h2.no t⟩
              have HU : Hid _ := HU2
              have HC : Hid (∀ W, Tch (fun _ => False) wV W → W.cell? ⟨gl, j, none⟩ = some (.slice uo D.length cu)) := fun W t => by rw [HLc.out W t j hjL, hU1]
              clear hSp hDF hSs HU2 hU1
              go_wp2_with fail
              refine (Hrd.out _).mono ?_
              rintro x wA ⟨⟨ra, ca, rfl, RA⟩, tA⟩
              have tXA := tX.trans' tA
              have hcA := HC.out _ tXA
              clear hc
              go_wp2_with fail
              refine (lsame_any D D uo ra cu ca wA (HU.out _ tXA) RA (by omega)).mono ?_
              rintro x wC ⟨bb, rfl, hbb, m, rfl⟩
              obtain rfl : bb = true := hbb.2 rfl
              have tC := tXA.drewN m
              clear hbb RA hcA tXA tA tX
              go_wp2_with fail
              go_roundw
              case rel => exact ⟨j + 1, by go_num, by omega, tC⟩
              case measure => simp [intOf]; omega
            · have HW5 := HW.out.tch tX
              have hown := owned_any gl vc N9 (fun i => Ls.getD i (.slice none 0 0)) (fun i => (dv (askd S i)).1.length) _ (fun i hi => by
                  have hiL : i < Ls.length := by have := HL5.out; omega
                  rw [HLc.out _ tX i hiL]; simp [hiL])
                (fun i hi => by
                  have hiL : i < Ls.length := by have := HL5.out; omega
                  obtain ⟨uo, cu, h1, h2, h3⟩ := (HW5.rows i hiL).1
                  simpa [hiL] using h3)
                (fun i => dv_len _)
                (fun i k g hi hk hik e => by
                  have hiL : i < Ls.length := by have := HL5.out; omega
                  have hkL : k < Ls.length := by have := HL5.out; omega
                  have e' : Ls[i].ownBlock = some g := by simpa [hiL] using e
                  have := HW5.dist i k hiL hkL g hik e'
                  simpa [hkL] using this)
                (fun i hi e => by
                  have hiL : i < Ls.length := by have := HL5.out; omega
                  have e' : Ls[i].ownBlock = some gl := by simpa [hiL] using e
                  exact (HW5.rows i hiL).2 gl e' rfl)
                (by have := tW.size; have := tX.size; have := HN9.out; omega)
              rw [← HL5.out] at hown
              have hOB : ∀ i, OBs (fun i => Ls.getD i (.slice none 0 0)) i → N9 ≤ i := fun i ⟨k, hk, e⟩ => by
                have hkL : k < Ls.length := by have := HL5.out; omega
                have e' : Ls[k].ownBlock = some i := by simpa [hkL] using e
                obtain ⟨uo, cu, h1, h2, h3⟩ := (HW5.rows k hkL).1
                exact (h3.lt e').1
              have HOB : Hid _ := hOB
              clear hOB HW5 HW HLc
              go_wp2_with fail
              refine hown.mono ?_
              rintro x wZ ⟨rfl, tZ⟩
              clear hown
              go_wp2_with fail
              go_ret
              exact ⟨rfl, (TQ.trans' (no_mono (tW.trans' tX))).trans tZ (fun i hi h => by have h1 := HOB.out i h; have h2 := HN9.out; have h3 := TQ.size; have h4 := HN.out; show N ≤ i; omega) |>.mono (fun i hi h => by have := HN.out; omega)⟩
    · obtain ⟨k, rfl⟩ : ∃ k', k = k' + 1 := ⟨k - 1, by omega⟩
      have e1 : (((k + 1 : Nat) : Int) - 1) = k := by omega
      rw [e1]
      have hkl : k < l.length := by omega
      have hkl' : (k : Int) < l.length := by omega
      have Twr : Tch (fun i => N ≤ i) w wr := T5.trans' (HT.out.mono (fun i _ h => by omega))
      obtain ⟨gr, og, hro, hra⟩ := Hr.out _ Twr (by intro e; rw [e] at hkl; simp at hkl)
      obtain ⟨v, hv⟩ : ∃ v, v = l[k] := ⟨_, rfl⟩
      obtain ⟨c0, c1, c2⟩ := rowAt_get hra k hkl hv
      have HV : Hid (us ++ [v] = (l.drop k).reverse) := by show _ = _; rw [HU.out, drop_rev l k hkl, hv]
      have HO : Hid (∀ W, Tch (fun _ => False) wr W → W.ownsRow M5 23 3 (.slice uo us.length cu) us.length (rcl us)) := fun W t => own_tch hown t (fun _ _ h => h)
      have HGr : Hid (∀ b, (Value.slice uo us.length cu).ownBlock = some b → M5 ≤ b) := fun b hb => row_ge hown hb
      clear hra hv hown e1
      subst hro
      have hul2 : us.length + 1 ≤ l.length := by rw [HU.out, List.length_reverse, List.length_drop]; omega
      go_wp2_with (at_builtin; refine wpList_append_own _ rfl _ _ 36 rfl M5 23 i0 (.agg #[.int .i64 0, .int .i64 0, .string ⟨#[]⟩]) 3 32 Tryd.underlying36 hii hz0 hz1 hz2 rfl (by decide) (.slice uo us.length cu) _ _ rfl (HO.out _ (Tch.alloc _ _ _)) ⟨wr.heap.size, 0, none⟩ 1 1 (rcl [v]) rfl rfl (rcl_cells (by simp) (by simp) (by simp)) (rcl_one _) (by unfold maxLen; omega) (by omega) (by simp; omega) ?_; intro v' w9 hown' hgr hnil; obtain ⟨ao', cp', hv'⟩ := row_slice hown'; subst hv'; clear hnil)
      have tG := grown_tch (N := M5) hgr HGr.out
      have hs9 : M5 ≤ w9.heap.size := by have := tG.size; rw [World.size_alloc] at this; omega
      refine ⟨⟨k, us ++ [v], by go_num, by omega, by rw [List.length_append]; exact hul2, HV, ?_, hs9, (HT.out.trans' (Tch.alloc _ _ _)).trans' tG⟩, by simp [intOf]⟩
      rw [rcl_snoc, List.length_append]; exact hown'
end Go.Proofs.YtnjbkkccofjmgaaDoor
