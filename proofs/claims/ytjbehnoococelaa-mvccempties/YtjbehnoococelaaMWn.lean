import Derived.Test.YtjbehnoococelaaMVs
import Derived.LoopN
/- Top, Written. -/
namespace Go.Proofs.Ytjbehnoococelaa
open Go.RowKit Go Go.Sort Go.Maps

def topN (m : Mg) (k : Int) : Nat := match fnd m.tx k with
  | some (t, _) => t.x
  | none => 0
def topE (m : Mg) (k : Int) : Nat := match fnd m.tx k with
  | some _ => 0
  | none => 70
theorem top_f (mb : Nat) (m : Mg) (w : World) (F : Nat → Prop) (h : MF w mb m F) (k : Int) (h1 : -9223372036854775808 ≤ k) (h2 : k ≤ 9223372036854775807) : Calls Try.prog 31 #[.pointer (some ⟨mb, 0, none⟩), .int .i64 k] w fun x w' => x = .returned (.tuple #[.int .i64 (topN m k), .int .i64 (topE m k)]) ∧ Tch (fun _ => False) w w' := by
  obtain ⟨τ, b1, b2, hg, _⟩ := h
  unfold topN topE
  cases hf : fnd m.tx k with
  | none => exact top_none mb m τ b1 b2 w hg k h1 h2 hf
  | some a =>
    obtain ⟨t, i⟩ := a
    exact top_some mb m τ b1 b2 w hg k h1 h2 hf
/-- Has somebody else written it who is not over? -/
def wrt (m : Mg) (xid : Int) (v : Ver) : Bool := decide (topN m v.wr ≠ topN m xid) && decide (m.state v.wr = 1 ∨ m.state v.wr = 2)
def wrtL (m : Mg) (L : HL) (k xid : Int) : Bool := L.any (fun p => decide (p.1.1 = k) && p.2.any (wrt m xid))
theorem wrtL_labs (m : Mg) (E : List En) (C : Nat → Ch) (k xid : Int) : wrtL m (labs E C) k xid = E.any (fun e => decide (e.k = k) && (C e.b).2.2.any (fun z => wrt m xid z.1)) := by
  unfold wrtL labs
  rw [List.any_map]
  refine congrArg (fun p => E.any p) (funext fun e => ?_)
  simp only [Function.comp, List.any_map]
  rfl
set_option maxHeartbeats 4000000 in
set_option maxRecDepth 100000 in
theorem written_w (w : World) (hb mb tb : Nat) (T : List (Int × Nat)) (E : List En) (C : Nat → Ch) (σ : Nat → Option Nat) (q : Nat) (h : HW w hb mb tb T E C σ q) (hq : q ≤ 1000000) (m : Mg) (F : Nat → Prop) (hM : MF w mb m F) (k : Int) (h1 : -9223372036854775808 ≤ k) (h2 : k ≤ 9223372036854775807) (xid : Int) (h3 : -9223372036854775808 ≤ xid) (h4 : xid ≤ 9223372036854775807) :
    Calls Try.prog 9 #[.pointer (some ⟨hb, 0, none⟩), .int .i64 k, .int .i64 xid] w fun x w' => x = .returned (.bool (wrtL m (labs E C) k xid)) ∧ Tch (fun _ => False) w w' := by
  rw [wrtL_labs]
  have c0 := h.c0
  have qT := top_f mb m w F hM xid h3 h4
  obtain ⟨tx, htx⟩ : ∃ tx, tx = topN m xid := ⟨_, rfl⟩
  obtain ⟨te, hte⟩ : ∃ te, te = topE m xid := ⟨_, rfl⟩
  rw [← htx, ← hte] at qT
  have Htx : Hid (tx = topN m xid) := htx
  obtain ⟨RR, hRR⟩ : ∃ RR, RR = E.any (fun e => decide (e.k = k) && (C e.b).2.2.any (fun z => wrt m xid z.1)) := ⟨_, rfl⟩
  rw [← hRR]
  have HRR : Hid _ := hRR
  have HH : Hid (HW w hb mb tb T E C σ q) := h
  have HM : Hid (MF w mb m F) := hM
  have Hq : Hid (q ≤ 1000000) := hq
  have HK : Hid (∀ W, Tch (fun _ => False) w W → (Instr.lookup 75 (.map (some tb)) (.int .i64 k) false).run Try.prog W = .ok (mapV (lkT T k)) W) := fun W t => (h.no t).look h1 h2
  clear h hM hq h1 h2 h3 h4 htx hte hRR
  go_enter Try.func9, Try.ntmps9
  go_wp2_with fail
  refine qT.mono ?_
  rintro x w1 ⟨rfl, t1⟩
  clear qT c0
  have c1 := (HH.out.no t1).c1
  have gl := HK.out w1 t1
  cases hl : lkT T k with
  | none =>
    have hR0 : Hid (RR = false) := by
      show _ = _
      rw [HRR.out, List.any_eq_false]
      intro e he
      have := lkE_none (HH.out.noT hl e.s) e he
      simp only [Bool.and_eq_true, decide_eq_true_eq, not_and]
      intro hek
      exact absurd ⟨hek, rfl⟩ this
    rw [hl] at gl
    simp only [mapV] at gl
    have HT1 : Hid _ := t1
    have hrg := run_range_nilMap (P := Try.prog) w1 79 9 80 Try.underlying79
    have hnx : ∀ ty, (Instr.next (.pointer (some ⟨w1.heap.size, 0, none⟩)) false ty).run Try.prog (w1.alloc (.mapIter none 0 #[] 0)) = _ := fun ty => run_next_nilMap w1 ty 0 0 #[]
    clear hl t1
    go_wp2
    refine wp_loop_rounds 1 ?_
    rw [rounds_succ]
    go_wp2
    go_ret
    exact ⟨by rw [hR0.out]; rfl, HT1.out.trans' (Tch.alloc _ _ _)⟩
  | some l =>
    rw [hl] at gl
    simp only [mapV] at gl
    have hkl := lkT_mem hl
    have HT1 : Hid (Tch (fun _ => False) w w1) := t1
    obtain ⟨_, D2, hD2, hk2⟩ := (HH.out.no t1).inn _ hkl
    simp only at hD2 hk2
    have Hk2 : Hid _ := hk2
    clear hl hkl t1 hk2
    go_wp2_with (first
      | (at_range; refine wpList_range_own _ rfl _ 79 rfl 9 80 law_str Try.underlying79 ptrElem l q _ rfl hD2 ?_; intro w2 hrg2 hg2 hs2)
      | go_in)
    go_frame
    go_loopw [10] (fun _ wr => ∃ (left : Lit → Bool) (ct : Nat), wr.ranges Try.prog 9 ptrElem l w1.heap.size q D2 left ct ∧ Tch (fun _ => False) w1 wr ∧ (∀ e ∈ E, e.k = k → Maps.has D2 (.string e.s) = true) ∧ ∀ e ∈ E, e.k = k → left (.string e.s) = false → (C e.b).2.2.any (fun z => wrt m xid z.1) = false)
      (fun _ wr => wr.rangeLeft l w1.heap.size)
    case atStart =>
      have hhas : ∀ e ∈ E, e.k = k → Maps.has D2 (.string e.s) = true := fun e he hek => by
        have hat2 : ∀ zd, D2.atKey (.string e.s) zd = encB e.b := fun zd => by rw [Hk2.out, ← hek, lkE_of_mem HH.out.ek he]; rfl
        exact Maps.has_true_of_atKey hat2
      exact ⟨_, _, hrg2, tch_range hg2, hhas, fun e he hek hf => by rw [hhas e he hek] at hf; cases hf⟩
    case round =>
      obtain ⟨left, ct, hrg, hT, hhas, hdone⟩ := hrel
      go_wp2_with (first
        | (at_next; refine wpList_next_ranges _ rfl _ rfl 9 law_str ptrElem id id (fun key _ _ => ⟨key, rfl⟩) (fun v _ _ => ⟨v, rfl⟩) l w1.heap.size q _ _ _ rfl hrg ?_ ?_)
        | go_in)
      · intro _ hl0
        have hR0 : Hid (RR = false) := by
          show _ = _
          rw [HRR.out, List.any_eq_false]
          intro e he
          simp only [Bool.and_eq_true, decide_eq_true_eq, not_and, Bool.not_eq_true]
          exact fun hek => hdone e he hek (hl0 _)
        have HT : Hid (Tch (fun _ => False) w _) := HT1.out.trans' hT
        clear hrg hT hl0 hdone hhas
        go_wp2
        go_ret
        exact ⟨by rw [hR0.out]; rfl, HT.out⟩
      · intro x c kl yd yp w3 ct3 hkey hlx hv hat hrg3 hlt hg3 hs3 hen3
        obtain ⟨e, rfl, heE, hek, hc⟩ := entE (y := (yd, yp)) Hk2.out hkey hv hat
        have hc' : c = .pointer (some ⟨e.b, 0, none⟩) := hc
        subst hc'
        clear hc
        have t3 := tch_next hT (Nat.le_refl _) hg3
        have t03 := HT1.out.trans' t3
        have hw3 := HH.out.no t03
        have hcb := hw3.chs _ heE
        obtain ⟨co, cc, zs, hCe⟩ : ∃ co cc zs, C e.b = (co, cc, zs) := ⟨_, _, _, rfl⟩
        simp only [hCe] at hcb
        obtain ⟨n, hn⟩ : ∃ n, n = zs.length := ⟨_, rfl⟩
        have ec : w3.cell? ⟨e.b, 0, none⟩ = some (.slice co n cc) := by rw [blk_cell hcb.1.blk, hn]; rfl
        have hnq : n ≤ 1000000 := by have := hcb.2; have := Hq.out; omega
        have HV : Hid (VRd w3.heap.size w3 co zs) := vrd_of hcb.1.row
        have Hok : Hid (∀ z ∈ zs, -9223372036854775808 ≤ z.1.wr ∧ z.1.wr ≤ 9223372036854775807) := fun z hz => ⟨(hcb.1.ok z hz).lo, (hcb.1.ok z hz).hi⟩
        have HM3 : Hid (MF w3 mb m F) := HM.out.no t03
        have Hc0 : Hid (w3.cell? ⟨hb, 0, none⟩ = some (.pointer (some ⟨mb, 0, none⟩))) := hw3.c0
        have Hn : Hid (n = zs.length) := hn
        have Hrg3 : Hid (w3.ranges Try.prog 9 ptrElem l w1.heap.size q D2 (fun z => left z && !z.sameKey (.string e.s)) ct3) := hrg3
        obtain ⟨wV, hwV⟩ : ∃ wV, wV = wr := ⟨_, rfl⟩
        subst hwV
        have Hrg : Hid (wV.ranges Try.prog 9 ptrElem l w1.heap.size q D2 left ct) := hrg
        have Hlt : Hid (ct3 < ct) := hlt
        have Hdn : Hid (∀ e ∈ E, e.k = k → left (.string e.s) = false → (C e.b).2.2.any (fun z => wrt m xid z.1) = false) := hdone
        have Hhas : Hid (∀ e ∈ E, e.k = k → Maps.has D2 (.string e.s) = true) := hhas
        have HT3 : Hid (Tch (fun _ => False) w1 w3) := t3
        have HeE : Hid (e ∈ E ∧ e.k = k ∧ C e.b = (co, cc, zs)) := ⟨heE, hek, hCe⟩
        clear hkey hlx hv hat hrg3 hlt hg3 hs3 hT hrg hdone hhas t3 t03 hw3 hcb hCe hn heE hek
        go_wp2_with fail
        go_loopw [39] (fun i wr => ∃ j : Nat, i = .int .i64 j ∧ j ≤ n ∧ Tch (fun _ => False) w3 wr ∧ ∀ (a : Nat) (z : VV), a < j → zs[a]? = some z → wrt m xid z.1 = false)
          (fun i _ => n - (intOf i).toNat)
        case atStart => exact ⟨0, rfl, Nat.zero_le _, Tch.refl _ _, fun a z ha => absurd ha (Nat.not_lt_zero _)⟩
        case round =>
          obtain ⟨j, rfl, hj, hTj, hno⟩ := hrel
          by_cases hjn : (j : Int) < n
          · have hjl : j < zs.length := by have := Hn.out; omega
            obtain ⟨z, hz⟩ : ∃ z, zs[j]? = some z := ⟨_, List.getElem?_eq_getElem hjl⟩
            rcases HV.out with ⟨e0, _⟩ | ⟨g, rfl, hg, hcs⟩
            · rw [e0] at hjl; exact absurd hjl (Nat.not_lt_zero _)
            obtain ⟨d0, d1, d2⟩ := hcs j z hz
            have d0' : wr.cell? ⟨g, j * 3, none⟩ = some (.int .i64 z.1.wr) := (hTj.cell (p := ⟨g, j * 3, none⟩) hg (fun h => h)).trans d0
            have d1' : wr.cell? ⟨g, j * 3 + 1, none⟩ = some (.bool z.1.th) := (hTj.cell (p := ⟨g, j * 3 + 1, none⟩) hg (fun h => h)).trans d1
            have d2' : wr.cell? ⟨g, j * 3 + 2, none⟩ = some (.slice z.2.1 z.1.n z.2.2) := (hTj.cell (p := ⟨g, j * 3 + 2, none⟩) hg (fun h => h)).trans d2
            obtain ⟨hlo, hhi⟩ := Hok.out z (List.mem_of_getElem? hz)
            obtain ⟨w5, hw5⟩ : ∃ w5, w5 = wr.alloc (.cells #[.int .i64 z.1.wr, .bool z.1.th, .slice z.2.1 z.1.n z.2.2] 84) := ⟨_, rfl⟩
            have t5 : Tch (fun _ => False) wr w5 := by rw [hw5]; exact Tch.alloc _ _ _
            have b5 : w5.heap[wr.heap.size]? = some (.cells #[.int .i64 z.1.wr, .bool z.1.th, .slice z.2.1 z.1.n z.2.2] 84 (0, 0)) := by rw [hw5]; exact alloc_new _ _
            have T5 := hTj.trans' t5
            have k0 := cell_regrown (show w5.cell? ⟨hb, 0, none⟩ = some (.pointer (some ⟨mb, 0, none⟩)) by rw [T5.cell (p := ⟨hb, 0, none⟩) (cell_lt Hc0.out) (fun h => h)]; exact Hc0.out)
            have k1 := cell_regrown (show w5.cell? ⟨wr.heap.size, 0, none⟩ = some (.int .i64 z.1.wr) by rw [blk_cell b5]; rfl)
            have cT : ∀ d os, Calls Try.prog 31 #[.pointer (some ⟨mb, 0, none⟩), .int .i64 z.1.wr] (grow (redrawn w5 d) os) fun e w'' => e = .returned (.tuple #[.int .i64 (topN m z.1.wr), .int .i64 (topE m z.1.wr)]) ∧ ∃ p : Regrown, w'' = grow (redrawn w5 p.d) p.os := fun d os => Calls.tch_regrown_of (top_f mb m _ F (HM3.out.no (T5.trans' (tch_regrown w5 ⟨d, os⟩))) z.1.wr hlo hhi)
            obtain ⟨tn, htn⟩ : ∃ tn, tn = topN m z.1.wr := ⟨_, rfl⟩
            obtain ⟨en, hen⟩ : ∃ en, en = topE m z.1.wr := ⟨_, rfl⟩
            rw [← htn, ← hen] at cT
            have Hw5 : Hid _ := hw5
            have HT5 : Hid (Tch (fun _ => False) w3 w5) := T5
            have HB5 : Hid _ := b5
            have Hlh : Hid (-9223372036854775808 ≤ z.1.wr ∧ z.1.wr ≤ 9223372036854775807 ∧ tn = topN m z.1.wr) := ⟨hlo, hhi, htn⟩
            have Hno : Hid (∀ (a : Nat) (z : VV), a < j → zs[a]? = some z → wrt m xid z.1 = false) := hno
            have Hzz : Hid (zs[j]? = some z) := hz
            clear hz hcs d0 d1 d2 hlo hhi hw5 t5 b5 T5 htn hen hno hTj hg hjl
            go_wp2_with fail
            have hw5 := Hw5.out
            rw [← hw5]
            clear hw5 Hw5 d0' d1' d2'
            refine wp_region_quiet_below (by kernel_rfl) (by kernel_rfl) ?_
            repeat (go_big_quiet_step ((go_at_call 31; exact cT _ _)))
            refine wpQuiet_nil ?_
            rintro w6 ⟨pp, hw6⟩
            have t6 : Tch (fun _ => False) w5 w6 := by rw [hw6]; exact tch_regrown w5 pp
            clear hw6 k0 k1 cT
            have T6 := HT5.out.trans' t6
            by_cases htt : (tn : Int) = tx
            · have hwf : wrt m xid z.1 = false := by
                unfold wrt
                have : topN m z.1.wr = topN m xid := by have := Hlh.out.2.2; have := Htx.out; omega
                simp [this]
              have httb : ((tn : Int) != tx) = false := by simp [htt]
              have HT6 : Hid _ := T6
              have Hwf : Hid _ := hwf
              clear t6 T6 hwf
              go_wp2_with fail
              go_roundw
              case rel => exact ⟨j + 1, by go_num, by omega, HT6.out, fun a z' ha hz' => by
                rcases Nat.lt_or_ge a j with h | h
                · exact Hno.out a z' h hz'
                · obtain rfl : a = j := by omega
                  rw [Hzz.out] at hz'; cases hz'; exact Hwf.out⟩
              case measure => simp [intOf]; omega
            · have httb : ((tn : Int) != tx) = true := by simpa using htt
              have b6 : w6.heap[wr.heap.size]? = some (.cells #[.int .i64 z.1.wr, .bool z.1.th, .slice z.2.1 z.1.n z.2.2] 84 (0, 0)) := by rw [t6.block _ (blk_lt HB5.out) (fun h => h)]; exact HB5.out
              have e0 : w6.cell? ⟨wr.heap.size, 0, none⟩ = some (.int .i64 z.1.wr) := by rw [blk_cell b6]; rfl
              have e1 : w6.cell? ⟨wr.heap.size, 1, none⟩ = some (.bool z.1.th) := by rw [blk_cell b6]; rfl
              have e2 : w6.cell? ⟨wr.heap.size, 2, none⟩ = some (.slice z.2.1 z.1.n z.2.2) := by rw [blk_cell b6]; rfl
              have qO := ongoing_any hb mb m w6 F (HM3.out.no T6) (by rw [T6.cell (p := ⟨hb, 0, none⟩) (cell_lt Hc0.out) (fun h => h)]; exact Hc0.out) z.1.wr Hlh.out.1 Hlh.out.2.1 z.1.th z.2.1 z.1.n z.2.2
              have HT6 : Hid _ := T6
              have hwv : wrt m xid z.1 = decide (m.state z.1.wr = 1 ∨ m.state z.1.wr = 2) := by
                unfold wrt
                have : ¬ topN m z.1.wr = topN m xid := by have := Hlh.out.2.2; have := Htx.out; omega
                simp [this]
              have Hwv : Hid _ := hwv
              cases ho : decide (m.state z.1.wr = 1 ∨ m.state z.1.wr = 2)
              · rw [ho] at qO
                have hwf : wrt m xid z.1 = false := by rw [hwv, ho]
                have Hwf : Hid _ := hwf
                clear t6 T6 b6 ho hwv hwf
                go_wp2_with fail
                refine qO.mono ?_
                rintro x w7 ⟨rfl, t7⟩
                have HT7 : Hid _ := HT6.out.trans' t7
                clear qO t7 e0 e1 e2
                go_wp2_with fail
                go_roundw
                case rel => exact ⟨j + 1, by go_num, by omega, HT7.out, fun a z' ha hz' => by
                  rcases Nat.lt_or_ge a j with h | h
                  · exact Hno.out a z' h hz'
                  · obtain rfl : a = j := by omega
                    rw [Hzz.out] at hz'; cases hz'; exact Hwf.out⟩
                case measure => simp [intOf]; omega
              · rw [ho] at qO
                have hwt : wrt m xid z.1 = true := by rw [hwv, ho]
                have hR1 : Hid (RR = true) := by
                  show _ = _
                  obtain ⟨heE, hek, hCe⟩ := HeE.out
                  rw [HRR.out, List.any_eq_true]
                  refine ⟨e, heE, ?_⟩
                  rw [hCe]
                  simp only [hek, decide_true, Bool.true_and, List.any_eq_true]
                  exact ⟨z, List.mem_of_getElem? Hzz.out, hwt⟩
                clear t6 T6 b6 ho hwv hwt
                go_wp2_with fail
                refine qO.mono ?_
                rintro x w7 ⟨rfl, t7⟩
                have HT7 : Hid _ := HT1.out.trans' (HT3.out.trans' (HT6.out.trans' t7))
                clear qO t7 e0 e1 e2
                go_wp2
                go_ret
                exact ⟨by rw [hR1.out]; rfl, HT7.out⟩
          · have hje : j = n := by omega
            have hall : (C e.b).2.2.any (fun z => wrt m xid z.1) = false := by
              rw [HeE.out.2.2, List.any_eq_false]
              intro z hz
              obtain ⟨a, ha⟩ := List.mem_iff_getElem?.1 hz
              have hal : a < zs.length := (List.getElem?_eq_some_iff.1 ha).1
              rw [hno a z (by have := Hn.out; omega) ha]; exact fun h => by cases h
            have Hall : Hid _ := hall
            have HTj : Hid (Tch (fun _ => False) w3 wr) := hTj
            clear hall hTj hno
            go_wp2_with fail
            have hrgO := ranges_no Hrg3.out HTj.out
            go_roundw
            case rel => exact ⟨_, ct3, hrgO, HT3.out.trans' HTj.out, Hhas.out, fun e' he' hek' hf => by
              rw [same_str] at hf
              by_cases hs : e'.s = e.s
              · have h5 := lkE_of_mem HH.out.ek he'
                rw [hek', hs, ← HeE.out.2.1, lkE_of_mem HH.out.ek HeE.out.1] at h5
                injection h5 with h5
                rw [← h5]; exact Hall.out
              · exact Hdn.out e' he' hek' (by simpa [hs] using hf)⟩
            case measure => rw [hrgO.left_eq, Hrg.out.left_eq]; exact Hlt.out
end Go.Proofs.Ytjbehnoococelaa
