import Derived.Test.YtjbehnoococelaaMVer
import Derived.Laws.IdiomRangeMap
/- Versions. -/
namespace Go.Proofs.Ytjbehnoococelaa
open Go.RowKit Go Go.Sort Go.Maps

theorem same_int (a b : Int) : (Lit.int .i64 a).sameKey (.int .i64 b) = decide (a = b) := by
  by_cases h : a = b
  · subst h; simp [Lit.sameKey]
  · rw [sameKey_ne (by intro e; injection e with _ e; exact h e)]; simp [h]
theorem same_str (a b : List UInt8) : (Lit.string a).sameKey (.string b) = decide (a = b) := by
  by_cases h : a = b
  · subst h; simp [Lit.sameKey]
  · rw [sameKey_ne (by intro e; injection e with e; exact h e)]; simp [h]
theorem atB_fix {o : Option Nat} {y : DataW Unit} (h : ∀ zd, atB o zd = y) : ∃ b, o = some b := by
  cases o with
  | some b => exact ⟨b, rfl⟩
  | none =>
    have h1 := h (.lit (.int .i64 0))
    have h2 := h (.lit (.int .i64 1))
    rw [← h1] at h2
    simp [atB] at h2
section
variable {T : List (Int × Nat)} {E : List En}
theorem entT {D : DataW Unit} (hk : ∀ k zd, D.atKey (.int .i64 k) zd = atB (lkT T k) zd) {key v : Value} {kl : Lit} {y : DataW Unit × List MemPlace} (hkey : keyOf Try.prog 3 key = some kl) (hv : mapElem v = some y) (hat : ∀ zd, D.atKey kl zd = y.1) : ∃ k l, kl = .int .i64 k ∧ (k, l) ∈ T ∧ v = .map (some l) := by
  obtain ⟨k, _, rfl, _⟩ := Maps.keyOf_int_inv Try.underlying3 hkey
  have h0 : ∀ zd, atB (lkT T k) zd = y.1 := fun zd => (hk k zd).symm.trans (hat zd)
  obtain ⟨l, hl⟩ := atB_fix h0
  refine ⟨k, l, rfl, lkT_mem hl, ?_⟩
  rw [mapElem_inv hv (o := some l) (by rw [← h0 (.lit (.int .i64 (-1))), hl])]
  rfl
theorem entE {D : DataW Unit} {k : Int} (hk : ∀ s zd, D.atKey (.string s) zd = atB (lkE E k s) zd) {key v : Value} {kl : Lit} {y : DataW Unit × List MemPlace} (hkey : keyOf Try.prog 9 key = some kl) (hv : ptrElem v = some y) (hat : ∀ zd, D.atKey kl zd = y.1) : ∃ e, kl = .string e.s ∧ e ∈ E ∧ e.k = k ∧ v = .pointer (some ⟨e.b, 0, none⟩) := by
  obtain ⟨S, _, rfl, _⟩ := WideMaps.string_of_keyOf Try.underlying9 hkey
  have h0 : ∀ zd, atB (lkE E k S.data.toList) zd = y.1 := fun zd => (hk _ zd).symm.trans (hat zd)
  obtain ⟨b, hb⟩ := atB_fix h0
  refine ⟨⟨k, S.data.toList, b⟩, rfl, lkE_mem hb, rfl, ?_⟩
  rw [ptrElem_inv hv (o := some b) (by rw [← h0 (.lit (.int .i64 (-1))), hb])]
  rfl
end
theorem ranges_no {w w' : World} {k : TypeId} {R : Value → Option (DataW Unit × List MemPlace)} {b r n cnt : Nat} {D : DataW Unit} {left : Lit → Bool} (h : w.ranges Try.prog k R b r n D left cnt) (t : Tch (fun _ => False) w w') : w'.ranges Try.prog k R b r n D left cnt := h.kept (row := none) ⟨t.os, t.tape, t.output, t.size, fun i hi _ => t.block i hi (fun h => h)⟩ (by simp) (by simp)
theorem tch_next {w w1 w2 : World} {r : Nat} (h : Tch (fun _ => False) w w1) (hr : w.heap.size ≤ r) (hg : w1.grownBy w2 (some r)) : Tch (fun _ => False) w w2 := tch_new h hr (Tch.of_grown hg (fun g e => by cases e; rfl))
theorem tch_range {w w1 : World} (hg : w.grownBy w1 none) : Tch (fun _ => False) w w1 := Tch.of_grown hg (fun g e => by cases e)

set_option maxHeartbeats 4000000 in
set_option maxRecDepth 100000 in
theorem versions_w (w : World) (hb mb tb : Nat) (T : List (Int × Nat)) (E : List En) (C : Nat → Ch) (σ : Nat → Option Nat) (q : Nat) (h : HW w hb mb tb T E C σ q) (hN : cnt E C (fun _ => true) ≤ 1000000) :
    Calls Try.prog 15 #[.pointer (some ⟨hb, 0, none⟩)] w fun x w' => x = .returned (.int .i64 (cnt E C (fun _ => true))) ∧ Tch (fun _ => False) w w' := by
  have c1 := h.c1
  obtain ⟨D, hD, hk⟩ := h.mp
  have HH : Hid _ := h
  have Hk : Hid _ := hk
  have hstart : Hid (cnt E C (fun e => !(Maps.has D (.int .i64 e.k))) = 0) := by
    show _ = _
    rw [← cnt_none E C]
    refine cnt_congr fun e he => ?_
    obtain ⟨l, hl⟩ := h.et e he
    have hat : ∀ zd, D.atKey (.int .i64 e.k) zd = encB l := fun zd => by
      rw [hk]
      cases hT : lkT T e.k with
      | none => exact absurd rfl (lkT_none hT _ hl)
      | some l' =>
        have := pw_inj (fun p : Int × Nat => p.1) h.tk (lkT_mem hT) hl rfl
        injection this with _ this
        rw [this]; rfl
    rw [Maps.has_true_of_atKey hat]; rfl
  have HNN : Hid _ := hN
  clear h hk hN
  go_enter Try.func15, Try.ntmps15
  go_wp2_with (first
    | (at_range; refine wpList_range_own _ rfl _ 75 rfl 3 79 law_int Try.underlying75 mapElem tb q _ rfl hD ?_; intro w0 hrg0 hg0 hs0)
    | go_in)
  go_frame
  go_loopw [3] (fun v wr => ∃ (left : Lit → Bool) (ct : Nat), v = .int .i64 (cnt E C (fun e => !(left (.int .i64 e.k))) : Nat) ∧ wr.ranges Try.prog 3 mapElem tb w.heap.size q D left ct ∧ Tch (fun _ => False) w wr)
    (fun _ wr => wr.rangeLeft tb w.heap.size)
  case atStart => exact ⟨_, _, by rw [hstart.out]; rfl, hrg0, tch_range hg0⟩
  case round =>
    obtain ⟨left, ct, rfl, hrg, hT⟩ := hrel
    go_wp2_with (first
      | (at_next; refine wpList_next_ranges _ rfl _ rfl 3 law_int mapElem id id (fun key _ _ => ⟨key, rfl⟩) (fun v _ _ => ⟨v, rfl⟩) tb w.heap.size q _ _ _ rfl hrg ?_ ?_)
      | go_in)
    · intro _ hl0
      have he : Hid (cnt E C (fun e => !(left (.int .i64 e.k))) = cnt E C (fun _ => true)) := cnt_congr (fun e _ => by rw [hl0]; rfl)
      have HT : Hid _ := hT
      clear hrg hT hl0
      go_wp2
      go_ret
      exact ⟨by rw [← he.out]; rfl, HT.out⟩
    · intro x c kl yd yp w1 ct1 hkey hlx hv hat hrg1 hlt hg1 hs1 hen
      obtain ⟨k, l, rfl, hkl, hc⟩ := entT (y := (yd, yp)) Hk.out hkey hv hat
      have hc' : c = .map (some l) := hc
      subst hc'
      clear hc
      have t1 := tch_next hT (Nat.le_refl _) hg1
      obtain ⟨_, D2, hD2, hk2⟩ := (HH.out.no t1).inn _ hkl
      simp only at hD2 hk2
      obtain ⟨wV, hwV⟩ : ∃ wV, wV = wr := ⟨_, rfl⟩
      subst hwV
      have Hk2 : Hid _ := hk2
      have Hkl : Hid _ := hkl
      have HT1 : Hid _ := t1
      have Hlx : Hid (left (.int .i64 k) = true) := hlx
      have hfirst : Hid (cnt E C (fun e => if e.k = k then !(Maps.has D2 (.string e.s)) else !(left (.int .i64 e.k))) = cnt E C (fun e => !(left (.int .i64 e.k)))) := by
        refine cnt_congr fun e he => ?_
        by_cases hek : e.k = k
        · rw [if_pos hek, hek, Hlx.out]
          have hat2 : ∀ zd, D2.atKey (.string e.s) zd = encB e.b := fun zd => by rw [hk2, ← hek, lkE_of_mem HH.out.ek he]; rfl
          rw [Maps.has_true_of_atKey hat2]
        · rw [if_neg hek]
      have Hrg1 : Hid (w1.ranges Try.prog 3 mapElem tb w.heap.size q D (fun z => left z && !z.sameKey (.int .i64 k)) ct1) := hrg1
      have Hlt : Hid (ct1 < ct) := hlt
      have Hrg : Hid (wV.ranges Try.prog 3 mapElem tb w.heap.size q D left ct) := hrg
      have hls : l ≠ w.heap.size := fun e => by
        have := (HH.out.inn _ hkl)
        obtain ⟨_, D3, hD3, _⟩ := this
        have := hD3.lt
        simp only at this
        omega
      have Hls : Hid _ := hls
      clear hk2 hkl hlx hrg1 hlt hg1 hs1 hv hat hkey hT hrg t1 hls
      go_wp2_with (first
        | (at_range; refine wpList_range_own _ rfl _ 79 rfl 9 80 law_str Try.underlying79 ptrElem l q _ rfl hD2 ?_; intro w2 hrg2 hg2 hs2)
        | go_in)
      try go_frame
      go_loopw [3] (fun v wr => ∃ (left2 : Lit → Bool) (ct2 : Nat), v = .int .i64 (cnt E C (fun e => if e.k = k then !(left2 (.string e.s)) else !(left (.int .i64 e.k))) : Nat) ∧ wr.ranges Try.prog 9 ptrElem l w1.heap.size q D2 left2 ct2 ∧ Tch (fun _ => False) w1 wr)
        (fun _ wr => wr.rangeLeft l w1.heap.size)
      case atStart => exact ⟨_, _, by rw [hfirst.out], hrg2, tch_range hg2⟩
      case round =>
        obtain ⟨left2, ct2, rfl, hrgI, hTI⟩ := hrel
        go_wp2_with (first
          | (at_next; refine wpList_next_ranges _ rfl _ rfl 9 law_str ptrElem id id (fun key _ _ => ⟨key, rfl⟩) (fun v _ _ => ⟨v, rfl⟩) l w1.heap.size q _ _ _ rfl hrgI ?_ ?_)
          | go_in)
        · intro _ hl0
          have hcg : Hid (cnt E C (fun e => if e.k = k then !(left2 (.string e.s)) else !(left (.int .i64 e.k))) = cnt E C (fun e => !((left (.int .i64 e.k)) && !(Lit.sameKey (.int .i64 e.k) (.int .i64 k))))) := by
            refine cnt_congr fun e he => ?_
            rw [same_int]
            by_cases hek : e.k = k
            · rw [if_pos hek, hl0]; simp [hek]
            · rw [if_neg hek]; simp [hek]
          have HTI : Hid _ := hTI
          clear hrgI hTI hl0 hfirst
          go_wp2_with fail
          have hrgO := ranges_no Hrg1.out HTI.out
          go_roundw
          case rel => exact ⟨_, ct1, by rw [hcg.out], hrgO, HT1.out.trans' HTI.out⟩
          case measure => rw [hrgO.left_eq, Hrg.out.left_eq]; exact Hlt.out
        · intro x c kl yd yp w3 ct3 hkey hlx hv hat hrg3 hlt hg3 hs3 hen3
          obtain ⟨e, rfl, heE, hek, hc⟩ := entE (y := (yd, yp)) Hk2.out hkey hv hat
          have hc' : c = .pointer (some ⟨e.b, 0, none⟩) := hc
          subst hc'
          clear hc
          have t3 := tch_next hTI (Nat.le_refl _) hg3
          have hcb := ((HH.out.no HT1.out).no t3).chs _ heE
          have ec : w3.cell? ⟨e.b, 0, none⟩ = some (.slice (C e.b).1 (C e.b).2.2.length (C e.b).2.1) := by rw [blk_cell hcb.1.blk]; rfl
          obtain ⟨N1, hN1⟩ : ∃ N1, N1 = cnt E C (fun e => if e.k = k then !(left2 (.string e.s)) else !(left (.int .i64 e.k))) := ⟨_, rfl⟩
          have hstep : cnt E C (fun e' => if e'.k = k then !(left2 (.string e'.s) && !(Lit.sameKey (.string e'.s) (.string e.s))) else !(left (.int .i64 e'.k))) = N1 + (C e.b).2.2.length := by
            rw [hN1]
            refine cnt_step HH.out.eb heE ?_ ?_ (fun e' he' hne => ?_)
            · have h0 : left2 (.string e.s) = true := hlx
              simp [hek, h0]
            · rw [same_str]; simp [hek]
            · by_cases hek' : e'.k = k
              · rw [if_pos hek', if_pos hek', same_str]
                have : ¬ e'.s = e.s := fun es => hne (by
                  have := lkE_of_mem HH.out.ek he'
                  rw [hek', es, ← hek, lkE_of_mem HH.out.ek heE] at this
                  injection this with this
                  cases e'; cases e; simp_all)
                simp [this]
              · rw [if_neg hek', if_neg hek']
          have hbd : N1 + (C e.b).2.2.length ≤ 1000000 := by
            rw [← hstep]
            exact Nat.le_trans (cnt_le _ _ _) HNN.out
          obtain ⟨co, cc, n2, hco⟩ : ∃ co cc n2, (C e.b).1 = co ∧ (C e.b).2.1 = cc ∧ (C e.b).2.2.length = n2 := ⟨_, _, _, rfl, rfl, rfl⟩
          rw [hco.1, hco.2.1, hco.2.2] at ec
          rw [hco.2.2] at hstep hbd
          have hwp : wrap64 ((N1 : Int) + (n2 : Int)) = ((N1 + n2 : Nat) : Int) := by unfold wrap64; omega
          have Hst : Hid _ := hstep
          have Ht3 : Hid _ := t3
          have Hrg3 : Hid (w3.ranges Try.prog 9 ptrElem l w1.heap.size q D2 (fun z => left2 z && !z.sameKey (.string e.s)) ct3) := hrg3
          have Hlt3 : Hid _ := hlt
          have HrgI : Hid (wr.ranges Try.prog 9 ptrElem l w1.heap.size q D2 left2 ct2) := hrgI
          rw [← hN1]
          clear hN1 hstep hbd hcb t3 hrg3 hlt hlx hv hat hkey hg3 hs3 hTI hrgI hco heE hek hfirst
          go_wp2_with fail
          go_roundw
          case rel => exact ⟨_, ct3, by rw [Hst.out, ← hwp], Hrg3.out, Ht3.out⟩
          case measure => rw [Hrg3.out.left_eq, HrgI.out.left_eq]; exact Hlt3.out
end Go.Proofs.Ytjbehnoococelaa
