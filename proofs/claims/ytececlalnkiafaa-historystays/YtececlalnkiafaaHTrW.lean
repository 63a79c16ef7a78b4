import Derived.Test.YtececlalnkiafaaHTr0
import Derived.BigQuiet
/- HistoryTrims: the law. -/
namespace Go.Proofs.Ytececlalnkiafaa
open Go.RowKit Go
set_option maxRecDepth 100000

theorem new_nil {w : World} {F : Nat → Prop} (x : Int) (hx : 1 ≤ x) (hF : ∀ g, F g → g < w.heap.size) :
    Calls Try.prog 7 #[.slice none 0 0, .int .i64 x] w fun r w' => (∃ b, r = .returned (.tuple #[.pointer (some ⟨b, 0, none⟩), .int .i64 0]) ∧ HF w' F b (hs0 x)) ∧ Tch (fun _ => False) w w' := by
  have e0 : newE [] x = 0 := by unfold newE; rw [if_neg]; intro h; rcases h with h | h; omega; cases h
  refine (new_f [] none 0 F (fun _ => False) x w ⟨fun h => absurd rfl h, fun h => absurd rfl h, fun i hi => by simp at hi⟩ (by show 0 < _; omega) (fun p hp => by cases hp) hF).mono ?_
  rintro r w' ⟨ho, t⟩
  refine ⟨?_, t⟩
  rcases ho with ⟨e, _⟩ | ⟨_, b, l, rfl, hn, hH⟩
  · have e' : newE [] x = 1 := e
    rw [e0] at e'
    cases e'
  · have : l = [] := List.map_eq_nil_iff.1 hn.1
    subst this
    exact ⟨b, rfl, hH⟩
/-- The box of who is there. -/
def TB (w : World) (B : Nat) (tb : List Bool) : Prop := w.heap[B]? = some (.cells (tb.map Value.bool).toArray 48 (0, 0))
theorem TB.cell {w : World} {B p : Nat} {tb : List Bool} {d : Bool} (h : TB w B tb) (hp : tb[p]? = some d) : w.cell? ⟨B, p, none⟩ = some (.bool d) := by
  rw [blk_cell h, List.getElem?_toArray, List.getElem?_map, hp]
  rfl
theorem TB.set {w : World} {B p : Nat} {tb : List Bool} (h : TB w B tb) (d : Bool) : TB (w.setCell ⟨B, p, none⟩ (.bool d)) B (tb.set p d) := by
  unfold TB
  rw [blk_set h]
  simp [List.map_set]
/-- The law's state: the history, who is there. -/
structure TS (w wr : World) (F : Nat → Prop) (b B : Nat) (h : Hs) (tb : List Bool) : Prop where
  hf : HF wr F b h
  ti : TI h tb
  bx : TB wr B tb
  t : Tch (fun _ => False) w wr

theorem TS.turn {w wr w' : World} {F : Nat → Prop} {b B : Nat} {h h' : Hs} {tb tb' : List Bool} (J : TS w wr F b B h tb) (hF : F = fun g => g < w.heap.size ∨ g = B) (hBw : w.heap.size ≤ B) (t : Tch (fun g => ¬ F g) wr w') (H : HF w' F b h') (p : Nat) (d : Bool) (e : tb' = tb.set p d) (ti : TI h' tb') :
    TS w (w'.setCell ⟨B, p, none⟩ (.bool d)) F b B h' tb' := by
  have b1 : TB w' B tb := (t.block B (blk_lt J.bx) (fun e => e (by rw [hF]; exact .inr rfl))).trans J.bx
  have t1 : Tch (fun g => g = B) w' (w'.setCell ⟨B, p, none⟩ (.bool d)) := Tch.setCell (fun g => g = B) w' ⟨B, p, none⟩ _ rfl
  refine ⟨H.tch t1 (fun g _ e => by rw [hF]; exact .inr e), ti, by rw [e]; exact b1.set d, ?_⟩
  exact (J.t.trans t (fun g hg e => e (by rw [hF]; exact .inl hg))).trans t1 (fun g hg e => by have e' : g = B := e; omega)
theorem TS.box {w wr w' : World} {F : Nat → Prop} {b B : Nat} {h : Hs} {tb : List Bool} (J : TS w wr F b B h tb) (hF : F = fun g => g < w.heap.size ∨ g = B) (t : Tch (fun g => ¬ F g) wr w') : TB w' B tb :=
  (t.block B (blk_lt J.bx) (fun e => e (by rw [hF]; exact .inr rfl))).trans J.bx
theorem TS.no {w wr w' : World} {F : Nat → Prop} {b B : Nat} {h : Hs} {tb : List Bool} (J : TS w wr F b B h tb) (t : Tch (fun _ => False) wr w') : TS w w' F b B h tb :=
  ⟨J.hf.no t, J.ti, (t.block B (blk_lt J.bx) (fun e => e)).trans J.bx, J.t.trans' t⟩
theorem TS.fl {w wr : World} {F : Nat → Prop} {b B : Nat} {h : Hs} {tb : List Bool} (J : TS w wr F b B h tb) (hF : F = fun g => g < w.heap.size ∨ g = B) : ∀ g, F g → g < wr.heap.size := fun g hg => by
  rw [hF] at hg
  rcases hg with hg | hg
  · exact Nat.lt_of_lt_of_le hg J.t.size
  · rw [hg]; exact blk_lt J.bx
theorem sl_get {w wr : World} {a : Option Addr} {L : List Int} (h : SL w a (L.map encZ)) (t : Tch (fun _ => False) w wr) {k : Nat} {x : Int} (hk : L[k]? = some x) : ∃ g o, a = some ⟨g, o, none⟩ ∧ wr.cell? ⟨g, o + k, none⟩ = some (.int .i64 x) := by
  obtain ⟨g, o, e, ha⟩ := h (fun e => by rw [List.map_eq_nil_iff.1 e] at hk; simp at hk)
  have := ha k (.int .i64 x) (by rw [List.getElem?_map, hk]; rfl)
  exact ⟨g, o, e, (t.cell (p := ⟨g, o + k, none⟩) (cell_lt this) (fun e => e)).trans this⟩

theorem cntB_take {tb : List Bool} {q : Nat} {d : Bool} (h : tb[q]? = some d) : cntB (tb.take (q + 1)) = cntB (tb.take q) + (if d = true then 1 else 0) := by
  unfold cntB
  rw [List.take_add_one, h, List.filter_append, List.length_append]
  cases d <;> rfl
theorem cntB_le (tb : List Bool) (q : Nat) : cntB (tb.take q) ≤ q := by
  unfold cntB
  have h1 := List.length_filter_le id (tb.take q)
  have h2 := List.length_take_le q tb
  omega

set_option maxHeartbeats 8000000 in
set_option maxRecDepth 1000000 in
theorem trims_law (w : World) (a1 a2 : Option Addr) (c1 c2 : Nat) (L1 L2 : List Int) (h1 : SL w a1 (L1.map encZ)) (r1 : ∀ x ∈ L1, inR x) (h2 : SL w a2 (L2.map encZ)) (r2 : ∀ x ∈ L2, inR x) :
    Calls Try.prog 4 #[.slice a1 L1.length c1, .slice a2 L2.length c2] w fun r w' => r = .returned (.bool true) ∧ Tch (fun _ => False) w w' := by
  have q0 := awake_w w
  obtain ⟨M1, hM1⟩ : ∃ M1, M1 = L1.length := ⟨_, rfl⟩
  obtain ⟨M2, hM2⟩ : ∃ M2, M2 = L2.length := ⟨_, rfl⟩
  have HM : Hid (M1 = L1.length ∧ M2 = L2.length) := ⟨hM1, hM2⟩
  have HS1 : Hid (SL w a1 (L1.map encZ)) := h1
  have HS2 : Hid (SL w a2 (L2.map encZ)) := h2
  have HR : Hid ((∀ x ∈ L1, inR x) ∧ ∀ x ∈ L2, inR x) := ⟨r1, r2⟩
  rw [← hM1, ← hM2]
  clear h1 h2 r1 r2 hM1 hM2
  obtain ⟨F0, hF0⟩ : ∃ F0 : Nat → Prop, F0 = fun g => g < w.heap.size := ⟨_, rfl⟩
  have HF0 : Hid (F0 = fun g => g < w.heap.size) := hF0
  clear hF0
  go_enter Try.func4, Try.ntmps4
  go_wp2_with fail
  refine q0.mono ?_
  rintro e w1 ⟨rfl, t1⟩
  have HT1 : Hid (Tch (fun _ => False) w w1) := t1
  have q1 := new_nil (w := w1) (F := F0) 1 (by omega) (fun g hg => by rw [HF0.out] at hg; exact Nat.lt_of_lt_of_le hg HT1.out.size)
  clear q0 t1
  go_wp2_with fail
  refine q1.mono ?_
  rintro e w2 ⟨⟨b, rfl, H2⟩, t2⟩
  obtain ⟨B, hB⟩ : ∃ B, B = w2.heap.size := ⟨_, rfl⟩
  obtain ⟨w3, hw3⟩ : ∃ w3, w3 = w2.alloc (.cells #[.bool false, .bool false, .bool false, .bool false, .bool false] 48) := ⟨_, rfl⟩
  have t3 : Tch (fun _ => False) w2 w3 := by rw [hw3]; exact Tch.alloc _ _ _
  obtain ⟨F, hF⟩ : ∃ F : Nat → Prop, F = fun g => g < w.heap.size ∨ g = B := ⟨_, rfl⟩
  have HJ0 : Hid (TS w w3 F b B (hs0 1) [false, false, false, false, false]) := ⟨H2.box t3 (fun g hg => by
      rw [hF] at hg
      rw [HF0.out]
      rcases hg with hg | hg
      · exact .inl hg
      · rw [hg, hB]; exact .inr (Nat.le_refl _)), TI.zero, by rw [hw3, hB]; exact alloc_new _ _, (HT1.out.trans' t2).trans' t3⟩
  have HW3 : Hid (w3 = _) := hw3
  have HB : Hid (B = w2.heap.size) := hB
  have HFe : Hid (F = fun g => g < w.heap.size ∨ g = B) := hF
  have HBw : Hid (w.heap.size ≤ B) := by have h1 := HT1.out.size; have h2 := t2.size; show _ ≤ _; omega
  clear q1 H2 hw3 hB hF t2 t3
  go_upto_region 6 with (fail)
  rw [← HW3.out, ← HB.out]
  have HJ1 : Hid (∃ h tb, TS w w3 F b B h tb ∧ h.l = 1 + (0 : Nat) ∧ h.sz = 0) := ⟨_, _, HJ0.out, rfl, rfl⟩
  clear HJ0
  go_wp2_with fail
  go_loopg [9, 10, 11, 12, 13] 30 (fun kx s9 s10 s11 s12 s13 wr => ∃ k : Nat, s9 = .int .i64 (1 + (k : Int)) ∧ s10 = .int .i64 k ∧ s11 = .int .i64 k ∧ 30 - k ≤ kx ∧ k ≤ 30 ∧ Hid (∃ h tb, TS w wr F b B h tb ∧ h.l = 1 + k ∧ h.sz = k))
  case atStart => exact ⟨0, rfl, rfl, rfl, by omega, by omega, HJ1⟩
  case round =>
    rename World => wr
    obtain ⟨k, rfl, rfl, rfl, hkx, hkl, J⟩ := hrel
    obtain ⟨d, hd⟩ : ∃ d : Bool, d = true ↔ k < M1 ∧ k < 30 := ⟨decide (k < M1 ∧ k < 30), by simp⟩
    go_upto_region 9 with (fail)
    go_cut [46] from 39 to 69 (fun s46 wc => s46 = .bool d ∧ wc = wr)
    case first =>
      by_cases hk1 : k < M1
      · have hk1' : (k : Int) < (M1 : Int) := by omega
        by_cases hk2 : k < 30
        · have hk2' : (k : Int) < 30 := by omega
          have hdt : d = true := hd.2 ⟨hk1, hk2⟩
          clear hd
          subst hdt
          go_wp2_with fail
          go_meet
          case rel => exact ⟨rfl, rfl⟩
        · have hk2' : ¬ (k : Int) < 30 := by omega
          have hdt : d = false := by cases d with
            | false => rfl
            | true => exact absurd (hd.1 rfl).2 hk2
          clear hd
          subst hdt
          go_wp2_with fail
          go_meet
          case rel => exact ⟨rfl, rfl⟩
      · have hk1' : ¬ (k : Int) < (M1 : Int) := by omega
        have hdt : d = false := by cases d with
          | false => rfl
          | true => exact absurd (hd.1 rfl).1 hk1
        clear hd
        subst hdt
        go_wp2_with fail
        go_meet
        case rel => exact ⟨rfl, rfl⟩
    case rest =>
     obtain ⟨rfl, rfl⟩ := hcut
     rename World => wr
     cases d with
     | true =>
      obtain ⟨hk1, hk2⟩ := hd.1 rfl
      clear hd
      have hk1' : (k : Int) < (M1 : Int) := by omega
      have hk2' : (k : Int) < 30 := by omega
      obtain ⟨h, tb, JS, hl, hsz⟩ := J.out
      obtain ⟨x, hx⟩ : ∃ x, L1[k]? = some x := ⟨_, List.getElem?_eq_getElem (by have := HM.out.1; omega)⟩
      obtain ⟨g, o, ha, x0⟩ := sl_get HS1.out JS.t hx
      subst ha
      have hxr := HR.out.1 x (List.mem_of_getElem? hx)
      have q2 := pick_any x 5 wr hxr.1 hxr.2 (by omega) (by omega)
      have hp5 : pkN x 5 < 5 := pkN_lt x (by omega)
      obtain ⟨p, hp⟩ : ∃ p, p = pkN x 5 := ⟨_, rfl⟩
      rw [← hp] at q2 hp5
      have HJ : Hid (TS w wr F b B h tb) := JS
      have Hl : Hid (h.l = 1 + k ∧ h.sz = k) := ⟨hl, hsz⟩
      clear hx hxr hp JS hl hsz J
      go_wp2_with fail
      refine q2.mono ?_
      rintro e w4 ⟨rfl, hw4⟩
      subst hw4
      have q3 := table_w ((p : Int) + 1) ((k : Int) + 1) w4
      unfold tA at q3
      clear q2 x0
      go_wp2_with fail
      refine q3.mono ?_
      rintro e w5 ⟨⟨ao, rfl, hs5, -⟩, t5⟩
      have J5 := HJ.out.no t5
      have q4 := put_tab J5.hf (1 + (k : Int) + 1) ((p : Int) + 1) ((k : Int) + 1) ao hs5 (by have := J5.ti.T; have := Hl.out.2; omega) (J5.fl HFe.out) (by omega) (by omega) (by omega) (by omega) (by have := Hl.out.1; omega)
      have HJ5 : Hid (TS w w5 F b B h tb) := J5
      clear q3 hs5 t5 J5
      go_wp2_with fail
      refine q4.mono ?_
      rintro e w6 ⟨rfl, ⟨n, n1, n2, n3, H6⟩, t6⟩
      have hti : TI (h.add ((p : Int) + 1) n) (tb.set p true) := by have := HJ5.out.ti.add hp5 (n := n) (by rw [n1]; have := Hl.out.1; omega); rw [n2] at this; exact this
      obtain ⟨w7, hw7⟩ : ∃ w7, w7 = w6.setCell ⟨B, p, none⟩ (.bool true) := ⟨_, rfl⟩
      have J7 : TS w w7 F b B (h.add ((p : Int) + 1) n) (tb.set p true) := by rw [hw7]; exact HJ5.out.turn HFe.out HBw.out t6 H6 p true rfl hti
      have b6 := HJ5.out.box HFe.out t6
      have y0 : w6.cell? ⟨B, p, none⟩ = some (.bool (lastT (h.K ((p : Int) + 1)))) := b6.cell (HJ5.out.ti.get hp5)
      have yf : w6.frozen? ⟨B, p, none⟩ = false := blk_frozen b6 p
      have HJ7 : Hid (∃ h tb, TS w w7 F b B h tb ∧ h.l = 1 + (k + 1 : Nat) ∧ h.sz = k + 1) := ⟨_, _, J7, by show n.l = _; rw [n1]; omega, by show h.sz + 1 = _; rw [Hl.out.2]⟩
      have HW7 : Hid (w7 = _) := hw7
      have hp5' : (p : Int) < 5 := by omega
      clear q4 n1 n2 n3 H6 t6 hti hw7 J7 b6
      go_upto_region 16 with (fail)
      rw [← HW7.out]
      clear y0 yf
      go_wp2_with fail
      go_roundg (30 - (k + 1))
      case measure => omega
      case rel => exact ⟨k + 1, by first | rfl | (congr 1; omega), by first | rfl | (congr 1; omega), by first | rfl | (congr 1; omega), by omega, by omega, HJ7⟩
     | false =>
      clear hd
      have HJ2 : Hid (∃ h tb, TS w wr F b B h tb ∧ h.l ≤ 1 + k + (0 : Nat) ∧ h.sz = k) := by
        obtain ⟨h, tb, h1, h2, h3⟩ := J.out
        exact ⟨h, tb, h1, by omega, h3⟩
      clear J
      go_wp2_with fail
      go_loopg [9, 10, 14, 15, 16] 10 (fun kx s9 s10 s14 s15 s16 wx => ∃ j nn : Nat, s9 = .int .i64 (1 + (k : Int) + j) ∧ s10 = .int .i64 nn ∧ s14 = .int .i64 j ∧ 10 - j ≤ kx ∧ j ≤ 10 ∧ nn ≤ k + j ∧ Hid (∃ h tb, TS w wx F b B h tb ∧ h.l ≤ 1 + k + j ∧ h.sz = nn))
      case atStart => exact ⟨0, k, by first | rfl | (congr 1; omega), rfl, rfl, by omega, by omega, by omega, HJ2⟩
      case round =>
        rename World => wx
        obtain ⟨j, nn, rfl, rfl, rfl, hjx, hjl, hnn, J⟩ := hrel
        obtain ⟨d, hd⟩ : ∃ d : Bool, d = true ↔ j < M2 ∧ j < 10 := ⟨decide (j < M2 ∧ j < 10), by simp⟩
        go_upto_region 19 with (fail)
        go_cut [77] from 70 to 103 (fun s77 wc => s77 = .bool d ∧ wc = wx)
        case first =>
          by_cases hk1 : j < M2
          · have hk1' : (j : Int) < (M2 : Int) := by omega
            by_cases hk2 : j < 10
            · have hk2' : (j : Int) < 10 := by omega
              have hdt : d = true := hd.2 ⟨hk1, hk2⟩
              clear hd
              subst hdt
              go_wp2_with fail
              go_meet
              case rel => exact ⟨rfl, rfl⟩
            · have hk2' : ¬ (j : Int) < 10 := by omega
              have hdt : d = false := by cases d with
                | false => rfl
                | true => exact absurd (hd.1 rfl).2 hk2
              clear hd
              subst hdt
              go_wp2_with fail
              go_meet
              case rel => exact ⟨rfl, rfl⟩
          · have hk1' : ¬ (j : Int) < (M2 : Int) := by omega
            have hdt : d = false := by cases d with
              | false => rfl
              | true => exact absurd (hd.1 rfl).1 hk1
            clear hd
            subst hdt
            go_wp2_with fail
            go_meet
            case rel => exact ⟨rfl, rfl⟩
        case rest =>
         obtain ⟨rfl, rfl⟩ := hcut
         rename World => wx
         cases d with
         | true =>
          obtain ⟨hk1, hk2⟩ := hd.1 rfl
          clear hd
          have hk1' : (j : Int) < (M2 : Int) := by omega
          have hk2' : (j : Int) < 10 := by omega
          obtain ⟨h, tb, JS, hl, hsz⟩ := J.out
          obtain ⟨x, hx⟩ : ∃ x, L2[j]? = some x := ⟨_, List.getElem?_eq_getElem (by have := HM.out.2; omega)⟩
          obtain ⟨g, o, ha, x0⟩ := sl_get HS2.out JS.t hx
          subst ha
          have hxr := HR.out.2 x (List.mem_of_getElem? hx)
          have q2 := pick_any x 5 wx hxr.1 hxr.2 (by omega) (by omega)
          have hp5 : pkN x 5 < 5 := pkN_lt x (by omega)
          obtain ⟨p, hp⟩ : ∃ p, p = pkN x 5 := ⟨_, rfl⟩
          rw [← hp] at q2 hp5
          have HJ : Hid (TS w wx F b B h tb) := JS
          have Hl : Hid (h.l ≤ 1 + k + j ∧ h.sz = nn) := ⟨hl, hsz⟩
          have hp5' : (p : Int) < 5 := by omega
          clear hx hxr hp JS hl hsz J
          go_wp2_with fail
          refine q2.mono ?_
          rintro e w4 ⟨rfl, hw4⟩
          subst hw4
          have q4 := gone_f HJ.out.hf (1 + (k : Int) + j + 1) ((p : Int) + 1) (by unfold inR; omega) (by have := HJ.out.ti.T; have := Hl.out.2; omega)
          have HE : Hid (goneE h (1 + (k : Int) + j + 1) ((p : Int) + 1) = if lastT (h.K ((p : Int) + 1)) = true then 0 else 170) := by
            show _ = _
            unfold goneE
            rw [if_neg (by have := Hl.out.1; omega), wasT_all (fun n hn => HJ.out.ti.le _ n hn)]
          have HG : Hid (h.gone (1 + (k : Int) + j + 1) ((p : Int) + 1) = if lastT (h.K ((p : Int) + 1)) = true then h.add ((p : Int) + 1) (ntG (1 + (k : Int) + j + 1)) else h) := by
            show _ = _
            unfold Hs.gone
            rw [HE.out]
            cases lastT (h.K ((p : Int) + 1)) <;> simp
          have hget := HJ.out.ti.get hp5
          rw [HE.out, HG.out] at q4
          obtain ⟨lt, hlt⟩ : ∃ lt, lt = lastT (h.K ((p : Int) + 1)) := ⟨_, rfl⟩
          rw [← hlt] at q4 hget
          have HGT : Hid (tb[p]? = some lt) := hget
          clear q2 x0 HE HG hget hlt
          cases lt with
          | true =>
            rw [if_pos rfl, if_pos rfl] at q4
            go_wp2_with fail
            refine q4.mono ?_
            rintro e w6 ⟨rfl, H6, t6⟩
            have hti : TI (h.add ((p : Int) + 1) (ntG (1 + (k : Int) + j + 1))) (tb.set p false) := HJ.out.ti.add hp5 (n := ntG (1 + (k : Int) + j + 1)) (by show _ < 1 + (k : Int) + j + 1; have := Hl.out.1; omega)
            obtain ⟨w7, hw7⟩ : ∃ w7, w7 = w6.setCell ⟨B, p, none⟩ (.bool false) := ⟨_, rfl⟩
            have J7 : TS w w7 F b B (h.add ((p : Int) + 1) (ntG (1 + (k : Int) + j + 1))) (tb.set p false) := by rw [hw7]; exact HJ.out.turn HFe.out HBw.out t6 H6 p false rfl hti
            have b6 := HJ.out.box HFe.out t6
            have y0 : w6.cell? ⟨B, p, none⟩ = some (.bool true) := b6.cell HGT.out
            have yf : w6.frozen? ⟨B, p, none⟩ = false := blk_frozen b6 p
            have HJ7 : Hid (∃ h tb, TS w w7 F b B h tb ∧ h.l ≤ 1 + k + (j + 1 : Nat) ∧ h.sz = nn + 1) := ⟨_, _, J7, by show 1 + (k : Int) + j + 1 ≤ _; omega, by show h.sz + 1 = _; rw [Hl.out.2]⟩
            have HW7 : Hid (w7 = _) := hw7
            clear q4 H6 t6 hti hw7 J7 b6
            go_wp2_with fail
            rw [← HW7.out]
            go_roundg (10 - (j + 1))
            case measure => omega
            case rel => exact ⟨j + 1, nn + 1, by first | rfl | (congr 1; omega), by first | rfl | (congr 1; omega), by first | rfl | (congr 1; omega), by omega, by omega, by omega, HJ7⟩
          | false =>
            rw [if_neg (by simp), if_neg (by simp)] at q4
            go_wp2_with fail
            refine q4.mono ?_
            rintro e w6 ⟨rfl, H6, t6⟩
            have htb : tb.set p false = tb := by
              have h9 := List.getElem?_eq_some_iff.1 HGT.out
              obtain ⟨hpl, h9⟩ := h9
              rw [← h9]
              exact List.set_getElem_self hpl
            obtain ⟨w7, hw7⟩ : ∃ w7, w7 = w6.setCell ⟨B, p, none⟩ (.bool false) := ⟨_, rfl⟩
            have J7 : TS w w7 F b B h tb := by rw [hw7]; exact HJ.out.turn HFe.out HBw.out t6 H6 p false htb.symm HJ.out.ti
            have b6 := HJ.out.box HFe.out t6
            have y0 : w6.cell? ⟨B, p, none⟩ = some (.bool false) := b6.cell HGT.out
            have yf : w6.frozen? ⟨B, p, none⟩ = false := blk_frozen b6 p
            have HJ7 : Hid (∃ h tb, TS w w7 F b B h tb ∧ h.l ≤ 1 + k + (j + 1 : Nat) ∧ h.sz = nn) := ⟨_, _, J7, by have := Hl.out.1; omega, Hl.out.2⟩
            have HW7 : Hid (w7 = _) := hw7
            clear q4 H6 t6 htb hw7 J7 b6
            go_wp2_with fail
            rw [← HW7.out]
            go_roundg (10 - (j + 1))
            case measure => omega
            case rel => exact ⟨j + 1, nn, by first | rfl | (congr 1; omega), by first | rfl | (congr 1; omega), by first | rfl | (congr 1; omega), by omega, by omega, by omega, HJ7⟩
         | false =>
          clear hd
          obtain ⟨h, tb, JS, hl, hsz⟩ := J.out
          have HJ : Hid (TS w wx F b B h tb) := JS
          have Hl : Hid (h.l ≤ 1 + k + j ∧ h.sz = nn) := ⟨hl, hsz⟩
          clear J JS hl hsz
          go_wp2_with fail
          go_loopg [17, 18] 5 (fun kx s17 s18 wy => ∃ q cc : Nat, s17 = .int .i64 cc ∧ s18 = .int .i64 q ∧ 5 - q ≤ kx ∧ q ≤ 5 ∧ cc ≤ q ∧ Hid (cc = cntB (tb.take q)) ∧ wy = wx)
          case atStart => exact ⟨0, 0, rfl, rfl, by omega, by omega, by omega, rfl, rfl⟩
          case round =>
            obtain ⟨q, cc, rfl, rfl, hqx, hql, hcq, Hc, rfl⟩ := hrel
            by_cases hq : q < 5
            · have hq' : (q : Int) < 5 := by omega
              have hget := HJ.out.ti.get hq
              obtain ⟨lt, hlt⟩ : ∃ lt, lt = lastT (h.K ((q : Int) + 1)) := ⟨_, rfl⟩
              rw [← hlt] at hget
              have y0 := HJ.out.bx.cell hget
              have hct := cntB_take hget
              clear hget hlt
              cases lt with
              | true =>
                have Hc1 : Hid (cc + 1 = cntB (tb.take (q + 1))) := by rw [if_pos rfl] at hct; show _ = _; rw [hct, Hc.out]
                clear hct
                go_wp2_with fail
                go_roundg (5 - (q + 1))
                case measure => omega
                case rel => exact ⟨q + 1, cc + 1, by first | rfl | (congr 1; omega), by first | rfl | (congr 1; omega), by omega, by omega, by omega, Hc1, rfl⟩
              | false =>
                have Hc1 : Hid (cc = cntB (tb.take (q + 1))) := by rw [if_neg (by simp)] at hct; show _ = _; rw [hct, Hc.out]; rfl
                clear hct
                go_wp2_with fail
                go_roundg (5 - (q + 1))
                case measure => omega
                case rel => exact ⟨q + 1, cc, by first | rfl | (congr 1; omega), by first | rfl | (congr 1; omega), by omega, by omega, by omega, Hc1, rfl⟩
            · have hq' : ¬ (q : Int) < 5 := by omega
              have hcc : Hid (cc = cntB tb) := by
                have e9 : tb.take q = tb := List.take_of_length_le (by have := HJ.out.ti.len; omega)
                have := Hc.out
                rw [e9] at this
                exact this
              rename World => wy
              have q5 := noted_f HJ.out.hf
              rw [Hl.out.2] at q5
              have hTb : h.T ≤ 40 := by have := HJ.out.ti.T; have := Hl.out.2; omega
              have q6 := trim_f HJ.out.hf (1 + (k : Int) + j + 1) (by omega)
              have q6' : Calls Try.prog 12 #[.pointer (some ⟨b, 0, none⟩), .int .i64 (1 + (k : Int) + j + 1)] wy fun r w' => (∃ (m : Nat) (h2 : Hs), r = .returned (.int .i64 m) ∧ m + cc = nn ∧ HF w' F b h2 ∧ h2.sz = cc ∧ h2.b = 1 + (k : Int) + j + 1 ∧ h2.T ≤ 40 ∧ ∀ ids2, IdsOf h2.K ids2 → (tells h2 (1 + (k : Int) + j + 1) ids2).length = cc) ∧ Tch (fun g => ¬ F g) wy w' := by
                refine q6.mono ?_
                rintro r w' ⟨ho, t⟩
                refine ⟨?_, t⟩
                rcases ho with ⟨e, _⟩ | ⟨_, ids, hi, rfl, hH⟩
                · have := HJ.out.ti.b; omega
                · obtain ⟨e1, e2, e3, e4, e5⟩ := HJ.out.ti.trim (x := 1 + (k : Int) + j + 1) (by have := Hl.out.1; omega) hi
                  refine ⟨_, _, rfl, ?_, hH, by rw [e2]; exact hcc.out.symm, e3, by rw [e4]; exact hTb, fun ids2 h9 => by rw [e5 ids2 h9]; exact hcc.out.symm⟩
                  rw [hcc.out, e1]
                  exact Hl.out.2
              clear q6
              go_wp2_with fail
              refine q5.mono ?_
              rintro e w4 ⟨rfl, hw4⟩
              subst hw4
              clear q5
              go_wp2_with fail
              refine q6'.mono ?_
              rintro e w5 ⟨⟨m, h2, rfl, hm, H5, s5, b5, T5, tl5⟩, t5⟩
              have HH5 : Hid (HF w5 F b h2 ∧ h2.sz = cc ∧ h2.b = 1 + (k : Int) + j + 1 ∧ h2.T ≤ 40) := ⟨H5, s5, b5, T5⟩
              have HT5 : Hid (Tch (fun _ => False) w w5) := HJ.out.t.trans t5 (fun g hg e => e (by rw [HFe.out]; exact .inl hg))
              have q7 := list_f H5 (1 + (k : Int) + j + 1) (by omega)
              have q7' : Calls Try.prog 14 #[.pointer (some ⟨b, 0, none⟩), .int .i64 (1 + (k : Int) + j + 1)] w5 fun r w' => (∃ lo lc, r = .returned (.tuple #[.slice lo cc lc, .int .i64 0])) ∧ Tch (fun _ => False) w5 w' := by
                refine q7.mono ?_
                rintro r w' ⟨ho, t⟩
                refine ⟨?_, t⟩
                rcases ho with ⟨e, _⟩ | ⟨_, ids2, tv, P, hi2, rfl, hP, hTO⟩
                · omega
                · have hlen := congrArg List.length hP
                  rw [List.length_map, tl5 ids2 hi2] at hlen
                  obtain ⟨lo, lc, rfl⟩ := row_slice hTO.own
                  rw [hlen]
                  exact ⟨lo, lc, rfl⟩
              clear q6' q7 H5 s5 b5 T5 tl5 t5
              go_wp2_with fail
              refine q7'.mono ?_
              rintro e w6 ⟨⟨lo, lc, rfl⟩, t6⟩
              have q8 := noted_f (HH5.out.1.no t6)
              rw [HH5.out.2.1] at q8
              have q9 := trim_f (HH5.out.1.no t6) (1 + (k : Int) + j + 1) (by have := HH5.out.2.2.2; omega)
              have q9' : Calls Try.prog 12 #[.pointer (some ⟨b, 0, none⟩), .int .i64 (1 + (k : Int) + j + 1)] w6 fun r w' => r = .returned (.int .i64 0) ∧ Tch (fun g => ¬ F g) w6 w' := by
                refine q9.mono ?_
                rintro r w' ⟨ho, t⟩
                rcases ho with ⟨_, rfl, _⟩ | ⟨e, _⟩
                · exact ⟨rfl, t⟩
                · have := HH5.out.2.2.1; omega
              have HT6 : Hid (Tch (fun _ => False) w w6) := HT5.out.trans' t6
              have hb2 : ((m : Int) == (nn : Int) - (cc : Int)) = true := by simp; omega
              clear q7' t6 q9
              go_wp2_with fail
              refine q8.mono ?_
              rintro e w7 ⟨rfl, hw7⟩
              subst hw7
              clear q8
              go_wp2_with fail
              refine q9'.mono ?_
              rintro e w8 ⟨rfl, t8⟩
              have HT8 : Hid (Tch (fun _ => False) w w8) := HT6.out.trans t8 (fun g hg e => e (by rw [HFe.out]; exact .inl hg))
              clear q9' t8
              go_wp2_with fail
              go_ret
              exact ⟨rfl, HT8.out⟩
end Go.Proofs.Ytececlalnkiafaa
