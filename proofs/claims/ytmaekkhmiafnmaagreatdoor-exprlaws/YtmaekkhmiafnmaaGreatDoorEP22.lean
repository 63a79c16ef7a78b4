import Derived.Test.YtmaekkhmiafnmaaGreatDoorEV0
import Derived.Laws.Rows
import Derived.Test.YtmaekkhmiafnmaaGreatDoorEP7
import Derived.Test.YtmaekkhmiafnmaaGreatDoorEP10
import Derived.Test.YtmaekkhmiafnmaaGreatDoorEP19
import Derived.Recover
import Derived.Defers
import Derived.Laws.Pointers
set_option maxHeartbeats 4000000
set_option maxRecDepth 100000
namespace Go.Proofs.YtmaekkhmiafnmaaGreatDoor
open Go.RowKit Go
abbrev shV (k : Nat) : Value := .agg #[.string (wd k), .int .i64 (lvl k : Nat), .int .i64 (few k : Nat), .int .i64 (mst k : Nat)]
theorem shp_ix (W : World) : ∀ k, k < 32 → (Instr.index 73 (.agg shpC) (.int .i64 (k : Nat))).run Tryz.prog W = .ok (shV k) W
  | 0, _ => by kernel_rfl
  | 1, _ => by kernel_rfl
  | 2, _ => by kernel_rfl
  | 3, _ => by kernel_rfl
  | 4, _ => by kernel_rfl
  | 5, _ => by kernel_rfl
  | 6, _ => by kernel_rfl
  | 7, _ => by kernel_rfl
  | 8, _ => by kernel_rfl
  | 9, _ => by kernel_rfl
  | 10, _ => by kernel_rfl
  | 11, _ => by kernel_rfl
  | 12, _ => by kernel_rfl
  | 13, _ => by kernel_rfl
  | 14, _ => by kernel_rfl
  | 15, _ => by kernel_rfl
  | 16, _ => by kernel_rfl
  | 17, _ => by kernel_rfl
  | 18, _ => by kernel_rfl
  | 19, _ => by kernel_rfl
  | 20, _ => by kernel_rfl
  | 21, _ => by kernel_rfl
  | 22, _ => by kernel_rfl
  | 23, _ => by kernel_rfl
  | 24, _ => by kernel_rfl
  | 25, _ => by kernel_rfl
  | 26, _ => by kernel_rfl
  | 27, _ => by kernel_rfl
  | 28, _ => by kernel_rfl
  | 29, _ => by kernel_rfl
  | 30, _ => by kernel_rfl
  | 31, _ => by kernel_rfl
  | k + 32, h => absurd h (by omega)
theorem few_fn : ∀ k, k < 32 → (0 < few k ↔ k ∈ [23, 24, 25, 26, 27, 28, 29, 30, 31]) := by decide
theorem shp_siz : (Tryz.prog.info? 73).map (·.size) = some shpC.size := by kernel_rfl
def fnK (k : Nat) (s : ByteArray) : Option Nat := ([23, 24, 25, 26, 27, 28, 29, 30, 31].filter fun o => decide (o < k)).find? (fun o => decide (wd o = s))
end Go.Proofs.YtmaekkhmiafnmaaGreatDoor
namespace Go.Proofs.YtmaekkhmiafnmaaGreatDoor
open Go.RowKit Go
def FnOut (r : Option Nat) (x : Ending) : Prop := match r with
  | some o => x = .returned (.tuple #[.int .i64 (o : Nat), .bool true])
  | none => x = .returned (.tuple #[.int .i64 0, .bool false])
theorem fnK_step (k : Nat) (s : ByteArray) (hk : k < 32) : (k ∈ [23, 24, 25, 26, 27, 28, 29, 30, 31] → wd k = s → fnK k s = none → fnOf s = some k) ∧ ((k ∈ [23, 24, 25, 26, 27, 28, 29, 30, 31] → ¬ wd k = s) → fnK k s = none → fnK (k + 1) s = none) := by
  have hm : ∀ o j, o ∈ [23, 24, 25, 26, 27, 28, 29, 30, 31] → o < j → o ∈ [23, 24, 25, 26, 27, 28, 29, 30, 31].filter (fun o => decide (o < j)) := fun o j h1 h2 => List.mem_filter.2 ⟨h1, by simpa using h2⟩
  refine ⟨fun h23 hw hn => ?_, fun hw hn => ?_⟩
  · have hsp : [23, 24, 25, 26, 27, 28, 29, 30, 31] = ([23, 24, 25, 26, 27, 28, 29, 30, 31].filter fun o => decide (o < k)) ++ k :: ([23, 24, 25, 26, 27, 28, 29, 30, 31].filter fun o => decide (k < o)) := by
      simp only [List.mem_cons, List.not_mem_nil, or_false] at h23
      rcases h23 with rfl | rfl | rfl | rfl | rfl | rfl | rfl | rfl | rfl <;> rfl
    unfold fnOf
    rw [hsp, List.find?_append]
    unfold fnK at hn
    rw [hn, List.find?_cons_of_pos (by simpa using hw)]
    rfl
  · unfold fnK at hn ⊢
    rw [List.find?_eq_none] at hn ⊢
    intro o ho
    obtain ⟨h1, h2⟩ := List.mem_filter.1 ho
    have h2 : o < k + 1 := by simpa using h2
    by_cases hok : o = k
    · subst hok
      simpa using hw h1
    · exact hn o (hm o k h1 (by omega))
theorem functionOf_any (s : ByteArray) (w : World) (h : HSh w) :
    Calls Tryz.prog 251 #[.string s] w fun x w' => FnOut (fnOf s) x ∧ Tch (fun _ => False) w w' := by
  obtain ⟨ty, fr, hb⟩ := h
  have Hb : Hid _ := hb
  clear hb
  go_enter Tryz.func251, Tryz.ntmps251
  go_wp2_with fail
  refine wp_load_row 73 (.global 0) rfl 0 rfl ty shpC fr _ Hb.out Tryz.underlying73 rfl shp_siz ?_
  go_wp2_with fail
  go_loopw [7] (fun iv wr => ∃ k : Nat, iv = .int .i64 k ∧ k ≤ 32 ∧ Hid (Tch (fun _ => False) w wr ∧ fnK k s = none)) (fun iv _ => 32 - (intOf iv).toNat)
  case atStart => exact ⟨0, rfl, by omega, Tch.refl _ _, rfl⟩
  case round =>
    obtain ⟨k, rfl, hk, HR⟩ := hrel
    by_cases hlt : k < 32
    · have hltI : (k : Int) < 32 := by omega
      have hix : ∀ W : World, (Instr.index 73 (.agg shpC) (.int .i64 (k : Nat))).run Tryz.prog W = .ok (.agg #[.string (wd k), .int .i64 (lvl k : Nat), .int .i64 (few k : Nat), .int .i64 (mst k : Nat)]) W := fun W => shp_ix W k hlt
      have hfw := few_fn k hlt
      have hst := fnK_step k s hlt
      obtain ⟨fk, hfk⟩ : ∃ fk, fk = few k := ⟨_, rfl⟩
      obtain ⟨wk, hwk⟩ : ∃ wk, wk = wd k := ⟨_, rfl⟩
      obtain ⟨lk, hlk⟩ : ∃ lk, lk = lvl k := ⟨_, rfl⟩
      obtain ⟨mk, hmk⟩ : ∃ mk, mk = mst k := ⟨_, rfl⟩
      rw [← hfk, ← hwk, ← hlk, ← hmk] at hix
      rw [← hfk] at hfw
      rw [← hwk] at hst
      clear hfk hwk hlk hmk
      by_cases h0 : 0 < fk
      · have h0I : (0 : Int) < (fk : Int) := by omega
        have h23 := hfw.1 h0
        by_cases hb : wk = s
        · have Hst : Hid _ := hst.1 h23 hb HR.out.2
          have hbe : (wk.toList == s.toList) = true := by rw [hb]; simp
          subst hb
          clear hst hfw h23
          go_wp2_with fail
          go_ret2
          rw [Hst.out]
          exact ⟨rfl, HR.out.1.allocR _⟩
        · have Hst : Hid _ := hst.2 (fun _ => hb) HR.out.2
          have hn := str_ne hb
          clear hst hfw h23 hb
          go_wp2_with fail
          go_roundw
          case rel => exact ⟨k + 1, rfl, by omega, HR.out.1.allocR _, Hst.out⟩
          case measure => simp [intOf]; omega
      · have h0I : ¬ (0 : Int) < (fk : Int) := by omega
        have Hst : Hid _ := hst.2 (fun h => absurd (hfw.2 h) h0) HR.out.2
        clear hst hfw
        go_wp2_with fail
        go_roundw
        case rel => exact ⟨k + 1, rfl, by omega, HR.out.1.allocR _, Hst.out⟩
        case measure => simp [intOf]; omega
    · have hltI : ¬ (k : Int) < 32 := by omega
      have Hn : Hid (fnOf s = none) := by
        have h := HR.out.2
        rw [show k = 32 by omega] at h
        exact h
      go_wp2_with fail
      go_ret2
      rw [Hn.out]
      exact ⟨rfl, HR.out.1⟩
end Go.Proofs.YtmaekkhmiafnmaaGreatDoor
namespace Go.Proofs.YtmaekkhmiafnmaaGreatDoor
open Go.RowKit Go Go.Lib
variable {F : Nat → Prop}
theorem box3_any {w W : World} {a b d : Value} {ty : TypeId} {pb : Nat} (hpb : pb < w.heap.size) (t : Tch (fun i => i = pb) (w.alloc (.cells #[a, b, d] ty)) W) :
    W.cell? ⟨w.heap.size, 0, none⟩ = some a ∧ W.cell? ⟨w.heap.size, 1, none⟩ = some b ∧ W.cell? ⟨w.heap.size, 2, none⟩ = some d := by
  have hbx := box_cells w a b d ty
  have hsz : w.heap.size < (w.alloc (.cells #[a, b, d] ty)).heap.size := by simp
  have hnb : ¬ w.heap.size = pb := by omega
  exact ⟨(t.cell (p := ⟨w.heap.size, 0, none⟩) hsz hnb).trans hbx.1, (t.cell (p := ⟨w.heap.size, 1, none⟩) hsz hnb).trans hbx.2.1, (t.cell (p := ⟨w.heap.size, 2, none⟩) hsz hnb).trans hbx.2.2⟩
theorem fnOf_lt {b : ByteArray} {o : Nat} (h : fnOf b = some o) : o < 32 := by
  have ho2 : o ∈ [23, 24, 25, 26, 27, 28, 29, 30, 31] := List.mem_of_find?_eq_some h
  simp only [List.mem_cons, List.not_mem_nil, or_false] at ho2
  omega
theorem shp_four {w : World} (h : HSh w) {o : Nat} (ho : o < 32) : w.cell? ⟨0, o * 4, none⟩ = some (.string (wd o)) ∧ w.cell? ⟨0, o * 4 + 1, none⟩ = some (.int .i64 (lvl o : Nat)) ∧ w.cell? ⟨0, o * 4 + 2, none⟩ = some (.int .i64 (few o : Nat)) ∧ w.cell? ⟨0, o * 4 + 3, none⟩ = some (.int .i64 (mst o : Nat)) := by
  rw [Nat.mul_comm]
  exact ⟨h.wd ho, h.lvl ho, h.few ho, h.mst ho⟩
theorem function_any (n : Nat) (hls : CLs F 200 n) : CFn F 250 n := by
  intro pb c L t ts w hcb hcp hc hok hp hx hne
  obtain ⟨ck, cb, cpl⟩ := c
  simp only at hcb hcp
  subst hcb
  subst hcp
  obtain ⟨w0, hw0⟩ : ∃ w0, w0 = w.alloc (.cells #[.int .i64 (ck : Nat), .string t.b, .int .i64 (t.p : Nat)] 111) := ⟨_, rfl⟩
  have t0 : Tch (fun _ => False) w w0 := by rw [hw0]; exact Tch.alloc _ _ _
  have HI : Hid (PB w0 pb L ∧ HX F w0 pb ∧ Cut L ts ∧ (∀ t ∈ ts, tkOk t) ∧ Tch (fun i => i = pb) w w0) := ⟨hp.no t0, hx.tch (t0.mono (fun _ _ h => h.elim)), hc, hok, t0.mono (fun _ _ h => h.elim)⟩
  have HB : Hid (∀ W, Tch (fun i => i = pb) w0 W → W.cell? ⟨w.heap.size, 0, none⟩ = some (.int .i64 (ck : Nat)) ∧ W.cell? ⟨w.heap.size, 1, none⟩ = some (.string t.b) ∧ W.cell? ⟨w.heap.size, 2, none⟩ = some (.int .i64 (t.p : Nat))) := fun W tW => box3_any hp.lt (by rw [← hw0]; exact tW)
  have q1 := functionOf_any t.b w0 HI.out.2.1.shp
  unfold fnR at hne ⊢
  rw [hw0] at q1
  have Hw0 : Hid _ := hw0
  clear hc hok hp hx t0 hw0
  cases hf : fnOf t.b with
  | none =>
    rw [hf] at q1 hne
    simp only at hne ⊢
    clear hne hls hf
    go_enter Tryz.func250, Tryz.ntmps250
    go_wp2_with fail
    refine q1.mono ?_
    rintro y w1 ⟨hy, t1⟩
    clear q1
    obtain rfl : y = .returned (.tuple #[.int .i64 0, .bool false]) := hy
    have T1 : Tch (fun i => i = pb) w0 w1 := by rw [Hw0.out]; exact t1.mono (fun _ _ h => h.elim)
    obtain ⟨c0, c1, c2⟩ := HB.out w1 T1
    have q2 := refused_any ⟨ck, t.b, t.p⟩ w1
    have HT : Hid _ := HI.out.2.2.2.2.trans' T1
    clear t1 T1
    go_wp2_with fail
    refine q2.mono ?_
    rintro y w4 ⟨rfl, t4⟩
    clear q2
    have HR : Hid (ROut F pb (.no 110 t.p) (.panicked [{ v := refV 110 t.p, recovered := false }]) w4 ∧ Tch (fun i => i = pb) w w4) := ⟨Or.inr ⟨110, t.p, rfl, rfl⟩, HT.out.trans' (t4.mono (fun _ _ h => h.elim))⟩
    clear t4
    go_wp2_with fail
    exact ⟨rfl, HR.out⟩
  | some o =>
    rw [hf] at q1 hne
    simp only at hne ⊢
    have ho32 := fnOf_lt hf
    obtain ⟨R, hRd⟩ : ∃ R, R = ((rd n (.list []) ts).bind fun l r1 => wantT r1 wShut fun r2 => if few o ≤ l.length ∧ l.length ≤ mst o then .ok [heldE o l] r2 else .no 110 t.p) := ⟨_, rfl⟩
    rw [← hRd]
    have HRd : Hid _ := hRd
    have Hne : Hid _ := bind_out hne
    clear hf hne hRd
    go_enter Tryz.func250, Tryz.ntmps250
    go_wp2_with fail
    refine q1.mono ?_
    rintro y w1 ⟨hy, t1⟩
    clear q1
    obtain rfl : y = .returned (.tuple #[.int .i64 (o : Nat), .bool true]) := hy
    have T1 : Tch (fun i => i = pb) w0 w1 := by rw [Hw0.out]; exact t1.mono (fun _ _ h => h.elim)
    have q2 := hls pb L ts w1 HI.out.2.2.1 HI.out.2.2.2.1 (HI.out.1.no (by rw [Hw0.out]; exact t1)) (HI.out.2.1.tch T1) Hne.out
    have HT1 : Hid _ := T1
    clear t1 T1 hls
    go_wp2_with fail
    refine q2.mono ?_
    rintro y w2 ⟨hy, t2⟩
    clear q2
    have T2 := HT1.out.trans' t2
    have HT2 : Hid _ := T2
    clear t2 T2
    rcases hy with ⟨l, r, ao, cc, L2, hR, rfl, h1, h2, h3, h4⟩ | ⟨why, p, hR, rfl⟩
    · obtain ⟨c3, L4, t3, ts3, rfl, rfl, hm3, hc3⟩ := h4.ne
      have q3 := want_any pb c3 L4 wShut w2 h3
      have hks := mt_eq hm3 (a := wShut) (by decide) (by decide)
      have hok3 : tkOk t3 := HI.out.2.2.2.1 t3 (rd_sub _ _ _ _ _ hR t3 (List.mem_cons_self ..))
      have hRR : R = if t3.b = wShut then (if few o ≤ l.length ∧ l.length ≤ mst o then .ok [heldE o l] ts3 else .no 110 t.p) else .no 110 t3.p := by
        rw [HRd.out, hR]
        show (if isT (t3 :: ts3) wShut = true then (if few o ≤ l.length ∧ l.length ≤ mst o then Rs.ok [heldE o l] ts3 else .no 110 t.p) else .no 110 t3.p) = _
        rw [isT_cons]
        by_cases h : t3.b = wShut
        · rw [if_pos (by simpa using h), if_pos h]
        · rw [if_neg (by simpa using h), if_neg h]
      by_cases hs : c3.b = wShut
      · simp only [if_pos hs] at q3
        rw [if_pos (hks.1 hs)] at hRR
        have HK : Hid (l.length ≤ cc ∧ LE w2 F l ao ∧ Cut L4 ts3 ∧ R = (if few o ≤ l.length ∧ l.length ≤ mst o then .ok [heldE o l] ts3 else .no 110 t.p)) := ⟨h1, h2, hc3 (hok3.lt (by rw [hks.1 hs]; decide)), hRR⟩
        clear hR h1 h2 h3 h4 hRR hks hok3 hm3 hc3 hs
        go_wp2_with fail
        refine q3.mono ?_
        rintro y w3 ⟨⟨rfl, p3⟩, t3'⟩
        clear q3
        have HX3 : Hid (HX F w3 pb) := HI.out.2.1.tch (HT2.out.trans' t3')
        obtain ⟨s0, s1, s2, s3⟩ := shp_four HX3.out.shp ho32
        have ho32I : (o : Int) < 32 := by omega
        obtain ⟨b0, b1, b2⟩ := HB.out w3 (HT2.out.trans' t3')
        obtain ⟨fo, hfo⟩ : ∃ fo, fo = few o := ⟨_, rfl⟩
        obtain ⟨mo, hmo⟩ : ∃ mo, mo = mst o := ⟨_, rfl⟩
        obtain ⟨wo, hwo⟩ : ∃ wo, wo = wd o := ⟨_, rfl⟩
        obtain ⟨lo, hlo⟩ : ∃ lo, lo = lvl o := ⟨_, rfl⟩
        have HK2 : Hid (l.length ≤ cc ∧ LE w3 F l ao ∧ Cut L4 ts3 ∧ R = (if fo ≤ l.length ∧ l.length ≤ mo then .ok [heldE o l] ts3 else .no 110 t.p)) := ⟨HK.out.1, HK.out.2.1.tch t3' HX3.out.tp, HK.out.2.2.1, by rw [hfo, hmo]; exact HK.out.2.2.2⟩
        rw [← hwo] at s0
        rw [← hlo] at s1
        rw [← hfo] at s2
        rw [← hmo] at s3
        obtain ⟨w5, hw5⟩ : ∃ w5, w5 = w3.alloc (.cells #[.string wo, .int .i64 (lo : Nat), .int .i64 (fo : Nat), .int .i64 (mo : Nat)] 72) := ⟨_, rfl⟩
        have t5 : Tch (fun _ => False) w3 w5 := by rw [hw5]; exact Tch.alloc _ _ _
        have HT5 : Hid (Tch (fun i => i = pb) w w5 ∧ PB w5 pb L4 ∧ LE w5 F l ao ∧ HX F w5 pb) := ⟨(HI.out.2.2.2.2.trans' (HT2.out.trans' t3')).trans' (t5.mono (fun _ _ h => h.elim)), p3.no t5, HK2.out.2.1.tch t5 (fun _ h => h.elim), HX3.out.tch (t5.mono (fun _ _ h => h.elim))⟩
        have Hw5 : Hid _ := hw5
        have hkb : w.heap.size < w3.heap.size := by have := (HT2.out.trans' t3').size; rw [Hw0.out] at this; simp at this; omega
        clear hfo hmo hwo hlo p3 t3' HK t5 hw5
        by_cases hA : fo ≤ l.length
        · have hAI : ¬ (l.length : Int) < (fo : Int) := by omega
          by_cases hB : l.length ≤ mo
          · have hBI : ¬ (mo : Int) < (l.length : Int) := by omega
            have q5 := held_any F o l ao cc w5 HT5.out.2.2.2.fb HK2.out.1 HT5.out.2.2.1
            rw [Hw5.out] at q5
            have HRR : Hid (R = .ok [heldE o l] ts3) := (show R = .ok [heldE o l] ts3 from by rw [HK2.out.2.2.2, if_pos ⟨hA, hB⟩])
            clear hA hB
            go_wp2_with fail
            refine q5.mono ?_
            rintro y w6 ⟨⟨d, rfl, hd⟩, t6⟩
            clear q5
            rw [← Hw5.out] at t6
            have HR : Hid (ROut F pb R (.returned (.pointer (some ⟨d, 0, none⟩))) w6 ∧ Tch (fun i => i = pb) w w6) := ⟨Or.inl ⟨_, ts3, d, L4, HRR.out, rfl, hd, HT5.out.2.1.no t6, HK2.out.2.2.1⟩, HT5.out.1.trans' (t6.mono (fun _ _ h => h.elim))⟩
            clear hd t6
            go_wp2_with fail
            go_ret
            exact HR.out
          · have hBI : (mo : Int) < (l.length : Int) := by omega
            have q5 := refused_any ⟨ck, t.b, t.p⟩ w5
            rw [Hw5.out] at q5
            have HRR : Hid (R = .no 110 t.p) := (show R = .no 110 t.p from by rw [HK2.out.2.2.2, if_neg (fun h => hB h.2)])
            clear hA hB
            go_wp2_with fail
            refine q5.mono ?_
            rintro y w6 ⟨rfl, t6⟩
            clear q5
            rw [← Hw5.out] at t6
            have HR : Hid (ROut F pb R (.panicked [{ v := refV 110 t.p, recovered := false }]) w6 ∧ Tch (fun i => i = pb) w w6) := ⟨Or.inr ⟨110, t.p, HRR.out, rfl⟩, HT5.out.1.trans' (t6.mono (fun _ _ h => h.elim))⟩
            clear t6
            go_wp2_with fail
            exact ⟨rfl, HR.out⟩
        · have hAI : (l.length : Int) < (fo : Int) := by omega
          have q5 := refused_any ⟨ck, t.b, t.p⟩ w5
          rw [Hw5.out] at q5
          have HRR : Hid (R = .no 110 t.p) := (show R = .no 110 t.p from by rw [HK2.out.2.2.2, if_neg (fun h => hA h.1)])
          clear hA
          go_wp2_with fail
          refine q5.mono ?_
          rintro y w6 ⟨rfl, t6⟩
          clear q5
          rw [← Hw5.out] at t6
          have HR : Hid (ROut F pb R (.panicked [{ v := refV 110 t.p, recovered := false }]) w6 ∧ Tch (fun i => i = pb) w w6) := ⟨Or.inr ⟨110, t.p, HRR.out, rfl⟩, HT5.out.1.trans' (t6.mono (fun _ _ h => h.elim))⟩
          clear t6
          go_wp2_with fail
          exact ⟨rfl, HR.out⟩
      · simp only [if_neg hs] at q3
        rw [if_neg (fun h => hs (hks.2 h))] at hRR
        have HR : Hid (Tch (fun i => i = pb) w w2 ∧ c3.p = t3.p ∧ R = .no 110 t3.p) := ⟨HI.out.2.2.2.2.trans' HT2.out, hm3.1, hRR⟩
        clear hR h1 h2 h3 h4 hRR hks hok3 hm3 hc3 hs
        go_wp2_with fail
        refine q3.mono ?_
        rintro y w5 ⟨rfl, t5⟩
        clear q3
        have HR5 : Hid (ROut F pb R (.panicked [{ v := refV 110 c3.p, recovered := false }]) w5 ∧ Tch (fun i => i = pb) w w5) := ⟨Or.inr ⟨110, t3.p, HR.out.2.2, by rw [HR.out.2.1]⟩, HR.out.1.trans' t5⟩
        clear t5
        go_wp2_with fail
        exact ⟨rfl, HR5.out⟩
    · have HR : Hid (ROut F pb R (.panicked [{ v := refV why p, recovered := false }]) w2 ∧ Tch (fun i => i = pb) w w2) := ⟨Or.inr ⟨why, p, by rw [HRd.out, hR]; rfl, rfl⟩, HI.out.2.2.2.2.trans' HT2.out⟩
      clear hR
      go_wp2_with fail
      exact ⟨rfl, HR.out⟩
end Go.Proofs.YtmaekkhmiafnmaaGreatDoor
namespace Go.Proofs.YtmaekkhmiafnmaaGreatDoor
open Go.RowKit Go Go.Lib
structure AllL (n : Nat) (G : Nat → Prop) : Prop where
  l1 : CL G 49 n 1
  l2 : CL G 80 n 2
  l3 : CL G 124 n 3
  l4 : CL G 153 n 4
  l5 : CL G 179 n 5
  l6 : CL G 199 n 6
  l7 : CL G 223 n 7
  l8 : CL G 234 n 8
  l9 : CL G 241 n 9
  ls : CLs G 200 n
theorem CL.zero {G : Nat → Prop} {f k : Nat} : CL G f 0 k := fun _ _ _ _ _ _ _ _ h => absurd rfl h
theorem all_lines : ∀ n, n ≤ 1000000 → ∀ m, m ≤ n → ∀ G, AllL m G
  | 0, _, m, hm, G => by
    obtain rfl : m = 0 := by omega
    exact ⟨CL.zero, CL.zero, CL.zero, CL.zero, CL.zero, CL.zero, CL.zero, CL.zero, CL.zero, fun _ _ _ _ _ _ _ _ h => absurd rfl h⟩
  | n + 1, hn, m, hm, G => by
    have ih := all_lines n (by omega)
    by_cases h : m ≤ n
    · exact ih m h G
    obtain rfl : m = n + 1 := by omega
    have h1 : ∀ (G : Nat → Prop) m, m ≤ n → CL G 49 m 1 := fun G m hm => (ih m hm G).l1
    have hN := fun G => ih n (Nat.le_refl _) G
    have hw : CWd G 247 n := worded_any n (choice_any n (by omega) h1) (function_any n (hN G).ls)
    exact ⟨or_line n (fun m hm => (ih m hm G).l2), and_line n (fun m hm => (ih m hm G).l3), not_line n (hN G).l3 (hN G).l4,
      compare_line n (by omega) (hN G).l5 (fun G => tested_any n (hN G).ls (hN G).l5),
      join_line n (fun m hm => (ih m hm G).l6), sum_line n (fun m hm => (ih m hm G).l7), product_line n (fun m hm => (ih m hm G).l8),
      minus_line n (hN G).l8 (hN G).l9, first_line n hw (hN G).l1, list_any n (by omega) h1⟩
theorem or_any (G : Nat → Prop) (n : Nat) (hn : n ≤ 1000000) : CL G 49 n 1 := (all_lines n hn n (Nat.le_refl _) G).l1
end Go.Proofs.YtmaekkhmiafnmaaGreatDoor
namespace Go.Proofs.YtmaekkhmiafnmaaGreatDoor
open Go.RowKit Go Go.Lib
theorem catch_idle (p q : Addr) (w : World) :
    CallsD Tryz.prog 47 #[.pointer (some p), .pointer (some q)] .returning w fun e u' w' => e = .returned (.tuple #[]) ∧ u' = .returning ∧ w' = w := by
  refine callsD_of_wpS Tryz.func47 rfl fun c₀ cs hu => ?_
  apply wpS_seq
  apply wpS_region
  simp [wpOpsS, go_sem, recoverD, hu, Tryz.ntmps47, Exit.thenS]
  refine wpS_of_wp ?_
  go_wp2_with fail
  cases c₀
  simp_all [bodyPostS, results, Tryz.results47]
theorem catch_world (w : World) (p q : Nat) (hpq : p ≠ q) {v0 v1 v2 va vb vd : Value} (c0 : w.cell? ⟨p, 0, none⟩ = some v0) (c1 : w.cell? ⟨q, 0, none⟩ = some v1) (c2 : w.cell? ⟨q, 1, none⟩ = some v2) {o : Obj} :
    ((((w.setCell ⟨p, 0, none⟩ va).setCell ⟨q, 0, none⟩ vb).setCell ⟨q, 1, none⟩ vd).alloc o).drew.cell? ⟨p, 0, none⟩ = some va ∧
    ((((w.setCell ⟨p, 0, none⟩ va).setCell ⟨q, 0, none⟩ vb).setCell ⟨q, 1, none⟩ vd).alloc o).drew.cell? ⟨q, 0, none⟩ = some vb ∧
    ((((w.setCell ⟨p, 0, none⟩ va).setCell ⟨q, 0, none⟩ vb).setCell ⟨q, 1, none⟩ vd).alloc o).drew.cell? ⟨q, 1, none⟩ = some vd ∧
    Tch (fun i => i = p ∨ i = q) w ((((w.setCell ⟨p, 0, none⟩ va).setCell ⟨q, 0, none⟩ vb).setCell ⟨q, 1, none⟩ vd).alloc o).drew := by
  have hql : q < w.heap.size := cell_lt c1
  have hpl : p < w.heap.size := cell_lt c0
  have d0 : ((w.setCell ⟨p, 0, none⟩ va)).cell? ⟨p, 0, none⟩ = some va := World.cell?_setCell_same w _ _ c0
  have d1 : ((w.setCell ⟨p, 0, none⟩ va)).cell? ⟨q, 0, none⟩ = some v1 := ((Tch.setCell (fun i => i = p) w ⟨p, 0, none⟩ _ rfl).cell (p := ⟨q, 0, none⟩) hql (fun e => hpq e.symm)).trans c1
  have d2 : ((w.setCell ⟨p, 0, none⟩ va)).cell? ⟨q, 1, none⟩ = some v2 := ((Tch.setCell (fun i => i = p) w ⟨p, 0, none⟩ _ rfl).cell (p := ⟨q, 1, none⟩) hql (fun e => hpq e.symm)).trans c2
  have s1 : ((w.setCell ⟨p, 0, none⟩ va)).heap.size = w.heap.size := by simp
  have t1 := Tch.setCell (fun i => i = q) (w.setCell ⟨p, 0, none⟩ va) ⟨q, 0, none⟩ vb rfl
  have e0 := (t1.cell (p := ⟨p, 0, none⟩) (by rw [s1]; exact hpl) hpq).trans d0
  have e1 := World.cell?_setCell_same (w.setCell ⟨p, 0, none⟩ va) ⟨q, 0, none⟩ vb d1
  have e2 : ((w.setCell ⟨p, 0, none⟩ va).setCell ⟨q, 0, none⟩ vb).cell? ⟨q, 1, none⟩ = some v2 := by
    rw [World.cell?_setCell_other _ _ _ _ (by intro h; injection h with _ h _; cases h)]; exact d2
  have s2 : ((w.setCell ⟨p, 0, none⟩ va).setCell ⟨q, 0, none⟩ vb).heap.size = w.heap.size := by simp
  have t2 := Tch.setCell (fun i => i = q) ((w.setCell ⟨p, 0, none⟩ va).setCell ⟨q, 0, none⟩ vb) ⟨q, 1, none⟩ vd rfl
  have g0 := (t2.cell (p := ⟨p, 0, none⟩) (by rw [s2]; exact hpl) hpq).trans e0
  have g1 : (((w.setCell ⟨p, 0, none⟩ va).setCell ⟨q, 0, none⟩ vb).setCell ⟨q, 1, none⟩ vd).cell? ⟨q, 0, none⟩ = some vb := by
    rw [World.cell?_setCell_other _ _ _ _ (by intro h; injection h with _ h _; cases h)]; exact e1
  have g2 := World.cell?_setCell_same ((w.setCell ⟨p, 0, none⟩ va).setCell ⟨q, 0, none⟩ vb) ⟨q, 1, none⟩ vd e2
  have t3 : Tch (fun _ => False) (((w.setCell ⟨p, 0, none⟩ va).setCell ⟨q, 0, none⟩ vb).setCell ⟨q, 1, none⟩ vd) ((((w.setCell ⟨p, 0, none⟩ va).setCell ⟨q, 0, none⟩ vb).setCell ⟨q, 1, none⟩ vd).alloc o).drew := (Tch.alloc _ _ _).drew
  have s3 : (((w.setCell ⟨p, 0, none⟩ va).setCell ⟨q, 0, none⟩ vb).setCell ⟨q, 1, none⟩ vd).heap.size = w.heap.size := by simp
  refine ⟨(t3.cell (p := ⟨p, 0, none⟩) (by rw [s3]; exact hpl) (fun h => h)).trans g0, (t3.cell (p := ⟨q, 0, none⟩) (by rw [s3]; exact hql) (fun h => h)).trans g1, (t3.cell (p := ⟨q, 1, none⟩) (by rw [s3]; exact hql) (fun h => h)).trans g2, ?_⟩
  have T1 := (Tch.setCell (fun i => i = p) w ⟨p, 0, none⟩ va rfl).mono (T := fun i => i = p ∨ i = q) (fun _ _ h => Or.inl h)
  exact ((T1.trans t1 (fun _ _ h => Or.inr h)).trans t2 (fun _ _ h => Or.inr h)).trans t3 (fun _ _ h => h.elim)
theorem catch_panicking (p q : Nat) (why : Int) (pl : Nat) (w : World) (hpq : p ≠ q) (v0 : Value) (c0 : w.cell? ⟨p, 0, none⟩ = some v0) (c1 : w.cell? ⟨q, 0, none⟩ = some (.int .i64 0)) (c2 : w.cell? ⟨q, 1, none⟩ = some (.int .i64 0))
    (f0 : w.frozen? ⟨p, 0, none⟩ = false) (f1 : w.frozen? ⟨q, 0, none⟩ = false) (f2 : w.frozen? ⟨q, 1, none⟩ = false) :
    CallsD Tryz.prog 47 #[.pointer (some ⟨p, 0, none⟩), .pointer (some ⟨q, 0, none⟩)] (.panicking [{ v := refV why pl, recovered := false }]) w fun e u' w' =>
      e = .returned (.tuple #[]) ∧ u' = .panicking [{ v := refV why pl, recovered := true }] ∧ w'.cell? ⟨p, 0, none⟩ = some (.pointer none) ∧ w'.cell? ⟨q, 0, none⟩ = some (.int .i64 why) ∧ w'.cell? ⟨q, 1, none⟩ = some (.int .i64 (pl : Nat)) ∧ Tch (fun i => i = p ∨ i = q) w w' := by
  have hta : ∀ W : World, (Instr.typeAssert (refV why pl) 20 57 true).run Tryz.prog W = .ok (.tuple #[.agg #[.int .i64 why, .int .i64 (pl : Nat)], .bool true]) W := fun W => by kernel_rfl
  refine callsD_of_wpS Tryz.func47 rfl fun c₀ cs hu => ?_
  apply wpS_seq
  apply wpS_region
  simp [wpOpsS, go_sem, recoverD, hu, Tryz.ntmps47, Exit.thenS]
  refine wpS_of_wp ?_
  rw [show (#[Value.pointer (some ⟨p, 0, none⟩), Value.pointer (some ⟨q, 0, none⟩)] ++ (Array.replicate 10 undef).setIfInBounds 3 (refV why pl) : Array Value) = #[.pointer (some ⟨p, 0, none⟩), .pointer (some ⟨q, 0, none⟩), undef, undef, undef, refV why pl, undef, undef, undef, undef, undef, undef] from rfl]
  have hpl : p < w.heap.size := cell_lt c0
  have hql : q < w.heap.size := cell_lt c1
  go_wp2_with fail
  go_region
  obtain ⟨k0, k1, k2, k3⟩ := catch_world (va := .pointer none) (vb := .int .i64 why) (vd := .int .i64 (pl : Nat)) w p q hpq c0 c1 c2
  refine ⟨rfl, _, rfl, .tuple #[], ?_, rfl, rfl, k0, k1, k2, k3⟩
  simp [results, Tryz.results47]
end Go.Proofs.YtmaekkhmiafnmaaGreatDoor
namespace Go.Proofs.YtmaekkhmiafnmaaGreatDoor
open Go.RowKit Go Go.Lib
theorem Cut.ends {L : List Ct} {ts : List Tk} (h : Cut L ts) : (∀ t ∈ ts, tkOk t) → Ends ts := by
  induction h with
  | last L h h4 => exact fun ho => Or.inl ⟨(ho _ (List.mem_cons_self ..)).2.2 h4, h4, rfl⟩
  | cons h h3 _ ih => exact fun ho => Or.inr ⟨h3, ih fun t ht => ho t (List.mem_cons_of_mem _ ht)⟩
theorem mt_4 {c : Ct} {t : Tk} (h : mt c t) : c.k = 4 ↔ t.k = 4 := by
  obtain ⟨_, ⟨_, h2, _⟩ | ⟨h1, h2, _⟩⟩ := h <;> omega
theorem PB.tch1 {w w' : World} {pb eb : Nat} {L : List Ct} (h : PB w pb L) (t : Tch (fun i => i = eb) w w') (hne : pb ≠ eb) {a : Option Addr} (h0 : w.cell? ⟨eb, 0, none⟩ = some (.pointer a)) (h1 : ∀ o, w.cell? ⟨eb, o + 1, none⟩ = none) : PB w' pb L := by
  have hl := h.lt
  obtain ⟨ao, c, h2, h3, h4, h5⟩ := h
  refine ⟨ao, c, (t.cell (p := ⟨pb, 0, none⟩) hl hne).trans h2, (t.frozen (p := ⟨pb, 0, none⟩) hl hne).trans h3, h4, fun hL => ?_⟩
  obtain ⟨tb, o, e, ha, hd⟩ := h5 hL
  refine ⟨tb, o, e, ha.tch t (fun _ htb => ?_), hd⟩
  subst htb
  cases L with
  | nil => exact hL rfl
  | cons c L =>
    have h6 := ha 0 (.int .i64 (c.k : Nat)) rfl
    cases o with
    | zero => rw [Nat.zero_add, h0] at h6; cases h6
    | succ o => rw [Nat.add_zero, h1] at h6; cases h6
def ReOut (F : Nat → Prop) (R : Rs) (x : Ending) (w' : World) : Prop :=
  (∃ e b, R = .ok [e] [] ∧ x = .returned (.tuple #[ptV b, .agg #[.int .i64 0, .int .i64 0]]) ∧ TR w' F e b) ∨
  (∃ why p, R = .no why p ∧ x = .returned (.tuple #[.pointer none, .agg #[.int .i64 why, .int .i64 (p : Nat)]]))
theorem read_any (s : ByteArray) (hs : s.size ≤ 400) (w : World) (hw : HWd w) (hv : HV w) (hsh : HSh w) (hg : 10 ≤ w.heap.size) :
    Calls Tryz.prog 20 #[.string s] w fun x w' => ReOut (fun i => i < w.heap.size) (rdAll (toksE s)) x w' ∧ Tch (fun _ => False) w w' := by
  have hmf : ∀ (fn : Fn) (first cap : Array Value) (w : World), (Instr.makeFunc fn first cap).run Tryz.prog w = .ok (.func fn first cap) w := fun _ _ _ _ => rfl
  obtain ⟨R, hR⟩ : ∃ R, R = rdAll (toksE s) := ⟨_, rfl⟩
  rw [← hR]
  have HR0 : Hid (R = (rd (12 * (toksE s).length + 12) (.line 1) (toksE s)).bind fun l r => match r with | [] => .out | t :: _ => if t.k = 4 then .ok l [] else .no 110 t.p) := hR
  obtain ⟨eb, heb⟩ : ∃ eb, eb = w.heap.size := ⟨_, rfl⟩
  obtain ⟨w0, hw0⟩ : ∃ w0, w0 = (w.alloc (.cells #[.pointer none] 35)).alloc (.cells #[.int .i64 0, .int .i64 0] 57) := ⟨_, rfl⟩
  have t0 : Tch (fun _ => False) w w0 := by rw [hw0]; exact (Tch.alloc _ _ _).allocR _
  have hz0 : w0.heap.size = w.heap.size + 2 := by rw [hw0]; simp
  have b0 : w0.heap[eb]? = some (.cells #[.pointer none] 35 (0, 0)) := by
    rw [hw0, heb]
    exact ((Tch.alloc (fun _ => False) (w.alloc (.cells #[.pointer none] 35)) _).block _ (by simp) (fun h => h)).trans (alloc_new _ _)
  have b1 : w0.heap[eb + 1]? = some (.cells #[.int .i64 0, .int .i64 0] 57 (0, 0)) := by
    have h := alloc_new (w.alloc (.cells #[.pointer none] 35)) (.cells #[.int .i64 0, .int .i64 0] 57)
    rw [hw0, heb]
    simpa using h
  have q1 := tokensOf_any s (by omega) w0 (hw.no t0) (hv.no t0)
  have HI : Hid (s.size ≤ 400 ∧ HWd w ∧ HV w ∧ HSh w ∧ 10 ≤ w.heap.size ∧ Tch (fun _ => False) w w0 ∧ w0.heap.size = w.heap.size + 2 ∧ w0.heap[eb]? = some (.cells #[.pointer none] 35 (0, 0)) ∧ w0.heap[eb + 1]? = some (.cells #[.int .i64 0, .int .i64 0] 57 (0, 0)) ∧ eb = w.heap.size) := ⟨hs, hw, hv, hsh, hg, t0, hz0, b0, b1, heb⟩
  have Hw0 : Hid _ := hw0
  rw [hw0] at q1
  clear hs hw hv hsh hg t0 hz0 b0 b1 hR hw0 heb
  go_enter_defers Tryz.func20, Tryz.ntmps20
  go_wp2_with fail
  refine q1.mono ?_
  rintro y w1 ⟨⟨L, ao, c, rfl, hcut, hown⟩, t1⟩
  clear q1
  rw [← Hw0.out] at t1
  obtain ⟨pb, hpb⟩ : ∃ pb, pb = w1.heap.size := ⟨_, rfl⟩
  obtain ⟨w2, hw2⟩ : ∃ w2, w2 = w1.alloc (.cells #[.slice ao L.length c] 107) := ⟨_, rfl⟩
  have t2 : Tch (fun _ => False) w1 w2 := by rw [hw2]; exact Tch.alloc _ _ _
  have T2 : Tch (fun _ => False) w w2 := (HI.out.2.2.2.2.2.1.trans' t1).trans' t2
  have hz1 : w.heap.size + 2 ≤ pb := by have := t1.size; have := HI.out.2.2.2.2.2.2.1; omega
  have hz2 : w2.heap.size = pb + 1 := by rw [hw2, hpb]; simp
  have hok : ∀ t ∈ toksE s, tkOk t := toks_ok _ _ _ (by have := HI.out.1; simpa using this)
  have hp2 : PB w2 pb L := by
    refine ⟨ao, c, ?_, ?_, ?_, fun hne => ?_⟩
    · rw [hw2, hpb]; exact blk_cell (alloc_new _ _) 0
    · rw [hw2, hpb]; simp
    · rcases hown.2 with ⟨h1, h2⟩ | ⟨g, c', cur, hv, hb, hh, hc, _⟩
      · omega
      · injection hv with _ _ h3
        omega
    · obtain ⟨g, rfl, hgl, ha⟩ := own_at hown (List.length_pos_iff.2 hne)
      exact ⟨g, 0, rfl, ha.tch t2 (fun _ h => h), by omega⟩
  have hx2 : HX (fun i => i < w2.heap.size) w2 pb := ⟨HI.out.2.1.no T2, HI.out.2.2.1.no T2, HI.out.2.2.2.1.tch T2 (fun h => h), by have := HI.out.2.2.2.2.1; omega, fun _ h => h, by omega⟩
  have hlen : (toksE s).length ≤ 401 := Nat.le_trans (toks_len _ _ _) (by have := HI.out.1; omega)
  have hne2 : rd (12 * (toksE s).length + 12) (.line 1) (toksE s) ≠ .out := (rd_nu _ (.line 1) _ ⟨by omega, by omega⟩ (hcut.ends hok) (by show 12 * _ - 1 ≤ _; omega)).1
  have q2 := or_any (fun i => i < w2.heap.size) (12 * (toksE s).length + 12) (by omega) pb L (toksE s) w2 hcut hok hp2 hx2 hne2
  rw [hpb, hw2] at q2
  have HEB : Hid (∀ W, Tch (fun i => i = pb) w2 W → W.heap[eb]? = some (.cells #[.pointer none] 35 (0, 0)) ∧ W.heap[eb + 1]? = some (.cells #[.int .i64 0, .int .i64 0] 57 (0, 0)) ∧ Tch (fun _ => False) w W) := fun W tW => by
    have T : Tch (fun i => i = pb) w0 W := ((t1.trans' t2).mono (fun _ _ h => h.elim)).trans' tW
    have he := HI.out.2.2.2.2.2.2.2.2.2
    have hz := HI.out.2.2.2.2.2.2.1
    exact ⟨(T.block eb (by omega) (by omega)).trans HI.out.2.2.2.2.2.2.2.1, (T.block (eb + 1) (by omega) (by omega)).trans HI.out.2.2.2.2.2.2.2.2.1, HI.out.2.2.2.2.2.1.trans T (fun i hi h => by omega)⟩
  have H2 : Hid (pb = w1.heap.size ∧ w2 = w1.alloc (.cells #[.slice ao L.length c] 107) ∧ w.heap.size + 2 ≤ pb ∧ w2.heap.size = pb + 1) := ⟨hpb, hw2, hz1, hz2⟩
  clear hcut hown t1 hpb hw2 t2 T2 hz1 hz2 hok hp2 hx2 hlen hne2
  go_wp2_with fail
  refine q2.mono ?_
  rintro y w3 ⟨hy, t3⟩
  clear q2
  rw [← H2.out.1, ← H2.out.2.1] at hy
  rw [← H2.out.1, ← H2.out.2.1] at t3
  obtain ⟨g0, g1, T3⟩ := HEB.out w3 t3
  have c0 : w3.cell? ⟨w.heap.size, 0, none⟩ = some (.pointer none) := by rw [← HI.out.2.2.2.2.2.2.2.2.2]; exact blk_cell g0 0
  have c1 : w3.cell? ⟨w.heap.size + 1, 0, none⟩ = some (.int .i64 0) := by rw [← HI.out.2.2.2.2.2.2.2.2.2]; exact blk_cell g1 0
  have c2 : w3.cell? ⟨w.heap.size + 1, 1, none⟩ = some (.int .i64 0) := by rw [← HI.out.2.2.2.2.2.2.2.2.2]; exact blk_cell g1 1
  have f0 : w3.frozen? ⟨w.heap.size, 0, none⟩ = false := by rw [← HI.out.2.2.2.2.2.2.2.2.2]; simp [World.frozen?, g0]
  have f1 : w3.frozen? ⟨w.heap.size + 1, 0, none⟩ = false := by rw [← HI.out.2.2.2.2.2.2.2.2.2]; simp [World.frozen?, g1]
  have f2 : w3.frozen? ⟨w.heap.size + 1, 1, none⟩ = false := by rw [← HI.out.2.2.2.2.2.2.2.2.2]; simp [World.frozen?, g1]
  have HT3 : Hid (Tch (fun _ => False) w w3) := T3
  clear g0 g1 T3
  obtain ⟨e, r, b, L3, hE, rfl, h1, h2, h3⟩ | ⟨why, p, hE, rfl⟩ := hy
  rotate_left
  · have HR : Hid (R = .no why p) := (show R = _ from by rw [HR0.out, hE]; rfl)
    clear hE t3
    go_wp2_with fail
    refine leaves_cons (f := 47) (args := #[.pointer (some ⟨w.heap.size, 0, none⟩), .pointer (some ⟨w.heap.size + 1, 0, none⟩)]) (by simp) (by simp [go_sem]) ?_
    refine (catch_panicking w.heap.size (w.heap.size + 1) why p w3 (by omega) _ c0 c1 c2 f0 f1 f2).mono ?_
    rintro e u' w'' ⟨rfl, rfl, k0, k1, k2, kt⟩
    simp [Leaves, settle, results, Tryz.results20, go_sem, k0, k1, k2]
    exact ⟨Or.inr ⟨why, p, HR.out, rfl⟩, HT3.out.trans kt (fun i hi h => by omega)⟩
  have hebw := HI.out.2.2.2.2.2.2.2.2.2
  obtain ⟨w4, hw4⟩ : ∃ w4, w4 = w3.setCell ⟨w.heap.size, 0, none⟩ (ptV b) := ⟨_, rfl⟩
  have t4 : Tch (fun i => i = eb) w3 w4 := by rw [hw4]; exact Tch.setCell _ _ _ _ hebw.symm
  obtain ⟨c4, L4, u4, ts4, rfl, rfl, hm4, hc4⟩ := h3.ne
  have hz := H2.out.2.2.1
  have p4 : PB w4 pb (c4 :: L4) := h2.tch1 t4 (by omega) (a := none) (by rw [hebw]; exact c0) (fun o => by
    rw [blk_cell (HEB.out w3 t3).1]; rfl)
  have q3 := take_any pb c4 L4 w4 p4
  rw [hw4, H2.out.1] at q3
  have k0 : w4.cell? ⟨w.heap.size, 0, none⟩ = some (ptV b) := by rw [hw4]; exact World.cell?_setCell_same w3 _ _ c0
  have hl3 : w.heap.size + 1 < w3.heap.size := cell_lt c1
  have k1 : w4.cell? ⟨w.heap.size + 1, 0, none⟩ = some (.int .i64 0) := (t4.cell (p := ⟨_, _, none⟩) hl3 (by show ¬ w.heap.size + 1 = eb; omega)).trans c1
  have k2 : w4.cell? ⟨w.heap.size + 1, 1, none⟩ = some (.int .i64 0) := (t4.cell (p := ⟨_, _, none⟩) hl3 (by show ¬ w.heap.size + 1 = eb; omega)).trans c2
  have n0 : w4.frozen? ⟨w.heap.size, 0, none⟩ = false := by rw [hw4]; simpa using f0
  have n1 : w4.frozen? ⟨w.heap.size + 1, 0, none⟩ = false := (t4.frozen (p := ⟨_, _, none⟩) hl3 (by show ¬ w.heap.size + 1 = eb; omega)).trans f1
  have n2 : w4.frozen? ⟨w.heap.size + 1, 1, none⟩ = false := (t4.frozen (p := ⟨_, _, none⟩) hl3 (by show ¬ w.heap.size + 1 = eb; omega)).trans f2
  have hl4 : w4.heap.size = w3.heap.size := by rw [hw4]; simp
  have H4 : Hid (∀ W, Tch (fun i => i = pb) w4 W → (W.cell? ⟨w.heap.size, 0, none⟩ = some (ptV b) ∧ W.cell? ⟨w.heap.size + 1, 0, none⟩ = some (.int .i64 0) ∧ W.cell? ⟨w.heap.size + 1, 1, none⟩ = some (.int .i64 0) ∧ W.frozen? ⟨w.heap.size, 0, none⟩ = false ∧ W.frozen? ⟨w.heap.size + 1, 0, none⟩ = false ∧ W.frozen? ⟨w.heap.size + 1, 1, none⟩ = false) ∧ TR W (fun i => i < w2.heap.size) e b ∧ Tch (fun _ => False) w W ∧ w.heap.size + 2 ≤ W.heap.size) := fun W tW => by
    have hz' := H2.out.2.2.2
    refine ⟨⟨(tW.cell (p := ⟨_, _, none⟩) (by show w.heap.size < _; omega) (by show ¬ w.heap.size = pb; omega)).trans k0, (tW.cell (p := ⟨_, _, none⟩) (by show w.heap.size + 1 < _; omega) (by show ¬ w.heap.size + 1 = pb; omega)).trans k1, (tW.cell (p := ⟨_, _, none⟩) (by show w.heap.size + 1 < _; omega) (by show ¬ w.heap.size + 1 = pb; omega)).trans k2,
      (tW.frozen (p := ⟨_, _, none⟩) (by show w.heap.size < _; omega) (by show ¬ w.heap.size = pb; omega)).trans n0, (tW.frozen (p := ⟨_, _, none⟩) (by show w.heap.size + 1 < _; omega) (by show ¬ w.heap.size + 1 = pb; omega)).trans n1, (tW.frozen (p := ⟨_, _, none⟩) (by show w.heap.size + 1 < _; omega) (by show ¬ w.heap.size + 1 = pb; omega)).trans n2⟩, ?_, ?_, ?_⟩
    · exact TR.tch tW (fun i hi => by omega) (TR.tch t4 (fun i hi => by omega) h1)
    · exact (HT3.out.trans t4 (fun i hi h => by omega)).trans tW (fun i hi h => by omega)
    · have := tW.size; omega
  have HE : Hid (R = if u4.k = 4 then .ok [e] [] else .no 110 u4.p) := (show R = _ from by rw [HR0.out, hE]; rfl)
  have HM : Hid (mt c4 u4) := hm4
  have Hw4 : Hid _ := hw4
  clear hE h1 h2 h3 t3 hebw t4 hm4 hc4 hz p4 k0 k1 k2 n0 n1 n2 hl3 hl4 hw4 HEB c1 c2 f1 f2
  go_wp2_with fail
  refine q3.mono ?_
  rintro y w5 ⟨rfl, p5, t5⟩
  clear q3 c0 f0
  rw [← Hw4.out, ← H2.out.1] at t5
  obtain ⟨⟨d0, d1, d2, e0, e1, e2⟩, e3, e4, e5⟩ := H4.out w5 t5
  obtain ⟨w6, hw6⟩ : ∃ w6, w6 = w5.alloc (.cells #[.int .i64 (c4.k : Nat), .string c4.b, .int .i64 (c4.p : Nat)] 111) := ⟨_, rfl⟩
  have t6 : Tch (fun _ => False) w5 w6 := by rw [hw6]; exact Tch.alloc _ _ _
  have HT5 : Hid (TR w5 (fun i => i < w2.heap.size) e b ∧ Tch (fun _ => False) w w5) := ⟨e3, e4⟩
  have H5 : Hid (TR w6 (fun i => i < w2.heap.size) e b ∧ Tch (fun _ => False) w w6 ∧ w.heap.size + 2 ≤ w6.heap.size ∧ (w6.cell? ⟨w.heap.size, 0, none⟩ = some (ptV b) ∧ w6.cell? ⟨w.heap.size + 1, 0, none⟩ = some (.int .i64 0) ∧ w6.cell? ⟨w.heap.size + 1, 1, none⟩ = some (.int .i64 0) ∧ w6.frozen? ⟨w.heap.size, 0, none⟩ = false ∧ w6.frozen? ⟨w.heap.size + 1, 0, none⟩ = false ∧ w6.frozen? ⟨w.heap.size + 1, 1, none⟩ = false)) := by
    obtain ⟨x1, x2, x3, x4⟩ := H4.out w6 (t5.trans' (t6.mono (fun _ _ h => h.elim)))
    exact ⟨x2, x3, x4, x1⟩
  have Hw6 : Hid _ := hw6
  have h5a : w.heap.size < w5.heap.size := by omega
  have h5b : w.heap.size + 1 < w5.heap.size := by omega
  clear e3 e4 e5 p5 t5 t6 hw6 H4
  by_cases h4 : c4.k = 4
  · have h4I : ((c4.k : Nat) : Int) = 4 := by omega
    have HR : Hid (R = .ok [e] []) := (show R = _ from by rw [HE.out, if_pos ((mt_4 HM.out).1 h4)])
    clear h4
    obtain ⟨k0, k1, k2, kt⟩ := catch_world (va := .pointer (some ⟨b, 0, none⟩)) (vb := .int .i64 0) (vd := .int .i64 0) (o := .cells #[.int .i64 4, .string c4.b, .int .i64 (c4.p : Nat)] 111) w5 w.heap.size (w.heap.size + 1) (by omega) d0 d1 d2
    have HK : Hid _ := k0
    have HK1 : Hid _ := k1
    have HK2 : Hid _ := k2
    have HKt : Hid _ := kt
    clear k0 k1 k2 kt
    go_wp2_with fail
    refine leaves_cons (f := 47) (args := #[.pointer (some ⟨w.heap.size, 0, none⟩), .pointer (some ⟨w.heap.size + 1, 0, none⟩)]) (by simp) (by simp [go_sem]) ?_
    refine (catch_idle ⟨w.heap.size, 0, none⟩ ⟨w.heap.size + 1, 0, none⟩ _).mono ?_
    rintro e' u' w'' ⟨rfl, rfl, rfl⟩
    obtain ⟨W', hW'⟩ : ∃ W', W' = ((((w5.setCell ⟨w.heap.size, 0, none⟩ (.pointer (some ⟨b, 0, none⟩))).setCell ⟨w.heap.size + 1, 0, none⟩ (.int .i64 0)).setCell ⟨w.heap.size + 1, 1, none⟩ (.int .i64 0)).alloc (.cells #[.int .i64 4, .string c4.b, .int .i64 (c4.p : Nat)] 111)) := ⟨_, rfl⟩
    have k0 : W'.cell? ⟨w.heap.size, 0, none⟩ = some (.pointer (some ⟨b, 0, none⟩)) := by rw [hW']; exact HK.out
    have k1 : W'.cell? ⟨w.heap.size + 1, 0, none⟩ = some (.int .i64 0) := by rw [hW']; exact HK1.out
    have k2 : W'.cell? ⟨w.heap.size + 1, 1, none⟩ = some (.int .i64 0) := by rw [hW']; exact HK2.out
    have kt : Tch (fun i => i = w.heap.size ∨ i = w.heap.size + 1) w5 W' := by
      have h := HKt.out
      rw [hW']
      exact ⟨h.os, h.tape, h.output, h.size, h.block⟩
    rw [← hW']
    clear hW' HK HK1 HK2 HKt
    simp [Leaves, settle, results, Tryz.results20, go_sem, k0, k1, k2]
    have hz2 := H2.out.2.2
    refine ⟨Or.inl ⟨e, b, HR.out, rfl, ?_⟩, HT5.out.2.trans kt (fun i hi h => by omega)⟩
    exact TR.mono (fun i _ hi => by omega) (TR.tch kt (fun i hi => by omega) HT5.out.1)
  · have h4I : ¬ ((c4.k : Nat) : Int) = 4 := by omega
    have HR : Hid (R = .no 110 u4.p) := (show R = _ from by rw [HE.out, if_neg (fun h => h4 ((mt_4 HM.out).2 h))])
    have q6 := refused_any c4 w6
    rw [Hw6.out] at q6
    clear h4
    go_wp2_with fail
    refine q6.mono ?_
    rintro y w7 ⟨rfl, t7⟩
    clear q6
    rw [← Hw6.out] at t7
    obtain ⟨x1, x2, x3, x4, x5, x6⟩ := H5.out.2.2.2
    have hz6 := H5.out.2.2.1
    have y1 := (t7.cell (p := ⟨w.heap.size, 0, none⟩) (by show w.heap.size < _; omega) (fun h => h)).trans x1
    have y2 := (t7.cell (p := ⟨w.heap.size + 1, 0, none⟩) (by show w.heap.size + 1 < _; omega) (fun h => h)).trans x2
    have y3 := (t7.cell (p := ⟨w.heap.size + 1, 1, none⟩) (by show w.heap.size + 1 < _; omega) (fun h => h)).trans x3
    have y4 := (t7.frozen (p := ⟨w.heap.size, 0, none⟩) (by show w.heap.size < _; omega) (fun h => h)).trans x4
    have y5 := (t7.frozen (p := ⟨w.heap.size + 1, 0, none⟩) (by show w.heap.size + 1 < _; omega) (fun h => h)).trans x5
    have y6 := (t7.frozen (p := ⟨w.heap.size + 1, 1, none⟩) (by show w.heap.size + 1 < _; omega) (fun h => h)).trans x6
    have T7 := H5.out.2.1.trans' t7
    have HT7 : Hid _ := T7
    clear t7 x1 x2 x3 x4 x5 x6 hz6 T7 d0 d1 d2 e0 e1 e2
    go_wp2_with fail
    refine leaves_cons (f := 47) (args := #[.pointer (some ⟨w.heap.size, 0, none⟩), .pointer (some ⟨w.heap.size + 1, 0, none⟩)]) (by simp) (by simp [go_sem]) ?_
    refine (catch_panicking w.heap.size (w.heap.size + 1) 110 c4.p w7 (by omega) _ y1 y2 y3 y4 y5 y6).mono ?_
    rintro e u' w'' ⟨rfl, rfl, k0, k1, k2, kt⟩
    simp [Leaves, settle, results, Tryz.results20, go_sem, k0, k1, k2]
    exact ⟨Or.inr ⟨110, u4.p, HR.out, by rw [HM.out.1]⟩, HT7.out.trans kt (fun i hi h => by omega)⟩
end Go.Proofs.YtmaekkhmiafnmaaGreatDoor
