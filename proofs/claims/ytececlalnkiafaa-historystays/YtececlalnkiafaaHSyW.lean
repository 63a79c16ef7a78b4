import Derived.Test.YtececlalnkiafaaHSyL3
/- HistoryStays: the law. -/
namespace Go.Proofs.Ytececlalnkiafaa
open Go.RowKit Go
set_option maxRecDepth 100000

/-- The version that a kind of act notes. -/
def nvK (kd ver : Nat) : Int := if kd = 2 then 0 else (ver : Int)
set_option maxHeartbeats 8000000 in
set_option maxRecDepth 1000000 in
theorem stays_law (w : World) (ao : Option Addr) (c : Nat) (L : List Ac) (h1 : SL w ao (acl L)) (r1 : ∀ x ∈ L, inR x.k ∧ inR x.i ∧ inR x.s) :
    Calls Try.prog 3 #[.slice ao L.length c] w fun r w' => r = .returned (.bool true) ∧ Tch (fun _ => False) w w' := by
  have q0 := awake_w w
  obtain ⟨M, hM⟩ : ∃ M, M = L.length := ⟨_, rfl⟩
  have HM : Hid (M = L.length) := hM
  have HA : Hid (SL w ao (acl L)) := h1
  have HR : Hid (∀ x ∈ L, inR x.k ∧ inR x.i ∧ inR x.s) := r1
  rw [← hM]
  clear h1 r1 hM
  obtain ⟨F0, hF0⟩ : ∃ F0 : Nat → Prop, F0 = fun g => g < w.heap.size := ⟨_, rfl⟩
  have HF0 : Hid (F0 = fun g => g < w.heap.size) := hF0
  clear hF0
  go_enter Try.func3, Try.ntmps3
  go_wp2_with fail
  refine q0.mono ?_
  rintro e w1 ⟨rfl, t1⟩
  have HT1 : Hid (Tch (fun _ => False) w w1) := t1
  have q1 := new_nil (w := w1) (F := F0) 10 (by omega) (fun g hg => by rw [HF0.out] at hg; exact Nat.lt_of_lt_of_le hg HT1.out.size)
  clear q0 t1
  go_wp2_with fail
  refine q1.mono ?_
  rintro e w2 ⟨⟨b, rfl, H2⟩, t2⟩
  obtain ⟨B, hB⟩ : ∃ B, B = w2.heap.size := ⟨_, rfl⟩
  obtain ⟨w3, hw3⟩ : ∃ w3, w3 = w2.alloc (.cells #[.int .i64 0, .int .i64 0, .int .i64 0, .int .i64 0] 29) := ⟨_, rfl⟩
  have t3 : Tch (fun _ => False) w2 w3 := by rw [hw3]; exact Tch.alloc _ _ _
  have hBw : w.heap.size ≤ B := by have h1 := HT1.out.size; have h2 := t2.size; omega
  have hS3 : SS w w3 b B (.slice none 0 0) (hs0 10) [] [0, 0, 0, 0] := ⟨H2.box t3 (fun g hg => by
      rw [HF0.out]
      rcases hg with hg | hg | hg
      · exact .inl hg
      · rw [hg, hB]; exact .inr (Nat.le_refl _)
      · cases hg), by rw [hw3, hB]; exact alloc_new _ _, ⟨rfl, .inl ⟨rfl, rfl⟩⟩, (fun e => by cases e), hBw, (HT1.out.trans' t2).trans' t3⟩
  obtain ⟨lo4, lc4, w4, hr4, hS4⟩ := hS3.app rfl (by omega)
  have HJ4 : Hid (S1 w w4 b B (.slice lo4 1 lc4) 0 (hs0 10) 0 [[0, 0, 0, 0]] 0 0 0 0) := ⟨hS4, SI.zero, rfl, Nat.le_refl _, Nat.le_refl _, Nat.le_refl _⟩
  have x0 : w3.cell? ⟨B, 0, none⟩ = some (.int .i64 0) := blk_cell hS3.bx 0
  have x1 : w3.cell? ⟨B, 1, none⟩ = some (.int .i64 0) := blk_cell hS3.bx 1
  have x2 : w3.cell? ⟨B, 2, none⟩ = some (.int .i64 0) := blk_cell hS3.bx 2
  have x3 : w3.cell? ⟨B, 3, none⟩ = some (.int .i64 0) := blk_cell hS3.bx 3
  have HW3 : Hid (w3 = _) := hw3
  have HB : Hid (B = w2.heap.size) := hB
  clear q1 H2 hw3 hB t2 t3 hS3 hS4 hBw
  go_upto_region 9 with (fail)
  rw [← HW3.out, ← HB.out]
  go_wp2_with (at_builtin; refine wpList_app _ rfl _ _ 28 rfl rfl _ _ rfl rfl hr4 ?_)
  have HJ0 : Hid (∃ h ws n0 n1 n2 n3, S1 w w4 b B (.slice lo4 1 lc4) 0 h 0 ws n0 n1 n2 n3 ∧ h.b = 10 ∧ 1 = ws.length) := ⟨_, _, _, _, _, _, HJ4.out, rfl, rfl⟩
  clear HJ4 x0 x1 x2 x3 hr4
  go_loopg [6, 7, 8, 10, 11, 12, 13, 14, 15, 16, 17] 60 (fun kx s6 s7 s8 s10 s11 s12 s13 s14 s15 s16 s17 wr => ∃ (i m lc ver : Nat) (lo : Option Addr) (bg : Int), s6 = .int .i64 bg ∧ s7 = .int .i64 (9 + (m : Int)) ∧ s8 = .slice lo m lc ∧ s10 = .int .i64 ver ∧ s11 = .int .i64 i ∧ 60 - i ≤ kx ∧ i ≤ 60 ∧ ver ≤ i ∧ m ≤ 1 + 9 * i ∧ 1 ≤ m ∧ 10 ≤ bg ∧ bg ≤ 9 + m ∧ Hid (∃ h ws n0 n1 n2 n3, S1 w wr b B (.slice lo m lc) i h ver ws n0 n1 n2 n3 ∧ h.b = bg ∧ m = ws.length))
  case atStart => exact ⟨0, 1, lc4, 0, lo4, 10, rfl, rfl, rfl, rfl, rfl, by omega, by omega, by omega, by omega, by omega, by omega, by omega, HJ0⟩
  case round =>
    rename World => wr
    obtain ⟨i, m, lc, ver, lo, bg, rfl, rfl, rfl, rfl, rfl, hix, hil, hvi, hmi, hm1, hbg1, hbg2, J⟩ := hrel
    obtain ⟨d, hd⟩ : ∃ d : Bool, d = true ↔ i < M ∧ i < 60 := ⟨decide (i < M ∧ i < 60), by simp⟩
    go_upto_region 12 with (fail)
    go_cut [53] from 46 to 165 (fun s53 wc => s53 = .bool d ∧ wc = wr)
    case first =>
      by_cases hk1 : i < M
      · have hk1' : (i : Int) < (M : Int) := by omega
        by_cases hk2 : i < 60
        · have hk2' : (i : Int) < 60 := by omega
          have hdt : d = true := hd.2 ⟨hk1, hk2⟩
          clear hd
          subst hdt
          go_wp2_with fail
          go_meet
          case rel => exact ⟨rfl, rfl⟩
        · have hk2' : ¬ (i : Int) < 60 := by omega
          have hdt : d = false := by cases d with
            | false => rfl
            | true => exact absurd (hd.1 rfl).2 hk2
          clear hd
          subst hdt
          go_wp2_with fail
          go_meet
          case rel => exact ⟨rfl, rfl⟩
      · have hk1' : ¬ (i : Int) < (M : Int) := by omega
        have hdt : d = false := by cases d with
          | false => rfl
          | true => exact absurd (hd.1 rfl).1 hk1
        clear hd
        subst hdt
        go_wp2_with fail
        go_meet
        case rel => exact ⟨rfl, rfl⟩
    case rest =>
     obtain ⟨rfl, rfl⟩ := hcut
     rename World => wr
     cases d with
     | true =>
      obtain ⟨hk1, hk2⟩ := hd.1 rfl
      clear hd
      have hk1' : (i : Int) < (M : Int) := by omega
      have hk2' : (i : Int) < 60 := by omega
      obtain ⟨h, ws, n0, n1, n2, n3, JS, hbe, hme⟩ := J.out
      obtain ⟨a, ha⟩ : ∃ a, L[i]? = some a := ⟨_, List.getElem?_eq_getElem (by have := HM.out; omega)⟩
      obtain ⟨g, o, hao, x0, x1, x2⟩ := ac_get HA.out JS.ss.t ha
      subst hao
      obtain ⟨ra, rb, rc⟩ := HR.out a (List.mem_of_getElem? ha)
      have qI := pick_any a.i 4 wr rb.1 rb.2 (by omega) (by omega)
      have qS := pick_any a.s 9 wr rc.1 rc.2 (by omega) (by omega)
      have qK := pick_any a.k 4 wr ra.1 ra.2 (by omega) (by omega)
      have hp4 : pkN a.i 4 < 4 := pkN_lt a.i (by omega)
      have hs9 : pkN a.s 9 < 9 := pkN_lt a.s (by omega)
      have hk4 : pkN a.k 4 < 4 := pkN_lt a.k (by omega)
      obtain ⟨p, hp⟩ : ∃ p, p = pkN a.i 4 := ⟨_, rfl⟩
      obtain ⟨s, hs⟩ : ∃ s, s = pkN a.s 9 := ⟨_, rfl⟩
      obtain ⟨kd, hkd⟩ : ∃ kd, kd = pkN a.k 4 := ⟨_, rfl⟩
      rw [← hp] at qI hp4
      rw [← hs] at qS hs9
      rw [← hkd] at qK hk4
      have HJ : Hid (S1 w wr b B (.slice lo m lc) i h ver ws n0 n1 n2 n3) := JS
      have HE : Hid (h.b = bg ∧ m = ws.length) := ⟨hbe, hme⟩
      have HG : Hid (L[i]? = some a) := ha
      have HKd : Hid (kd = pkN a.k 4 ∧ inR a.k ∧ inR a.s) := ⟨hkd, ra, rc⟩
      clear J JS hbe hme ha ra rb rc hp hs hkd
      go_wp2_with fail
      refine qI.mono ?_
      rintro e wq ⟨rfl, hwq⟩
      subst hwq
      clear qI
      go_wp2_with fail
      refine qS.mono ?_
      rintro e wq ⟨rfl, hwq⟩
      subst hwq
      clear qS
      go_wp2_with fail
      refine qK.mono ?_
      rintro e wr ⟨rfl, hwq⟩
      subst hwq
      clear qK
      go_upto_block 2 with fail
      go_cut [6, 10, 14, 15, 16, 17] from 46 to 165 (fun s6 s10 _ _ _ _ wc => s6 = .int .i64 bg ∧ ∃ ver' : Nat, ver' ≤ ver + 1 ∧ ver ≤ ver' ∧ s10 = .int .i64 ver' ∧ kd < 3 ∧ Hid (∃ n : Nt, n.l = 9 + (m : Int) + 1 + s ∧ (n.th = true → n.t = tabT ((p : Int) + 1) (nvK kd ver') ∧ 1 ≤ nvK kd ver' ∧ nvK kd ver' ≤ (ver' : Nat)) ∧ (n.th = false → nvK kd ver' = 0) ∧ SS w wc b B (.slice lo m lc) (h.add ((p : Int) + 1) n) ws [n0, n1, n2, n3]))
      case first =>
        have hc : kd = 0 ∨ kd = 1 ∨ kd = 2 ∨ kd = 3 := by omega
        rcases hc with rfl | rfl | rfl | rfl
        · clear x0 x1 x2
          have q3 := table_w (1 + (p : Int)) ((ver : Int) + 1) wr
          unfold tA at q3
          go_wp2_with fail
          refine q3.mono ?_
          rintro e w5 ⟨⟨aoT, rfl, hs5, -⟩, t5⟩
          have J5 := HJ.out.ss.no t5
          have q4 := put_tab J5.hf (9 + (m : Int) + 1 + s) (1 + (p : Int)) ((ver : Int) + 1) aoT hs5 (by have := HJ.out.T; omega) J5.fl (by omega) (by omega) (by omega) (by omega) (by have h9 := HJ.out.si.l; rw [← HE.out.2] at h9; omega)
          have HJ5 : Hid (SS w w5 b B (.slice lo m lc) h ws [n0, n1, n2, n3]) := J5
          clear q3 hs5 t5 J5
          go_wp2_with fail
          refine q4.mono ?_
          rintro e w6 ⟨rfl, ⟨n, n1', n2', n3', H6⟩, t6⟩
          have HN6 : Hid (∃ n : Nt, n.l = 9 + (m : Int) + 1 + s ∧ (n.th = true → n.t = tabT ((p : Int) + 1) (nvK 0 (ver + 1)) ∧ 1 ≤ nvK 0 (ver + 1) ∧ nvK 0 (ver + 1) ≤ (ver + 1 : Nat)) ∧ (n.th = false → nvK 0 (ver + 1) = 0) ∧ SS w w6 b B (.slice lo m lc) (h.add ((p : Int) + 1) n) ws [n0, n1, n2, n3]) := by
            rw [Int.add_comm 1 (p : Int)] at H6 n3'
            refine ⟨n, n1', fun _ => ⟨n3', by show (1 : Int) ≤ ((ver + 1 : Nat) : Int); omega, Int.le_refl _⟩, fun e => (by rw [n2'] at e; cases e), HJ5.out.turn t6 H6⟩
          clear q4 n1' n2' n3' H6 t6
          go_wp2_with fail
          go_meet
          case rel => exact ⟨rfl, ver + 1, by omega, by omega, by first | rfl | (congr 1; omega), by omega, HN6⟩
        · clear x0 x1 x2
          have q3 := table_w (1 + (p : Int)) ((ver : Int) + 1) wr
          unfold tA at q3
          go_wp2_with fail
          refine q3.mono ?_
          rintro e w5 ⟨⟨aoT, rfl, hs5, -⟩, t5⟩
          have J5 := HJ.out.ss.no t5
          have q4 := put_tab J5.hf (9 + (m : Int) + 1 + s) (1 + (p : Int)) ((ver : Int) + 1) aoT hs5 (by have := HJ.out.T; omega) J5.fl (by omega) (by omega) (by omega) (by omega) (by have h9 := HJ.out.si.l; rw [← HE.out.2] at h9; omega)
          have HJ5 : Hid (SS w w5 b B (.slice lo m lc) h ws [n0, n1, n2, n3]) := J5
          clear q3 hs5 t5 J5
          go_wp2_with fail
          refine q4.mono ?_
          rintro e w6 ⟨rfl, ⟨n, n1', n2', n3', H6⟩, t6⟩
          have HN6 : Hid (∃ n : Nt, n.l = 9 + (m : Int) + 1 + s ∧ (n.th = true → n.t = tabT ((p : Int) + 1) (nvK 1 (ver + 1)) ∧ 1 ≤ nvK 1 (ver + 1) ∧ nvK 1 (ver + 1) ≤ (ver + 1 : Nat)) ∧ (n.th = false → nvK 1 (ver + 1) = 0) ∧ SS w w6 b B (.slice lo m lc) (h.add ((p : Int) + 1) n) ws [n0, n1, n2, n3]) := by
            rw [Int.add_comm 1 (p : Int)] at H6 n3'
            refine ⟨n, n1', fun _ => ⟨n3', by show (1 : Int) ≤ ((ver + 1 : Nat) : Int); omega, Int.le_refl _⟩, fun e => (by rw [n2'] at e; cases e), HJ5.out.turn t6 H6⟩
          clear q4 n1' n2' n3' H6 t6
          go_wp2_with fail
          go_meet
          case rel => exact ⟨rfl, ver + 1, by omega, by omega, by first | rfl | (congr 1; omega), by omega, HN6⟩
        · clear x0 x1 x2
          have hp1 : (p : Int) + 1 = 1 + p := by omega
          have hnow := HJ.out.si.now (x := h.l) (Int.le_refl _) HJ.out.now hp4
          have hat := HJ.out.si.at (x := h.l) (k := p) (HJ.out.si.b2)
          have q4 := gone_f HJ.out.ss.hf (9 + (m : Int) + 1 + s) (1 + (p : Int)) (by unfold inR; omega) (by have := HJ.out.T; omega)
          obtain ⟨tv, htv⟩ : ∃ tv, tv = toldV h h.l p := ⟨_, rfl⟩
          rw [← htv] at hnow hat
          have hl9 : h.l = 9 + (m : Int) := by have h9 := HJ.out.si.l; rw [← HE.out.2] at h9; exact h9
          have hth : (wasL (h.K ((p : Int) + 1)) h.l).th = true ↔ tv ≠ 0 := by
            rw [htv]
            unfold toldV
            constructor
            · intro e
              rcases HJ.out.si.at (x := h.l) (k := p) (HJ.out.si.b2) with ⟨e1, e2⟩ | ⟨e1, _⟩
              · unfold atE at e2
                rw [if_neg (by have := HJ.out.si.b2; omega), if_pos e] at e2
                cases e2
              · unfold toldV at e1
                omega
            · intro e
              cases hw : (wasL (h.K ((p : Int) + 1)) h.l).th with
              | true => rfl
              | false => rw [hw] at e; exact absurd rfl e
          have HGE : Hid (goneE h (9 + (m : Int) + 1 + s) (1 + (p : Int)) = if tv ≠ 0 then 0 else 170) := by
            show _ = _
            unfold goneE
            rw [if_neg (by omega), ← hp1]
            by_cases h0 : tv ≠ 0
            · rw [if_pos h0, if_pos (hth.2 h0)]
            · rw [if_neg h0, if_neg (fun e => h0 (hth.1 e))]
          have y0 : ∀ W, Tch (fun g => ¬ FS w B (.slice lo m lc) g) wr W → W.cell? ⟨B, p, none⟩ = some (.int .i64 tv) := fun W tW => by
            have b9 := (tW.block B (blk_lt HJ.out.ss.bx) (fun e => e (.inr (.inl rfl)))).trans HJ.out.ss.bx
            rw [blk_cell b9, List.getElem?_toArray, List.getElem?_map, hnow]
            rfl
          have HY : Hid _ := y0
          have hp4' : (p : Int) < 4 := by omega
          by_cases h0 : tv = 0
          · have e0 : goneE h (9 + (m : Int) + 1 + s) (1 + (p : Int)) = 170 := by rw [HGE.out, if_neg (fun e => e h0)]
            have e1 : h.gone (9 + (m : Int) + 1 + s) (1 + (p : Int)) = h := by unfold Hs.gone; rw [e0]; rfl
            rw [e0, e1] at q4
            clear hnow hat htv hl9 hth HGE y0 e0 e1
            subst h0
            go_wp2_with fail
            refine q4.mono ?_
            rintro e w6 ⟨rfl, H6, t6⟩
            have y1 := HY.out w6 t6
            have HJ6 : Hid (∃ h ws n0 n1 n2 n3, S1 w w6 b B (.slice lo m lc) (i + 1) h ver ws n0 n1 n2 n3 ∧ h.b = bg ∧ m = ws.length) := ⟨h, ws, n0, n1, n2, n3, ⟨HJ.out.ss.turn t6 H6, HJ.out.si, HJ.out.now, by omega, by have := HJ.out.T; omega, by have := HJ.out.L; omega⟩, HE.out.1, HE.out.2⟩
            clear q4 H6 t6
            go_wp2_with fail
            go_roundg (60 - (i + 1))
            case measure => omega
            case rel => exact ⟨i + 1, m, lc, ver, lo, bg, rfl, rfl, rfl, rfl, by first | rfl | (congr 1; omega), by omega, by omega, by omega, by omega, by omega, by omega, by omega, HJ6⟩
          · have e0 : goneE h (9 + (m : Int) + 1 + s) (1 + (p : Int)) = 0 := by rw [HGE.out, if_pos h0]
            have e1 : h.gone (9 + (m : Int) + 1 + s) (1 + (p : Int)) = h.add ((p : Int) + 1) (ntG (9 + (m : Int) + 1 + s)) := by unfold Hs.gone; rw [if_pos e0, ← hp1]
            rw [e0, e1] at q4
            have hb0 : (tv != 0) = true := by simp [h0]
            clear hnow hat htv hl9 hth HGE y0 e0 e1
            go_wp2_with fail
            refine q4.mono ?_
            rintro e w6 ⟨rfl, H6, t6⟩
            have y1 := HY.out w6 t6
            have HN6 : Hid (∃ n : Nt, n.l = 9 + (m : Int) + 1 + s ∧ (n.th = true → n.t = tabT ((p : Int) + 1) (nvK 2 ver) ∧ 1 ≤ nvK 2 ver ∧ nvK 2 ver ≤ (ver : Nat)) ∧ (n.th = false → nvK 2 ver = 0) ∧ SS w w6 b B (.slice lo m lc) (h.add ((p : Int) + 1) n) ws [n0, n1, n2, n3]) := ⟨_, rfl, fun e => (by cases e), fun _ => rfl, HJ.out.ss.turn t6 H6⟩
            clear q4 H6 t6 h0
            go_wp2_with fail
            go_meet
            case rel => exact ⟨rfl, ver, by omega, by omega, rfl, by omega, HN6⟩
        · obtain ⟨nT, hnT⟩ : ∃ nT : Nat, (nT : Int) = 9 + (m : Int) - bg + 1 := ⟨(9 + (m : Int) - bg + 1).toNat, by omega⟩
          have qT := pick_any a.s nT wr HKd.out.2.2.1 HKd.out.2.2.2 (by omega) (by omega)
          have huT : pkN a.s nT < nT := pkN_lt a.s (by omega)
          obtain ⟨u, hu⟩ : ∃ u, u = pkN a.s nT := ⟨_, rfl⟩
          rw [← hu, hnT] at qT
          rw [← hu] at huT
          have q5 := trim_f HJ.out.ss.hf (bg + (u : Int)) (by have := HJ.out.T; omega)
          have q5' : Calls Try.prog 12 #[.pointer (some ⟨b, 0, none⟩), .int .i64 (bg + (u : Int))] wr fun r w' => (∃ (mm : Nat) (h2 : Hs), r = .returned (.int .i64 mm) ∧ HF w' (FS w B (.slice lo m lc)) b h2 ∧ SI h2 ver ws ∧ h2.b = bg + u ∧ h2.T = h.T) ∧ Tch (fun g => ¬ FS w B (.slice lo m lc) g) wr w' := by
            refine q5.mono ?_
            rintro r w' ⟨ho, t⟩
            refine ⟨?_, t⟩
            have hb := HE.out.1
            rcases ho with ⟨e, rfl, hH⟩ | ⟨e, ids, hids, rfl, hH⟩
            · exact ⟨0, h, rfl, hH, HJ.out.si, by omega, rfl⟩
            · exact ⟨_, _, rfl, hH, HJ.out.si.trim e (by have h9 := HJ.out.si.l; rw [← HE.out.2] at h9; omega) hids, rfl, rfl⟩
          have hbu : bg + (u : Int) ≤ 9 + (m : Int) := by omega
          have hbu2 : 10 ≤ bg + (u : Int) := by omega
          clear hu hnT q5 x0 x1 huT
          go_wp2_with fail
          refine qT.mono ?_
          rintro e wq ⟨rfl, hwq⟩
          subst hwq
          clear qT x2
          go_wp2_with fail
          refine q5'.mono ?_
          rintro e w6 ⟨⟨mm, h2, rfl, H6, hsi, hb6, hT6⟩, t6⟩
          have q6 := noted_f H6
          obtain ⟨sz, hsz⟩ : ∃ sz, sz = h2.sz := ⟨_, rfl⟩
          rw [← hsz] at q6
          have HJ6 : Hid (∃ h ws n0 n1 n2 n3, S1 w w6 b B (.slice lo m lc) (i + 1) h ver ws n0 n1 n2 n3 ∧ h.b = bg + u ∧ m = ws.length) := ⟨h2, ws, n0, n1, n2, n3, ⟨HJ.out.ss.turn t6 H6, hsi, HJ.out.now, by omega, by have := HJ.out.T; omega, by have := HJ.out.L; omega⟩, hb6, HE.out.2⟩
          have hmm : ¬ (mm : Int) < 0 := by omega
          have hszn : ¬ (sz : Int) < 0 := by omega
          clear q5' H6 hsi hb6 hT6 t6 hsz
          go_wp2_with fail
          refine q6.mono ?_
          rintro e w7 ⟨rfl, hw7⟩
          subst hw7
          clear q6
          go_wp2_with fail
          go_roundg (60 - (i + 1))
          case measure => omega
          case rel => exact ⟨i + 1, m, lc, ver, lo, bg + u, rfl, rfl, rfl, rfl, by first | rfl | (congr 1; omega), by omega, by omega, by omega, by omega, by omega, by omega, by omega, HJ6⟩
      case rest =>
        obtain ⟨rfl, ver', hv1, hv2, rfl, hk3, HN⟩ := hcut
        rename World => wc
        obtain ⟨n, hnl, hnt, hnf, hSS⟩ := HN.out
        have HNn : Hid (n.l = 9 + (m : Int) + 1 + s ∧ (n.th = true → n.t = tabT ((p : Int) + 1) (nvK kd ver') ∧ 1 ≤ nvK kd ver' ∧ nvK kd ver' ≤ (ver' : Nat)) ∧ (n.th = false → nvK kd ver' = 0)) := ⟨hnl, hnt, hnf⟩
        have HJ0' : Hid (SS w wc b B (.slice lo m lc) (h.add ((p : Int) + 1) n) (ws ++ List.replicate 0 [n0, n1, n2, n3]) [n0, n1, n2, n3]) := by rw [List.replicate_zero, List.append_nil]; exact hSS
        clear hnl hnt hnf hSS HN x0 x1 x2
        go_wp2_with fail
        go_loopg [7, 8] s (fun kx s7 s8 wq => ∃ (q : Nat) (lo' : Option Addr) (lc' : Nat), s7 = .int .i64 (9 + (m : Int) + q) ∧ s8 = .slice lo' (m + q) lc' ∧ s - q ≤ kx ∧ q ≤ s ∧ Hid (SS w wq b B (.slice lo' (m + q) lc') (h.add ((p : Int) + 1) n) (ws ++ List.replicate q [n0, n1, n2, n3]) [n0, n1, n2, n3]))
        case atStart => exact ⟨0, lo, lc, by first | rfl | (congr 1; omega), rfl, by omega, by omega, HJ0'⟩
        case round =>
          rename World => wq
          obtain ⟨q, lo', lc', rfl, rfl, hqx, hql, JQ⟩ := hrel
          have hmq : m + q = (ws ++ List.replicate q [n0, n1, n2, n3]).length := by rw [List.length_append, List.length_replicate, ← HE.out.2]
          by_cases hq : q < s
          · have hq' : 9 + (m : Int) + q + 1 < 9 + (m : Int) + 1 + s := by omega
            obtain ⟨lo5, lc5, w5, hr5, hS5⟩ := JQ.out.app hmq (by omega)
            have z0 : wq.cell? ⟨B, 0, none⟩ = some (.int .i64 n0) := blk_cell JQ.out.bx 0
            have z1 : wq.cell? ⟨B, 1, none⟩ = some (.int .i64 n1) := blk_cell JQ.out.bx 1
            have z2 : wq.cell? ⟨B, 2, none⟩ = some (.int .i64 n2) := blk_cell JQ.out.bx 2
            have z3 : wq.cell? ⟨B, 3, none⟩ = some (.int .i64 n3) := blk_cell JQ.out.bx 3
            have HJ5 : Hid (SS w w5 b B (.slice lo5 (m + (q + 1)) lc5) (h.add ((p : Int) + 1) n) (ws ++ List.replicate (q + 1) [n0, n1, n2, n3]) [n0, n1, n2, n3]) := by
              rw [List.replicate_succ', ← List.append_assoc]
              exact hS5
            clear hmq hS5
            go_wp2_with (at_builtin; refine wpList_app _ rfl _ _ 28 rfl rfl _ _ rfl rfl hr5 ?_)
            go_roundg (s - (q + 1))
            case measure => omega
            case rel => exact ⟨q + 1, lo5, lc5, by first | rfl | (congr 1; omega), by first | rfl | (congr 1; omega), by omega, by omega, HJ5⟩
          · have hq' : ¬ 9 + (m : Int) + q + 1 < 9 + (m : Int) + 1 + s := by omega
            obtain rfl : q = s := by omega
            obtain ⟨gx, ox, hax, x0, x1, x2⟩ := ac_get HA.out JQ.out.t HG.out
            have hgo : g = gx ∧ o = ox := by simpa using hax
            obtain ⟨rfl, rfl⟩ := hgo
            have qK := pick_any a.k 4 wq HKd.out.2.1.1 HKd.out.2.1.2 (by omega) (by omega)
            rw [← HKd.out.1] at qK
            have hp4' : (p : Int) < 4 := by omega
            obtain ⟨vn, hvn⟩ : ∃ vn, vn = nvK kd ver' := ⟨_, rfl⟩
            have hS6 := JQ.out.set p vn
            obtain ⟨w6, hw6⟩ : ∃ w6, w6 = wq.setCell ⟨B, p, none⟩ (.int .i64 vn) := ⟨_, rfl⟩
            rw [← hw6] at hS6
            obtain ⟨e0, e1, e2, e3, he⟩ : ∃ e0 e1 e2 e3, [n0, n1, n2, n3].set p vn = [e0, e1, e2, e3] := by
              have hc : p = 0 ∨ p = 1 ∨ p = 2 ∨ p = 3 := by omega
              rcases hc with rfl | rfl | rfl | rfl
              · exact ⟨_, _, _, _, rfl⟩
              · exact ⟨_, _, _, _, rfl⟩
              · exact ⟨_, _, _, _, rfl⟩
              · exact ⟨_, _, _, _, rfl⟩
            rw [he] at hS6
            obtain ⟨lo7, lc7, w7, hr7, hS7⟩ := hS6.app hmq (by omega)
            obtain ⟨ov, hov⟩ : ∃ ov, [n0, n1, n2, n3][p]? = some ov := ⟨_, List.getElem?_eq_getElem (by simpa using hp4)⟩
            have y0 : wq.cell? ⟨B, p, none⟩ = some (.int .i64 ov) := by rw [blk_cell JQ.out.bx, List.getElem?_toArray, List.getElem?_map, hov]; rfl
            have yf : wq.frozen? ⟨B, p, none⟩ = false := blk_frozen JQ.out.bx p
            have z0 : w6.cell? ⟨B, 0, none⟩ = some (.int .i64 e0) := blk_cell hS6.bx 0
            have z1 : w6.cell? ⟨B, 1, none⟩ = some (.int .i64 e1) := blk_cell hS6.bx 1
            have z2 : w6.cell? ⟨B, 2, none⟩ = some (.int .i64 e2) := blk_cell hS6.bx 2
            have z3 : w6.cell? ⟨B, 3, none⟩ = some (.int .i64 e3) := blk_cell hS6.bx 3
            have hsi := HJ.out.si.note HJ.out.now hp4 (n := n) (by have h9 := HJ.out.si.l; rw [← HE.out.2] at h9; have := HNn.out.1; omega) (nvK kd ver') hv2 HNn.out.2.1 HNn.out.2.2
            have hrep : (n.l - 1 - h.l).toNat = q := by have h9 := HJ.out.si.l; rw [← HE.out.2] at h9; have := HNn.out.1; omega
            rw [hrep, ← hvn, he] at hsi
            have HJ7 : Hid (∃ h ws n0 n1 n2 n3, S1 w w7 b B (.slice lo7 (m + q + 1) lc7) (i + 1) h ver' ws n0 n1 n2 n3 ∧ h.b = bg ∧ m + q + 1 = ws.length) := ⟨_, _, e0, e1, e2, e3, ⟨hS7, hsi, by simp, by omega, by show h.T + 1 ≤ _; have := HJ.out.T; omega, by rw [List.length_append, ← hmq]; simp; omega⟩, HE.out.1, by rw [List.length_append, ← hmq]; rfl⟩
            have HW6 : Hid (w6 = _) := hw6
            clear hmq hax hS6 he hS7 hov hsi hrep hw6
            have hkc : (kd : Int) = 2 ∧ vn = 0 ∨ ((kd : Int) == 2) = false ∧ vn = (ver' : Int) := by
              rw [hvn]
              unfold nvK
              by_cases hk9 : kd = 2
              · exact .inl ⟨by omega, if_pos hk9⟩
              · exact .inr ⟨by simp; omega, if_neg hk9⟩
            clear hvn
            go_wp2_with fail
            refine qK.mono ?_
            rintro e wz ⟨rfl, hwz⟩
            subst hwz
            clear qK x0 x1 x2
            rcases hkc with ⟨hkc1, rfl⟩ | ⟨hkc1, rfl⟩
            · have hkb : ((kd : Int) == 2) = true := by simp [hkc1]
              clear hkc1
              go_upto_region 40 with (fail)
              rw [← HW6.out]
              clear y0 yf
              go_wp2_with (at_builtin; refine wpList_app _ rfl _ _ 28 rfl rfl _ _ rfl rfl hr7 ?_)
              go_roundg (60 - (i + 1))
              case measure => omega
              case rel => exact ⟨i + 1, m + q + 1, lc7, ver', lo7, bg, rfl, by first | rfl | (congr 1; omega), by first | rfl | (congr 1; omega), rfl, by first | rfl | (congr 1; omega), by omega, by omega, by omega, by omega, by omega, by omega, by omega, HJ7⟩
            · go_upto_region 40 with (fail)
              rw [← HW6.out]
              clear y0 yf
              go_wp2_with (at_builtin; refine wpList_app _ rfl _ _ 28 rfl rfl _ _ rfl rfl hr7 ?_)
              go_roundg (60 - (i + 1))
              case measure => omega
              case rel => exact ⟨i + 1, m + q + 1, lc7, ver', lo7, bg, rfl, by first | rfl | (congr 1; omega), by first | rfl | (congr 1; omega), rfl, by first | rfl | (congr 1; omega), by omega, by omega, by omega, by omega, by omega, by omega, by omega, HJ7⟩
     | false =>
      skip
      clear hd
      obtain ⟨h, ws, n0, n1, n2, n3, JS, hbe, hme⟩ := J.out
      have HJ : Hid (S1 w wr b B (.slice lo m lc) i h ver ws n0 n1 n2 n3) := JS
      have HE : Hid (h.b = bg ∧ m = ws.length ∧ h.l = 9 + (m : Int)) := ⟨hbe, hme, by have h9 := JS.si.l; rw [← hme] at h9; exact h9⟩
      obtain ⟨gw, hlo, hwas⟩ := JS.ss.was hme JS.si.len hm1
      subst hlo
      have HWs : Hid (∀ W, Tch (fun _ => False) wr W → ∀ ix vs k x, ws[ix]? = some vs → k < 4 → vs[k]? = some x → W.cell? ⟨gw, ix * 4 + k, none⟩ = some (.int .i64 x)) := hwas
      have hmb : m ≤ 541 := by omega
      clear J JS hbe hme hwas
      go_wp2_with fail
      refine stays3 w wr b B i m lc ver gw bg n0 n1 n2 n3 h ws hil hmb hm1 hbg1 hbg2 HJ HE HWs _ _ _ _ _ _ _ _ _ _ _ _ _ _ _ _ _ _ _ _ _ _ _ _ _ _ _ _ _ _ _ _ _ _ _ _ _ _ _ _ _ _ _ _ _ _ _ _ _ _ _ _ _ _ _ _ _ _ _ _ _ _ _ _ _ _ _ _ _ _ _ _ _ _ _ _ _ _ _ _ _ _ _ _ _ _ _ _ _ _ _ _ _ _ _ _ _ _ _ _ _ _ _ _ _ _ _ _ _ _ _ _ _ _ _ _ _ _ _ _ _ _ _ _ _ _ _ _ _ _ _ _ _ _ _ _ _ _ _ _ _ _ _ _ _ _ _ _ _ _ _ _ _ _ _ _ _ _ _ _ _ _ _ _ _ _ _ _ _ _ _ _ _ _ _ _ _ _ _ _ _ _ _ _ _ _ _ _ _ _ _ _ _ _ _ _ _ _ _ _ _ _ _ _ _ _ _ _ _ _ _ _ _ _ _ _ _ _ _ _ _ _ _ _ _ _ _ _ _ _ _ _ _ _ _ _ _ _ _ _ _ _ _ _ _ _ _ _ _ _ _ _ _ _ _ _ _ _ _ _ _ _ _ _ _ ?_
      intro v2 v18 v19 v20 v21 v22 v23 v24 v25 v166 v167 v168 v169 v170 v171 v172 v173 v174 v175 v176 v177 v178 v179 v180 v181 v182 v183 v184 v185 v186 v187 v188 v189 v190 v191 v192 v193 v194 v195 v196 v197 v198 v199 v200 v201 v202 v203 v204 v205 v206 v207 v208 v209 v210 v211 v212 v213 v214 v215 v216 v217 v218 v219 v220 v221 v222 v223 v224 v225 v226 v227 v228 v229 v230 v231 v232 v233 v234 v235 v236 v237 v238 v239 v240 v241 v242 v243 v244 v245 v246 v247 v248 v249 v250 v251 v252 v253 v254 v255 v256 v257 v258 v259 v260 v261 v262 v263 v264 v265 v266 v267 v268 wx JT
      go_wp2_with fail
      go_ret
      exact ⟨rfl, HJ.out.ss.t.trans' JT.out⟩
end Go.Proofs.Ytececlalnkiafaa
