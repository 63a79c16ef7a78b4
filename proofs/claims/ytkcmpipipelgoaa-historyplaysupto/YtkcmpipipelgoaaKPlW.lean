import Derived.Test.YtkcmpipipelgoaaKPl1
import Derived.Test.YtkcmpipipelgoaaKPl2
import Derived.Test.YtkcmpipipelgoaaKPl3
import Derived.Test.YtkcmpipipelgoaaKPl4
import Derived.Test.YtkcmpipipelgoaaKPl5
import Derived.Test.YtkcmpipipelgoaaKPl6
import Derived.Test.YtkcmpipipelgoaaHAwk
import Derived.BigQuiet
/- HistoryPlays: the law. -/
namespace Go.Proofs.Ytkcmpipipelgoaa
open Go.RowKit Go
set_option maxRecDepth 100000

set_option maxHeartbeats 8000000 in
set_option maxRecDepth 1000000 in
theorem plays_law (W : World) (tv so : Option Addr) (tc sc : Nat) (x : Int) (P : List (Tbl × Value)) (ops : List Opd) (hT : TL W (fun i => ¬ i < W.heap.size) tv P) (hPl : P.length ≤ 1048576) (hcl : ∀ p ∈ P, p.1.cols.length ≤ 1048576) (hs : SL W so (ocl ops)) (hop : ∀ d ∈ ops, OpA W d) :
    Calls Try.prog 5 #[.slice tv P.length tc, .int .i64 x, .slice so ops.length sc] W fun r w' => r = .returned (.bool true) ∧ Tch (fun _ => False) W w' := by
  have q0 := awake_w W
  obtain ⟨n, hn⟩ : ∃ n, n = P.length := ⟨_, rfl⟩
  obtain ⟨m, hm⟩ : ∃ m, m = ops.length := ⟨_, rfl⟩
  have Hn : Hid (n = P.length) := hn
  have Hm : Hid (m = ops.length) := hm
  have HT : Hid (TL W (fun i => ¬ i < W.heap.size) tv P) := hT
  have Hcl : Hid (∀ p ∈ P, p.1.cols.length ≤ 1048576) := hcl
  have HS : Hid (SL W so (ocl ops)) := hs
  have HOp : Hid (∀ d ∈ ops, OpA W d) := hop
  have hn9 : n ≤ 1048576 := by omega
  rw [← hn, ← hm]
  clear hT hPl hcl hs hop hn hm
  go_enter Try.func5, Try.ntmps5
  go_wp2_with fail
  refine q0.mono ?_
  rintro e w0 ⟨rfl, t0⟩
  obtain ⟨b, hb⟩ : ∃ b, b = w0.heap.size := ⟨_, rfl⟩
  obtain ⟨w1, hw1⟩ : ∃ w1, w1 = w0.alloc (.cells #[.pointer none, .pointer none, .pointer none, .pointer none, .slice none 0 0, .slice none 0 0, .slice none 0 0, .slice none 0 0] 59) := ⟨_, rfl⟩
  have t1 : Tch (fun _ => False) W w1 := by rw [hw1]; exact t0.allocR _
  have hbW : W.heap.size ≤ b := by rw [hb]; exact t0.size
  have HJ0 : Hid (∃ o cur, P1 W w1 o b n tv so P ops cur) := by
    have own : ∀ i, i < W.heap.size → (fun i => if i < W.heap.size then 15 else 5) i = 15 := fun i hi => if_pos hi
    exact ⟨_, _, PQ.zero (by rw [hw1, hb]; exact alloc_new _ _) (if_neg (by omega)), sc_of HS.out HOp.out t1 own, HT.out.tch t1 (fun _ _ e => e.elim), t1, own⟩
  have HW1 : Hid (w1 = _) := hw1
  have Hb : Hid (b = w0.heap.size) := hb
  clear q0 t0 hb hw1 t1 hbW
  go_upto_region 5 with (fail)
  rw [← HW1.out, ← Hb.out]
  go_wp2_with fail
  go_loopg [9, 10, 11, 12, 13, 14, 15, 16, 17, 18, 19, 20, 21, 22, 23] 2 (fun kx s9 s10 s11 s12 s13 s14 s15 s16 s17 s18 s19 s20 s21 s22 s23 wx => ∃ k : Nat, s9 = .int .i64 k ∧ 2 - k ≤ kx ∧ k ≤ 2 ∧ Hid (∃ o cur, P1 W wx o b n tv so P ops cur))
  case atStart => exact ⟨0, rfl, by omega, by omega, HJ0⟩
  case round =>
    rename World => wx
    obtain ⟨k, rfl, hkx, hkl, J⟩ := hrel
    by_cases hk : k < 2
    · have hk' : (k : Int) < 2 := by omega
      have hw8 : IntKind.i64.wrap ((n : Int) + 8) = (n : Int) + 8 := wrap_of (by omega) (by omega)
      obtain ⟨gw, hgw⟩ : ∃ gw, gw = wx.heap.size := ⟨_, rfl⟩
      obtain ⟨w2, hw2⟩ : ∃ w2, w2 = wx.alloc (.cells (madeCells #[.int .i64 0, .int .i64 0, .string ⟨#[]⟩, .slice none 0 0, .int .i64 0] ((n + 8) * 5)) 36) := ⟨_, rfl⟩
      have hmk : (Instr.makeSlice 41 (.int .i64 ((n : Int) + 8)) (.int .i64 ((n : Int) + 8))).run Try.prog wx = .ok (.slice (some ⟨gw, 0, none⟩) (n + 8) (n + 8)) w2 := by
        have := make_tbl9 (n + 8) wx (by omega)
        rw [hw2, hgw, show ((n : Int) + 8) = ((n + 8 : Nat) : Int) by omega]
        exact this
      have HL0 : Hid (L2 wx w2 P gw 0 [] n (.slice none 0 0)) := by
        have := L2.begin wx P
        rw [← Hn.out, ← hgw, ← hw2] at this
        exact this
      have HTx : Hid (TL wx (fun i => ¬ i < W.heap.size) tv P) := by obtain ⟨o, cur, hP⟩ := J.out; exact hP.tl
      have HWx : Hid (W.heap.size ≤ wx.heap.size) := by obtain ⟨o, cur, hP⟩ := J.out; exact hP.t.size
      clear hw2 hgw
      go_wp2_with fail
      clear hmk hw8
      refine plays2 W wx w2 P gw n tc tv hn9 Hn HTx Hcl HL0 _ _ _ _ _ _ _ _ _ _ _ _ _ _ _ _ _ _ _ _ _ _ _ _ _ _ _ _ _ _ _ _ _ _ _ _ _ _ _ _ _ _ _ _ _ _ _ _ _ _ _ _ _ _ _ _ _ _ _ _ _ _ _ _ _ _ _ _ _ _ _ _ _ _ _ _ _ _ _ _ _ _ _ _ _ _ _ _ _ _ _ _ _ _ _ _ _ _ _ _ _ _ _ _ _ _ _ _ _ _ _ _ _ _ _ _ _ _ _ _ _ _ _ _ _ _ _ _ _ _ _ _ _ _ _ _ _ _ _ _ _ _ _ _ _ _ _ _ _ _ _ _ _ _ _ _ _ _ _ _ _ _ _ _ _ _ _ _ _ _ _ _ _ _ _ _ _ _ _ _ _ _ _ _ _ _ ?_
      rintro v11 v12 v13 v14 v40 v41 v42 v43 v44 v45 v46 v47 v48 v49 v50 v51 v52 v53 v54 v55 v56 v57 v58 v59 v60 v61 wA ⟨lo, lc, gs, rfl, JA⟩
      clear HL0
      have HA0 : Hid (L2 wx wA P gw P.length gs n (.slice lo P.length lc)) := by have h := JA.out; rw [show L2 wx wA P gw n gs n (.slice lo n lc) = L2 wx wA P gw P.length gs n (.slice lo P.length lc) by rw [Hn.out]] at h; exact h
      clear JA
      go_wp2_with fail
      refine plays3 wx wA P gw n gs (.slice lo P.length lc) hn9 Hn HA0 _ _ _ _ _ _ _ _ _ _ _ _ _ _ _ _ _ _ _ _ _ _ _ _ _ _ _ _ _ _ _ _ _ _ _ _ _ _ _ _ _ _ _ _ _ _ _ _ _ _ _ _ _ _ _ _ _ _ _ _ _ _ _ _ _ _ _ _ _ _ _ _ _ _ _ _ _ _ _ _ _ _ _ _ _ _ _ _ _ _ _ _ _ _ _ _ _ _ _ _ _ _ _ _ _ _ _ _ _ _ _ _ _ _ _ _ _ _ _ _ _ _ _ _ _ _ _ _ _ _ _ _ _ _ _ _ _ _ _ _ _ _ _ _ _ _ _ _ _ _ _ _ _ _ _ _ _ _ _ _ _ _ _ _ _ _ _ _ _ _ _ _ _ _ _ _ _ _ _ _ _ _ _ _ _ _ _ _ ?_
      rintro v15 v64 v65 v66 v67 v68 v69 v70 v71 v72 v73 v74 v75 wB JB
      clear HA0
      have hzl : (List.zipWith zpv P gs).length = n := by rw [List.length_zipWith, JB.out.gl, Nat.min_self]; exact Hn.out.symm
      have q1 := new_f (List.zipWith zpv P gs) (some ⟨gw, 0, none⟩) (n + 8) (fun g => g < wB.heap.size) (fun _ => False) x wB JB.out.tl (by omega) (fun p hp => by
        obtain ⟨j, hj, e⟩ := List.getElem_of_mem hp
        rw [List.getElem_zipWith] at e
        rw [← e]
        have := Hcl.out (P[j]'(by have := Hn.out; omega)) (List.getElem_mem _)
        show (P[j]'_).1.cols.length ≤ _
        omega) (fun g hg => hg)
      rw [hzl, zip_fst P gs JB.out.gl] at q1
      have hn0 : 0 ≤ (n : Int) := by omega
      have hn8 : (n : Int) ≤ (n : Int) + 8 := by omega
      have hnt : ((n : Int)).toNat = n := by omega
      clear hzl
      go_wp2_with fail
      refine q1.mono ?_
      rintro r wC ⟨hNw, tC⟩
      obtain ⟨hv, rfl, hN1⟩ := new_both hNw
      have HTC : Hid (TL wC (fun i => ¬ i < W.heap.size) tv P) := (HTx.out.tch JB.out.t (fun _ _ e => e.elim)).tch tC (fun _ _ e => e.elim)
      have q2 := dnew_f P tv tc (fun i => ¬ i < W.heap.size) x wC HTC.out (by have := Hn.out; omega)
      rw [← Hn.out] at q2
      obtain ⟨E, hE⟩ : ∃ E, E = newE (P.map Prod.fst) x := ⟨_, rfl⟩
      rw [← hE] at hN1 ⊢
      have HN1 : Hid _ := hN1
      have HtC : Hid (Tch (fun _ => False) wB wC) := tC
      have HE : Hid (E = newE (P.map Prod.fst) x) := hE
      clear q1 hNw hN1 tC hn0 hn8 hnt hE
      go_wp2_with fail
      refine q2.mono ?_
      rintro r wD ⟨hDw, tD⟩
      obtain ⟨rv, rfl, hN2⟩ := dnew_both hDw
      rw [← HE.out] at hN2 ⊢
      have HN2 : Hid _ := hN2
      have HtD : Hid (Tch (fun _ => False) wC wD) := tD
      have JD : Hid (L2 wx wD P gw P.length gs (n + 8) (.slice lo P.length lc)) := (JB.out.no HtC.out).no tD
      clear q2 hDw hN2 tD
      go_wp2_with fail
      refine plays4 W wx wD P gw n tc tv hn9 Hn HTx HWx Hcl gs lo lc JD _ _ _ _ _ _ _ _ _ _ _ _ _ _ _ _ _ _ _ _ _ _ _ _ _ _ _ _ _ _ _ _ _ _ _ _ _ _ _ _ _ _ _ _ _ _ _ _ _ _ _ _ _ _ _ _ _ _ _ _ _ _ _ _ _ _ _ _ _ _ _ _ _ _ _ _ _ _ _ _ _ _ _ _ _ _ _ _ _ _ _ _ _ _ _ _ _ _ _ _ _ _ _ _ _ _ _ _ _ _ _ _ _ _ _ _ _ _ _ _ _ _ _ _ _ _ _ _ _ _ _ _ _ _ _ _ _ _ _ _ _ _ _ _ _ _ _ _ _ _ _ _ _ _ _ _ _ _ _ _ _ _ _ _ _ _ _ _ _ _ _ _ _ _ _ _ _ _ _ _ _ _ _ _ _ ?_
      rintro v20 v21 v22 v91 v92 v93 v94 v95 v96 v97 v98 v99 v100 v101 v102 v103 v104 v105 v106 v107 v108 v109 v110 v111 v112 v113 v114 v115 v116 v117 v118 v119 v120 v121 v122 v123 v124 v125 v126 v127 v128 wE ⟨rfl, JE⟩
      go_wp2_with fail
      have HGw : Hid (∃ cu, wE.heap[gw]? = some (.cells cu 36 (0, 0)) ∧ cu.size = (n + 8) * 5) := by
        obtain ⟨cu, h1, h2, _⟩ := JD.out.ow
        exact ⟨cu, (JE.out.block gw (blk_lt h1) (fun e => (JD.out.gs_lt e).2.2.1 rfl)).trans h1, by rw [h2, Hn.out]⟩
      refine plays5 wE gw n hn9 HGw _ _ _ _ _ _ _ _ _ _ _ _ _ _ _ _ _ _ _ _ _ _ _ _ _ _ _ _ _ _ _ _ _ _ _ _ _ _ _ _ _ _ _ _ _ _ _ _ _ _ _ _ _ _ _ _ _ _ _ _ _ _ _ _ _ _ _ _ _ _ _ _ _ _ _ _ _ _ _ _ _ _ _ _ _ _ _ _ _ _ _ _ _ _ _ _ _ _ _ _ _ _ _ _ _ _ _ _ _ _ _ _ _ _ _ _ _ _ _ _ _ _ _ _ _ _ _ _ _ _ _ _ _ _ _ _ _ _ _ _ _ _ _ _ _ _ _ _ _ _ _ _ _ _ _ _ _ _ _ _ _ _ _ _ _ _ _ _ _ _ _ _ _ _ _ _ _ _ _ _ _ _ _ _ _ _ _ _ ?_
      rintro v23 v129 v130 v131 v132 v133 v134 v135 v136 v137 v138 wF JF
      clear HGw
      have HSd : Hid ((hv = .pointer none ∧ rv = .pointer none) ∨ ∃ hb rb hh dd, hv = .pointer (some ⟨hb, 0, none⟩) ∧ rv = .pointer (some ⟨rb, 0, none⟩) ∧ HF wC (fun g => g < wB.heap.size) hb hh ∧ DF wD (fun g => g < wC.heap.size) rb dd ∧ Lk hh dd ∧ hh.T ≤ n) := by
        rcases HN1.out with ⟨e1, e2⟩ | ⟨e1, hb, l, e2, h3, h4⟩
        · rcases HN2.out with ⟨_, e4⟩ | ⟨e3, _⟩
          · exact .inl ⟨e2, e4⟩
          · rw [e1] at e3; cases e3
        · rcases HN2.out with ⟨e3, _⟩ | ⟨_, rb, L, e4, h5, h6⟩
          · rw [e1] at e3; cases e3
          · refine .inr ⟨hb, rb, _, _, e2, e4, h4, h6, Lk.new h3 h5, ?_⟩
            rw [adds_T]
            have h7 := congrArg List.length h3.1
            rw [List.length_map, List.length_map] at h7
            show 0 + l.length ≤ n
            have := Hn.out
            omega
      clear HN1 HN2 HTC
      obtain ⟨o, cur, JP⟩ := J.out
      obtain ⟨hblk, o', JP'⟩ := JP.round hk JB.out HtC.out HtD.out JE.out JF.out HSd.out
      rw [JP.pq.lw.blk] at hblk
      have hcz := JP.pq.lw.sz
      have z0 : wF.cell? ⟨b, k, none⟩ = some (cur[k]'(by omega)) := by rw [blk_cell hblk]; exact Array.getElem?_eq_getElem _
      have zf : ∀ j, wF.frozen? ⟨b, j, none⟩ = false := fun j => blk_frozen hblk j
      have hb2 := blk_set (i := k) hblk hv
      have z1 : (wF.setCell ⟨b, k, none⟩ hv).cell? ⟨b, 2 + k, none⟩ = some (cur[2 + k]'(by omega)) := by rw [blk_cell hb2, Array.getElem?_setIfInBounds_ne (by omega)]; exact Array.getElem?_eq_getElem _
      have zg : ∀ j, (wF.setCell ⟨b, k, none⟩ hv).frozen? ⟨b, j, none⟩ = false := fun j => blk_frozen hb2 j
      obtain ⟨y0, hy0⟩ : ∃ y0, y0 = cur[k]'(by omega) := ⟨_, rfl⟩
      obtain ⟨y1, hy1⟩ : ∃ y1, y1 = cur[2 + k]'(by omega) := ⟨_, rfl⟩
      rw [← hy0] at z0
      rw [← hy1] at z1
      obtain ⟨w7, hw7⟩ : ∃ w7, w7 = (wF.setCell ⟨b, k, none⟩ hv).setCell ⟨b, 2 + k, none⟩ rv := ⟨_, rfl⟩
      rw [← hw7] at JP'
      have HJ7 : Hid (∃ o cur, P1 W w7 o b n tv so P ops cur) := ⟨_, _, JP'⟩
      have HW7 : Hid (w7 = _) := hw7
      clear JP' JP J JB JD JE JF HtC HtD HTx HWx hcz hy0 hy1 hblk hb2 hw7 HE
      rcases HSd.out with ⟨e1, e2⟩ | ⟨hb, rb, hh, dd, e1, e2, _⟩
      · subst e1 e2
        go_upto_region 7 with (fail)
        rw [← HW7.out]
        clear z0 zf z1 zg
        go_wp2_with fail
        go_roundg (2 - (k + 1))
        case measure => omega
        case rel => exact ⟨k + 1, by first | rfl | (congr 1; omega), by omega, by omega, HJ7⟩
      · subst e1 e2
        go_upto_region 7 with (fail)
        rw [← HW7.out]
        clear z0 zf z1 zg
        go_wp2_with fail
        go_roundg (2 - (k + 1))
        case measure => omega
        case rel => exact ⟨k + 1, by first | rfl | (congr 1; omega), by omega, by omega, HJ7⟩
    · have hk' : ¬ (k : Int) < 2 := by omega
      have HJ6 : Hid (∃ o, PL W wx o b n 0 so ops) := by obtain ⟨o, cur, JP⟩ := J.out; exact ⟨o, JP.done⟩
      clear J
      go_wp2_with fail
      refine plays6 W wx b n m sc so ops (by omega) Hm HJ6 _ _ _ _ _ _ _ _ _ _ _ _ _ _ _ _ _ _ _ _ _ _ _ _ _ _ _ _ _ _ _ _ _ _ _ _ _ _ _ _ _ _ _ _ _ _ _ _ _ _ _ _ _ _ _ _ _ _ _ _ _ _ _ _ _ _ _ _ _ _ _ _ _ _ _ _ _ _ _ _ _ _ _ _ _ _ _ _ _ _ _ _ _ _ _ _ _ _ _ _ _ _ _ _ _ _ _ _ _ _ _ _ _ _ _ _ _ _ _ _ _ _ _ _ _ _ _ _ _ _ _ _ _ _ _ _ _ _ _ _ _ _ _ _ _ _ _ _ _ _ _ _ _ _ _ _ _ _ _ _ _ _ _ _ _ _ _ _ _ _ _ _ _ _ _ _ _ _ _ _ _ _ _ _ _ _ _ ?_
      rintro v6 v24 v25 v26 v165 v166 v167 v168 v169 v170 v171 v172 v173 v174 v175 v176 v177 v178 v179 v180 v181 v182 v183 v184 v185 v186 v187 v188 wZ JZ
      go_wp2_with fail
      go_ret
      exact ⟨rfl, JZ.out⟩
end Go.Proofs.Ytkcmpipipelgoaa
