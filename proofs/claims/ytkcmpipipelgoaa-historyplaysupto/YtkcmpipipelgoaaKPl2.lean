import Derived.Test.YtkcmpipipelgoaaKPl1
import Derived.BigQuiet
/- HistoryPlays: tables are lent. -/
namespace Go.Proofs.Ytkcmpipipelgoaa
open Go.RowKit Go
set_option maxRecDepth 100000

set_option maxHeartbeats 8000000 in
set_option maxRecDepth 1000000 in
theorem plays2 (W w1 wr : World) (P : List (Tbl × Value)) (gw n tc : Nat) (tv : Option Addr) (hn : n ≤ 1048576) (Hn : Hid (n = P.length)) (HTL : Hid (TL w1 (fun i => ¬ i < W.heap.size) tv P)) (Hcl : Hid (∀ p ∈ P, p.1.cols.length ≤ 1048576)) (HJ : Hid (L2 w1 wr P gw 0 [] n (.slice none 0 0))) (Q0 : Exit → Act → World → Prop)
    (u1 u2 u3 u4 u5 u6 u7 u8 u9 u13 u14 u15 u16 u17 u18 u19 u20 u21 u22 u23 u24 u25 u26 u27 u28 u29 u30 u31 u32 u33 u34 u35 u36 u37 u38 u39 u40 u41 u42 u43 u44 u45 u46 u47 u48 u49 u50 u51 u52 u53 u54 u55 u56 u57 u58 u59 u60 u61 u62 u63 u64 u65 u66 u67 u68 u69 u70 u71 u72 u73 u74 u75 u76 u77 u78 u79 u80 u81 u82 u83 u84 u85 u86 u87 u88 u89 u90 u91 u92 u93 u94 u95 u96 u97 u98 u99 u100 u101 u102 u103 u104 u105 u106 u107 u108 u109 u110 u111 u112 u113 u114 u115 u116 u117 u118 u119 u120 u121 u122 u123 u124 u125 u126 u127 u128 u129 u130 u131 u132 u133 u134 u135 u136 u137 u138 u139 u140 u141 u142 u143 u144 u145 u146 u147 u148 u149 u150 u151 u152 u153 u154 u155 u156 u157 u158 u159 u160 u161 u162 u163 u164 u165 u166 u167 u168 u169 u170 u171 u172 u173 u174 u175 u176 u177 u178 u179 u180 u181 u182 u183 u184 u185 u186 u187 u188 : Value)
    (Hexit : Hid (∀ (v11 v12 v13 v14 v40 v41 v42 v43 v44 v45 v46 v47 v48 v49 v50 v51 v52 v53 v54 v55 v56 v57 v58 v59 v60 v61 : Value) (wx : World), (∃ lo lc gs, v11 = .slice lo n lc ∧ Hid (L2 w1 wx P gw n gs n (.slice lo n lc))) → Q0 (.exit 2) ⟨List.toArray ((.slice tv n tc) :: u1 :: u2 :: u3 :: u4 :: u5 :: u6 :: u7 :: u8 :: u9 :: (.slice (some ⟨gw, 0, none⟩) (n + 8) (n + 8)) :: (v11) :: (v12) :: (v13) :: (v14) :: u15 :: u16 :: u17 :: u18 :: u19 :: u20 :: u21 :: u22 :: u23 :: u24 :: u25 :: u26 :: u27 :: u28 :: u29 :: u30 :: u31 :: u32 :: u33 :: u34 :: u35 :: u36 :: u37 :: u38 :: u39 :: (v40) :: (v41) :: (v42) :: (v43) :: (v44) :: (v45) :: (v46) :: (v47) :: (v48) :: (v49) :: (v50) :: (v51) :: (v52) :: (v53) :: (v54) :: (v55) :: (v56) :: (v57) :: (v58) :: (v59) :: (v60) :: (v61) :: u62 :: u63 :: u64 :: u65 :: u66 :: u67 :: u68 :: u69 :: u70 :: u71 :: u72 :: u73 :: u74 :: u75 :: u76 :: u77 :: u78 :: u79 :: u80 :: u81 :: u82 :: u83 :: u84 :: u85 :: u86 :: u87 :: u88 :: u89 :: u90 :: u91 :: u92 :: u93 :: u94 :: u95 :: u96 :: u97 :: u98 :: u99 :: u100 :: u101 :: u102 :: u103 :: u104 :: u105 :: u106 :: u107 :: u108 :: u109 :: u110 :: u111 :: u112 :: u113 :: u114 :: u115 :: u116 :: u117 :: u118 :: u119 :: u120 :: u121 :: u122 :: u123 :: u124 :: u125 :: u126 :: u127 :: u128 :: u129 :: u130 :: u131 :: u132 :: u133 :: u134 :: u135 :: u136 :: u137 :: u138 :: u139 :: u140 :: u141 :: u142 :: u143 :: u144 :: u145 :: u146 :: u147 :: u148 :: u149 :: u150 :: u151 :: u152 :: u153 :: u154 :: u155 :: u156 :: u157 :: u158 :: u159 :: u160 :: u161 :: u162 :: u163 :: u164 :: u165 :: u166 :: u167 :: u168 :: u169 :: u170 :: u171 :: u172 :: u173 :: u174 :: u175 :: u176 :: u177 :: u178 :: u179 :: u180 :: u181 :: u182 :: u183 :: u184 :: u185 :: u186 :: u187 :: u188 :: []), []⟩ wx)) :
    Code.wp Try.prog (Code.loop (plB 1)) Q0 ⟨List.toArray ((.slice tv n tc) :: u1 :: u2 :: u3 :: u4 :: u5 :: u6 :: u7 :: u8 :: u9 :: (.slice (some ⟨gw, 0, none⟩) (n + 8) (n + 8)) :: (.slice none 0 0) :: (.int .i64 0) :: u13 :: u14 :: u15 :: u16 :: u17 :: u18 :: u19 :: u20 :: u21 :: u22 :: u23 :: u24 :: u25 :: u26 :: u27 :: u28 :: u29 :: u30 :: u31 :: u32 :: u33 :: u34 :: u35 :: u36 :: u37 :: u38 :: u39 :: u40 :: u41 :: u42 :: u43 :: u44 :: u45 :: u46 :: u47 :: u48 :: u49 :: u50 :: u51 :: u52 :: u53 :: u54 :: u55 :: u56 :: u57 :: u58 :: u59 :: u60 :: u61 :: u62 :: u63 :: u64 :: u65 :: u66 :: u67 :: u68 :: u69 :: u70 :: u71 :: u72 :: u73 :: u74 :: u75 :: u76 :: u77 :: u78 :: u79 :: u80 :: u81 :: u82 :: u83 :: u84 :: u85 :: u86 :: u87 :: u88 :: u89 :: u90 :: u91 :: u92 :: u93 :: u94 :: u95 :: u96 :: u97 :: u98 :: u99 :: u100 :: u101 :: u102 :: u103 :: u104 :: u105 :: u106 :: u107 :: u108 :: u109 :: u110 :: u111 :: u112 :: u113 :: u114 :: u115 :: u116 :: u117 :: u118 :: u119 :: u120 :: u121 :: u122 :: u123 :: u124 :: u125 :: u126 :: u127 :: u128 :: u129 :: u130 :: u131 :: u132 :: u133 :: u134 :: u135 :: u136 :: u137 :: u138 :: u139 :: u140 :: u141 :: u142 :: u143 :: u144 :: u145 :: u146 :: u147 :: u148 :: u149 :: u150 :: u151 :: u152 :: u153 :: u154 :: u155 :: u156 :: u157 :: u158 :: u159 :: u160 :: u161 :: u162 :: u163 :: u164 :: u165 :: u166 :: u167 :: u168 :: u169 :: u170 :: u171 :: u172 :: u173 :: u174 :: u175 :: u176 :: u177 :: u178 :: u179 :: u180 :: u181 :: u182 :: u183 :: u184 :: u185 :: u186 :: u187 :: u188 :: []), []⟩ wr := by
  conv => arg 2; arg 1; whnf
  go_loopg [11, 12, 13, 14] n (fun kx s11 s12 s13 s14 wx => ∃ (i : Nat) (lo : Option Addr) (lc : Nat) (gs : List Nat), s11 = .slice lo i lc ∧ s12 = .int .i64 i ∧ n - i ≤ kx ∧ i ≤ n ∧ Hid (L2 w1 wx P gw i gs n (.slice lo i lc)))
  case atStart => exact ⟨0, none, 0, [], rfl, rfl, by omega, by omega, HJ⟩
  case round =>
    rename World => wx
    obtain ⟨i, lo, lc, gs, rfl, rfl, hkx, hin, J⟩ := hrel
    by_cases hi : i < n
    · have hi' : (i : Int) < (n : Int) := by omega
      have hi8 : (i : Int) < (n : Int) + 8 := by omega
      have hTx := HTL.out.tch J.out.t (fun _ _ e => e.elim)
      have hil : i < P.length := by have := Hn.out; omega
      obtain ⟨p, hp⟩ : ∃ p, P[i]? = some p := ⟨_, List.getElem?_eq_getElem hil⟩
      have hpi : P[i] = p := by rw [List.getElem?_eq_getElem hil] at hp; simpa using hp
      have hpc := Hcl.out p (List.mem_of_getElem? hp)
      obtain ⟨co, cc, hck⟩ := hTx.col i hil
      obtain ⟨ga, oa, htv, ha0, ha1, ha2, ha3, ha4⟩ := hTx.at i hil
      rw [hpi] at hck ha0 ha1 ha2 ha3 ha4
      rw [hck.eq] at ha3
      subst htv
      obtain ⟨m, hm⟩ : ∃ m, m = p.1.cols.length := ⟨_, rfl⟩
      rw [← hm] at ha3
      have a0 : wx.cell? ⟨ga, oa + i * 5, none⟩ = some (.int .i64 p.1.id) := ha0
      have a1 : wx.cell? ⟨ga, oa + i * 5 + 1, none⟩ = some (.int .i64 p.1.ver) := ha1
      have a2 : wx.cell? ⟨ga, oa + i * 5 + 2, none⟩ = some (.string p.1.nm) := ha2
      have a3 : wx.cell? ⟨ga, oa + i * 5 + 3, none⟩ = some (.slice co m cc) := ha3
      have a4 : wx.cell? ⟨ga, oa + i * 5 + 4, none⟩ = some (.int .i64 p.1.key) := ha4
      have q1 := lent_any p.1 co cc wx (by omega) hck.sl hck.no
      unfold LentOut tA at q1
      rw [← hm] at q1
      have HP : Hid (P[i]? = some p ∧ m = p.1.cols.length) := ⟨hp, hm⟩
      clear ha0 ha1 ha2 ha3 ha4 hck hTx hpi hp hpc hm hil
      go_wp2_with fail
      refine q1.mono ?_
      rintro r w2 ⟨⟨g, rfl, hg, hB⟩, t2⟩
      obtain ⟨w3, hw3⟩ : ∃ w3, w3 = w2.alloc (.cells #[.int .i64 p.1.id, .int .i64 p.1.ver, .string p.1.nm, .slice (some ⟨g, 0, none⟩) m (m + 8), .int .i64 p.1.key] 36) := ⟨_, rfl⟩
      obtain ⟨bx, hbx⟩ : ∃ bx, bx = w2.heap.size := ⟨_, rfl⟩
      obtain ⟨w4, hw4⟩ : ∃ w4, w4 = ((((w3.setCell ⟨gw, i * 5, none⟩ (.int .i64 p.1.id)).setCell ⟨gw, i * 5 + 1, none⟩ (.int .i64 p.1.ver)).setCell ⟨gw, i * 5 + 2, none⟩ (.string p.1.nm)).setCell ⟨gw, i * 5 + 3, none⟩ (.slice (some ⟨g, 0, none⟩) m (m + 8))).setCell ⟨gw, i * 5 + 4, none⟩ (.int .i64 p.1.key) := ⟨_, rfl⟩
      obtain ⟨lo', lc', w6, hr6, J6⟩ := J.out.lend (p := p) (g := g) (w2 := w2) (w3 := w3) (w4 := w4) HP.out.1 t2 (by have h := hB; rw [HP.out.2] at h; exact h) hg (by rw [hw3, HP.out.2]) (by rw [hw4, HP.out.2]) (by have := Hn.out; omega) Hn.out
      rw [← HP.out.2] at hr6
      have b3 : w3.heap[bx]? = some (.cells #[.int .i64 p.1.id, .int .i64 p.1.ver, .string p.1.nm, .slice (some ⟨g, 0, none⟩) m (m + 8), .int .i64 p.1.key] 36 (0, 0)) := by rw [hw3, hbx]; exact alloc_new _ _
      have x0 : w3.cell? ⟨bx, 0, none⟩ = some (.int .i64 p.1.id) := blk_cell b3 0
      have x1 : w3.cell? ⟨bx, 1, none⟩ = some (.int .i64 p.1.ver) := blk_cell b3 1
      have x2 : w3.cell? ⟨bx, 2, none⟩ = some (.string p.1.nm) := blk_cell b3 2
      have x3 : w3.cell? ⟨bx, 3, none⟩ = some (.slice (some ⟨g, 0, none⟩) m (m + 8)) := blk_cell b3 3
      have x4 : w3.cell? ⟨bx, 4, none⟩ = some (.int .i64 p.1.key) := blk_cell b3 4
      obtain ⟨cw, hcw, hcs, _⟩ := ((J.out.no t2).no (w' := w3) (by rw [hw3]; exact Tch.alloc _ _ _)).ow
      obtain ⟨⟨y0, hy0⟩, ⟨y1, hy1⟩, ⟨y2, hy2⟩, ⟨y3, hy3⟩, ⟨y4, hy4⟩, hyf⟩ := set5_cells hcw hcs (q := i) (by have := Hn.out; omega) (.int .i64 p.1.id) (.int .i64 p.1.ver) (.string p.1.nm) (.slice (some ⟨g, 0, none⟩) m (m + 8))
      have HW3 : Hid (w3 = _) := hw3
      have HW4 : Hid (w4 = _) := hw4
      have Hbx : Hid (bx = w2.heap.size) := hbx
      have HJ6 : Hid (L2 w1 w6 P gw (i + 1) (gs ++ [g]) n (.slice lo' (i + 1) lc')) := J6
      clear q1 hg hB t2 hw3 hbx hw4 J6 b3 hcw hcs J
      go_upto_region 14 with (fail)
      rw [← HW3.out, ← Hbx.out]
      go_upto_region 15 with (fail)
      rw [← HW4.out]
      clear x0 x1 x2 x3 x4 hy0 hy1 hy2 hy3 hy4 hyf
      go_wp2_with (at_builtin; refine wpList_app _ rfl _ _ 55 rfl rfl _ _ rfl rfl hr6 ?_)
      go_roundg (n - (i + 1))
      case measure => omega
      case rel => exact ⟨i + 1, lo', lc', gs ++ [g], rfl, by first | rfl | (congr 1; omega), by omega, by omega, HJ6⟩
    · have hi' : ¬ (i : Int) < (n : Int) := by omega
      have e : i = n := by omega
      have HJ2 : Hid (L2 w1 wx P gw n gs n (.slice lo n lc)) := by have h := J.out; rw [e] at h; exact h
      clear J
      subst e
      go_wp2_with fail
      exact Hexit.out _ _ _ _ _ _ _ _ _ _ _ _ _ _ _ _ _ _ _ _ _ _ _ _ _ _ _ ⟨lo, lc, gs, rfl, HJ2⟩
end Go.Proofs.Ytkcmpipipelgoaa
