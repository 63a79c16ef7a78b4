import Derived.Test.YtkcmpipipelgoaaKPl1
import Derived.BigQuiet
/- HistoryPlays: the tables of one's own are written over. -/
namespace Go.Proofs.Ytkcmpipipelgoaa
open Go.RowKit Go
set_option maxRecDepth 100000

set_option maxHeartbeats 8000000 in
set_option maxRecDepth 1000000 in
theorem plays5 (wr : World) (gw n : Nat) (hn : n ≤ 1048576) (HJ : Hid (∃ cu, wr.heap[gw]? = some (.cells cu 36 (0, 0)) ∧ cu.size = (n + 8) * 5)) (Q0 : Exit → Act → World → Prop)
    (u0 u1 u2 u3 u4 u5 u6 u7 u8 u9 u11 u12 u13 u14 u15 u16 u17 u18 u19 u20 u21 u22 u24 u25 u26 u27 u28 u29 u30 u31 u32 u33 u34 u35 u36 u37 u38 u39 u40 u41 u42 u43 u44 u45 u46 u47 u48 u49 u50 u51 u52 u53 u54 u55 u56 u57 u58 u59 u60 u61 u62 u63 u64 u65 u66 u67 u68 u69 u70 u71 u72 u73 u74 u75 u76 u77 u78 u79 u80 u81 u82 u83 u84 u85 u86 u87 u88 u89 u90 u91 u92 u93 u94 u95 u96 u97 u98 u99 u100 u101 u102 u103 u104 u105 u106 u107 u108 u109 u110 u111 u112 u113 u114 u115 u116 u117 u118 u119 u120 u121 u122 u123 u124 u125 u126 u127 u128 u129 u130 u131 u132 u133 u134 u135 u136 u137 u138 u139 u140 u141 u142 u143 u144 u145 u146 u147 u148 u149 u150 u151 u152 u153 u154 u155 u156 u157 u158 u159 u160 u161 u162 u163 u164 u165 u166 u167 u168 u169 u170 u171 u172 u173 u174 u175 u176 u177 u178 u179 u180 u181 u182 u183 u184 u185 u186 u187 u188 : Value)
    (Hexit : Hid (∀ (v23 v129 v130 v131 v132 v133 v134 v135 v136 v137 v138 : Value) (wx : World), Hid (Tch (fun g => g = gw) wr wx) → Q0 (.exit 8) ⟨List.toArray (u0 :: u1 :: u2 :: u3 :: u4 :: u5 :: u6 :: u7 :: u8 :: u9 :: (.slice (some ⟨gw, 0, none⟩) (n + 8) (n + 8)) :: u11 :: u12 :: u13 :: u14 :: u15 :: u16 :: u17 :: u18 :: u19 :: u20 :: u21 :: u22 :: (v23) :: u24 :: u25 :: u26 :: u27 :: u28 :: u29 :: u30 :: u31 :: u32 :: u33 :: u34 :: u35 :: u36 :: u37 :: u38 :: u39 :: u40 :: u41 :: u42 :: u43 :: u44 :: u45 :: u46 :: u47 :: u48 :: u49 :: u50 :: u51 :: u52 :: u53 :: u54 :: u55 :: u56 :: u57 :: u58 :: u59 :: u60 :: u61 :: u62 :: u63 :: u64 :: u65 :: u66 :: u67 :: u68 :: u69 :: u70 :: u71 :: u72 :: u73 :: u74 :: u75 :: u76 :: u77 :: u78 :: u79 :: u80 :: u81 :: u82 :: u83 :: u84 :: u85 :: u86 :: u87 :: u88 :: u89 :: u90 :: u91 :: u92 :: u93 :: u94 :: u95 :: u96 :: u97 :: u98 :: u99 :: u100 :: u101 :: u102 :: u103 :: u104 :: u105 :: u106 :: u107 :: u108 :: u109 :: u110 :: u111 :: u112 :: u113 :: u114 :: u115 :: u116 :: u117 :: u118 :: u119 :: u120 :: u121 :: u122 :: u123 :: u124 :: u125 :: u126 :: u127 :: u128 :: (v129) :: (v130) :: (v131) :: (v132) :: (v133) :: (v134) :: (v135) :: (v136) :: (v137) :: (v138) :: u139 :: u140 :: u141 :: u142 :: u143 :: u144 :: u145 :: u146 :: u147 :: u148 :: u149 :: u150 :: u151 :: u152 :: u153 :: u154 :: u155 :: u156 :: u157 :: u158 :: u159 :: u160 :: u161 :: u162 :: u163 :: u164 :: u165 :: u166 :: u167 :: u168 :: u169 :: u170 :: u171 :: u172 :: u173 :: u174 :: u175 :: u176 :: u177 :: u178 :: u179 :: u180 :: u181 :: u182 :: u183 :: u184 :: u185 :: u186 :: u187 :: u188 :: []), []⟩ wx)) :
    Code.wp Try.prog (Code.loop (plB 4)) Q0 ⟨List.toArray (u0 :: u1 :: u2 :: u3 :: u4 :: u5 :: u6 :: u7 :: u8 :: u9 :: (.slice (some ⟨gw, 0, none⟩) (n + 8) (n + 8)) :: u11 :: u12 :: u13 :: u14 :: u15 :: u16 :: u17 :: u18 :: u19 :: u20 :: u21 :: u22 :: (.int .i64 0) :: u24 :: u25 :: u26 :: u27 :: u28 :: u29 :: u30 :: u31 :: u32 :: u33 :: u34 :: u35 :: u36 :: u37 :: u38 :: u39 :: u40 :: u41 :: u42 :: u43 :: u44 :: u45 :: u46 :: u47 :: u48 :: u49 :: u50 :: u51 :: u52 :: u53 :: u54 :: u55 :: u56 :: u57 :: u58 :: u59 :: u60 :: u61 :: u62 :: u63 :: u64 :: u65 :: u66 :: u67 :: u68 :: u69 :: u70 :: u71 :: u72 :: u73 :: u74 :: u75 :: u76 :: u77 :: u78 :: u79 :: u80 :: u81 :: u82 :: u83 :: u84 :: u85 :: u86 :: u87 :: u88 :: u89 :: u90 :: u91 :: u92 :: u93 :: u94 :: u95 :: u96 :: u97 :: u98 :: u99 :: u100 :: u101 :: u102 :: u103 :: u104 :: u105 :: u106 :: u107 :: u108 :: u109 :: u110 :: u111 :: u112 :: u113 :: u114 :: u115 :: u116 :: u117 :: u118 :: u119 :: u120 :: u121 :: u122 :: u123 :: u124 :: u125 :: u126 :: u127 :: u128 :: u129 :: u130 :: u131 :: u132 :: u133 :: u134 :: u135 :: u136 :: u137 :: u138 :: u139 :: u140 :: u141 :: u142 :: u143 :: u144 :: u145 :: u146 :: u147 :: u148 :: u149 :: u150 :: u151 :: u152 :: u153 :: u154 :: u155 :: u156 :: u157 :: u158 :: u159 :: u160 :: u161 :: u162 :: u163 :: u164 :: u165 :: u166 :: u167 :: u168 :: u169 :: u170 :: u171 :: u172 :: u173 :: u174 :: u175 :: u176 :: u177 :: u178 :: u179 :: u180 :: u181 :: u182 :: u183 :: u184 :: u185 :: u186 :: u187 :: u188 :: []), []⟩ wr := by
  conv => arg 2; arg 1; whnf
  go_loopg [23] (n + 8) (fun kx s23 wx => ∃ q : Nat, s23 = .int .i64 q ∧ n + 8 - q ≤ kx ∧ q ≤ n + 8 ∧ Hid ((∃ cu, wx.heap[gw]? = some (.cells cu 36 (0, 0)) ∧ cu.size = (n + 8) * 5) ∧ Tch (fun g => g = gw) wr wx))
  case atStart => exact ⟨0, rfl, by omega, by omega, (⟨HJ.out, Tch.refl _ _⟩ : (∃ cu, wr.heap[gw]? = some (.cells cu 36 (0, 0)) ∧ cu.size = (n + 8) * 5) ∧ Tch (fun g => g = gw) wr wr)⟩
  case round =>
    rename World => wx
    obtain ⟨q, rfl, hkx, hq2, J⟩ := hrel
    by_cases hi : q < n + 8
    · have hi' : (q : Int) < (n : Int) + 8 := by omega
      obtain ⟨cw, hcw, hcs⟩ := J.out.1
      obtain ⟨⟨y0, hy0⟩, ⟨y1, hy1⟩, ⟨y2, hy2⟩, ⟨y3, hy3⟩, ⟨y4, hy4⟩, hyf⟩ := set5_cells hcw hcs (q := q) (by omega) (.int .i64 (-3)) (.int .i64 0) (.string ⟨#[]⟩) (.slice none 0 0)
      obtain ⟨w3, hw3⟩ : ∃ w3, w3 = ((((wx.setCell ⟨gw, q * 5, none⟩ (.int .i64 (-3))).setCell ⟨gw, q * 5 + 1, none⟩ (.int .i64 0)).setCell ⟨gw, q * 5 + 2, none⟩ (.string ⟨#[]⟩)).setCell ⟨gw, q * 5 + 3, none⟩ (.slice none 0 0)).setCell ⟨gw, q * 5 + 4, none⟩ (.int .i64 0) := ⟨_, rfl⟩
      have HJ3 : Hid ((∃ cu, w3.heap[gw]? = some (.cells cu 36 (0, 0)) ∧ cu.size = (n + 8) * 5) ∧ Tch (fun g => g = gw) wr w3) := by
        rw [hw3]
        exact ⟨⟨_, blk_set (blk_set (blk_set (blk_set (blk_set hcw _) _) _) _) _, by simp [hcs]⟩, J.out.2.trans' (((((Tch.setCell (fun k => k = gw) wx ⟨gw, q * 5, none⟩ _ rfl).setCellR _ _ rfl).setCellR _ _ rfl).setCellR _ _ rfl).setCellR _ _ rfl)⟩
      have HW3 : Hid (w3 = _) := hw3
      clear J hcw hcs hw3
      go_upto_region 32 with (fail)
      rw [← HW3.out]
      clear hy0 hy1 hy2 hy3 hy4 hyf
      go_wp2_with fail
      go_roundg (n + 8 - (q + 1))
      case measure => omega
      case rel => exact ⟨q + 1, by first | rfl | (congr 1; omega), by omega, by omega, HJ3⟩
    · have hi' : ¬ (q : Int) < (n : Int) + 8 := by omega
      have HJ2 : Hid (Tch (fun g => g = gw) wr wx) := J.out.2
      clear J
      go_wp2_with fail
      exact Hexit.out _ _ _ _ _ _ _ _ _ _ _ _ HJ2
end Go.Proofs.Ytkcmpipipelgoaa
