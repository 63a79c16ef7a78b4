import Derived.Test.YtkcmpipipelgoaaKPl1
import Derived.BigQuiet
/- HistoryPlays: places behind the tables are marked. -/
namespace Go.Proofs.Ytkcmpipipelgoaa
open Go.RowKit Go
set_option maxRecDepth 100000

set_option maxHeartbeats 8000000 in
set_option maxRecDepth 1000000 in
theorem plays3 (w1 wr : World) (P : List (Tbl × Value)) (gw n : Nat) (gs : List Nat) (lv : Value) (hn : n ≤ 1048576) (Hn : Hid (n = P.length)) (HJ : Hid (L2 w1 wr P gw P.length gs n lv)) (Q0 : Exit → Act → World → Prop)
    (u0 u1 u2 u3 u4 u5 u6 u7 u8 u9 u11 u12 u13 u14 u16 u17 u18 u19 u20 u21 u22 u23 u24 u25 u26 u27 u28 u29 u30 u31 u32 u33 u34 u35 u36 u37 u38 u39 u40 u41 u42 u43 u44 u45 u46 u47 u48 u49 u50 u51 u52 u53 u54 u55 u56 u57 u58 u59 u60 u61 u62 u63 u64 u65 u66 u67 u68 u69 u70 u71 u72 u73 u74 u75 u76 u77 u78 u79 u80 u81 u82 u83 u84 u85 u86 u87 u88 u89 u90 u91 u92 u93 u94 u95 u96 u97 u98 u99 u100 u101 u102 u103 u104 u105 u106 u107 u108 u109 u110 u111 u112 u113 u114 u115 u116 u117 u118 u119 u120 u121 u122 u123 u124 u125 u126 u127 u128 u129 u130 u131 u132 u133 u134 u135 u136 u137 u138 u139 u140 u141 u142 u143 u144 u145 u146 u147 u148 u149 u150 u151 u152 u153 u154 u155 u156 u157 u158 u159 u160 u161 u162 u163 u164 u165 u166 u167 u168 u169 u170 u171 u172 u173 u174 u175 u176 u177 u178 u179 u180 u181 u182 u183 u184 u185 u186 u187 u188 : Value)
    (Hexit : Hid (∀ (v15 v64 v65 v66 v67 v68 v69 v70 v71 v72 v73 v74 v75 : Value) (wx : World), Hid (L2 w1 wx P gw P.length gs (n + 8) lv) → Q0 (.exit 4) ⟨List.toArray (u0 :: u1 :: u2 :: u3 :: u4 :: u5 :: u6 :: u7 :: u8 :: u9 :: (.slice (some ⟨gw, 0, none⟩) (n + 8) (n + 8)) :: u11 :: u12 :: u13 :: u14 :: (v15) :: u16 :: u17 :: u18 :: u19 :: u20 :: u21 :: u22 :: u23 :: u24 :: u25 :: u26 :: u27 :: u28 :: u29 :: u30 :: u31 :: u32 :: u33 :: u34 :: u35 :: u36 :: u37 :: u38 :: u39 :: u40 :: u41 :: u42 :: u43 :: u44 :: u45 :: u46 :: u47 :: u48 :: u49 :: u50 :: u51 :: u52 :: u53 :: u54 :: u55 :: u56 :: u57 :: u58 :: u59 :: u60 :: u61 :: u62 :: u63 :: (v64) :: (v65) :: (v66) :: (v67) :: (v68) :: (v69) :: (v70) :: (v71) :: (v72) :: (v73) :: (v74) :: (v75) :: u76 :: u77 :: u78 :: u79 :: u80 :: u81 :: u82 :: u83 :: u84 :: u85 :: u86 :: u87 :: u88 :: u89 :: u90 :: u91 :: u92 :: u93 :: u94 :: u95 :: u96 :: u97 :: u98 :: u99 :: u100 :: u101 :: u102 :: u103 :: u104 :: u105 :: u106 :: u107 :: u108 :: u109 :: u110 :: u111 :: u112 :: u113 :: u114 :: u115 :: u116 :: u117 :: u118 :: u119 :: u120 :: u121 :: u122 :: u123 :: u124 :: u125 :: u126 :: u127 :: u128 :: u129 :: u130 :: u131 :: u132 :: u133 :: u134 :: u135 :: u136 :: u137 :: u138 :: u139 :: u140 :: u141 :: u142 :: u143 :: u144 :: u145 :: u146 :: u147 :: u148 :: u149 :: u150 :: u151 :: u152 :: u153 :: u154 :: u155 :: u156 :: u157 :: u158 :: u159 :: u160 :: u161 :: u162 :: u163 :: u164 :: u165 :: u166 :: u167 :: u168 :: u169 :: u170 :: u171 :: u172 :: u173 :: u174 :: u175 :: u176 :: u177 :: u178 :: u179 :: u180 :: u181 :: u182 :: u183 :: u184 :: u185 :: u186 :: u187 :: u188 :: []), []⟩ wx)) :
    Code.wp Try.prog (Code.loop (plB 2)) Q0 ⟨List.toArray (u0 :: u1 :: u2 :: u3 :: u4 :: u5 :: u6 :: u7 :: u8 :: u9 :: (.slice (some ⟨gw, 0, none⟩) (n + 8) (n + 8)) :: u11 :: u12 :: u13 :: u14 :: (.int .i64 n) :: u16 :: u17 :: u18 :: u19 :: u20 :: u21 :: u22 :: u23 :: u24 :: u25 :: u26 :: u27 :: u28 :: u29 :: u30 :: u31 :: u32 :: u33 :: u34 :: u35 :: u36 :: u37 :: u38 :: u39 :: u40 :: u41 :: u42 :: u43 :: u44 :: u45 :: u46 :: u47 :: u48 :: u49 :: u50 :: u51 :: u52 :: u53 :: u54 :: u55 :: u56 :: u57 :: u58 :: u59 :: u60 :: u61 :: u62 :: u63 :: u64 :: u65 :: u66 :: u67 :: u68 :: u69 :: u70 :: u71 :: u72 :: u73 :: u74 :: u75 :: u76 :: u77 :: u78 :: u79 :: u80 :: u81 :: u82 :: u83 :: u84 :: u85 :: u86 :: u87 :: u88 :: u89 :: u90 :: u91 :: u92 :: u93 :: u94 :: u95 :: u96 :: u97 :: u98 :: u99 :: u100 :: u101 :: u102 :: u103 :: u104 :: u105 :: u106 :: u107 :: u108 :: u109 :: u110 :: u111 :: u112 :: u113 :: u114 :: u115 :: u116 :: u117 :: u118 :: u119 :: u120 :: u121 :: u122 :: u123 :: u124 :: u125 :: u126 :: u127 :: u128 :: u129 :: u130 :: u131 :: u132 :: u133 :: u134 :: u135 :: u136 :: u137 :: u138 :: u139 :: u140 :: u141 :: u142 :: u143 :: u144 :: u145 :: u146 :: u147 :: u148 :: u149 :: u150 :: u151 :: u152 :: u153 :: u154 :: u155 :: u156 :: u157 :: u158 :: u159 :: u160 :: u161 :: u162 :: u163 :: u164 :: u165 :: u166 :: u167 :: u168 :: u169 :: u170 :: u171 :: u172 :: u173 :: u174 :: u175 :: u176 :: u177 :: u178 :: u179 :: u180 :: u181 :: u182 :: u183 :: u184 :: u185 :: u186 :: u187 :: u188 :: []), []⟩ wr := by
  conv => arg 2; arg 1; whnf
  go_loopg [15] 8 (fun kx s15 wx => ∃ q : Nat, s15 = .int .i64 q ∧ n + 8 - q ≤ kx ∧ n ≤ q ∧ q ≤ n + 8 ∧ Hid (L2 w1 wx P gw P.length gs q lv))
  case atStart => exact ⟨n, rfl, by omega, by omega, by omega, HJ⟩
  case round =>
    rename World => wx
    obtain ⟨q, rfl, hkx, hq1, hq2, J⟩ := hrel
    by_cases hi : q < n + 8
    · have hi' : (q : Int) < (n : Int) + 8 := by omega
      have hw71 : IntKind.i64.wrap (71 + (q : Int)) = 71 + (q : Int) := wrap_of (by omega) (by omega)
      obtain ⟨cw, hcw, hcs, _⟩ := J.out.ow
      obtain ⟨⟨y0, hy0⟩, _, _, _, _, hyf⟩ := set5_cells hcw hcs (q := q) (by have := Hn.out; omega) (.int .i64 0) (.int .i64 0) (.int .i64 0) (.int .i64 0)
      obtain ⟨w3, hw3⟩ : ∃ w3, w3 = wx.setCell ⟨gw, q * 5, none⟩ (.int .i64 (71 + (q : Int))) := ⟨_, rfl⟩
      have HJ3 : Hid (L2 w1 w3 P gw P.length gs (q + 1) lv) := by rw [hw3]; exact J.out.mark (by have := Hn.out; omega) (by have := Hn.out; omega)
      have HW3 : Hid (w3 = _) := hw3
      clear J hcw hcs hw3
      go_upto_region 18 with (fail)
      rw [← HW3.out]
      clear hy0 hyf hw71
      go_wp2_with fail
      go_roundg (n + 8 - (q + 1))
      case measure => omega
      case rel => exact ⟨q + 1, by first | rfl | (congr 1; omega), by omega, by omega, by omega, HJ3⟩
    · have hi' : ¬ (q : Int) < (n : Int) + 8 := by omega
      have e : q = n + 8 := by omega
      have HJ2 : Hid (L2 w1 wx P gw P.length gs (n + 8) lv) := by have h := J.out; rw [e] at h; exact h
      clear J
      go_wp2_with fail
      exact Hexit.out _ _ _ _ _ _ _ _ _ _ _ _ _ _ HJ2
end Go.Proofs.Ytkcmpipipelgoaa
