import Derived.Test.YtkcmpipipelgoaaKPlB
import Derived.BigQuiet
/- HistoryPlays: the steps. -/
namespace Go.Proofs.Ytkcmpipipelgoaa
open Go.RowKit Go
set_option maxRecDepth 100000

set_option maxHeartbeats 8000000 in
set_option maxRecDepth 1000000 in
theorem plays6 (W wr : World) (b M m sc : Nat) (so : Option Addr) (ops : List Opd) (hM : M ≤ 2000000) (Hm : Hid (m = ops.length)) (HJ : Hid (∃ o, PL W wr o b M 0 so ops)) (Q0 : Exit → Act → World → Prop)
    (u0 u1 u3 u4 u5 u6 u7 u9 u10 u11 u12 u13 u14 u15 u16 u17 u18 u19 u20 u21 u22 u23 u25 u26 u27 u28 u29 u30 u31 u32 u33 u34 u35 u36 u37 u38 u39 u40 u41 u42 u43 u44 u45 u46 u47 u48 u49 u50 u51 u52 u53 u54 u55 u56 u57 u58 u59 u60 u61 u62 u63 u64 u65 u66 u67 u68 u69 u70 u71 u72 u73 u74 u75 u76 u77 u78 u79 u80 u81 u82 u83 u84 u85 u86 u87 u88 u89 u90 u91 u92 u93 u94 u95 u96 u97 u98 u99 u100 u101 u102 u103 u104 u105 u106 u107 u108 u109 u110 u111 u112 u113 u114 u115 u116 u117 u118 u119 u120 u121 u122 u123 u124 u125 u126 u127 u128 u129 u130 u131 u132 u133 u134 u135 u136 u137 u138 u139 u140 u141 u142 u143 u144 u145 u146 u147 u148 u149 u150 u151 u152 u153 u154 u155 u156 u157 u158 u159 u160 u161 u162 u163 u164 u165 u166 u167 u168 u169 u170 u171 u172 u173 u174 u175 u176 u177 u178 u179 u180 u181 u182 u183 u184 u185 u186 u187 u188 : Value)
    (Hexit : Hid (∀ (v6 v24 v25 v26 v165 v166 v167 v168 v169 v170 v171 v172 v173 v174 v175 v176 v177 v178 v179 v180 v181 v182 v183 v184 v185 v186 v187 v188 : Value) (wx : World), Hid (Tch (fun _ => False) W wx) → Q0 (.exit 10) ⟨List.toArray (u0 :: u1 :: (.slice so m sc) :: u3 :: u4 :: u5 :: (v6) :: u7 :: (.pointer (some ⟨b, 0, none⟩)) :: u9 :: u10 :: u11 :: u12 :: u13 :: u14 :: u15 :: u16 :: u17 :: u18 :: u19 :: u20 :: u21 :: u22 :: u23 :: (v24) :: (v25) :: (v26) :: u27 :: u28 :: u29 :: u30 :: u31 :: u32 :: u33 :: u34 :: u35 :: u36 :: u37 :: u38 :: u39 :: u40 :: u41 :: u42 :: u43 :: u44 :: u45 :: u46 :: u47 :: u48 :: u49 :: u50 :: u51 :: u52 :: u53 :: u54 :: u55 :: u56 :: u57 :: u58 :: u59 :: u60 :: u61 :: u62 :: u63 :: u64 :: u65 :: u66 :: u67 :: u68 :: u69 :: u70 :: u71 :: u72 :: u73 :: u74 :: u75 :: u76 :: u77 :: u78 :: u79 :: u80 :: u81 :: u82 :: u83 :: u84 :: u85 :: u86 :: u87 :: u88 :: u89 :: u90 :: u91 :: u92 :: u93 :: u94 :: u95 :: u96 :: u97 :: u98 :: u99 :: u100 :: u101 :: u102 :: u103 :: u104 :: u105 :: u106 :: u107 :: u108 :: u109 :: u110 :: u111 :: u112 :: u113 :: u114 :: u115 :: u116 :: u117 :: u118 :: u119 :: u120 :: u121 :: u122 :: u123 :: u124 :: u125 :: u126 :: u127 :: u128 :: u129 :: u130 :: u131 :: u132 :: u133 :: u134 :: u135 :: u136 :: u137 :: u138 :: u139 :: u140 :: u141 :: u142 :: u143 :: u144 :: u145 :: u146 :: u147 :: u148 :: u149 :: u150 :: u151 :: u152 :: u153 :: u154 :: u155 :: u156 :: u157 :: u158 :: u159 :: u160 :: u161 :: u162 :: u163 :: u164 :: (v165) :: (v166) :: (v167) :: (v168) :: (v169) :: (v170) :: (v171) :: (v172) :: (v173) :: (v174) :: (v175) :: (v176) :: (v177) :: (v178) :: (v179) :: (v180) :: (v181) :: (v182) :: (v183) :: (v184) :: (v185) :: (v186) :: (v187) :: (v188) :: []), []⟩ wx)) :
    Code.wp Try.prog (Code.loop (plB 5)) Q0 ⟨List.toArray (u0 :: u1 :: (.slice so m sc) :: u3 :: u4 :: u5 :: u6 :: u7 :: (.pointer (some ⟨b, 0, none⟩)) :: u9 :: u10 :: u11 :: u12 :: u13 :: u14 :: u15 :: u16 :: u17 :: u18 :: u19 :: u20 :: u21 :: u22 :: u23 :: (.int .i64 0) :: u25 :: u26 :: u27 :: u28 :: u29 :: u30 :: u31 :: u32 :: u33 :: u34 :: u35 :: u36 :: u37 :: u38 :: u39 :: u40 :: u41 :: u42 :: u43 :: u44 :: u45 :: u46 :: u47 :: u48 :: u49 :: u50 :: u51 :: u52 :: u53 :: u54 :: u55 :: u56 :: u57 :: u58 :: u59 :: u60 :: u61 :: u62 :: u63 :: u64 :: u65 :: u66 :: u67 :: u68 :: u69 :: u70 :: u71 :: u72 :: u73 :: u74 :: u75 :: u76 :: u77 :: u78 :: u79 :: u80 :: u81 :: u82 :: u83 :: u84 :: u85 :: u86 :: u87 :: u88 :: u89 :: u90 :: u91 :: u92 :: u93 :: u94 :: u95 :: u96 :: u97 :: u98 :: u99 :: u100 :: u101 :: u102 :: u103 :: u104 :: u105 :: u106 :: u107 :: u108 :: u109 :: u110 :: u111 :: u112 :: u113 :: u114 :: u115 :: u116 :: u117 :: u118 :: u119 :: u120 :: u121 :: u122 :: u123 :: u124 :: u125 :: u126 :: u127 :: u128 :: u129 :: u130 :: u131 :: u132 :: u133 :: u134 :: u135 :: u136 :: u137 :: u138 :: u139 :: u140 :: u141 :: u142 :: u143 :: u144 :: u145 :: u146 :: u147 :: u148 :: u149 :: u150 :: u151 :: u152 :: u153 :: u154 :: u155 :: u156 :: u157 :: u158 :: u159 :: u160 :: u161 :: u162 :: u163 :: u164 :: u165 :: u166 :: u167 :: u168 :: u169 :: u170 :: u171 :: u172 :: u173 :: u174 :: u175 :: u176 :: u177 :: u178 :: u179 :: u180 :: u181 :: u182 :: u183 :: u184 :: u185 :: u186 :: u187 :: u188 :: []), []⟩ wr := by
  conv => arg 2; arg 1; whnf
  go_loopg [24, 25, 26] 200 (fun kx s24 s25 s26 wx => ∃ k : Nat, s24 = .int .i64 k ∧ 200 - k ≤ kx ∧ k ≤ 200 ∧ Hid (∃ o, PL W wx o b M k so ops))
  case atStart => exact ⟨0, rfl, by omega, by omega, HJ⟩
  case round =>
    rename World => wx
    obtain ⟨k, rfl, hkx, hkl, J⟩ := hrel
    by_cases h1 : k < m
    · have h1' : (k : Int) < (m : Int) := by omega
      by_cases h2 : k < 200
      · have h2' : (k : Int) < 200 := by omega
        obtain ⟨o, JP⟩ := J.out
        obtain ⟨d, hd⟩ : ∃ d, ops[k]? = some d := ⟨_, List.getElem?_eq_getElem (by have := Hm.out; omega)⟩
        have q1 := JP.step hM h2 hd
        obtain ⟨g, q, rfl, hc⟩ := JP.sc.get hd
        have c0 : wx.cell? ⟨g, q + k * 9, none⟩ = some (.int .i64 d.k) := hc 0 _ (by omega) rfl
        have c1 : wx.cell? ⟨g, q + k * 9 + 1, none⟩ = some (.int .i64 d.on) := hc 1 _ (by omega) rfl
        have c2 : wx.cell? ⟨g, q + k * 9 + 2, none⟩ = some (.int .i64 d.x) := hc 2 _ (by omega) rfl
        have c3 : wx.cell? ⟨g, q + k * 9 + 3, none⟩ = some (.int .i64 d.i) := hc 3 _ (by omega) rfl
        have c4 : wx.cell? ⟨g, q + k * 9 + 4, none⟩ = some (.int .i64 d.t.id) := hc 4 _ (by omega) rfl
        have c5 : wx.cell? ⟨g, q + k * 9 + 5, none⟩ = some (.int .i64 d.t.ver) := hc 5 _ (by omega) rfl
        have c6 : wx.cell? ⟨g, q + k * 9 + 6, none⟩ = some (.string d.t.nm) := hc 6 _ (by omega) rfl
        have c7 : wx.cell? ⟨g, q + k * 9 + 7, none⟩ = some (.slice d.ao d.t.cols.length d.c) := hc 7 _ (by omega) rfl
        have c8 : wx.cell? ⟨g, q + k * 9 + 8, none⟩ = some (.int .i64 d.t.key) := hc 8 _ (by omega) rfl
        unfold opV at q1
        clear J JP hc hd
        go_wp2_with fail
        refine q1.mono ?_
        rintro e w3 ⟨rfl, o3, J3⟩
        have q2 := J3.kept (by omega)
        clear q1 J3 c0 c1 c2 c3 c4 c5 c6 c7 c8
        go_wp2_with fail
        refine q2.mono ?_
        rintro e w4 ⟨rfl, J4⟩
        have HJ4 : Hid (∃ o, PL W w4 o b M (k + 1) (some ⟨g, q, none⟩) ops) := J4
        clear q2 J4
        go_wp2_with fail
        go_roundg (200 - (k + 1))
        case measure => omega
        case rel => exact ⟨k + 1, by first | rfl | (congr 1; omega), by omega, by omega, HJ4⟩
      · have h2' : ¬ (k : Int) < 200 := by omega
        have HT : Hid (Tch (fun _ => False) W wx) := by obtain ⟨o, JP⟩ := J.out; exact JP.t
        clear J
        go_wp2_with fail
        exact Hexit.out _ _ _ _ _ _ _ _ _ _ _ _ _ _ _ _ _ _ _ _ _ _ _ _ _ _ _ _ _ HT
    · have h1' : ¬ (k : Int) < (m : Int) := by omega
      have HT : Hid (Tch (fun _ => False) W wx) := by obtain ⟨o, JP⟩ := J.out; exact JP.t
      clear J
      go_wp2_with fail
      exact Hexit.out _ _ _ _ _ _ _ _ _ _ _ _ _ _ _ _ _ _ _ _ _ _ _ _ _ _ _ _ _ HT
end Go.Proofs.Ytkcmpipipelgoaa
