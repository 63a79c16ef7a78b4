import Derived.Test.YtececlalnkiafaaHSy1
/- HistoryStays: the law's third loop. -/
namespace Go.Proofs.Ytececlalnkiafaa
open Go.RowKit Go
set_option maxRecDepth 100000

def loops : Code → List Code
  | .loop c => c :: loops c
  | .seq a b => loops a ++ loops b
  | .block _ c => loops c
  | .scope c => loops c
  | .cond _ a b => loops a ++ loops b
  | _ => []
noncomputable def staysBody3 : Code := (Try.f3.body.elim [] loops).getD 2 .skip

set_option maxHeartbeats 8000000 in
set_option maxRecDepth 1000000 in
theorem stays3 (w wr : World) (b B i m lc ver gw : Nat) (bg n0 n1 n2 n3 : Int) (h : Hs) (ws : List (List Int)) (hil : i ≤ 60) (hmb : m ≤ 541) (_hm1 : 1 ≤ m) (_hbg1 : 10 ≤ bg) (_hbg2 : bg ≤ 9 + m)
    (HJ : Hid (S1 w wr b B (.slice (some ⟨gw, 0, none⟩) m lc) i h ver ws n0 n1 n2 n3)) (HE : Hid (h.b = bg ∧ m = ws.length ∧ h.l = 9 + (m : Int)))
    (HWs : Hid (∀ W, Tch (fun _ => False) wr W → ∀ ix vs k x, ws[ix]? = some vs → k < 4 → vs[k]? = some x → W.cell? ⟨gw, ix * 4 + k, none⟩ = some (.int .i64 x))) (Q0 : Exit → Act → World → Prop)
    (u0 u1 u2 u3 u5 u9 u10 u11 u12 u13 u14 u15 u16 u17 u19 u20 u21 u22 u23 u24 u25 u26 u27 u28 u29 u30 u31 u32 u33 u34 u35 u36 u37 u38 u39 u40 u41 u42 u43 u44 u45 u46 u47 u48 u49 u50 u51 u52 u53 u54 u55 u56 u57 u58 u59 u60 u61 u62 u63 u64 u65 u66 u67 u68 u69 u70 u71 u72 u73 u74 u75 u76 u77 u78 u79 u80 u81 u82 u83 u84 u85 u86 u87 u88 u89 u90 u91 u92 u93 u94 u95 u96 u97 u98 u99 u100 u101 u102 u103 u104 u105 u106 u107 u108 u109 u110 u111 u112 u113 u114 u115 u116 u117 u118 u119 u120 u121 u122 u123 u124 u125 u126 u127 u128 u129 u130 u131 u132 u133 u134 u135 u136 u137 u138 u139 u140 u141 u142 u143 u144 u145 u146 u147 u148 u149 u150 u151 u152 u153 u154 u155 u156 u157 u158 u159 u160 u161 u162 u163 u164 u165 u166 u167 u168 u169 u170 u171 u172 u173 u174 u175 u176 u177 u178 u179 u180 u181 u182 u183 u184 u185 u186 u187 u188 u189 u190 u191 u192 u193 u194 u195 u196 u197 u198 u199 u200 u201 u202 u203 u204 u205 u206 u207 u208 u209 u210 u211 u212 u213 u214 u215 u216 u217 u218 u219 u220 u221 u222 u223 u224 u225 u226 u227 u228 u229 u230 u231 u232 u233 u234 u235 u236 u237 u238 u239 u240 u241 u242 u243 u244 u245 u246 u247 u248 u249 u250 u251 u252 u253 u254 u255 u256 u257 u258 u259 u260 u261 u262 u263 u264 u265 u266 u267 u268 : Value)
    (Hexit : Hid (∀ (v2 v18 v19 v20 v21 v22 v23 v24 v25 v166 v167 v168 v169 v170 v171 v172 v173 v174 v175 v176 v177 v178 v179 v180 v181 v182 v183 v184 v185 v186 v187 v188 v189 v190 v191 v192 v193 v194 v195 v196 v197 v198 v199 v200 v201 v202 v203 v204 v205 v206 v207 v208 v209 v210 v211 v212 v213 v214 v215 v216 v217 v218 v219 v220 v221 v222 v223 v224 v225 v226 v227 v228 v229 v230 v231 v232 v233 v234 v235 v236 v237 v238 v239 v240 v241 v242 v243 v244 v245 v246 v247 v248 v249 v250 v251 v252 v253 v254 v255 v256 v257 v258 v259 v260 v261 v262 v263 v264 v265 v266 v267 v268 : Value) (wx : World), Hid (Tch (fun _ => False) wr wx) → Q0 (.exit 5) ⟨List.toArray (u0 :: u1 :: (v2) :: u3 :: (.pointer (some ⟨b, 0, none⟩)) :: u5 :: (.int .i64 bg) :: (.int .i64 (9 + (m : Int))) :: (.slice (some ⟨gw, 0, none⟩) m lc) :: u9 :: u10 :: u11 :: u12 :: u13 :: u14 :: u15 :: u16 :: u17 :: (v18) :: (v19) :: (v20) :: (v21) :: (v22) :: (v23) :: (v24) :: (v25) :: u26 :: u27 :: u28 :: u29 :: u30 :: u31 :: u32 :: u33 :: u34 :: u35 :: u36 :: u37 :: u38 :: u39 :: u40 :: u41 :: u42 :: u43 :: u44 :: u45 :: u46 :: u47 :: u48 :: u49 :: u50 :: u51 :: u52 :: u53 :: u54 :: u55 :: u56 :: u57 :: u58 :: u59 :: u60 :: u61 :: u62 :: u63 :: u64 :: u65 :: u66 :: u67 :: u68 :: u69 :: u70 :: u71 :: u72 :: u73 :: u74 :: u75 :: u76 :: u77 :: u78 :: u79 :: u80 :: u81 :: u82 :: u83 :: u84 :: u85 :: u86 :: u87 :: u88 :: u89 :: u90 :: u91 :: u92 :: u93 :: u94 :: u95 :: u96 :: u97 :: u98 :: u99 :: u100 :: u101 :: u102 :: u103 :: u104 :: u105 :: u106 :: u107 :: u108 :: u109 :: u110 :: u111 :: u112 :: u113 :: u114 :: u115 :: u116 :: u117 :: u118 :: u119 :: u120 :: u121 :: u122 :: u123 :: u124 :: u125 :: u126 :: u127 :: u128 :: u129 :: u130 :: u131 :: u132 :: u133 :: u134 :: u135 :: u136 :: u137 :: u138 :: u139 :: u140 :: u141 :: u142 :: u143 :: u144 :: u145 :: u146 :: u147 :: u148 :: u149 :: u150 :: u151 :: u152 :: u153 :: u154 :: u155 :: u156 :: u157 :: u158 :: u159 :: u160 :: u161 :: u162 :: u163 :: u164 :: u165 :: (v166) :: (v167) :: (v168) :: (v169) :: (v170) :: (v171) :: (v172) :: (v173) :: (v174) :: (v175) :: (v176) :: (v177) :: (v178) :: (v179) :: (v180) :: (v181) :: (v182) :: (v183) :: (v184) :: (v185) :: (v186) :: (v187) :: (v188) :: (v189) :: (v190) :: (v191) :: (v192) :: (v193) :: (v194) :: (v195) :: (v196) :: (v197) :: (v198) :: (v199) :: (v200) :: (v201) :: (v202) :: (v203) :: (v204) :: (v205) :: (v206) :: (v207) :: (v208) :: (v209) :: (v210) :: (v211) :: (v212) :: (v213) :: (v214) :: (v215) :: (v216) :: (v217) :: (v218) :: (v219) :: (v220) :: (v221) :: (v222) :: (v223) :: (v224) :: (v225) :: (v226) :: (v227) :: (v228) :: (v229) :: (v230) :: (v231) :: (v232) :: (v233) :: (v234) :: (v235) :: (v236) :: (v237) :: (v238) :: (v239) :: (v240) :: (v241) :: (v242) :: (v243) :: (v244) :: (v245) :: (v246) :: (v247) :: (v248) :: (v249) :: (v250) :: (v251) :: (v252) :: (v253) :: (v254) :: (v255) :: (v256) :: (v257) :: (v258) :: (v259) :: (v260) :: (v261) :: (v262) :: (v263) :: (v264) :: (v265) :: (v266) :: (v267) :: (v268) :: []), []⟩ wx)) :
    Code.wp Try.prog (Code.loop staysBody3) Q0 ⟨List.toArray (u0 :: u1 :: u2 :: u3 :: (.pointer (some ⟨b, 0, none⟩)) :: u5 :: (.int .i64 bg) :: (.int .i64 (9 + (m : Int))) :: (.slice (some ⟨gw, 0, none⟩) m lc) :: u9 :: u10 :: u11 :: u12 :: u13 :: u14 :: u15 :: u16 :: u17 :: (.int .i64 5) :: u19 :: u20 :: u21 :: u22 :: u23 :: u24 :: u25 :: u26 :: u27 :: u28 :: u29 :: u30 :: u31 :: u32 :: u33 :: u34 :: u35 :: u36 :: u37 :: u38 :: u39 :: u40 :: u41 :: u42 :: u43 :: u44 :: u45 :: u46 :: u47 :: u48 :: u49 :: u50 :: u51 :: u52 :: u53 :: u54 :: u55 :: u56 :: u57 :: u58 :: u59 :: u60 :: u61 :: u62 :: u63 :: u64 :: u65 :: u66 :: u67 :: u68 :: u69 :: u70 :: u71 :: u72 :: u73 :: u74 :: u75 :: u76 :: u77 :: u78 :: u79 :: u80 :: u81 :: u82 :: u83 :: u84 :: u85 :: u86 :: u87 :: u88 :: u89 :: u90 :: u91 :: u92 :: u93 :: u94 :: u95 :: u96 :: u97 :: u98 :: u99 :: u100 :: u101 :: u102 :: u103 :: u104 :: u105 :: u106 :: u107 :: u108 :: u109 :: u110 :: u111 :: u112 :: u113 :: u114 :: u115 :: u116 :: u117 :: u118 :: u119 :: u120 :: u121 :: u122 :: u123 :: u124 :: u125 :: u126 :: u127 :: u128 :: u129 :: u130 :: u131 :: u132 :: u133 :: u134 :: u135 :: u136 :: u137 :: u138 :: u139 :: u140 :: u141 :: u142 :: u143 :: u144 :: u145 :: u146 :: u147 :: u148 :: u149 :: u150 :: u151 :: u152 :: u153 :: u154 :: u155 :: u156 :: u157 :: u158 :: u159 :: u160 :: u161 :: u162 :: u163 :: u164 :: u165 :: u166 :: u167 :: u168 :: u169 :: u170 :: u171 :: u172 :: u173 :: u174 :: u175 :: u176 :: u177 :: u178 :: u179 :: u180 :: u181 :: u182 :: u183 :: u184 :: u185 :: u186 :: u187 :: u188 :: u189 :: u190 :: u191 :: u192 :: u193 :: u194 :: u195 :: u196 :: u197 :: u198 :: u199 :: u200 :: u201 :: u202 :: u203 :: u204 :: u205 :: u206 :: u207 :: u208 :: u209 :: u210 :: u211 :: u212 :: u213 :: u214 :: u215 :: u216 :: u217 :: u218 :: u219 :: u220 :: u221 :: u222 :: u223 :: u224 :: u225 :: u226 :: u227 :: u228 :: u229 :: u230 :: u231 :: u232 :: u233 :: u234 :: u235 :: u236 :: u237 :: u238 :: u239 :: u240 :: u241 :: u242 :: u243 :: u244 :: u245 :: u246 :: u247 :: u248 :: u249 :: u250 :: u251 :: u252 :: u253 :: u254 :: u255 :: u256 :: u257 :: u258 :: u259 :: u260 :: u261 :: u262 :: u263 :: u264 :: u265 :: u266 :: u267 :: u268 :: []), []⟩ wr := by
  conv => arg 2; arg 1; whnf
  go_loopg [18, 19, 20, 21, 22, 23, 24, 25] (m + 9) (fun kx s18 s19 s20 s21 s22 s23 s24 s25 wx => ∃ y : Nat, s18 = .int .i64 (5 + (y : Int)) ∧ m + 9 - y ≤ kx ∧ y ≤ m + 9 ∧ Hid (Tch (fun _ => False) wr wx))
  case atStart => exact ⟨0, by first | rfl | (congr 1; omega), by omega, by omega, Tch.refl _ _⟩
  case round =>
    rename World => wx
    obtain ⟨y, rfl, hyx, hyl, JT⟩ := hrel
    by_cases hy : y < m + 9
    · have hy' : 5 + (y : Int) < 9 + (m : Int) + 5 := by omega
      by_cases hx : 5 + (y : Int) < bg
      · have hxg : ¬ 5 + (y : Int) ≥ bg := by omega
        have hxg2 : ¬ bg ≤ 5 + (y : Int) := by omega
        have q1 := list_f (HJ.out.ss.hf.no JT.out) (5 + (y : Int)) (by have := HJ.out.T; omega)
        have q1' : Calls Try.prog 14 #[.pointer (some ⟨b, 0, none⟩), .int .i64 (5 + (y : Int))] wx fun r w' => r = .returned (.tuple #[.slice none 0 0, .int .i64 170]) ∧ Tch (fun _ => False) wx w' := by
          refine q1.mono ?_
          rintro r w' ⟨ho, t⟩
          have hb := HE.out.1
          rcases ho with ⟨_, e⟩ | ⟨e, _⟩
          · exact ⟨e, t⟩
          · omega
        clear q1
        go_wp2_with fail
        refine q1'.mono ?_
        rintro e w5 ⟨rfl, t5⟩
        have JT5 : Hid (Tch (fun _ => False) wr w5) := JT.out.trans' t5
        clear q1' t5
        go_wp2_with fail
        go_loopg [21, 22, 23, 24, 25] 4 (fun kx s21 s22 s23 s24 s25 wz => ∃ k : Nat, s21 = .int .i64 0 ∧ s22 = .int .i64 k ∧ 4 - k ≤ kx ∧ k ≤ 4 ∧ Hid (Tch (fun _ => False) wr wz))
        case atStart => exact ⟨0, rfl, rfl, by omega, by omega, JT5⟩
        case round =>
          rename World => wz
          obtain ⟨k, rfl, rfl, hkx, hkl, JZ⟩ := hrel
          by_cases hk : k < 4
          · have hk' : (k : Int) < 4 := by omega
            have q2 := at_none (HJ.out.ss.hf.no JZ.out) (5 + (y : Int)) (1 + (k : Int)) (by unfold inR; omega) (by have := HJ.out.T; omega) (by unfold atE; rw [if_pos (by have := HE.out.1; omega)])
            go_wp2_with fail
            refine q2.mono ?_
            rintro e w6 ⟨⟨vo6, vc6, rfl⟩, t6⟩
            obtain ⟨w7, hw7⟩ : ∃ w7, w7 = w6.alloc (.cells #[.int .i64 0, .int .i64 0, .string ⟨#[]⟩, .slice vo6 0 vc6, .int .i64 0] 36) := ⟨_, rfl⟩
            have JZ7 : Hid (Tch (fun _ => False) wr w7) := by rw [hw7]; exact (JZ.out.trans' t6).allocR _
            have HW7 : Hid (w7 = _) := hw7
            clear q2 t6 hw7
            go_upto_region 55 with (fail)
            rw [← HW7.out]
            go_wp2_with fail
            go_roundg (4 - (k + 1))
            case measure => omega
            case rel => exact ⟨k + 1, rfl, by first | rfl | (congr 1; omega), by omega, by omega, JZ7⟩
          · have hk' : ¬ (k : Int) < 4 := by omega
            go_wp2_with fail
            go_roundg (m + 9 - (y + 1))
            case measure => omega
            case rel => exact ⟨y + 1, by first | rfl | (congr 1; omega), by omega, by omega, JZ⟩
      · have hxg : 5 + (y : Int) ≥ bg := by omega
        have hxg2 : bg ≤ 5 + (y : Int) := by omega
        obtain ⟨ix, hix⟩ : ∃ ix : Nat, (ix : Int) = min (5 + (y : Int)) (9 + (m : Int)) - 10 := ⟨(min (5 + (y : Int)) (9 + (m : Int)) - 10).toNat, by omega⟩
        obtain ⟨hvs, hixl⟩ := HJ.out.vs (x := 5 + (y : Int)) (by have := HE.out.1; omega) (ix := ix) (by rw [HE.out.2.2]; exact hix)
        have q1 := HJ.out.list hil JT.out (x := 5 + (y : Int)) (by have := HE.out.1; omega)
        have hat := fun k => HJ.out.si.at (x := 5 + (y : Int)) (k := k) (by have := HE.out.1; omega)
        obtain ⟨tv, htv⟩ : ∃ tv : Nat → Int, tv = fun k => toldV h (5 + (y : Int)) k := ⟨_, rfl⟩
        obtain ⟨vs, hvsd⟩ : ∃ vs, vs = [toldV h (5 + (y : Int)) 0, toldV h (5 + (y : Int)) 1, toldV h (5 + (y : Int)) 2, toldV h (5 + (y : Int)) 3] := ⟨_, rfl⟩
        rw [← hvsd] at hvs q1
        have hvk : ∀ k, k < 4 → vs[k]? = some (tv k) := fun k hk => by
          rw [hvsd, htv]
          have hc : k = 0 ∨ k = 1 ∨ k = 2 ∨ k = 3 := by omega
          rcases hc with rfl | rfl | rfl | rfl <;> rfl
        have HVK : Hid (∀ k, k < 4 → vs[k]? = some (tv k)) := hvk
        have HAt : Hid (∀ k : Nat, (tv k = 0 ∧ atE h (5 + (y : Int)) ((k : Int) + 1) = 170) ∨ (1 ≤ tv k ∧ tv k ≤ ver ∧ atE h (5 + (y : Int)) ((k : Int) + 1) = 0 ∧ atT h (5 + (y : Int)) ((k : Int) + 1) = tabT ((k : Int) + 1) (tv k))) := by rw [htv]; exact hat
        have HVS : Hid (ws[ix]? = some vs ∧ vs.length = 4) := ⟨hvs, by rw [hvsd]; rfl⟩
        have hixm : ix < m := by have := HE.out.2.1; omega
        have hixm' : (ix : Int) < (m : Int) := by omega
        have hmin : min (5 + (y : Int)) (9 + (m : Int)) - 10 = (ix : Int) := hix.symm
        clear hix hvs hixl hat htv hvsd hvk
        go_wp2_with fail
        refine q1.mono ?_
        rintro e w5 ⟨⟨ll, lm, lcc, rfl, hlm, hlm9, hrows⟩, t5⟩
        have HRw : Hid (lm = (tvs 0 vs).length ∧ (1 ≤ lm → ∃ g, ll = some ⟨g, 0, none⟩ ∧ ∀ W', Tch (fun _ => False) w5 W' → ∀ q t, (tvs 0 vs)[q]? = some t → W'.cell? ⟨g, q * 5, none⟩ = some (.int .i64 t.id) ∧ W'.cell? ⟨g, q * 5 + 1, none⟩ = some (.int .i64 t.ver))) := ⟨hlm, hrows⟩
        have JT5 : Hid (Tch (fun _ => False) wr w5) := JT.out.trans' t5
        clear q1 t5 hlm hrows
        go_wp2_with fail
        go_loopg [21, 22, 23, 24, 25] 4 (fun kx s21 s22 s23 s24 s25 wz => ∃ k nq : Nat, s21 = .int .i64 nq ∧ s22 = .int .i64 k ∧ 4 - k ≤ kx ∧ k ≤ 4 ∧ nq ≤ k ∧ Hid (Tch (fun _ => False) w5 wz ∧ nq = (tvs 0 (vs.take k)).length))
        case atStart => exact ⟨0, 0, rfl, rfl, by omega, by omega, by omega, Tch.refl _ _, rfl⟩
        case round =>
          rename World => wz
          obtain ⟨k, nq, rfl, rfl, hkx, hkl, hnk, JZ⟩ := hrel
          by_cases hk : k < 4
          · have hk' : (k : Int) < 4 := by omega
            have x0 := HWs.out wz (JT5.out.trans' JZ.out.1) ix vs k (tv k) HVS.out.1 hk (HVK.out k hk)
            obtain ⟨v, hv⟩ : ∃ v, v = tv k := ⟨_, rfl⟩
            rw [← hv] at x0
            rcases HAt.out k with ⟨e0, e1⟩ | ⟨e0, e1, e2, e3⟩
            · have q2 := at_none (HJ.out.ss.hf.no (JT5.out.trans' JZ.out.1)) (5 + (y : Int)) (1 + (k : Int)) (by unfold inR; omega) (by have := HJ.out.T; omega) (by rw [Int.add_comm 1 (k : Int)]; exact e1)
              have HJ9 : Hid (nq = (tvs 0 (vs.take (k + 1))).length) := by show _ = _; rw [tvs_skip (by rw [HVK.out k hk, e0])]; exact JZ.out.2
              rw [← hv] at e0
              clear e1 hv
              subst e0
              go_wp2_with fail
              refine q2.mono ?_
              rintro e w6 ⟨⟨vo6, vc6, rfl⟩, t6⟩
              obtain ⟨w7, hw7⟩ : ∃ w7, w7 = w6.alloc (.cells #[.int .i64 0, .int .i64 0, .string ⟨#[]⟩, .slice vo6 0 vc6, .int .i64 0] 36) := ⟨_, rfl⟩
              have JZ7 : Hid (Tch (fun _ => False) w5 w7 ∧ nq = (tvs 0 (vs.take (k + 1))).length) := ⟨by rw [hw7]; exact (JZ.out.1.trans' t6).allocR _, HJ9.out⟩
              have HW7 : Hid (w7 = _) := hw7
              clear q2 t6 hw7 x0
              go_upto_region 55 with (fail)
              rw [← HW7.out]
              go_wp2_with fail
              go_roundg (4 - (k + 1))
              case measure => omega
              case rel => exact ⟨k + 1, nq, rfl, by first | rfl | (congr 1; omega), by omega, by omega, by omega, JZ7⟩
            · rw [← hv] at e0 e1 e3
              have q2 := at_tab (HJ.out.ss.hf.no (JT5.out.trans' JZ.out.1)) (5 + (y : Int)) (1 + (k : Int)) (by unfold inR; omega) (by have := HJ.out.T; omega) (1 + (k : Int)) v (by rw [Int.add_comm 1 (k : Int)]; exact e2) (by rw [Int.add_comm 1 (k : Int)]; exact e3)
              obtain ⟨ta, tb⟩ := tvs_at (vs := vs) (k := k) (v := v) (by rw [HVK.out k hk, hv]) (by omega)
              rw [← JZ.out.2] at ta tb
              have hnlm : nq < lm := by rw [HRw.out.1]; exact (List.getElem?_eq_some_iff.1 ta).1
              obtain ⟨gl, hgl, hcl⟩ := HRw.out.2 (by omega)
              subst hgl
              have hb1 : (v == 0) = false := by simp; omega
              have hb2 : (v != 0) = true := by simp; omega
              have HTa : Hid ((tvs 0 vs)[nq]? = some (tabT ((k : Int) + 1) v)) := ta
              have HCl : Hid _ := hcl
              have HTb : Hid ((tvs 0 (vs.take (k + 1))).length = nq + 1) := tb
              clear hv e0 e1 e2 e3 ta tb hcl
              go_wp2_with fail
              refine q2.mono ?_
              rintro e w6 ⟨⟨vo6, vc6, rfl⟩, t6⟩
              obtain ⟨T, hT⟩ : ∃ T, T = w6.heap.size := ⟨_, rfl⟩
              obtain ⟨w7, hw7⟩ : ∃ w7, w7 = w6.alloc (.cells #[.int .i64 (1 + (k : Int)), .int .i64 v, .string ⟨#[116]⟩, .slice vo6 2 vc6, .int .i64 0] 36) := ⟨_, rfl⟩
              have b7 : w7.heap[T]? = some (.cells #[.int .i64 (1 + (k : Int)), .int .i64 v, .string ⟨#[116]⟩, .slice vo6 2 vc6, .int .i64 0] 36 (0, 0)) := by rw [hw7, hT]; exact alloc_new _ _
              have t7 : Tch (fun _ => False) w5 w7 := by rw [hw7]; exact (JZ.out.1.trans' t6).allocR _
              obtain ⟨c0, c1⟩ := HCl.out w7 t7 nq _ HTa.out
              have y0 : w7.cell? ⟨T, 0, none⟩ = some (.int .i64 (1 + (k : Int))) := blk_cell b7 0
              have y1 : w7.cell? ⟨T, 1, none⟩ = some (.int .i64 v) := blk_cell b7 1
              have c0' : w7.cell? ⟨gl, nq * 5, none⟩ = some (.int .i64 (1 + (k : Int))) := by rw [c0]; show some (Value.int .i64 ((k : Int) + 1)) = _; rw [Int.add_comm]
              have c1' : w7.cell? ⟨gl, nq * 5 + 1, none⟩ = some (.int .i64 v) := c1
              have JZ7 : Hid (Tch (fun _ => False) w5 w7 ∧ nq + 1 = (tvs 0 (vs.take (k + 1))).length) := ⟨t7, HTb.out.symm⟩
              have HW7 : Hid (w7 = _) := hw7
              have HT7 : Hid (T = w6.heap.size) := hT
              have hnl' : (nq : Int) < (lm : Int) := by omega
              clear q2 t6 hw7 hT b7 t7 x0 c0 c1
              go_upto_region 55 with (fail)
              rw [← HW7.out, ← HT7.out]
              go_upto_region 58 with (fail)
              have hg3 : ¬ (lm : Int) ≤ (nq : Int) := by omega
              have hg4 : ¬ (nq : Int) ≥ (lm : Int) := by omega
              go_wp2_with fail
              go_roundg (4 - (k + 1))
              case measure => omega
              case rel => exact ⟨k + 1, nq + 1, by first | rfl | (congr 1; omega), by first | rfl | (congr 1; omega), by omega, by omega, by omega, JZ7⟩
          · have hk' : ¬ (k : Int) < 4 := by omega
            have hnlm : nq = lm := by
              have h9 := JZ.out.2
              rw [List.take_of_length_le (by rw [HVS.out.2]; omega), ← HRw.out.1] at h9
              exact h9
            subst hnlm
            have JT9 : Hid (Tch (fun _ => False) wr wz) := JT5.out.trans' JZ.out.1
            go_wp2_with fail
            go_roundg (m + 9 - (y + 1))
            case measure => omega
            case rel => exact ⟨y + 1, by first | rfl | (congr 1; omega), by omega, by omega, JT9⟩
    · have hy' : ¬ 5 + (y : Int) < 9 + (m : Int) + 5 := by omega
      go_wp2_with fail
      exact Hexit.out _ _ _ _ _ _ _ _ _ _ _ _ _ _ _ _ _ _ _ _ _ _ _ _ _ _ _ _ _ _ _ _ _ _ _ _ _ _ _ _ _ _ _ _ _ _ _ _ _ _ _ _ _ _ _ _ _ _ _ _ _ _ _ _ _ _ _ _ _ _ _ _ _ _ _ _ _ _ _ _ _ _ _ _ _ _ _ _ _ _ _ _ _ _ _ _ _ _ _ _ _ _ _ _ _ _ _ _ _ _ _ _ _ JT

end Go.Proofs.Ytececlalnkiafaa
