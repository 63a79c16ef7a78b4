/- XactKeeps: loop 1. -/
import Derived.Test.YtkokmgoplldcfaaXSw
import Derived.Test.YtkokmgoplldcfaaXL3
import Derived.Test.YtkokmgoplldcfaaXL4
import Derived.Deep.DeepCutAuto
import Derived.Deep.CutBlock
namespace Go.Proofs.Ytkokmgoplldcfaa
open Go.RowKit Go Go.Sort

set_option maxHeartbeats 4000000 in
set_option maxRecDepth 100000 in
theorem loop1 (w w4 : World) (N b G n c : Nat) (ao : Option Addr) (L : List (Int × Int))
    (Hn : Hid (n = L.length)) (HL : Hid (DL w ao L)) (HN : Hid (N = w.heap.size)) (HNG : Hid (N ≤ G))
    (HLW : Hid (∃ m E F, LW w N b G w4 (.slice none 0 0) (gOf m) m E F ∧ m.nx ≤ 2 + 0 ∧ E.length ≤ 0 ∧ 2 ≤ m.nx)) (Q0 : Exit → Act → World → Prop)
    (u1 u2 u3 u4 u6 u7 u11 u12 u13 u14 u15 u16 u17 u18 u19 u20 u21 u22 u23 u24 u25 u26 u27 u28 u29 u30 u31 u32 u33 u34 u35 u36 u37 u38 u39 u40 u41 u42 u43 u44 u45 u46 u47 u48 u49 u50 u51 u52 u53 u54 u55 u56 u57 u58 u59 u60 u61 u62 u63 u64 u65 u66 u67 u68 u69 u70 u71 u72 u73 u74 u75 u76 u77 u78 u79 u80 u81 u82 u83 u84 u85 u86 u87 u88 u89 u90 u91 u92 u93 u94 u95 u96 u97 u98 u99 u100 u101 u102 u103 u104 u105 u106 u107 u108 u109 u110 u111 u112 u113 u114 u115 u116 u117 u118 u119 u120 u121 u122 u123 u124 u125 u126 u127 u128 u129 u130 u131 u132 u133 u134 u135 u136 u137 u138 u139 u140 u141 u142 u143 u144 u145 u146 u147 u148 u149 u150 u151 u152 u153 u154 u155 u156 u157 u158 u159 u160 u161 u162 u163 u164 u165 u166 u167 u168 u169 u170 u171 u172 u173 u174 u175 u176 u177 u178 u179 u180 u181 u182 u183 u184 u185 u186 u187 u188 u189 u190 u191 u192 u193 u194 u195 u196 u197 u198 u199 u200 u201 u202 u203 u204 u205 u206 u207 u208 u209 u210 u211 u212 u213 u214 u215 u216 u217 u218 u219 u220 u221 u222 u223 u224 u225 u226 u227 u228 u229 u230 u231 u232 u233 u234 u235 u236 u237 u238 u239 u240 u241 u242 u243 u244 u245 u246 u247 u248 u249 u250 u251 u252 u253 u254 u255 u256 u257 u258 u259 u260 u261 u262 u263 u264 u265 u266 u267 u268 u269 u270 u271 u272 u273 u274 u275 u276 u277 u278 u279 u280 u281 u282 u283 u284 u285 u286 u287 u288 u289 u290 u291 u292 u293 u294 u295 u296 u297 u298 u299 u300 u301 u302 u303 u304 u305 u306 u307 u308 u309 u310 u311 u312 u313 u314 u315 u316 u317 u318 u319 u320 u321 u322 u323 u324 u325 u326 u327 u328 u329 u330 u331 u332 u333 u334 u335 u336 u337 u338 u339 u340 u341 u342 u343 u344 u345 u346 u347 u348 u349 u350 u351 u352 u353 u354 u355 u356 u357 u358 u359 u360 u361 u362 u363 u364 u365 u366 u367 u368 u369 u370 u371 u372 u373 u374 u375 u376 u377 u378 u379 u380 u381 u382 u383 u384 u385 u386 u387 u388 u389 u390 u391 : Value)
    (Hexit : Hid (∀ (v4 v8 v10 v11 v12 v13 v14 v15 v16 v17 v18 v19 v20 v21 v22 v23 v24 v61 v62 v63 v64 v65 v66 v67 v68 v69 v70 v71 v72 v73 v74 v75 v76 v77 v78 v79 v80 v81 v82 v83 v84 v85 v86 v87 v88 v89 v90 v91 v92 v93 v94 v95 v96 v97 v98 v99 v100 v101 v102 v103 v104 v105 v106 v107 v108 v109 v110 v111 v112 v113 v114 v115 v116 v117 v118 v119 v120 v121 v122 v123 v124 v125 v126 v127 v128 v129 v130 v131 v132 v133 v134 v135 v136 v137 v138 v139 v140 v141 v142 v143 v144 v145 v146 v147 v148 v149 v150 v151 v152 v153 v154 v155 v156 v157 v158 v159 v160 v161 v162 v163 v164 v165 v166 v167 v168 v169 v170 v171 v172 v173 v174 v175 v176 v177 v178 v179 v180 v181 v182 v183 v184 v185 v186 v187 v188 v189 v190 v191 v192 v193 v194 v195 v196 v197 v198 v199 v200 v201 v202 v203 v204 v205 v206 v207 v208 v209 v210 v211 v212 v213 v214 v215 v216 v217 v218 v219 v220 v221 v222 v223 v224 v225 v226 v227 v228 v229 v230 v231 v232 v233 v234 v235 v236 v237 v238 v239 v240 v241 v242 v243 v244 v245 v246 v247 v248 v249 v250 v251 v252 v253 v254 v255 v256 v257 v258 v259 v260 v261 v262 v263 v264 v265 v266 v267 v268 v269 v270 v271 v272 v273 v274 v275 v276 v277 v278 v279 : Value)  (wx : World), Hid (∃ m E F, LW w N b G wx v8 (gOf m) m E F ∧ m.nx ≤ 122 ∧ E.length ≤ 120 ∧ 2 ≤ m.nx) → Q0 (.exit 0) ⟨List.toArray ((.slice ao n c) :: u1 :: u2 :: u3 :: (v4) :: (.pointer (some ⟨b, 0, none⟩)) :: u6 :: u7 :: (v8) :: (.slice (some ⟨G, 0, none⟩) 400 400) :: (v10) :: (v11) :: (v12) :: (v13) :: (v14) :: (v15) :: (v16) :: (v17) :: (v18) :: (v19) :: (v20) :: (v21) :: (v22) :: (v23) :: (v24) :: u25 :: u26 :: u27 :: u28 :: u29 :: u30 :: u31 :: u32 :: u33 :: u34 :: u35 :: u36 :: u37 :: u38 :: u39 :: u40 :: u41 :: u42 :: u43 :: u44 :: u45 :: u46 :: u47 :: u48 :: u49 :: u50 :: u51 :: u52 :: u53 :: u54 :: u55 :: u56 :: u57 :: u58 :: u59 :: u60 :: (v61) :: (v62) :: (v63) :: (v64) :: (v65) :: (v66) :: (v67) :: (v68) :: (v69) :: (v70) :: (v71) :: (v72) :: (v73) :: (v74) :: (v75) :: (v76) :: (v77) :: (v78) :: (v79) :: (v80) :: (v81) :: (v82) :: (v83) :: (v84) :: (v85) :: (v86) :: (v87) :: (v88) :: (v89) :: (v90) :: (v91) :: (v92) :: (v93) :: (v94) :: (v95) :: (v96) :: (v97) :: (v98) :: (v99) :: (v100) :: (v101) :: (v102) :: (v103) :: (v104) :: (v105) :: (v106) :: (v107) :: (v108) :: (v109) :: (v110) :: (v111) :: (v112) :: (v113) :: (v114) :: (v115) :: (v116) :: (v117) :: (v118) :: (v119) :: (v120) :: (v121) :: (v122) :: (v123) :: (v124) :: (v125) :: (v126) :: (v127) :: (v128) :: (v129) :: (v130) :: (v131) :: (v132) :: (v133) :: (v134) :: (v135) :: (v136) :: (v137) :: (v138) :: (v139) :: (v140) :: (v141) :: (v142) :: (v143) :: (v144) :: (v145) :: (v146) :: (v147) :: (v148) :: (v149) :: (v150) :: (v151) :: (v152) :: (v153) :: (v154) :: (v155) :: (v156) :: (v157) :: (v158) :: (v159) :: (v160) :: (v161) :: (v162) :: (v163) :: (v164) :: (v165) :: (v166) :: (v167) :: (v168) :: (v169) :: (v170) :: (v171) :: (v172) :: (v173) :: (v174) :: (v175) :: (v176) :: (v177) :: (v178) :: (v179) :: (v180) :: (v181) :: (v182) :: (v183) :: (v184) :: (v185) :: (v186) :: (v187) :: (v188) :: (v189) :: (v190) :: (v191) :: (v192) :: (v193) :: (v194) :: (v195) :: (v196) :: (v197) :: (v198) :: (v199) :: (v200) :: (v201) :: (v202) :: (v203) :: (v204) :: (v205) :: (v206) :: (v207) :: (v208) :: (v209) :: (v210) :: (v211) :: (v212) :: (v213) :: (v214) :: (v215) :: (v216) :: (v217) :: (v218) :: (v219) :: (v220) :: (v221) :: (v222) :: (v223) :: (v224) :: (v225) :: (v226) :: (v227) :: (v228) :: (v229) :: (v230) :: (v231) :: (v232) :: (v233) :: (v234) :: (v235) :: (v236) :: (v237) :: (v238) :: (v239) :: (v240) :: (v241) :: (v242) :: (v243) :: (v244) :: (v245) :: (v246) :: (v247) :: (v248) :: (v249) :: (v250) :: (v251) :: (v252) :: (v253) :: (v254) :: (v255) :: (v256) :: (v257) :: (v258) :: (v259) :: (v260) :: (v261) :: (v262) :: (v263) :: (v264) :: (v265) :: (v266) :: (v267) :: (v268) :: (v269) :: (v270) :: (v271) :: (v272) :: (v273) :: (v274) :: (v275) :: (v276) :: (v277) :: (v278) :: (v279) :: u280 :: u281 :: u282 :: u283 :: u284 :: u285 :: u286 :: u287 :: u288 :: u289 :: u290 :: u291 :: u292 :: u293 :: u294 :: u295 :: u296 :: u297 :: u298 :: u299 :: u300 :: u301 :: u302 :: u303 :: u304 :: u305 :: u306 :: u307 :: u308 :: u309 :: u310 :: u311 :: u312 :: u313 :: u314 :: u315 :: u316 :: u317 :: u318 :: u319 :: u320 :: u321 :: u322 :: u323 :: u324 :: u325 :: u326 :: u327 :: u328 :: u329 :: u330 :: u331 :: u332 :: u333 :: u334 :: u335 :: u336 :: u337 :: u338 :: u339 :: u340 :: u341 :: u342 :: u343 :: u344 :: u345 :: u346 :: u347 :: u348 :: u349 :: u350 :: u351 :: u352 :: u353 :: u354 :: u355 :: u356 :: u357 :: u358 :: u359 :: u360 :: u361 :: u362 :: u363 :: u364 :: u365 :: u366 :: u367 :: u368 :: u369 :: u370 :: u371 :: u372 :: u373 :: u374 :: u375 :: u376 :: u377 :: u378 :: u379 :: u380 :: u381 :: u382 :: u383 :: u384 :: u385 :: u386 :: u387 :: u388 :: u389 :: u390 :: u391 :: []), []⟩ wx)) :
    Code.wp Try.prog (Code.loop body1) Q0 ⟨List.toArray ((.slice ao n c) :: u1 :: u2 :: u3 :: u4 :: (.pointer (some ⟨b, 0, none⟩)) :: u6 :: u7 :: (.slice none 0 0) :: (.slice (some ⟨G, 0, none⟩) 400 400) :: (.int .i64 0) :: u11 :: u12 :: u13 :: u14 :: u15 :: u16 :: u17 :: u18 :: u19 :: u20 :: u21 :: u22 :: u23 :: u24 :: u25 :: u26 :: u27 :: u28 :: u29 :: u30 :: u31 :: u32 :: u33 :: u34 :: u35 :: u36 :: u37 :: u38 :: u39 :: u40 :: u41 :: u42 :: u43 :: u44 :: u45 :: u46 :: u47 :: u48 :: u49 :: u50 :: u51 :: u52 :: u53 :: u54 :: u55 :: u56 :: u57 :: u58 :: u59 :: u60 :: u61 :: u62 :: u63 :: u64 :: u65 :: u66 :: u67 :: u68 :: u69 :: u70 :: u71 :: u72 :: u73 :: u74 :: u75 :: u76 :: u77 :: u78 :: u79 :: u80 :: u81 :: u82 :: u83 :: u84 :: u85 :: u86 :: u87 :: u88 :: u89 :: u90 :: u91 :: u92 :: u93 :: u94 :: u95 :: u96 :: u97 :: u98 :: u99 :: u100 :: u101 :: u102 :: u103 :: u104 :: u105 :: u106 :: u107 :: u108 :: u109 :: u110 :: u111 :: u112 :: u113 :: u114 :: u115 :: u116 :: u117 :: u118 :: u119 :: u120 :: u121 :: u122 :: u123 :: u124 :: u125 :: u126 :: u127 :: u128 :: u129 :: u130 :: u131 :: u132 :: u133 :: u134 :: u135 :: u136 :: u137 :: u138 :: u139 :: u140 :: u141 :: u142 :: u143 :: u144 :: u145 :: u146 :: u147 :: u148 :: u149 :: u150 :: u151 :: u152 :: u153 :: u154 :: u155 :: u156 :: u157 :: u158 :: u159 :: u160 :: u161 :: u162 :: u163 :: u164 :: u165 :: u166 :: u167 :: u168 :: u169 :: u170 :: u171 :: u172 :: u173 :: u174 :: u175 :: u176 :: u177 :: u178 :: u179 :: u180 :: u181 :: u182 :: u183 :: u184 :: u185 :: u186 :: u187 :: u188 :: u189 :: u190 :: u191 :: u192 :: u193 :: u194 :: u195 :: u196 :: u197 :: u198 :: u199 :: u200 :: u201 :: u202 :: u203 :: u204 :: u205 :: u206 :: u207 :: u208 :: u209 :: u210 :: u211 :: u212 :: u213 :: u214 :: u215 :: u216 :: u217 :: u218 :: u219 :: u220 :: u221 :: u222 :: u223 :: u224 :: u225 :: u226 :: u227 :: u228 :: u229 :: u230 :: u231 :: u232 :: u233 :: u234 :: u235 :: u236 :: u237 :: u238 :: u239 :: u240 :: u241 :: u242 :: u243 :: u244 :: u245 :: u246 :: u247 :: u248 :: u249 :: u250 :: u251 :: u252 :: u253 :: u254 :: u255 :: u256 :: u257 :: u258 :: u259 :: u260 :: u261 :: u262 :: u263 :: u264 :: u265 :: u266 :: u267 :: u268 :: u269 :: u270 :: u271 :: u272 :: u273 :: u274 :: u275 :: u276 :: u277 :: u278 :: u279 :: u280 :: u281 :: u282 :: u283 :: u284 :: u285 :: u286 :: u287 :: u288 :: u289 :: u290 :: u291 :: u292 :: u293 :: u294 :: u295 :: u296 :: u297 :: u298 :: u299 :: u300 :: u301 :: u302 :: u303 :: u304 :: u305 :: u306 :: u307 :: u308 :: u309 :: u310 :: u311 :: u312 :: u313 :: u314 :: u315 :: u316 :: u317 :: u318 :: u319 :: u320 :: u321 :: u322 :: u323 :: u324 :: u325 :: u326 :: u327 :: u328 :: u329 :: u330 :: u331 :: u332 :: u333 :: u334 :: u335 :: u336 :: u337 :: u338 :: u339 :: u340 :: u341 :: u342 :: u343 :: u344 :: u345 :: u346 :: u347 :: u348 :: u349 :: u350 :: u351 :: u352 :: u353 :: u354 :: u355 :: u356 :: u357 :: u358 :: u359 :: u360 :: u361 :: u362 :: u363 :: u364 :: u365 :: u366 :: u367 :: u368 :: u369 :: u370 :: u371 :: u372 :: u373 :: u374 :: u375 :: u376 :: u377 :: u378 :: u379 :: u380 :: u381 :: u382 :: u383 :: u384 :: u385 :: u386 :: u387 :: u388 :: u389 :: u390 :: u391 :: []), []⟩ w4 := by
  conv => arg 2; arg 1; whnf
  go_loopw [8, 10] (fun kv i wr => ∃ k : Nat, i = .int .i64 k ∧ k ≤ 120 ∧ Hid (∃ m E F, LW w N b G wr kv (gOf m) m E F ∧ m.nx ≤ 2 + k ∧ E.length ≤ k ∧ 2 ≤ m.nx)) (fun _ i _ => 120 - (intOf i).toNat)
  case atStart => exact ⟨0, rfl, by omega, HLW⟩
  case round =>
    obtain ⟨k, rfl, hk, HO⟩ := hrel
    obtain ⟨wv, hwv⟩ : ∃ wv, wv = wr := ⟨_, rfl⟩
    subst hwv
    by_cases hlt : (k : Int) < n ∧ (k : Int) < 120
    · obtain ⟨hlt1, hlt2⟩ := hlt
      obtain ⟨m, E, F, hW, hnx, hEl, hnx2⟩ := HO.out
      have hkl : k < L.length := by have := Hn.out; omega
      obtain ⟨d, hd⟩ : ∃ d, L[k]? = some d := ⟨_, List.getElem?_eq_getElem hkl⟩
      obtain ⟨hr, g, o, rfl, d1, d2⟩ := (HL.out.no hW.t) k d hd
      obtain ⟨hr1, hr2, hr3, hr4⟩ := hr
      have q := next_f b _ wv _ hW.mf
      obtain ⟨nx, hnx'⟩ : ∃ nx, nx = m.nx := ⟨_, rfl⟩
      rw [← hnx'] at q hnx hnx2
      have Hnx : Hid (nx = m.nx) := hnx'
      obtain ⟨dk, hdk⟩ : ∃ dk, dk = d.1 := ⟨_, rfl⟩
      obtain ⟨dn, hdn⟩ : ∃ dn, dn = d.2 := ⟨_, rfl⟩
      rw [← hdk] at d1 hr1 hr2
      rw [← hdn] at d2 hr3 hr4
      have qk := fun W => pick_any dn (nx - 1) W hr3 hr4 (by omega) (by omega)
      obtain ⟨kx, hkx⟩ : ∃ kx, kx = pkN dn (nx - 1) := ⟨_, rfl⟩
      have hkxl : kx < nx - 1 := by rw [hkx]; exact pkN_lt _ (by omega)
      rw [← hkx] at qk
      have e9 : ((nx - 1 : Nat) : Int) = (nx : Int) - 1 := by omega
      rw [e9] at qk
      have q8 : ∀ W, Calls Try.prog 9 #[.int .i64 dk, .int .i64 8] W fun x w' => x = .returned (.int .i64 (pkN dk 8)) ∧ w' = W := fun W => pick_any dk 8 W hr1 hr2 (by omega) (by omega)
      obtain ⟨pk, hpk⟩ : ∃ pk, pk = pkN dk 8 := ⟨_, rfl⟩
      have hpl : pk < 8 := by rw [hpk]; exact pkN_lt _ (by omega)
      rw [← hpk] at q8
      have HW : Hid (LW w N b G wv u8 (gOf m) m E F) := hW
      have Hall : Hid (All m) := hW.all
      have hkI : (k : Int) < n := hlt1
      clear hd hkl hW hnx' hdk hdn hkx e9 hpk HO
      go_wp2_with fail
      refine q.mono ?_
      rintro x w5 ⟨rfl, hw5⟩
      obtain rfl := hw5.symm
      clear q hw5
      go_wp2_with fail
      refine (qk _).mono ?_
      rintro x w5 ⟨rfl, hw5⟩
      obtain rfl := hw5.symm
      clear qk hw5
      go_wp2_with fail
      refine (q8 _).mono ?_
      rintro x w5 ⟨rfl, hw5⟩
      obtain rfl := hw5.symm
      clear hw5
      go_upto_block 2 with fail
      refine switch1 w wv N b G g o n c k nx kx pk dk m E F u8 HN Hnx hnx (by omega) hnx2 hEl hlt1 hkxl hpl HW d1 q8 _ _ _ _ _ _ _ _ _ _ _ _ _ _ _ _ _ _ _ _ _ _ _ _ _ _ _ _ _ _ _ _ _ _ _ _ _ _ _ _ _ _ _ _ _ _ _ _ _ _ _ _ _ _ _ _ _ _ _ _ _ _ _ _ _ _ _ _ _ _ _ _ _ _ _ _ _ _ _ _ _ _ _ _ _ _ _ _ _ _ _ _ _ _ _ _ _ _ _ _ _ _ _ _ _ _ _ _ _ _ _ _ _ _ _ _ _ _ _ _ _ _ _ _ _ _ _ _ _ _ _ _ _ _ _ _ _ _ _ _ _ _ _ _ _ _ _ _ _ _ _ _ _ _ _ _ _ _ _ _ _ _ _ _ _ _ _ _ _ _ _ _ _ _ _ _ _ _ _ _ _ _ _ _ _ _ _ _ _ _ _ _ _ _ _ _ _ _ _ _ _ _ _ _ _ _ _ _ _ _ _ _ _ _ _ _ _ _ _ _ _ _ _ _ _ _ _ _ _ _ _ _ _ _ _ _ _ _ _ _ _ _ _ _ _ _ _ _ _ _ _ _ _ _ _ _ _ _ _ _ _ _ _ _ _ _ _ _ _ _ _ _ _ _ _ _ _ _ _ _ _ _ _ _ _ _ _ _ _ _ _ _ _ _ _ _ _ _ _ _ _ _ _ _ _ _ _ _ _ _ _ _ _ _ _ _ _ _ _ _ _ _ _ _ _ _ _ _ _ _ _ _ _ _ _ _ _ _ _ _ _ _ _ _ _ _ _ _ _ _ _ _ _ _ _ _ _ _ _ _ _ _ _ _ _ _ _ _ _ _ _ _ _ _ _ _ _ _ _ _ _ _ _ _ _ _ ?_
      intro y4 y8 y13 y14 y15 y16 y88 y89 y90 y91 y92 y93 y94 y95 y96 y97 y98 y99 y100 y101 y102 y103 y104 y105 y106 y107 y108 y109 y110 y111 y112 y113 y114 y115 y116 y117 y118 y119 y120 y121 y122 y123 y124 y125 y126 y127 y128 y129 y130 y131 y132 y133 y134 y135 y136 y137 y138 y139 y140 y141 y142 y143 y144 y145 y146 y147 y148 y149 y150 y151 y152 y153 y154 y155 y156 y157 y158 y159 y160 y161 y162 y163 y164 y165 y166 y167 y168 y169 y170 y171 y172 y173 y174 y175 y176 wx HK
      obtain ⟨m', E', F', hW', hst, hnx', hE'⟩ := HK.out
      have HW' : Hid (LW w N b G wx y8 (gOf m) m' E' F') := hW'
      have Hst : Hid (St m m') := hst
      obtain ⟨nx', hnx2'⟩ : ∃ nx', nx' = m'.nx := ⟨_, rfl⟩
      have Hnx' : Hid (nx' = m'.nx) := hnx2'
      have hnxb : nx' ≤ 123 := by have := Hnx.out; omega
      have hnx22 : 2 ≤ nx' := by have := hst.nx; have := Hnx.out; omega
      have hnxk : nx' ≤ 2 + (k + 1) := by have := Hnx.out; omega
      obtain ⟨ko, kc, hkv⟩ := row_slice hW'.row
      subst hkv
      obtain ⟨el, hel⟩ : ∃ el, el = E'.length := ⟨_, rfl⟩
      rw [← hel] at HW' hE' ⊢
      have Hel : Hid (el = E'.length) := hel
      clear hW' hst hnx2' hel d1 d2 q8 HW HK
      go_wp2_with fail
      refine loop3 w wx N b G ko el kc nx' m m' E' F' HN HNG Hnx' hnxb hnx22 Hall Hst HW' _ _ _ _ _ _ _ _ _ _ _ _ _ _ _ _ _ _ _ _ _ _ _ _ _ _ _ _ _ _ _ _ _ _ _ _ _ _ _ _ _ _ _ _ _ _ _ _ _ _ _ _ _ _ _ _ _ _ _ _ _ _ _ _ _ _ _ _ _ _ _ _ _ _ _ _ _ _ _ _ _ _ _ _ _ _ _ _ _ _ _ _ _ _ _ _ _ _ _ _ _ _ _ _ _ _ _ _ _ _ _ _ _ _ _ _ _ _ _ _ _ _ _ _ _ _ _ _ _ _ _ _ _ _ _ _ _ _ _ _ _ _ _ _ _ _ _ _ _ _ _ _ _ _ _ _ _ _ _ _ _ _ _ _ _ _ _ _ _ _ _ _ _ _ _ _ _ _ _ _ _ _ _ _ _ _ _ _ _ _ _ _ _ _ _ _ _ _ _ _ _ _ _ _ _ _ _ _ _ _ _ _ _ _ _ _ _ _ _ _ _ _ _ _ _ _ _ _ _ _ _ _ _ _ _ _ _ _ _ _ _ _ _ _ _ _ _ _ _ _ _ _ _ _ _ _ _ _ _ _ _ _ _ _ _ _ _ _ _ _ _ _ _ _ _ _ _ _ _ _ _ _ _ _ _ _ _ _ _ _ _ _ _ _ _ _ _ _ _ _ _ _ _ _ _ _ _ _ _ _ _ _ _ _ _ _ _ _ _ _ _ _ _ _ _ _ _ _ _ _ _ _ _ _ _ _ _ _ _ _ _ _ _ _ _ _ _ _ _ _ _ _ _ _ _ _ _ _ _ _ _ _ _ _ _ _ _ _ _ _ _ _ _ _ _ _ _ _ _ _ _ _ _ _ _ _ _ _ _ ?_
      intro z4 z17 z18 z19 z20 z177 z178 z179 z180 z181 z182 z183 z184 z185 z186 z187 z188 z189 z190 z191 z192 z193 z194 z195 z196 z197 z198 z199 z200 z201 z202 z203 z204 z205 z206 z207 z208 z209 z210 z211 z212 z213 z214 z215 z216 z217 z218 z219 z220 z221 z222 z223 wy HLG
      go_wp2_with fail
      refine loop4 w wy N b G ko el kc nx' m' E' F' _ HN Hnx' hnxb hnx22 Hel (by omega) HLG _ _ _ _ _ _ _ _ _ _ _ _ _ _ _ _ _ _ _ _ _ _ _ _ _ _ _ _ _ _ _ _ _ _ _ _ _ _ _ _ _ _ _ _ _ _ _ _ _ _ _ _ _ _ _ _ _ _ _ _ _ _ _ _ _ _ _ _ _ _ _ _ _ _ _ _ _ _ _ _ _ _ _ _ _ _ _ _ _ _ _ _ _ _ _ _ _ _ _ _ _ _ _ _ _ _ _ _ _ _ _ _ _ _ _ _ _ _ _ _ _ _ _ _ _ _ _ _ _ _ _ _ _ _ _ _ _ _ _ _ _ _ _ _ _ _ _ _ _ _ _ _ _ _ _ _ _ _ _ _ _ _ _ _ _ _ _ _ _ _ _ _ _ _ _ _ _ _ _ _ _ _ _ _ _ _ _ _ _ _ _ _ _ _ _ _ _ _ _ _ _ _ _ _ _ _ _ _ _ _ _ _ _ _ _ _ _ _ _ _ _ _ _ _ _ _ _ _ _ _ _ _ _ _ _ _ _ _ _ _ _ _ _ _ _ _ _ _ _ _ _ _ _ _ _ _ _ _ _ _ _ _ _ _ _ _ _ _ _ _ _ _ _ _ _ _ _ _ _ _ _ _ _ _ _ _ _ _ _ _ _ _ _ _ _ _ _ _ _ _ _ _ _ _ _ _ _ _ _ _ _ _ _ _ _ _ _ _ _ _ _ _ _ _ _ _ _ _ _ _ _ _ _ _ _ _ _ _ _ _ _ _ _ _ _ _ _ _ _ _ _ _ _ _ _ _ _ _ _ _ _ _ _ _ _ _ _ _ _ _ _ _ _ _ _ _ _ _ _ _ _ _ _ _ _ _ _ _ ?_
      intro t4 t21 t22 t23 t24 t224 t225 t226 t227 t228 t229 t230 t231 t232 t233 t234 t235 t236 t237 t238 t239 t240 t241 t242 t243 t244 t245 t246 t247 t248 t249 t250 t251 t252 t253 t254 t255 t256 t257 t258 t259 t260 t261 t262 t263 t264 t265 t266 t267 t268 t269 t270 t271 t272 t273 t274 t275 t276 t277 t278 t279 wz HLa
      go_wp2_with fail
      go_roundw
      case rel => exact ⟨k + 1, by go_num, by omega, ⟨m', E', F', HLa.out, by rw [← Hnx'.out]; exact hnxk, by rw [← Hel.out]; exact hE', by rw [← Hnx'.out]; exact hnx22⟩⟩
      case measure => simp [intOf]; omega
    · have HX : Hid (∃ m E F, LW w N b G wv u8 (gOf m) m E F ∧ m.nx ≤ 122 ∧ E.length ≤ 120 ∧ 2 ≤ m.nx) := by
        obtain ⟨m, E, F, hW, h1, h2, h3⟩ := HO.out
        exact ⟨m, E, F, hW, by omega, by omega, h3⟩
      clear HO
      by_cases hlt1 : (k : Int) < n
      · have hlt2 : ¬ (k : Int) < 120 := fun h => hlt ⟨hlt1, h⟩
        clear hlt
        go_wp2_with fail
        exact Hexit.out _ _ _ _ _ _ _ _ _ _ _ _ _ _ _ _ _ _ _ _ _ _ _ _ _ _ _ _ _ _ _ _ _ _ _ _ _ _ _ _ _ _ _ _ _ _ _ _ _ _ _ _ _ _ _ _ _ _ _ _ _ _ _ _ _ _ _ _ _ _ _ _ _ _ _ _ _ _ _ _ _ _ _ _ _ _ _ _ _ _ _ _ _ _ _ _ _ _ _ _ _ _ _ _ _ _ _ _ _ _ _ _ _ _ _ _ _ _ _ _ _ _ _ _ _ _ _ _ _ _ _ _ _ _ _ _ _ _ _ _ _ _ _ _ _ _ _ _ _ _ _ _ _ _ _ _ _ _ _ _ _ _ _ _ _ _ _ _ _ _ _ _ _ _ _ _ _ _ _ _ _ _ _ _ _ _ _ _ _ _ _ _ _ _ _ _ _ _ _ _ _ _ _ _ _ _ _ _ _ _ _ _ _ _ _ _ _ _ _ _ _ _ _ _ _ _ _ _ _ _ _ _ _ _ _ _ _ HX
      · clear hlt
        go_wp2_with fail
        exact Hexit.out _ _ _ _ _ _ _ _ _ _ _ _ _ _ _ _ _ _ _ _ _ _ _ _ _ _ _ _ _ _ _ _ _ _ _ _ _ _ _ _ _ _ _ _ _ _ _ _ _ _ _ _ _ _ _ _ _ _ _ _ _ _ _ _ _ _ _ _ _ _ _ _ _ _ _ _ _ _ _ _ _ _ _ _ _ _ _ _ _ _ _ _ _ _ _ _ _ _ _ _ _ _ _ _ _ _ _ _ _ _ _ _ _ _ _ _ _ _ _ _ _ _ _ _ _ _ _ _ _ _ _ _ _ _ _ _ _ _ _ _ _ _ _ _ _ _ _ _ _ _ _ _ _ _ _ _ _ _ _ _ _ _ _ _ _ _ _ _ _ _ _ _ _ _ _ _ _ _ _ _ _ _ _ _ _ _ _ _ _ _ _ _ _ _ _ _ _ _ _ _ _ _ _ _ _ _ _ _ _ _ _ _ _ _ _ _ _ _ _ _ _ _ _ _ _ _ _ _ _ _ _ _ _ _ _ _ _ HX
end Go.Proofs.Ytkokmgoplldcfaa
