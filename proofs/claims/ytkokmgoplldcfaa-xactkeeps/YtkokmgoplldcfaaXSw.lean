/- XactKeeps: the switch. -/
import Derived.Test.YtkokmgoplldcfaaXL2
import Derived.Test.YtkokmgoplldcfaaXBlk
import Derived.Deep.DeepCutAuto
import Derived.Deep.CutBlock
namespace Go.Proofs.Ytkokmgoplldcfaa
open Go.RowKit Go Go.Sort

set_option maxHeartbeats 4000000 in
set_option maxRecDepth 100000 in
theorem switch1 (w wv : World) (N b G g o n c k nx kx pk : Nat) (dk : Int) (m : Mg) (E : List EW) (F : Nat → Prop) (u8 : Value)
    (HN : Hid (N = w.heap.size)) (Hnx : Hid (nx = m.nx)) (hnx : nx ≤ 2 + k) (hk120 : k < 120) (hnx2 : 2 ≤ nx) (hEl : E.length ≤ k) (hkI : (k : Int) < n) (hkx : kx < nx - 1) (hpl : pk < 8)
    (HW : Hid (LW w N b G wv u8 (gOf m) m E F))
    (d1 : wv.cell? ⟨g, o + k * 2, none⟩ = some (.int .i64 dk))
    (q8 : ∀ W, Calls Try.prog 9 #[.int .i64 dk, .int .i64 8] W fun x w' => x = .returned (.int .i64 pk) ∧ w' = W) (Q0 : Exit → Act → World → Prop)
    (u1 u2 u3 u4 u6 u7 u9 u13 u14 u15 u16 u17 u18 u19 u20 u21 u22 u23 u24 u25 u26 u27 u28 u29 u30 u31 u32 u33 u34 u35 u36 u37 u38 u39 u40 u41 u42 u43 u44 u45 u46 u47 u48 u49 u50 u51 u52 u53 u54 u55 u56 u57 u58 u59 u60 u61 u62 u63 u64 u65 u66 u67 u68 u69 u70 u71 u72 u73 u74 u75 u76 u77 u78 u79 u80 u81 u82 u83 u84 u85 u86 u88 u89 u90 u91 u92 u93 u94 u95 u96 u97 u98 u99 u100 u101 u102 u103 u104 u105 u106 u107 u108 u109 u110 u111 u112 u113 u114 u115 u116 u117 u118 u119 u120 u121 u122 u123 u124 u125 u126 u127 u128 u129 u130 u131 u132 u133 u134 u135 u136 u137 u138 u139 u140 u141 u142 u143 u144 u145 u146 u147 u148 u149 u150 u151 u152 u153 u154 u155 u156 u157 u158 u159 u160 u161 u162 u163 u164 u165 u166 u167 u168 u169 u170 u171 u172 u173 u174 u175 u176 u177 u178 u179 u180 u181 u182 u183 u184 u185 u186 u187 u188 u189 u190 u191 u192 u193 u194 u195 u196 u197 u198 u199 u200 u201 u202 u203 u204 u205 u206 u207 u208 u209 u210 u211 u212 u213 u214 u215 u216 u217 u218 u219 u220 u221 u222 u223 u224 u225 u226 u227 u228 u229 u230 u231 u232 u233 u234 u235 u236 u237 u238 u239 u240 u241 u242 u243 u244 u245 u246 u247 u248 u249 u250 u251 u252 u253 u254 u255 u256 u257 u258 u259 u260 u261 u262 u263 u264 u265 u266 u267 u268 u269 u270 u271 u272 u273 u274 u275 u276 u277 u278 u279 u280 u281 u282 u283 u284 u285 u286 u287 u288 u289 u290 u291 u292 u293 u294 u295 u296 u297 u298 u299 u300 u301 u302 u303 u304 u305 u306 u307 u308 u309 u310 u311 u312 u313 u314 u315 u316 u317 u318 u319 u320 u321 u322 u323 u324 u325 u326 u327 u328 u329 u330 u331 u332 u333 u334 u335 u336 u337 u338 u339 u340 u341 u342 u343 u344 u345 u346 u347 u348 u349 u350 u351 u352 u353 u354 u355 u356 u357 u358 u359 u360 u361 u362 u363 u364 u365 u366 u367 u368 u369 u370 u371 u372 u373 u374 u375 u376 u377 u378 u379 u380 u381 u382 u383 u384 u385 u386 u387 u388 u389 u390 u391 : Value)
    (Hexit : Hid (∀ (v4 v8 v13 v14 v15 v16 v88 v89 v90 v91 v92 v93 v94 v95 v96 v97 v98 v99 v100 v101 v102 v103 v104 v105 v106 v107 v108 v109 v110 v111 v112 v113 v114 v115 v116 v117 v118 v119 v120 v121 v122 v123 v124 v125 v126 v127 v128 v129 v130 v131 v132 v133 v134 v135 v136 v137 v138 v139 v140 v141 v142 v143 v144 v145 v146 v147 v148 v149 v150 v151 v152 v153 v154 v155 v156 v157 v158 v159 v160 v161 v162 v163 v164 v165 v166 v167 v168 v169 v170 v171 v172 v173 v174 v175 v176 : Value)  (wx : World), Hid (KO w N b G wx v8 m k) → Q0 .normal ⟨List.toArray ((.slice (some ⟨g, o, none⟩) n c) :: u1 :: u2 :: u3 :: (v4) :: (.pointer (some ⟨b, 0, none⟩)) :: u6 :: u7 :: (v8) :: u9 :: (.int .i64 k) :: (.int .i64 ((nx : Int) - 1)) :: (.int .i64 (1 + (kx : Int))) :: (v13) :: (v14) :: (v15) :: (v16) :: u17 :: u18 :: u19 :: u20 :: u21 :: u22 :: u23 :: u24 :: u25 :: u26 :: u27 :: u28 :: u29 :: u30 :: u31 :: u32 :: u33 :: u34 :: u35 :: u36 :: u37 :: u38 :: u39 :: u40 :: u41 :: u42 :: u43 :: u44 :: u45 :: u46 :: u47 :: u48 :: u49 :: u50 :: u51 :: u52 :: u53 :: u54 :: u55 :: u56 :: u57 :: u58 :: u59 :: u60 :: u61 :: u62 :: u63 :: u64 :: u65 :: u66 :: u67 :: u68 :: u69 :: u70 :: u71 :: u72 :: u73 :: u74 :: u75 :: u76 :: u77 :: u78 :: u79 :: u80 :: u81 :: u82 :: u83 :: u84 :: u85 :: u86 :: (.int .i64 pk) :: (v88) :: (v89) :: (v90) :: (v91) :: (v92) :: (v93) :: (v94) :: (v95) :: (v96) :: (v97) :: (v98) :: (v99) :: (v100) :: (v101) :: (v102) :: (v103) :: (v104) :: (v105) :: (v106) :: (v107) :: (v108) :: (v109) :: (v110) :: (v111) :: (v112) :: (v113) :: (v114) :: (v115) :: (v116) :: (v117) :: (v118) :: (v119) :: (v120) :: (v121) :: (v122) :: (v123) :: (v124) :: (v125) :: (v126) :: (v127) :: (v128) :: (v129) :: (v130) :: (v131) :: (v132) :: (v133) :: (v134) :: (v135) :: (v136) :: (v137) :: (v138) :: (v139) :: (v140) :: (v141) :: (v142) :: (v143) :: (v144) :: (v145) :: (v146) :: (v147) :: (v148) :: (v149) :: (v150) :: (v151) :: (v152) :: (v153) :: (v154) :: (v155) :: (v156) :: (v157) :: (v158) :: (v159) :: (v160) :: (v161) :: (v162) :: (v163) :: (v164) :: (v165) :: (v166) :: (v167) :: (v168) :: (v169) :: (v170) :: (v171) :: (v172) :: (v173) :: (v174) :: (v175) :: (v176) :: u177 :: u178 :: u179 :: u180 :: u181 :: u182 :: u183 :: u184 :: u185 :: u186 :: u187 :: u188 :: u189 :: u190 :: u191 :: u192 :: u193 :: u194 :: u195 :: u196 :: u197 :: u198 :: u199 :: u200 :: u201 :: u202 :: u203 :: u204 :: u205 :: u206 :: u207 :: u208 :: u209 :: u210 :: u211 :: u212 :: u213 :: u214 :: u215 :: u216 :: u217 :: u218 :: u219 :: u220 :: u221 :: u222 :: u223 :: u224 :: u225 :: u226 :: u227 :: u228 :: u229 :: u230 :: u231 :: u232 :: u233 :: u234 :: u235 :: u236 :: u237 :: u238 :: u239 :: u240 :: u241 :: u242 :: u243 :: u244 :: u245 :: u246 :: u247 :: u248 :: u249 :: u250 :: u251 :: u252 :: u253 :: u254 :: u255 :: u256 :: u257 :: u258 :: u259 :: u260 :: u261 :: u262 :: u263 :: u264 :: u265 :: u266 :: u267 :: u268 :: u269 :: u270 :: u271 :: u272 :: u273 :: u274 :: u275 :: u276 :: u277 :: u278 :: u279 :: u280 :: u281 :: u282 :: u283 :: u284 :: u285 :: u286 :: u287 :: u288 :: u289 :: u290 :: u291 :: u292 :: u293 :: u294 :: u295 :: u296 :: u297 :: u298 :: u299 :: u300 :: u301 :: u302 :: u303 :: u304 :: u305 :: u306 :: u307 :: u308 :: u309 :: u310 :: u311 :: u312 :: u313 :: u314 :: u315 :: u316 :: u317 :: u318 :: u319 :: u320 :: u321 :: u322 :: u323 :: u324 :: u325 :: u326 :: u327 :: u328 :: u329 :: u330 :: u331 :: u332 :: u333 :: u334 :: u335 :: u336 :: u337 :: u338 :: u339 :: u340 :: u341 :: u342 :: u343 :: u344 :: u345 :: u346 :: u347 :: u348 :: u349 :: u350 :: u351 :: u352 :: u353 :: u354 :: u355 :: u356 :: u357 :: u358 :: u359 :: u360 :: u361 :: u362 :: u363 :: u364 :: u365 :: u366 :: u367 :: u368 :: u369 :: u370 :: u371 :: u372 :: u373 :: u374 :: u375 :: u376 :: u377 :: u378 :: u379 :: u380 :: u381 :: u382 :: u383 :: u384 :: u385 :: u386 :: u387 :: u388 :: u389 :: u390 :: u391 :: []), []⟩ wx)) :
    Code.wp Try.prog sw1 Q0 ⟨List.toArray ((.slice (some ⟨g, o, none⟩) n c) :: u1 :: u2 :: u3 :: u4 :: (.pointer (some ⟨b, 0, none⟩)) :: u6 :: u7 :: u8 :: u9 :: (.int .i64 k) :: (.int .i64 ((nx : Int) - 1)) :: (.int .i64 (1 + (kx : Int))) :: u13 :: u14 :: u15 :: u16 :: u17 :: u18 :: u19 :: u20 :: u21 :: u22 :: u23 :: u24 :: u25 :: u26 :: u27 :: u28 :: u29 :: u30 :: u31 :: u32 :: u33 :: u34 :: u35 :: u36 :: u37 :: u38 :: u39 :: u40 :: u41 :: u42 :: u43 :: u44 :: u45 :: u46 :: u47 :: u48 :: u49 :: u50 :: u51 :: u52 :: u53 :: u54 :: u55 :: u56 :: u57 :: u58 :: u59 :: u60 :: u61 :: u62 :: u63 :: u64 :: u65 :: u66 :: u67 :: u68 :: u69 :: u70 :: u71 :: u72 :: u73 :: u74 :: u75 :: u76 :: u77 :: u78 :: u79 :: u80 :: u81 :: u82 :: u83 :: u84 :: u85 :: u86 :: (.int .i64 pk) :: u88 :: u89 :: u90 :: u91 :: u92 :: u93 :: u94 :: u95 :: u96 :: u97 :: u98 :: u99 :: u100 :: u101 :: u102 :: u103 :: u104 :: u105 :: u106 :: u107 :: u108 :: u109 :: u110 :: u111 :: u112 :: u113 :: u114 :: u115 :: u116 :: u117 :: u118 :: u119 :: u120 :: u121 :: u122 :: u123 :: u124 :: u125 :: u126 :: u127 :: u128 :: u129 :: u130 :: u131 :: u132 :: u133 :: u134 :: u135 :: u136 :: u137 :: u138 :: u139 :: u140 :: u141 :: u142 :: u143 :: u144 :: u145 :: u146 :: u147 :: u148 :: u149 :: u150 :: u151 :: u152 :: u153 :: u154 :: u155 :: u156 :: u157 :: u158 :: u159 :: u160 :: u161 :: u162 :: u163 :: u164 :: u165 :: u166 :: u167 :: u168 :: u169 :: u170 :: u171 :: u172 :: u173 :: u174 :: u175 :: u176 :: u177 :: u178 :: u179 :: u180 :: u181 :: u182 :: u183 :: u184 :: u185 :: u186 :: u187 :: u188 :: u189 :: u190 :: u191 :: u192 :: u193 :: u194 :: u195 :: u196 :: u197 :: u198 :: u199 :: u200 :: u201 :: u202 :: u203 :: u204 :: u205 :: u206 :: u207 :: u208 :: u209 :: u210 :: u211 :: u212 :: u213 :: u214 :: u215 :: u216 :: u217 :: u218 :: u219 :: u220 :: u221 :: u222 :: u223 :: u224 :: u225 :: u226 :: u227 :: u228 :: u229 :: u230 :: u231 :: u232 :: u233 :: u234 :: u235 :: u236 :: u237 :: u238 :: u239 :: u240 :: u241 :: u242 :: u243 :: u244 :: u245 :: u246 :: u247 :: u248 :: u249 :: u250 :: u251 :: u252 :: u253 :: u254 :: u255 :: u256 :: u257 :: u258 :: u259 :: u260 :: u261 :: u262 :: u263 :: u264 :: u265 :: u266 :: u267 :: u268 :: u269 :: u270 :: u271 :: u272 :: u273 :: u274 :: u275 :: u276 :: u277 :: u278 :: u279 :: u280 :: u281 :: u282 :: u283 :: u284 :: u285 :: u286 :: u287 :: u288 :: u289 :: u290 :: u291 :: u292 :: u293 :: u294 :: u295 :: u296 :: u297 :: u298 :: u299 :: u300 :: u301 :: u302 :: u303 :: u304 :: u305 :: u306 :: u307 :: u308 :: u309 :: u310 :: u311 :: u312 :: u313 :: u314 :: u315 :: u316 :: u317 :: u318 :: u319 :: u320 :: u321 :: u322 :: u323 :: u324 :: u325 :: u326 :: u327 :: u328 :: u329 :: u330 :: u331 :: u332 :: u333 :: u334 :: u335 :: u336 :: u337 :: u338 :: u339 :: u340 :: u341 :: u342 :: u343 :: u344 :: u345 :: u346 :: u347 :: u348 :: u349 :: u350 :: u351 :: u352 :: u353 :: u354 :: u355 :: u356 :: u357 :: u358 :: u359 :: u360 :: u361 :: u362 :: u363 :: u364 :: u365 :: u366 :: u367 :: u368 :: u369 :: u370 :: u371 :: u372 :: u373 :: u374 :: u375 :: u376 :: u377 :: u378 :: u379 :: u380 :: u381 :: u382 :: u383 :: u384 :: u385 :: u386 :: u387 :: u388 :: u389 :: u390 :: u391 :: []), []⟩ wv := by
  conv => arg 2; whnf
  have hcase : pk = 0 ∨ pk = 1 ∨ pk = 2 ∨ pk = 3 ∨ pk = 4 ∨ pk = 5 ∨ pk = 6 ∨ pk = 7 := by omega
  have hkxI : -9223372036854775808 ≤ (1 : Int) + kx ∧ (1 : Int) + kx ≤ 9223372036854775807 := by omega
  have hk1 := hkxI.1
  have hk2 := hkxI.2
  have hMv := HW.out.mf
  rcases hcase with rfl | rfl | rfl | rfl | rfl | rfl | rfl | rfl
  · as_aux_lemma =>
      have qb := begin_f b _ wv _ hMv (by have := Hnx.out; omega)
      rw [← Hnx.out] at qb
      clear hMv
      have hnb : ((nx : Int) != (nx : Int) - 1 + 1) = false := by simp
      go_wp2_with fail
      refine (q8 _).mono ?_
      rintro x w5 ⟨rfl, hw5⟩
      obtain rfl := hw5.symm
      clear hw5 q8 d1
      go_wp2_with fail
      refine qb.mono ?_
      rintro x w6 ⟨rfl, hM6, k6⟩
      have HK : Hid (KO w N b G w6 u8 m k) := KO.step HW.out HN.out hEl hM6 k6 (st_begin HW.out.mf.wf) (Nat.le_refl _)
      clear qb hM6 k6
      go_wp2_with fail
      exact Hexit.out _ _ _ _ _ _ _ _ _ _ _ _ _ _ _ _ _ _ _ _ _ _ _ _ _ _ _ _ _ _ _ _ _ _ _ _ _ _ _ _ _ _ _ _ _ _ _ _ _ _ _ _ _ _ _ _ _ _ _ _ _ _ _ _ _ _ _ _ _ _ _ _ _ _ _ _ _ _ _ _ _ _ _ _ _ _ _ _ _ _ _ _ _ _ _ _ HK
  · as_aux_lemma =>
      have qp := part_f b _ wv _ hMv (1 + (kx : Int)) hk1 hk2
      have hnb : ((nx : Int) != (nx : Int) - 1 + 1) = false := by simp
      clear hMv
      go_wp2_with fail
      refine (q8 _).mono ?_
      rintro x w5 ⟨rfl, hw5⟩
      obtain rfl := hw5.symm
      clear hw5 q8 d1
      go_wp2_with fail
      refine qp.mono ?_
      rintro x w6 ⟨_, ho⟩
      have HK : Hid (KO w N b G w6 u8 m k) := KO.part HW.out HN.out hEl ho
      rcases ho.val with rfl | ⟨e, he, rfl, t6⟩
      · rw [← Hnx.out]
        clear qp ho
        go_wp2_with fail
        exact Hexit.out _ _ _ _ _ _ _ _ _ _ _ _ _ _ _ _ _ _ _ _ _ _ _ _ _ _ _ _ _ _ _ _ _ _ _ _ _ _ _ _ _ _ _ _ _ _ _ _ _ _ _ _ _ _ _ _ _ _ _ _ _ _ _ _ _ _ _ _ _ _ _ _ _ _ _ _ _ _ _ _ _ _ _ _ _ _ _ _ _ _ _ _ _ _ _ _ HK
      · have heb : ((e : Int) == 0) = false := by simp; omega
        have heI : ¬ (e : Int) = 0 := by omega
        have qn := next_f b _ w6 _ (HW.out.mf.no t6)
        rw [← Hnx.out] at qn
        clear qp ho t6
        go_wp2_with fail
        refine qn.mono ?_
        rintro x w7 ⟨rfl, hw7⟩
        obtain rfl := hw7.symm
        clear qn hw7
        go_wp2_with fail
        exact Hexit.out _ _ _ _ _ _ _ _ _ _ _ _ _ _ _ _ _ _ _ _ _ _ _ _ _ _ _ _ _ _ _ _ _ _ _ _ _ _ _ _ _ _ _ _ _ _ _ _ _ _ _ _ _ _ _ _ _ _ _ _ _ _ _ _ _ _ _ _ _ _ _ _ _ _ _ _ _ _ _ _ _ _ _ _ _ _ _ _ _ _ _ _ _ _ _ _ HK
  · as_aux_lemma =>
      have qp := release_f b _ wv _ hMv (1 + (kx : Int)) hk1 hk2
      clear hMv q8 d1
      go_wp2_with fail
      refine qp.mono ?_
      rintro x w6 ⟨⟨e, rfl⟩, ho⟩
      have HK : Hid (KO w N b G w6 u8 m k) := KO.endp HW.out HN.out hEl (by omega) ho
      clear qp ho
      go_wp2_with fail
      exact Hexit.out _ _ _ _ _ _ _ _ _ _ _ _ _ _ _ _ _ _ _ _ _ _ _ _ _ _ _ _ _ _ _ _ _ _ _ _ _ _ _ _ _ _ _ _ _ _ _ _ _ _ _ _ _ _ _ _ _ _ _ _ _ _ _ _ _ _ _ _ _ _ _ _ _ _ _ _ _ _ _ _ _ _ _ _ _ _ _ _ _ _ _ _ _ _ _ _ HK
  · as_aux_lemma =>
      have qp := back_f b _ wv _ hMv (1 + (kx : Int)) hk1 hk2
      clear hMv q8 d1
      go_wp2_with fail
      refine qp.mono ?_
      rintro x w6 ⟨⟨e, rfl⟩, ho⟩
      have HK : Hid (KO w N b G w6 u8 m k) := KO.endp HW.out HN.out hEl (by omega) ho
      clear qp ho
      go_wp2_with fail
      exact Hexit.out _ _ _ _ _ _ _ _ _ _ _ _ _ _ _ _ _ _ _ _ _ _ _ _ _ _ _ _ _ _ _ _ _ _ _ _ _ _ _ _ _ _ _ _ _ _ _ _ _ _ _ _ _ _ _ _ _ _ _ _ _ _ _ _ _ _ _ _ _ _ _ _ _ _ _ _ _ _ _ _ _ _ _ _ _ _ _ _ _ _ _ _ _ _ _ _ HK
  · as_aux_lemma =>
      have qp := prepare_f b _ wv _ hMv (1 + (kx : Int)) hk1 hk2
      clear hMv q8 d1
      go_wp2_with fail
      refine qp.mono ?_
      rintro x w6 ho
      obtain ⟨e, rfl⟩ := ho.val
      have HK : Hid (KO w N b G w6 u8 m k) := KO.turn HW.out HN.out hEl ho (fun t => ⟨rfl, rfl⟩)
      clear qp ho
      go_wp2_with fail
      exact Hexit.out _ _ _ _ _ _ _ _ _ _ _ _ _ _ _ _ _ _ _ _ _ _ _ _ _ _ _ _ _ _ _ _ _ _ _ _ _ _ _ _ _ _ _ _ _ _ _ _ _ _ _ _ _ _ _ _ _ _ _ _ _ _ _ _ _ _ _ _ _ _ _ _ _ _ _ _ _ _ _ _ _ _ _ _ _ _ _ _ _ _ _ _ _ _ _ _ HK
  · as_aux_lemma =>
      have qp := commit_f b _ wv _ hMv (1 + (kx : Int)) hk1 hk2
      clear hMv q8 d1
      go_wp2_with fail
      refine qp.mono ?_
      rintro x w6 ⟨⟨e, rfl⟩, ho⟩
      have HK : Hid (KO w N b G w6 u8 m k) := KO.turn HW.out HN.out hEl ho (fun t => ⟨rfl, rfl⟩)
      clear qp ho
      go_wp2_with fail
      exact Hexit.out _ _ _ _ _ _ _ _ _ _ _ _ _ _ _ _ _ _ _ _ _ _ _ _ _ _ _ _ _ _ _ _ _ _ _ _ _ _ _ _ _ _ _ _ _ _ _ _ _ _ _ _ _ _ _ _ _ _ _ _ _ _ _ _ _ _ _ _ _ _ _ _ _ _ _ _ _ _ _ _ _ _ _ _ _ _ _ _ _ _ _ _ _ _ _ _ HK
  · as_aux_lemma =>
      have qp := abort_f b _ wv _ hMv (1 + (kx : Int)) hk1 hk2
      clear hMv q8 d1
      go_wp2_with fail
      refine qp.mono ?_
      rintro x w6 ⟨⟨e, rfl⟩, ho⟩
      have HK : Hid (KO w N b G w6 u8 m k) := KO.turn HW.out HN.out hEl ho (fun t => ⟨rfl, rfl⟩)
      clear qp ho
      go_wp2_with fail
      exact Hexit.out _ _ _ _ _ _ _ _ _ _ _ _ _ _ _ _ _ _ _ _ _ _ _ _ _ _ _ _ _ _ _ _ _ _ _ _ _ _ _ _ _ _ _ _ _ _ _ _ _ _ _ _ _ _ _ _ _ _ _ _ _ _ _ _ _ _ _ _ _ _ _ _ _ _ _ _ _ _ _ _ _ _ _ _ _ _ _ _ _ _ _ _ _ _ _ _ HK
  ·   skip
      have qS := snapshot_f b _ wv _ hMv
      obtain ⟨i5, hi5, hz50, hz51, hz52⟩ := info_parts info_saw
      clear hMv q8 d1
      obtain ⟨ko, kc, rfl⟩ := row_slice HW.out.row
      obtain ⟨el, hel⟩ : ∃ el, el = E.length := ⟨_, rfl⟩
      rw [← hel] at HW hEl ⊢
      have Hel : Hid (el = E.length) := hel
      clear hel
      have hnxb : nx ≤ 123 := by omega
      go_wp2_with fail
      refine qS.mono ?_
      rintro x w6 ⟨⟨v, rfl, hv⟩, t6⟩
      obtain ⟨so, sc, rfl⟩ := row_slice hv
      obtain ⟨mn, hmn⟩ : ∃ mn, mn = m.on.headD m.nx := ⟨_, rfl⟩
      obtain ⟨ol, hol⟩ : ∃ ol, ol = m.on.length := ⟨_, rfl⟩
      rw [← hmn, ← hol, ← Hnx.out]
      have Hmn : Hid (mn = m.on.headD m.nx) := hmn
      have Hol : Hid (ol = m.on.length) := hol
      have Hv : Hid (w6.ownsRow wv.heap.size 3 1 (.slice so m.on.length sc) m.on.length (icl m.on)) := hv
      have Ht6 : Hid (Tch (fun _ => False) wv w6) := t6
      obtain ⟨X, hX⟩ : ∃ X, X = w6.heap.size := ⟨_, rfl⟩
      have HX : Hid (X = w6.heap.size) := hX
      obtain ⟨w7, hw7⟩ : ∃ w7, w7 = w6.alloc (.cells #[.int .i64 mn, .int .i64 nx, .slice so ol sc, .slice none 0 0, .int .i64 nx] 47) := ⟨_, rfl⟩
      have Hw7 : Hid (w7 = w6.alloc (.cells #[.int .i64 mn, .int .i64 nx, .slice so ol sc, .slice none 0 0, .int .i64 nx] 47)) := hw7
      have HX7 : Hid (w7.heap[X]? = some (.cells #[.int .i64 mn, .int .i64 nx, .slice so ol sc, .slice none 0 0, .int .i64 nx] 47 (0, 0)) ∧ Tch (fun _ => False) w6 w7) := ⟨by rw [hw7, hX]; exact alloc_new _ _, by rw [hw7]; exact Tch.alloc _ _ _⟩
      clear qS hv t6 hmn hol hX hw7
      go_wp2_with fail
      have hw7 := Hw7.out
      rw [← hw7, ← HX.out]
      clear hw7
      refine loop2 w wv w6 w7 N b G X (.slice ko el kc) nx mn ol m E F so sc Hnx hnxb hnx2 HW Hmn Hol Hv Ht6 HX HX7 _ _ _ _ _ _ _ _ _ _ _ _ _ _ _ _ _ _ _ _ _ _ _ _ _ _ _ _ _ _ _ _ _ _ _ _ _ _ _ _ _ _ _ _ _ _ _ _ _ _ _ _ _ _ _ _ _ _ _ _ _ _ _ _ _ _ _ _ _ _ _ _ _ _ _ _ _ _ _ _ _ _ _ _ _ _ _ _ _ _ _ _ _ _ _ _ _ _ _ _ _ _ _ _ _ _ _ _ _ _ _ _ _ _ _ _ _ _ _ _ _ _ _ _ _ _ _ _ _ _ _ _ _ _ _ _ _ _ _ _ _ _ _ _ _ _ _ _ _ _ _ _ _ _ _ _ _ _ _ _ _ _ _ _ _ _ _ _ _ _ _ _ _ _ _ _ _ _ _ _ _ _ _ _ _ _ _ _ _ _ _ _ _ _ _ _ _ _ _ _ _ _ _ _ _ _ _ _ _ _ _ _ _ _ _ _ _ _ _ _ _ _ _ _ _ _ _ _ _ _ _ _ _ _ _ _ _ _ _ _ _ _ _ _ _ _ _ _ _ _ _ _ _ _ _ _ _ _ _ _ _ _ _ _ _ _ _ _ _ _ _ _ _ _ _ _ _ _ _ _ _ _ _ _ _ _ _ _ _ _ _ _ _ _ _ _ _ _ _ _ _ _ _ _ _ _ _ _ _ _ _ _ _ _ _ _ _ _ _ _ _ _ _ _ _ _ _ _ _ _ _ _ _ _ _ _ _ _ _ _ _ _ _ _ _ _ _ _ _ _ _ _ _ _ _ _ _ _ _ _ _ _ _ _ _ _ _ _ _ _ _ _ _ _ _ _ _ _ _ _ _ _ _ _ _ _ _ _ _ ?_
      intro y16 y93 y94 y95 y96 y97 y98 y99 y100 y101 y102 y103 y104 y105 y106 y107 ss sd w9 HE
      have x0 : w9.cell? ⟨X, 0, none⟩ = some (.int .i64 mn) := by rw [blk_cell HE.out.1]; rfl
      have x1 : w9.cell? ⟨X, 1, none⟩ = some (.int .i64 nx) := by rw [blk_cell HE.out.1]; rfl
      have x2 : w9.cell? ⟨X, 2, none⟩ = some (.slice so ol sc) := by rw [blk_cell HE.out.1]; rfl
      have x3 : w9.cell? ⟨X, 3, none⟩ = some (.slice ss nx sd) := by rw [blk_cell HE.out.1]; rfl
      have x4 : w9.cell? ⟨X, 4, none⟩ = some (.int .i64 nx) := by rw [blk_cell HE.out.1]; rfl
      obtain ⟨wA, hwA⟩ : ∃ wA, wA = w9.alloc (.cells #[.int .i64 mn, .int .i64 nx, .slice so ol sc, .slice ss nx sd, .int .i64 nx] 47) := ⟨_, rfl⟩
      have t9A : Tch (fun _ => False) w9 wA := by rw [hwA]; exact Tch.alloc _ _ _
      have HtA : Hid (Tch (fun _ => False) wv wA) := (Ht6.out.trans' HE.out.2.2).trans' t9A
      have HR : Hid (wA.ownsRow 0 47 5 (.slice ko el kc) el (ecl E)) := by
        have h := own_tch HW.out.row HtA.out (fun _ _ h => h)
        rw [← Hel.out] at h
        exact h
      have HO : Hid (wA.ownsRow wv.heap.size 3 1 (.slice so m.on.length sc) m.on.length (icl m.on)) := own_tch Hv.out (HE.out.2.2.trans' t9A) (fun _ _ h => h)
      have HS : Hid (wA.ownsRow wv.heap.size 4 1 (.slice ss m.nx sd) m.nx (bcl (seN m m.nx))) := by
        have h := own_low (own_tch HE.out.2.1 t9A (fun _ _ h => h)) Ht6.out.size
        rw [Hnx.out] at h
        exact h
      have Hnews : Hid (∀ j u, ([.int .i64 mn, .int .i64 nx, .slice so ol sc, .slice ss nx sd, .int .i64 nx] : List Value)[j]? = some u → wA.cell? ((⟨w9.heap.size, 0, none⟩ : Addr).add j) = some u) := fun j u hu => by
        have hbA : wA.heap[w9.heap.size]? = some (.cells #[.int .i64 mn, .int .i64 nx, .slice so ol sc, .slice ss nx sd, .int .i64 nx] 47 (0, 0)) := by rw [hwA]; exact alloc_new _ _
        rw [add_plain, blk_cell hbA]
        simpa using hu
      have HwA : Hid _ := hwA
      clear hwA t9A
      go_wp2_with (at_builtin; have hwA := HwA.out; rw [← hwA]; clear hwA; refine wpList_append_keeps _ rfl _ _ 45 rfl 0 47 i5 (.agg #[.int .i64 0, .int .i64 0, .slice none 0 0, .slice none 0 0, .int .i64 0]) 5 72 Try.underlying45 hi5 hz50 hz51 hz52 rfl (by decide) (.slice ko el kc) el (ecl E) rfl HR.out ⟨w9.heap.size, 0, none⟩ 1 1 [.int .i64 mn, .int .i64 nx, .slice so ol sc, .slice ss nx sd, .int .i64 nx] rfl rfl Hnews.out (by simp [Value.oneCell']) (by unfold maxLen; omega) (by omega) (Nat.zero_le _) ?_; intro v4 w10 hown4 hgr4 hat4 _; have HK : Hid (KO w N b G w10 v4 m k) := (by rw [Hmn.out, Hol.out, Hnx.out, Hel.out] at hown4; have h0 := HW.out; rw [Hel.out] at h0 hgr4 hat4; exact KO.snap h0 HN.out (by rw [← Hel.out]; exact hEl) HtA.out HO.out HS.out hown4 hgr4 hat4); clear hown4 hgr4 hat4 HR HO HS Hnews HtA x0 x1 x2 x3 x4)
      exact Hexit.out _ _ _ _ _ _ _ _ _ _ _ _ _ _ _ _ _ _ _ _ _ _ _ _ _ _ _ _ _ _ _ _ _ _ _ _ _ _ _ _ _ _ _ _ _ _ _ _ _ _ _ _ _ _ _ _ _ _ _ _ _ _ _ _ _ _ _ _ _ _ _ _ _ _ _ _ _ _ _ _ _ _ _ _ _ _ _ _ _ _ _ _ _ _ _ _ HK
end Go.Proofs.Ytkokmgoplldcfaa
