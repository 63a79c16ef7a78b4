/- XactKeeps: loops 4 and 5. -/
import Derived.Test.YtkokmgoplldcfaaXKeep3
import Derived.Test.YtkokmgoplldcfaaXLoops
namespace Go.Proofs.Ytkokmgoplldcfaa
open Go.RowKit Go Go.Sort

set_option maxHeartbeats 4000000 in
set_option maxRecDepth 100000 in
theorem loop4 (w wj : World) (N b G : Nat) (ko : Option Addr) (el kc nx' : Nat) (m' : Mg) (E' : List EW) (F' : Nat → Prop) (Q0 : Exit → Act → World → Prop)
    (HN : Hid (N = w.heap.size)) (Hnx' : Hid (nx' = m'.nx)) (hnxb : nx' ≤ 123) (hnx22 : 2 ≤ nx') (Hel : Hid (el = E'.length)) (hE' : el ≤ 121)
    (HLG : Hid (LW w N b G wj (.slice ko el kc) (gOf m') m' E' F'))
    (u0 u1 u2 u3 u4 u6 u7 u10 u11 u12 u13 u14 u15 u16 u17 u18 u19 u20 u22 u23 u24 u25 u26 u27 u28 u29 u30 u31 u32 u33 u34 u35 u36 u37 u38 u39 u40 u41 u42 u43 u44 u45 u46 u47 u48 u49 u50 u51 u52 u53 u54 u55 u56 u57 u58 u59 u60 u61 u62 u63 u64 u65 u66 u67 u68 u69 u70 u71 u72 u73 u74 u75 u76 u77 u78 u79 u80 u81 u82 u83 u84 u85 u86 u87 u88 u89 u90 u91 u92 u93 u94 u95 u96 u97 u98 u99 u100 u101 u102 u103 u104 u105 u106 u107 u108 u109 u110 u111 u112 u113 u114 u115 u116 u117 u118 u119 u120 u121 u122 u123 u124 u125 u126 u127 u128 u129 u130 u131 u132 u133 u134 u135 u136 u137 u138 u139 u140 u141 u142 u143 u144 u145 u146 u147 u148 u149 u150 u151 u152 u153 u154 u155 u156 u157 u158 u159 u160 u161 u162 u163 u164 u165 u166 u167 u168 u169 u170 u171 u172 u173 u174 u175 u176 u177 u178 u179 u180 u181 u182 u183 u184 u185 u186 u187 u188 u189 u190 u191 u192 u193 u194 u195 u196 u197 u198 u199 u200 u201 u202 u203 u204 u205 u206 u207 u208 u209 u210 u211 u212 u213 u214 u215 u216 u217 u218 u219 u220 u221 u222 u223 u224 u225 u226 u227 u228 u229 u230 u231 u232 u233 u234 u235 u236 u237 u238 u239 u240 u241 u242 u243 u244 u245 u246 u247 u248 u249 u250 u251 u252 u253 u254 u255 u256 u257 u258 u259 u260 u261 u262 u263 u264 u265 u266 u267 u268 u269 u270 u271 u272 u273 u274 u275 u276 u277 u278 u279 u280 u281 u282 u283 u284 u285 u286 u287 u288 u289 u290 u291 u292 u293 u294 u295 u296 u297 u298 u299 u300 u301 u302 u303 u304 u305 u306 u307 u308 u309 u310 u311 u312 u313 u314 u315 u316 u317 u318 u319 u320 u321 u322 u323 u324 u325 u326 u327 u328 u329 u330 u331 u332 u333 u334 u335 u336 u337 u338 u339 u340 u341 u342 u343 u344 u345 u346 u347 u348 u349 u350 u351 u352 u353 u354 u355 u356 u357 u358 u359 u360 u361 u362 u363 u364 u365 u366 u367 u368 u369 u370 u371 u372 u373 u374 u375 u376 u377 u378 u379 u380 u381 u382 u383 u384 u385 u386 u387 u388 u389 u390 u391 : Value)
    (Hexit : Hid (∀ (v4 v21 v22 v23 v24 v224 v225 v226 v227 v228 v229 v230 v231 v232 v233 v234 v235 v236 v237 v238 v239 v240 v241 v242 v243 v244 v245 v246 v247 v248 v249 v250 v251 v252 v253 v254 v255 v256 v257 v258 v259 v260 v261 v262 v263 v264 v265 v266 v267 v268 v269 v270 v271 v272 v273 v274 v275 v276 v277 v278 v279 : Value) (wx : World), Hid (LW w N b G wx (.slice ko el kc) (gOf m') m' E' F') → Q0 (.exit 7) ⟨List.toArray (u0 :: u1 :: u2 :: u3 :: (v4) :: (.pointer (some ⟨b, 0, none⟩)) :: u6 :: u7 :: (.slice ko el kc) :: (.slice (some ⟨G, 0, none⟩) 400 400) :: u10 :: u11 :: u12 :: u13 :: u14 :: u15 :: u16 :: u17 :: u18 :: u19 :: u20 :: (v21) :: (v22) :: (v23) :: (v24) :: u25 :: u26 :: u27 :: u28 :: u29 :: u30 :: u31 :: u32 :: u33 :: u34 :: u35 :: u36 :: u37 :: u38 :: u39 :: u40 :: u41 :: u42 :: u43 :: u44 :: u45 :: u46 :: u47 :: u48 :: u49 :: u50 :: u51 :: u52 :: u53 :: u54 :: u55 :: u56 :: u57 :: u58 :: u59 :: u60 :: u61 :: u62 :: u63 :: u64 :: u65 :: u66 :: u67 :: u68 :: u69 :: u70 :: u71 :: u72 :: u73 :: u74 :: u75 :: u76 :: u77 :: u78 :: u79 :: u80 :: u81 :: u82 :: u83 :: u84 :: u85 :: u86 :: u87 :: u88 :: u89 :: u90 :: u91 :: u92 :: u93 :: u94 :: u95 :: u96 :: u97 :: u98 :: u99 :: u100 :: u101 :: u102 :: u103 :: u104 :: u105 :: u106 :: u107 :: u108 :: u109 :: u110 :: u111 :: u112 :: u113 :: u114 :: u115 :: u116 :: u117 :: u118 :: u119 :: u120 :: u121 :: u122 :: u123 :: u124 :: u125 :: u126 :: u127 :: u128 :: u129 :: u130 :: u131 :: u132 :: u133 :: u134 :: u135 :: u136 :: u137 :: u138 :: u139 :: u140 :: u141 :: u142 :: u143 :: u144 :: u145 :: u146 :: u147 :: u148 :: u149 :: u150 :: u151 :: u152 :: u153 :: u154 :: u155 :: u156 :: u157 :: u158 :: u159 :: u160 :: u161 :: u162 :: u163 :: u164 :: u165 :: u166 :: u167 :: u168 :: u169 :: u170 :: u171 :: u172 :: u173 :: u174 :: u175 :: u176 :: u177 :: u178 :: u179 :: u180 :: u181 :: u182 :: u183 :: u184 :: u185 :: u186 :: u187 :: u188 :: u189 :: u190 :: u191 :: u192 :: u193 :: u194 :: u195 :: u196 :: u197 :: u198 :: u199 :: u200 :: u201 :: u202 :: u203 :: u204 :: u205 :: u206 :: u207 :: u208 :: u209 :: u210 :: u211 :: u212 :: u213 :: u214 :: u215 :: u216 :: u217 :: u218 :: u219 :: u220 :: u221 :: u222 :: u223 :: (v224) :: (v225) :: (v226) :: (v227) :: (v228) :: (v229) :: (v230) :: (v231) :: (v232) :: (v233) :: (v234) :: (v235) :: (v236) :: (v237) :: (v238) :: (v239) :: (v240) :: (v241) :: (v242) :: (v243) :: (v244) :: (v245) :: (v246) :: (v247) :: (v248) :: (v249) :: (v250) :: (v251) :: (v252) :: (v253) :: (v254) :: (v255) :: (v256) :: (v257) :: (v258) :: (v259) :: (v260) :: (v261) :: (v262) :: (v263) :: (v264) :: (v265) :: (v266) :: (v267) :: (v268) :: (v269) :: (v270) :: (v271) :: (v272) :: (v273) :: (v274) :: (v275) :: (v276) :: (v277) :: (v278) :: (v279) :: u280 :: u281 :: u282 :: u283 :: u284 :: u285 :: u286 :: u287 :: u288 :: u289 :: u290 :: u291 :: u292 :: u293 :: u294 :: u295 :: u296 :: u297 :: u298 :: u299 :: u300 :: u301 :: u302 :: u303 :: u304 :: u305 :: u306 :: u307 :: u308 :: u309 :: u310 :: u311 :: u312 :: u313 :: u314 :: u315 :: u316 :: u317 :: u318 :: u319 :: u320 :: u321 :: u322 :: u323 :: u324 :: u325 :: u326 :: u327 :: u328 :: u329 :: u330 :: u331 :: u332 :: u333 :: u334 :: u335 :: u336 :: u337 :: u338 :: u339 :: u340 :: u341 :: u342 :: u343 :: u344 :: u345 :: u346 :: u347 :: u348 :: u349 :: u350 :: u351 :: u352 :: u353 :: u354 :: u355 :: u356 :: u357 :: u358 :: u359 :: u360 :: u361 :: u362 :: u363 :: u364 :: u365 :: u366 :: u367 :: u368 :: u369 :: u370 :: u371 :: u372 :: u373 :: u374 :: u375 :: u376 :: u377 :: u378 :: u379 :: u380 :: u381 :: u382 :: u383 :: u384 :: u385 :: u386 :: u387 :: u388 :: u389 :: u390 :: u391 :: []), []⟩ wx)) :
    Code.wp Try.prog (Code.loop body4) Q0 ⟨List.toArray (u0 :: u1 :: u2 :: u3 :: u4 :: (.pointer (some ⟨b, 0, none⟩)) :: u6 :: u7 :: (.slice ko el kc) :: (.slice (some ⟨G, 0, none⟩) 400 400) :: u10 :: u11 :: u12 :: u13 :: u14 :: u15 :: u16 :: u17 :: u18 :: u19 :: u20 :: (.int .i64 0) :: u22 :: u23 :: u24 :: u25 :: u26 :: u27 :: u28 :: u29 :: u30 :: u31 :: u32 :: u33 :: u34 :: u35 :: u36 :: u37 :: u38 :: u39 :: u40 :: u41 :: u42 :: u43 :: u44 :: u45 :: u46 :: u47 :: u48 :: u49 :: u50 :: u51 :: u52 :: u53 :: u54 :: u55 :: u56 :: u57 :: u58 :: u59 :: u60 :: u61 :: u62 :: u63 :: u64 :: u65 :: u66 :: u67 :: u68 :: u69 :: u70 :: u71 :: u72 :: u73 :: u74 :: u75 :: u76 :: u77 :: u78 :: u79 :: u80 :: u81 :: u82 :: u83 :: u84 :: u85 :: u86 :: u87 :: u88 :: u89 :: u90 :: u91 :: u92 :: u93 :: u94 :: u95 :: u96 :: u97 :: u98 :: u99 :: u100 :: u101 :: u102 :: u103 :: u104 :: u105 :: u106 :: u107 :: u108 :: u109 :: u110 :: u111 :: u112 :: u113 :: u114 :: u115 :: u116 :: u117 :: u118 :: u119 :: u120 :: u121 :: u122 :: u123 :: u124 :: u125 :: u126 :: u127 :: u128 :: u129 :: u130 :: u131 :: u132 :: u133 :: u134 :: u135 :: u136 :: u137 :: u138 :: u139 :: u140 :: u141 :: u142 :: u143 :: u144 :: u145 :: u146 :: u147 :: u148 :: u149 :: u150 :: u151 :: u152 :: u153 :: u154 :: u155 :: u156 :: u157 :: u158 :: u159 :: u160 :: u161 :: u162 :: u163 :: u164 :: u165 :: u166 :: u167 :: u168 :: u169 :: u170 :: u171 :: u172 :: u173 :: u174 :: u175 :: u176 :: u177 :: u178 :: u179 :: u180 :: u181 :: u182 :: u183 :: u184 :: u185 :: u186 :: u187 :: u188 :: u189 :: u190 :: u191 :: u192 :: u193 :: u194 :: u195 :: u196 :: u197 :: u198 :: u199 :: u200 :: u201 :: u202 :: u203 :: u204 :: u205 :: u206 :: u207 :: u208 :: u209 :: u210 :: u211 :: u212 :: u213 :: u214 :: u215 :: u216 :: u217 :: u218 :: u219 :: u220 :: u221 :: u222 :: u223 :: u224 :: u225 :: u226 :: u227 :: u228 :: u229 :: u230 :: u231 :: u232 :: u233 :: u234 :: u235 :: u236 :: u237 :: u238 :: u239 :: u240 :: u241 :: u242 :: u243 :: u244 :: u245 :: u246 :: u247 :: u248 :: u249 :: u250 :: u251 :: u252 :: u253 :: u254 :: u255 :: u256 :: u257 :: u258 :: u259 :: u260 :: u261 :: u262 :: u263 :: u264 :: u265 :: u266 :: u267 :: u268 :: u269 :: u270 :: u271 :: u272 :: u273 :: u274 :: u275 :: u276 :: u277 :: u278 :: u279 :: u280 :: u281 :: u282 :: u283 :: u284 :: u285 :: u286 :: u287 :: u288 :: u289 :: u290 :: u291 :: u292 :: u293 :: u294 :: u295 :: u296 :: u297 :: u298 :: u299 :: u300 :: u301 :: u302 :: u303 :: u304 :: u305 :: u306 :: u307 :: u308 :: u309 :: u310 :: u311 :: u312 :: u313 :: u314 :: u315 :: u316 :: u317 :: u318 :: u319 :: u320 :: u321 :: u322 :: u323 :: u324 :: u325 :: u326 :: u327 :: u328 :: u329 :: u330 :: u331 :: u332 :: u333 :: u334 :: u335 :: u336 :: u337 :: u338 :: u339 :: u340 :: u341 :: u342 :: u343 :: u344 :: u345 :: u346 :: u347 :: u348 :: u349 :: u350 :: u351 :: u352 :: u353 :: u354 :: u355 :: u356 :: u357 :: u358 :: u359 :: u360 :: u361 :: u362 :: u363 :: u364 :: u365 :: u366 :: u367 :: u368 :: u369 :: u370 :: u371 :: u372 :: u373 :: u374 :: u375 :: u376 :: u377 :: u378 :: u379 :: u380 :: u381 :: u382 :: u383 :: u384 :: u385 :: u386 :: u387 :: u388 :: u389 :: u390 :: u391 :: []), []⟩ wj := by
  conv => arg 2; arg 1; whnf
  go_loopw [21] (fun i wr => ∃ a : Nat, i = .int .i64 a ∧ a ≤ el ∧ Hid (LW w N b G wr (.slice ko el kc) (gOf m') m' E' F')) (fun i _ => el - (intOf i).toNat)
  case atStart => exact ⟨0, rfl, by omega, HLG⟩
  case round =>
    obtain ⟨a, rfl, hal, HLa⟩ := hrel
    by_cases halt : (a : Int) < el
    · have hae : a < E'.length := by have := Hel.out; omega
      obtain ⟨x, hx⟩ : ∃ x, E'[a]? = some x := ⟨_, List.getElem?_eq_getElem hae⟩
      have hxm : x ∈ E' := List.mem_of_getElem? hx
      obtain ⟨kg, kc', hkv, _⟩ := HLa.out.at hx
      obtain ⟨rfl, rfl⟩ : ko = some ⟨kg, 0, none⟩ ∧ kc = kc' := by injection hkv with h1 _ h2; exact ⟨h1, h2⟩
      have Hx : Hid (E'[a]? = some x) := hx
      have Hxm : Hid (x ∈ E') := hxm
      clear hkv hae hx hxm
      go_wp2_with fail
      go_loopw [22] (fun i wr => ∃ j : Nat, i = .int .i64 j ∧ 1 ≤ j ∧ j ≤ nx' ∧ Hid (LW w N b G wr (.slice (some ⟨kg, 0, none⟩) el kc) (gOf m') m' E' F')) (fun i _ => nx' - (intOf i).toNat)
      case atStart => exact ⟨1, rfl, by omega, by omega, HLa⟩
      case round =>
        obtain ⟨j2, rfl, hj1', hjn', HLb⟩ := hrel
        have qn := next_f b _ wr _ HLb.out.mf
        rw [← Hnx'.out] at qn
        go_wp2_with fail
        refine qn.mono ?_
        rintro y w5 ⟨rfl, hw5⟩
        obtain rfl := hw5.symm
        clear qn hw5
        by_cases hjlt' : (j2 : Int) < nx'
        · have hjl' : j2 < nx' := by omega
          have hjm' : j2 < m'.nx := by rw [← Hnx'.out]; exact hjl'
          obtain ⟨mn, hmn⟩ : ∃ mn, mn = x.e.mn := ⟨_, rfl⟩
          obtain ⟨xn, hxn⟩ : ∃ xn, xn = x.e.nx := ⟨_, rfl⟩
          obtain ⟨ol, hol⟩ : ∃ ol, ol = x.e.on.length := ⟨_, rfl⟩
          obtain ⟨v, hv⟩ : ∃ v, v = x.e.se.getD j2 false := ⟨_, rfl⟩
          obtain ⟨gg, hgg⟩ : ∃ gg, gg = gOf m' j2 := ⟨_, rfl⟩
          have hok := HLb.out.ok x Hxm.out
          have hsee := hok.se j2 hj1' hjm'
          rw [← hv, ← hxn, ← hmn] at hsee
          have hgn : gg = true → (decide (j2 < xn) && v) = false := fun hg => by
            rw [← hsee]
            rw [hgg] at hg
            unfold gOf at hg
            rw [decide_eq_true_eq] at hg
            cases hf : fnd m'.tx (j2 : Int) with
            | none => exact absurd hf (HLb.out.all j2 hj1' hjm')
            | some q =>
              obtain ⟨t, i⟩ := q
              have h4 : stE (some (t, i)) = 4 := by simpa [Mg.state, hf] using hg.2.2
              rw [hxn, sees_zero HLb.out.mf.wf x.e _ hf, h4]; rfl
          have hRW := HLb.out.ent x Hxm.out
          have q := sees_f b _ wr F' HLb.out.mf mn xn (ints x.e.on) x.so x.sc (by
            simp only [ints, List.length_map]
            rcases hRW.o.2 with ⟨_, h5⟩ | ⟨_, _, _, _, _, _, h6, h7, _⟩
            · omega
            · unfold maxLen at h7; omega) hRW.ir 0 j2 (by omega) (by omega) (by omega) (by omega)
          rw [hsee, show (ints x.e.on).length = x.e.on.length by simp [ints], ← hol] at q
          have HD : Hid (∀ W, Tch (fun _ => False) wr W → ((W.cell? ⟨kg, a * 5, none⟩ = some (.int .i64 mn) ∧ W.cell? ⟨kg, a * 5 + 1, none⟩ = some (.int .i64 xn) ∧ W.cell? ⟨kg, a * 5 + 2, none⟩ = some (.slice x.so ol x.sc) ∧ W.cell? ⟨kg, a * 5 + 4, none⟩ = some (.int .i64 xn)) ∧ W.cell? ⟨G, j2, none⟩ = some (.bool gg) ∧ (j2 < xn → ∃ sg, W.cell? ⟨kg, a * 5 + 3, none⟩ = some (.slice (some ⟨sg, 0, none⟩) xn x.sd) ∧ W.cell? ⟨sg, j2, none⟩ = some (.bool v)))) := fun W tW => by
            have hLW := HLb.out.no HN.out tW
            obtain ⟨kg', kc2, hkv2, f0, f1, f2, f3, f4⟩ := hLW.at Hx.out
            obtain rfl : kg = kg' := by injection hkv2 with h1; injection h1 with h1; injection h1 with h1
            rw [← hmn] at f0
            rw [← hxn] at f1 f4
            rw [← hol] at f2
            refine ⟨⟨f0, f1, f2, f4⟩, ?_, fun hlt => ?_⟩
            · rw [blk_cell hLW.ga, List.getElem?_toArray, gcells_at _ (by omega), hgg]
            · have hsl := hok.len
              obtain ⟨sg, es, ec⟩ := (hLW.ent x Hxm.out).saw (j := j2) (by rw [hsl, ← hxn]; exact hlt)
              rw [es, hsl, ← hxn] at f3
              exact ⟨sg, f3, by rw [hv]; exact ec⟩
          obtain ⟨⟨e0, e1, e2, e4⟩, _, _⟩ := HD.out wr (Tch.refl _ _)
          have Hok : Hid _ := hok
          clear hsee hRW hmn hxn hol hv hgg hok
          go_wp2_with fail
          refine q.mono ?_
          rintro y w10 ⟨rfl, t10⟩
          have HL10 : Hid (LW w N b G w10 (.slice (some ⟨kg, 0, none⟩) el kc) (gOf m') m' E' F') := HLb.out.no HN.out t10
          obtain ⟨⟨g0, g1, g2, g4⟩, cG, gs⟩ := HD.out w10 t10
          clear q t10 e0 e1 e2 e4 HD
          by_cases hjx : j2 < xn
          · obtain ⟨sg, g3, gv⟩ := gs hjx
            have hjxI : (j2 : Int) < xn := by omega
            rw [decide_eq_true hjx, Bool.true_and] at hgn ⊢
            clear gs
            cases gg
            · clear hgn
              as_aux_lemma =>
                go_wp2_with fail
                go_roundw
                case rel => exact ⟨j2 + 1, by go_num, by omega, by omega, HL10⟩
                case measure => simp [intOf]; omega
            · have hvf := hgn rfl
              subst hvf
              clear hgn
              as_aux_lemma =>
                go_wp2_with fail
                go_roundw
                case rel => exact ⟨j2 + 1, by go_num, by omega, by omega, HL10⟩
                case measure => simp [intOf]; omega
          · have hjxI : ¬ (j2 : Int) < xn := by omega
            rw [decide_eq_false hjx, Bool.false_and] at hgn ⊢
            clear gs hgn
            cases gg
            all_goals
              as_aux_lemma =>
                go_wp2_with fail
                go_roundw
                case rel => exact ⟨j2 + 1, by go_num, by omega, by omega, HL10⟩
                case measure => simp [intOf]; omega
        · go_wp2_with fail
          go_roundw
          case rel => exact ⟨a + 1, by go_num, by omega, HLb⟩
          case measure => simp [intOf]; omega
    · go_wp2_with fail
      exact Hexit.out _ _ _ _ _ _ _ _ _ _ _ _ _ _ _ _ _ _ _ _ _ _ _ _ _ _ _ _ _ _ _ _ _ _ _ _ _ _ _ _ _ _ _ _ _ _ _ _ _ _ _ _ _ _ _ _ _ _ _ _ _ _ HLa
end Go.Proofs.Ytkokmgoplldcfaa
