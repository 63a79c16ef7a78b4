/- XactKeeps: loop 8. -/
import Derived.Test.YtkokmgoplldcfaaXKeep2
import Derived.Test.YtkokmgoplldcfaaXLoops
import Derived.Deep.DeepCutAuto
import Derived.Deep.CutBlock
namespace Go.Proofs.Ytkokmgoplldcfaa
open Go.RowKit Go Go.Sort

set_option maxHeartbeats 4000000 in
set_option maxRecDepth 100000 in
theorem loop8 (w8 wj : World) (b B : Nat) (ko : Option Addr) (el kc nx : Nat) (m : Mg) (E : List EW) (F1 : Nat → Prop) (below : Int) (j' s0 s1 : Nat) (z1 : Int) (HZ : Hid (z1 = (s1 : Int)))
    (HKD8 : Hid (KD w8 (.slice ko el kc) E F1)) (Hwf : Hid (Wf m)) (Hall : Hid (All m)) (Hok : Hid (∀ x ∈ E, EntOK m x.e)) (Hel : Hid (el = E.length)) (hEl : el ≤ 121)
    (hj1' : 1 ≤ j') (hjl' : j' < nx) (hjm : j' < m.nx) (Hs0 : Hid (s0 = m.state j'))
    (HG : Hid ((goneN m below j' = false ∧ s1 = s0) ∨ (goneN m below j' = true ∧ s1 = 0 ∧ (s0 = 3 ∨ s0 = 4) ∧ (j' : Int) < below)))
    (hs0c : 1 ≤ s0 ∧ s0 ≤ 4)
    (HcB : Hid (∀ W, Tch (fun _ => False) w8 W → W.cell? ⟨B, j', none⟩ = some (.int .i64 (s0 : Nat))))
    (HSee : Hid (∀ (x : EW), x ∈ E → ∀ W, Tch (fun _ => False) w8 W → Calls Try.prog 15 #[.pointer (some ⟨b, 0, none⟩), .agg #[.int .i64 x.e.mn, .int .i64 x.e.nx, .slice x.so x.e.on.length x.sc], .int .i64 0, .int .i64 j'] W fun y w' => y = .returned (.bool ((m.forget below).sees x.e.mn x.e.nx (ints x.e.on) 0 j')) ∧ Tch (fun _ => False) W w'))
    (Ht9 : Hid (Tch (fun _ => False) w8 wj)) (Q0 : Exit → Act → World → Prop)
    (u0 u1 u2 u3 u4 u6 u7 u9 u10 u11 u12 u13 u14 u15 u16 u17 u18 u19 u20 u21 u22 u23 u24 u25 u27 u28 u32 u33 u34 u35 u36 u37 u38 u39 u40 u41 u42 u43 u44 u45 u46 u47 u48 u49 u50 u51 u52 u53 u54 u55 u56 u57 u58 u59 u60 u61 u62 u63 u64 u65 u66 u67 u68 u69 u70 u71 u72 u73 u74 u75 u76 u77 u78 u79 u80 u81 u82 u83 u84 u85 u86 u87 u88 u89 u90 u91 u92 u93 u94 u95 u96 u97 u98 u99 u100 u101 u102 u103 u104 u105 u106 u107 u108 u109 u110 u111 u112 u113 u114 u115 u116 u117 u118 u119 u120 u121 u122 u123 u124 u125 u126 u127 u128 u129 u130 u131 u132 u133 u134 u135 u136 u137 u138 u139 u140 u141 u142 u143 u144 u145 u146 u147 u148 u149 u150 u151 u152 u153 u154 u155 u156 u157 u158 u159 u160 u161 u162 u163 u164 u165 u166 u167 u168 u169 u170 u171 u172 u173 u174 u175 u176 u177 u178 u179 u180 u181 u182 u183 u184 u185 u186 u187 u188 u189 u190 u191 u192 u193 u194 u195 u196 u197 u198 u199 u200 u201 u202 u203 u204 u205 u206 u207 u208 u209 u210 u211 u212 u213 u214 u215 u216 u217 u218 u219 u220 u221 u222 u223 u224 u225 u226 u227 u228 u229 u230 u231 u232 u233 u234 u235 u236 u237 u238 u239 u240 u241 u242 u243 u244 u245 u246 u247 u248 u249 u250 u251 u252 u253 u254 u255 u256 u257 u258 u259 u260 u261 u262 u263 u264 u265 u266 u267 u268 u269 u270 u271 u272 u273 u274 u275 u276 u277 u278 u279 u280 u281 u282 u283 u284 u285 u286 u287 u288 u289 u290 u291 u292 u293 u294 u295 u296 u297 u298 u299 u300 u301 u302 u303 u304 u305 u306 u307 u308 u309 u310 u311 u312 u313 u314 u315 u316 u317 u318 u319 u320 u321 u322 u323 u324 u325 u326 u327 u328 u329 u330 u331 u332 u333 u334 u335 u336 u337 u338 u339 u340 u341 u342 u343 u344 u345 u346 u347 u348 u349 u350 u351 u352 u353 u354 u355 u356 u357 u358 u359 u360 u361 u362 u363 u364 u365 u366 u367 u368 u369 u370 u371 u372 u373 u374 u375 u376 u377 u378 u379 u380 u381 u382 u383 u384 u385 u386 u387 u388 u389 u390 u391 : Value)
    (Hexit : Hid (∀ (v4 v31 v32 v33 v335 v336 v337 v338 v339 v340 v341 v342 v343 v344 v345 v346 v347 v348 v349 v350 v351 v352 v353 v354 v355 v356 v357 v358 v359 v360 v361 v362 v363 v364 v365 v366 v367 v368 v369 v370 v371 v372 v373 v374 v375 v376 v377 v378 v379 v380 v381 v382 v383 v384 v385 v386 v387 v388 v389 : Value)  (wx : World), Hid (Tch (fun _ => False) w8 wx) → Q0 (.exit 15) ⟨List.toArray (u0 :: u1 :: u2 :: u3 :: (v4) :: (.pointer (some ⟨b, 0, none⟩)) :: u6 :: u7 :: (.slice ko el kc) :: u9 :: u10 :: u11 :: u12 :: u13 :: u14 :: u15 :: u16 :: u17 :: u18 :: u19 :: u20 :: u21 :: u22 :: u23 :: u24 :: u25 :: (.slice (some ⟨B, 0, none⟩) nx nx) :: u27 :: u28 :: (.int .i64 j') :: (.int .i64 z1) :: (v31) :: (v32) :: (v33) :: u34 :: u35 :: u36 :: u37 :: u38 :: u39 :: u40 :: u41 :: u42 :: u43 :: u44 :: u45 :: u46 :: u47 :: u48 :: u49 :: u50 :: u51 :: u52 :: u53 :: u54 :: u55 :: u56 :: u57 :: u58 :: u59 :: u60 :: u61 :: u62 :: u63 :: u64 :: u65 :: u66 :: u67 :: u68 :: u69 :: u70 :: u71 :: u72 :: u73 :: u74 :: u75 :: u76 :: u77 :: u78 :: u79 :: u80 :: u81 :: u82 :: u83 :: u84 :: u85 :: u86 :: u87 :: u88 :: u89 :: u90 :: u91 :: u92 :: u93 :: u94 :: u95 :: u96 :: u97 :: u98 :: u99 :: u100 :: u101 :: u102 :: u103 :: u104 :: u105 :: u106 :: u107 :: u108 :: u109 :: u110 :: u111 :: u112 :: u113 :: u114 :: u115 :: u116 :: u117 :: u118 :: u119 :: u120 :: u121 :: u122 :: u123 :: u124 :: u125 :: u126 :: u127 :: u128 :: u129 :: u130 :: u131 :: u132 :: u133 :: u134 :: u135 :: u136 :: u137 :: u138 :: u139 :: u140 :: u141 :: u142 :: u143 :: u144 :: u145 :: u146 :: u147 :: u148 :: u149 :: u150 :: u151 :: u152 :: u153 :: u154 :: u155 :: u156 :: u157 :: u158 :: u159 :: u160 :: u161 :: u162 :: u163 :: u164 :: u165 :: u166 :: u167 :: u168 :: u169 :: u170 :: u171 :: u172 :: u173 :: u174 :: u175 :: u176 :: u177 :: u178 :: u179 :: u180 :: u181 :: u182 :: u183 :: u184 :: u185 :: u186 :: u187 :: u188 :: u189 :: u190 :: u191 :: u192 :: u193 :: u194 :: u195 :: u196 :: u197 :: u198 :: u199 :: u200 :: u201 :: u202 :: u203 :: u204 :: u205 :: u206 :: u207 :: u208 :: u209 :: u210 :: u211 :: u212 :: u213 :: u214 :: u215 :: u216 :: u217 :: u218 :: u219 :: u220 :: u221 :: u222 :: u223 :: u224 :: u225 :: u226 :: u227 :: u228 :: u229 :: u230 :: u231 :: u232 :: u233 :: u234 :: u235 :: u236 :: u237 :: u238 :: u239 :: u240 :: u241 :: u242 :: u243 :: u244 :: u245 :: u246 :: u247 :: u248 :: u249 :: u250 :: u251 :: u252 :: u253 :: u254 :: u255 :: u256 :: u257 :: u258 :: u259 :: u260 :: u261 :: u262 :: u263 :: u264 :: u265 :: u266 :: u267 :: u268 :: u269 :: u270 :: u271 :: u272 :: u273 :: u274 :: u275 :: u276 :: u277 :: u278 :: u279 :: u280 :: u281 :: u282 :: u283 :: u284 :: u285 :: u286 :: u287 :: u288 :: u289 :: u290 :: u291 :: u292 :: u293 :: u294 :: u295 :: u296 :: u297 :: u298 :: u299 :: u300 :: u301 :: u302 :: u303 :: u304 :: u305 :: u306 :: u307 :: u308 :: u309 :: u310 :: u311 :: u312 :: u313 :: u314 :: u315 :: u316 :: u317 :: u318 :: u319 :: u320 :: u321 :: u322 :: u323 :: u324 :: u325 :: u326 :: u327 :: u328 :: u329 :: u330 :: u331 :: u332 :: u333 :: u334 :: (v335) :: (v336) :: (v337) :: (v338) :: (v339) :: (v340) :: (v341) :: (v342) :: (v343) :: (v344) :: (v345) :: (v346) :: (v347) :: (v348) :: (v349) :: (v350) :: (v351) :: (v352) :: (v353) :: (v354) :: (v355) :: (v356) :: (v357) :: (v358) :: (v359) :: (v360) :: (v361) :: (v362) :: (v363) :: (v364) :: (v365) :: (v366) :: (v367) :: (v368) :: (v369) :: (v370) :: (v371) :: (v372) :: (v373) :: (v374) :: (v375) :: (v376) :: (v377) :: (v378) :: (v379) :: (v380) :: (v381) :: (v382) :: (v383) :: (v384) :: (v385) :: (v386) :: (v387) :: (v388) :: (v389) :: u390 :: u391 :: []), []⟩ wx)) :
    Code.wp Try.prog (Code.loop body8) Q0 ⟨List.toArray (u0 :: u1 :: u2 :: u3 :: u4 :: (.pointer (some ⟨b, 0, none⟩)) :: u6 :: u7 :: (.slice ko el kc) :: u9 :: u10 :: u11 :: u12 :: u13 :: u14 :: u15 :: u16 :: u17 :: u18 :: u19 :: u20 :: u21 :: u22 :: u23 :: u24 :: u25 :: (.slice (some ⟨B, 0, none⟩) nx nx) :: u27 :: u28 :: (.int .i64 j') :: (.int .i64 z1) :: (.int .i64 0) :: u32 :: u33 :: u34 :: u35 :: u36 :: u37 :: u38 :: u39 :: u40 :: u41 :: u42 :: u43 :: u44 :: u45 :: u46 :: u47 :: u48 :: u49 :: u50 :: u51 :: u52 :: u53 :: u54 :: u55 :: u56 :: u57 :: u58 :: u59 :: u60 :: u61 :: u62 :: u63 :: u64 :: u65 :: u66 :: u67 :: u68 :: u69 :: u70 :: u71 :: u72 :: u73 :: u74 :: u75 :: u76 :: u77 :: u78 :: u79 :: u80 :: u81 :: u82 :: u83 :: u84 :: u85 :: u86 :: u87 :: u88 :: u89 :: u90 :: u91 :: u92 :: u93 :: u94 :: u95 :: u96 :: u97 :: u98 :: u99 :: u100 :: u101 :: u102 :: u103 :: u104 :: u105 :: u106 :: u107 :: u108 :: u109 :: u110 :: u111 :: u112 :: u113 :: u114 :: u115 :: u116 :: u117 :: u118 :: u119 :: u120 :: u121 :: u122 :: u123 :: u124 :: u125 :: u126 :: u127 :: u128 :: u129 :: u130 :: u131 :: u132 :: u133 :: u134 :: u135 :: u136 :: u137 :: u138 :: u139 :: u140 :: u141 :: u142 :: u143 :: u144 :: u145 :: u146 :: u147 :: u148 :: u149 :: u150 :: u151 :: u152 :: u153 :: u154 :: u155 :: u156 :: u157 :: u158 :: u159 :: u160 :: u161 :: u162 :: u163 :: u164 :: u165 :: u166 :: u167 :: u168 :: u169 :: u170 :: u171 :: u172 :: u173 :: u174 :: u175 :: u176 :: u177 :: u178 :: u179 :: u180 :: u181 :: u182 :: u183 :: u184 :: u185 :: u186 :: u187 :: u188 :: u189 :: u190 :: u191 :: u192 :: u193 :: u194 :: u195 :: u196 :: u197 :: u198 :: u199 :: u200 :: u201 :: u202 :: u203 :: u204 :: u205 :: u206 :: u207 :: u208 :: u209 :: u210 :: u211 :: u212 :: u213 :: u214 :: u215 :: u216 :: u217 :: u218 :: u219 :: u220 :: u221 :: u222 :: u223 :: u224 :: u225 :: u226 :: u227 :: u228 :: u229 :: u230 :: u231 :: u232 :: u233 :: u234 :: u235 :: u236 :: u237 :: u238 :: u239 :: u240 :: u241 :: u242 :: u243 :: u244 :: u245 :: u246 :: u247 :: u248 :: u249 :: u250 :: u251 :: u252 :: u253 :: u254 :: u255 :: u256 :: u257 :: u258 :: u259 :: u260 :: u261 :: u262 :: u263 :: u264 :: u265 :: u266 :: u267 :: u268 :: u269 :: u270 :: u271 :: u272 :: u273 :: u274 :: u275 :: u276 :: u277 :: u278 :: u279 :: u280 :: u281 :: u282 :: u283 :: u284 :: u285 :: u286 :: u287 :: u288 :: u289 :: u290 :: u291 :: u292 :: u293 :: u294 :: u295 :: u296 :: u297 :: u298 :: u299 :: u300 :: u301 :: u302 :: u303 :: u304 :: u305 :: u306 :: u307 :: u308 :: u309 :: u310 :: u311 :: u312 :: u313 :: u314 :: u315 :: u316 :: u317 :: u318 :: u319 :: u320 :: u321 :: u322 :: u323 :: u324 :: u325 :: u326 :: u327 :: u328 :: u329 :: u330 :: u331 :: u332 :: u333 :: u334 :: u335 :: u336 :: u337 :: u338 :: u339 :: u340 :: u341 :: u342 :: u343 :: u344 :: u345 :: u346 :: u347 :: u348 :: u349 :: u350 :: u351 :: u352 :: u353 :: u354 :: u355 :: u356 :: u357 :: u358 :: u359 :: u360 :: u361 :: u362 :: u363 :: u364 :: u365 :: u366 :: u367 :: u368 :: u369 :: u370 :: u371 :: u372 :: u373 :: u374 :: u375 :: u376 :: u377 :: u378 :: u379 :: u380 :: u381 :: u382 :: u383 :: u384 :: u385 :: u386 :: u387 :: u388 :: u389 :: u390 :: u391 :: []), []⟩ wj := by
  conv => arg 2; arg 1; whnf
  go_loopw [31] (fun i wr => ∃ a : Nat, i = .int .i64 a ∧ a ≤ el ∧ Hid (Tch (fun _ => False) w8 wr)) (fun i _ => el - (intOf i).toNat)
  case atStart => exact ⟨0, rfl, by omega, Ht9⟩
  case round =>
    obtain ⟨a, rfl, hal, Hta⟩ := hrel
    by_cases halt : (a : Int) < el
    · have hae : a < E.length := by have := Hel.out; omega
      obtain ⟨x, hx⟩ : ∃ x, E[a]? = some x := ⟨_, List.getElem?_eq_getElem hae⟩
      have hxm : x ∈ E := List.mem_of_getElem? hx
      have hKDa := HKD8.out.kept (kept_of Hta.out)
      obtain ⟨kg, kc', hkv, e0, e1, e2, e3, e4⟩ := hKDa.at hx
      obtain ⟨rfl, rfl⟩ : ko = some ⟨kg, 0, none⟩ ∧ kc = kc' := by injection hkv with h1 _ h2; exact ⟨h1, h2⟩
      have q := HSee.out x hxm wr Hta.out
      obtain ⟨mn, hmn⟩ : ∃ mn, mn = x.e.mn := ⟨_, rfl⟩
      obtain ⟨xn, hxn⟩ : ∃ xn, xn = x.e.nx := ⟨_, rfl⟩
      obtain ⟨ol, hol⟩ : ∃ ol, ol = x.e.on.length := ⟨_, rfl⟩
      obtain ⟨v, hv⟩ : ∃ v, v = x.e.se.getD j' false := ⟨_, rfl⟩
      obtain ⟨now, hnow⟩ : ∃ now, now = (m.forget below).sees x.e.mn x.e.nx (ints x.e.on) 0 j' := ⟨_, rfl⟩
      have HD : Hid (∀ W, Tch (fun _ => False) w8 W → ((W.cell? ⟨kg, a * 5, none⟩ = some (.int .i64 mn) ∧ W.cell? ⟨kg, a * 5 + 1, none⟩ = some (.int .i64 xn) ∧ W.cell? ⟨kg, a * 5 + 2, none⟩ = some (.slice x.so ol x.sc) ∧ W.cell? ⟨kg, a * 5 + 4, none⟩ = some (.int .i64 xn)) ∧ (j' < xn → ∃ sg, W.cell? ⟨kg, a * 5 + 3, none⟩ = some (.slice (some ⟨sg, 0, none⟩) xn x.sd) ∧ W.cell? ⟨sg, j', none⟩ = some (.bool v)))) := fun W tW => by
        have hKW := HKD8.out.kept (kept_of tW)
        obtain ⟨kg', kc2, hkv2, f0, f1, f2, f3, f4⟩ := hKW.at hx
        obtain rfl : kg = kg' := by injection hkv2 with h1; injection h1 with h1; injection h1 with h1
        rw [← hmn] at f0
        rw [← hxn] at f1 f4
        rw [← hol] at f2
        refine ⟨⟨f0, f1, f2, f4⟩, fun hlt => ?_⟩
        have hsl := (Hok.out x hxm).len
        obtain ⟨sg, es, ec⟩ := (hKW.ent x hxm).saw (j := j') (by rw [hsl, ← hxn]; exact hlt)
        rw [es, hsl, ← hxn] at f3
        exact ⟨sg, f3, by rw [hv]; exact ec⟩
      have HNow : Hid ((s1 = s0 ∧ s1 ≠ 0 ∧ now = (decide (j' < xn) && v)) ∨ (s1 = 0 ∧ (s0 = 3 ∨ s0 = 4) ∧ now = decide (j' < mn) ∧ (s0 = 3 → j' < mn → j' < xn ∧ v = true))) := by
        rcases HG.out with ⟨hg, hs1⟩ | ⟨hg, hs1, h34, _⟩
        · refine Or.inl ⟨hs1, by omega, ?_⟩
          rw [hnow, hxn, hv]; exact sees_stays Hwf.out Hall.out below (Hok.out x hxm) hj1' hjm hg
        · obtain ⟨h1, h2⟩ := sees_gone Hwf.out below (Hok.out x hxm) hj1' hjm hg
          refine Or.inr ⟨hs1, h34, by rw [hnow, hmn]; exact h1, fun h3 h4 => ?_⟩
          have h5 := h2 (by rw [← Hs0.out]; exact h3) (by rw [← hmn]; exact h4)
          rw [← hv, ← hxn, Bool.and_eq_true, decide_eq_true_eq] at h5
          exact h5
      rw [← hnow, ← hmn, ← hxn, ← hol] at q
      rw [← hmn] at e0
      rw [← hxn] at e1 e4
      rw [← hol] at e2
      clear hx hae hkv hnow hmn hxn hol hv hKDa e3
      go_wp2_with fail
      refine q.mono ?_
      rintro y w10 ⟨rfl, t10⟩
      have Ht10 : Hid (Tch (fun _ => False) w8 w10) := Hta.out.trans' t10
      obtain ⟨⟨g0, g1, g2, g4⟩, gs⟩ := HD.out w10 Ht10.out
      have c10 := HcB.out w10 Ht10.out
      clear q t10 e0 e1 e2 e4 HD
      rcases HNow.out with ⟨hs1, hs1n, hnt⟩ | ⟨hs1, hs34, hN1, hN2⟩
      · subst hs1
        rw [← HZ.out] at c10
        have hs00 : (z1 == 0) = false := by rw [HZ.out]; simp; omega
        have hs4 : z1 = 4 ∨ ((z1 == 4) = false ∧ ¬ z1 = 4) := by
          by_cases h4 : z1 = 4
          · exact Or.inl h4
          · exact Or.inr ⟨by simp; omega, by omega⟩
        by_cases hjx : j' < xn
        · obtain ⟨sg, g3, gv⟩ := gs hjx
          have hjxI : (j' : Int) < xn := by omega
          have hnt' : now = v := by rw [hnt, decide_eq_true hjx]; rfl
          subst hnt'
          clear gs HNow hnt
          rcases hs4 with h4 | ⟨hs4, hs4'⟩
          · subst h4
            as_aux_lemma =>
              go_wp2_with fail
              go_roundw
              case rel => exact ⟨a + 1, by go_num, by omega, Ht10⟩
              case measure => simp [intOf]; omega
          · as_aux_lemma =>
              go_wp2_with fail
              go_roundw
              case rel => exact ⟨a + 1, by go_num, by omega, Ht10⟩
              case measure => simp [intOf]; omega
        · have hjxI : ¬ (j' : Int) < xn := by omega
          have hnt' : now = false := by rw [hnt, decide_eq_false hjx]; rfl
          subst hnt'
          clear gs HNow hnt
          rcases hs4 with h4 | ⟨hs4, hs4'⟩
          · subst h4
            as_aux_lemma =>
              go_wp2_with fail
              go_roundw
              case rel => exact ⟨a + 1, by go_num, by omega, Ht10⟩
              case measure => simp [intOf]; omega
          · as_aux_lemma =>
              go_wp2_with fail
              go_roundw
              case rel => exact ⟨a + 1, by go_num, by omega, Ht10⟩
              case measure => simp [intOf]; omega
      · obtain rfl : z1 = 0 := by rw [HZ.out, hs1]; rfl
        clear HNow hs1 HZ
        rcases hs34 with h3 | h4
        · subst h3
          by_cases hmj : j' < mn
          · obtain ⟨hjx, hvt⟩ := hN2 rfl hmj
            have hnt : now = true := by rw [hN1]; exact decide_eq_true hmj
            obtain ⟨sg, g3, gv⟩ := gs hjx
            have hjxI : (j' : Int) < xn := by omega
            subst hvt
            subst hnt
            clear hN1 hN2 gs
            as_aux_lemma =>
              go_wp2_with fail
              go_roundw
              case rel => exact ⟨a + 1, by go_num, by omega, Ht10⟩
              case measure => simp [intOf]; omega
          · have hnt : now = false := by rw [hN1]; exact decide_eq_false hmj
            have hmjI : ¬ (j' : Int) < mn := by omega
            subst hnt
            clear hN1 hN2
            by_cases hjx : j' < xn
            · obtain ⟨sg, g3, gv⟩ := gs hjx
              have hjxI : (j' : Int) < xn := by omega
              clear gs
              cases v
              all_goals
                as_aux_lemma =>
                  go_wp2_with fail
                  go_roundw
                  case rel => exact ⟨a + 1, by go_num, by omega, Ht10⟩
                  case measure => simp [intOf]; omega
            · have hjxI : ¬ (j' : Int) < xn := by omega
              clear gs
              as_aux_lemma =>
                go_wp2_with fail
                go_roundw
                case rel => exact ⟨a + 1, by go_num, by omega, Ht10⟩
                case measure => simp [intOf]; omega
        · subst h4
          clear hN1 hN2
          by_cases hjx : j' < xn
          · obtain ⟨sg, g3, gv⟩ := gs hjx
            have hjxI : (j' : Int) < xn := by omega
            clear gs
            as_aux_lemma =>
              go_wp2_with fail
              go_roundw
              case rel => exact ⟨a + 1, by go_num, by omega, Ht10⟩
              case measure => simp [intOf]; omega
          · have hjxI : ¬ (j' : Int) < xn := by omega
            clear gs
            as_aux_lemma =>
              go_wp2_with fail
              go_roundw
              case rel => exact ⟨a + 1, by go_num, by omega, Ht10⟩
              case measure => simp [intOf]; omega
    · go_wp2_with fail
      exact Hexit.out _ _ _ _ _ _ _ _ _ _ _ _ _ _ _ _ _ _ _ _ _ _ _ _ _ _ _ _ _ _ _ _ _ _ _ _ _ _ _ _ _ _ _ _ _ _ _ _ _ _ _ _ _ _ _ _ _ _ _ _ Hta
end Go.Proofs.Ytkokmgoplldcfaa
