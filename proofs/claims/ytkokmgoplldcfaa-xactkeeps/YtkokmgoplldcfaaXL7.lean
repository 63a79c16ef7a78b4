/- XactKeeps: loop 7. -/
import Derived.Test.YtkokmgoplldcfaaXL8
import Derived.Deep.DeepCutAuto
import Derived.Deep.CutBlock
namespace Go.Proofs.Ytkokmgoplldcfaa
open Go.RowKit Go Go.Sort

set_option maxHeartbeats 4000000 in
set_option maxRecDepth 100000 in
theorem loop7 (w8 : World) (b B : Nat) (ko : Option Addr) (el kc nx mm : Nat) (m : Mg) (E : List EW) (F1 : Nat → Prop) (below : Int)
    (Hnx : Hid (nx = m.nx)) (hnx2 : 2 ≤ nx) (hnxb : nx ≤ 123) (HM8 : Hid (MF w8 b (m.forget below) F1)) (HKD8 : Hid (KD w8 (.slice ko el kc) E F1)) (Hwf : Hid (Wf m)) (Hall : Hid (All m)) (Hok : Hid (∀ x ∈ E, EntOK m x.e)) (Hel : Hid (el = E.length)) (hEl : el ≤ 121)
    (Hmm : Hid (mm = m.many below))
    (HB8 : Hid (w8.heap[B]? = some (.cells (wcl nx (fun i => if 1 ≤ i ∧ i < nx then m.state i else 0)).toArray 3 (0, 0)))) (Q0 : Exit → Act → World → Prop)
    (u0 u2 u3 u4 u6 u7 u9 u10 u11 u12 u13 u14 u15 u16 u17 u18 u19 u20 u21 u22 u23 u24 u27 u30 u31 u32 u33 u34 u35 u36 u37 u38 u39 u40 u41 u42 u43 u44 u45 u46 u47 u48 u49 u50 u51 u52 u53 u54 u55 u56 u57 u58 u59 u60 u61 u62 u63 u64 u65 u66 u67 u68 u69 u70 u71 u72 u73 u74 u75 u76 u77 u78 u79 u80 u81 u82 u83 u84 u85 u86 u87 u88 u89 u90 u91 u92 u93 u94 u95 u96 u97 u98 u99 u100 u101 u102 u103 u104 u105 u106 u107 u108 u109 u110 u111 u112 u113 u114 u115 u116 u117 u118 u119 u120 u121 u122 u123 u124 u125 u126 u127 u128 u129 u130 u131 u132 u133 u134 u135 u136 u137 u138 u139 u140 u141 u142 u143 u144 u145 u146 u147 u148 u149 u150 u151 u152 u153 u154 u155 u156 u157 u158 u159 u160 u161 u162 u163 u164 u165 u166 u167 u168 u169 u170 u171 u172 u173 u174 u175 u176 u177 u178 u179 u180 u181 u182 u183 u184 u185 u186 u187 u188 u189 u190 u191 u192 u193 u194 u195 u196 u197 u198 u199 u200 u201 u202 u203 u204 u205 u206 u207 u208 u209 u210 u211 u212 u213 u214 u215 u216 u217 u218 u219 u220 u221 u222 u223 u224 u225 u226 u227 u228 u229 u230 u231 u232 u233 u234 u235 u236 u237 u238 u239 u240 u241 u242 u243 u244 u245 u246 u247 u248 u249 u250 u251 u252 u253 u254 u255 u256 u257 u258 u259 u260 u261 u262 u263 u264 u265 u266 u267 u268 u269 u270 u271 u272 u273 u274 u275 u276 u277 u278 u279 u280 u281 u282 u283 u284 u285 u286 u287 u288 u289 u290 u291 u292 u293 u294 u295 u296 u297 u298 u299 u300 u301 u302 u303 u304 u305 u306 u307 u308 u309 u310 u311 u312 u313 u314 u315 u316 u317 u318 u319 u320 u321 u322 u323 u324 u325 u326 u327 u328 u329 u330 u331 u332 u333 u334 u335 u336 u337 u338 u339 u340 u341 u342 u343 u344 u345 u346 u347 u348 u349 u350 u351 u352 u353 u354 u355 u356 u357 u358 u359 u360 u361 u362 u363 u364 u365 u366 u367 u368 u369 u370 u371 u372 u373 u374 u375 u376 u377 u378 u379 u380 u381 u382 u383 u384 u385 u386 u387 u388 u389 u390 u391 : Value)
    (Hexit : Hid (∀ (v4 v29 v30 v31 v32 v33 v298 v299 v300 v301 v302 v303 v304 v305 v306 v307 v308 v309 v310 v311 v312 v313 v314 v315 v316 v317 v318 v319 v320 v321 v322 v323 v324 v325 v326 v327 v328 v329 v330 v331 v332 v333 v334 v335 v336 v337 v338 v339 v340 v341 v342 v343 v344 v345 v346 v347 v348 v349 v350 v351 v352 v353 v354 v355 v356 v357 v358 v359 v360 v361 v362 v363 v364 v365 v366 v367 v368 v369 v370 v371 v372 v373 v374 v375 v376 v377 v378 v379 v380 v381 v382 v383 v384 v385 v386 v387 v388 v389 : Value)  (wx : World), Hid (Tch (fun _ => False) w8 wx) → Q0 (.exit 13) ⟨List.toArray (u0 :: (.int .i64 below) :: u2 :: u3 :: (v4) :: (.pointer (some ⟨b, 0, none⟩)) :: u6 :: u7 :: (.slice ko el kc) :: u9 :: u10 :: u11 :: u12 :: u13 :: u14 :: u15 :: u16 :: u17 :: u18 :: u19 :: u20 :: u21 :: u22 :: u23 :: u24 :: (.int .i64 nx) :: (.slice (some ⟨B, 0, none⟩) nx nx) :: u27 :: (.int .i64 0) :: (v29) :: (v30) :: (v31) :: (v32) :: (v33) :: u34 :: u35 :: u36 :: u37 :: u38 :: u39 :: u40 :: u41 :: u42 :: u43 :: u44 :: u45 :: u46 :: u47 :: u48 :: u49 :: u50 :: u51 :: u52 :: u53 :: u54 :: u55 :: u56 :: u57 :: u58 :: u59 :: u60 :: u61 :: u62 :: u63 :: u64 :: u65 :: u66 :: u67 :: u68 :: u69 :: u70 :: u71 :: u72 :: u73 :: u74 :: u75 :: u76 :: u77 :: u78 :: u79 :: u80 :: u81 :: u82 :: u83 :: u84 :: u85 :: u86 :: u87 :: u88 :: u89 :: u90 :: u91 :: u92 :: u93 :: u94 :: u95 :: u96 :: u97 :: u98 :: u99 :: u100 :: u101 :: u102 :: u103 :: u104 :: u105 :: u106 :: u107 :: u108 :: u109 :: u110 :: u111 :: u112 :: u113 :: u114 :: u115 :: u116 :: u117 :: u118 :: u119 :: u120 :: u121 :: u122 :: u123 :: u124 :: u125 :: u126 :: u127 :: u128 :: u129 :: u130 :: u131 :: u132 :: u133 :: u134 :: u135 :: u136 :: u137 :: u138 :: u139 :: u140 :: u141 :: u142 :: u143 :: u144 :: u145 :: u146 :: u147 :: u148 :: u149 :: u150 :: u151 :: u152 :: u153 :: u154 :: u155 :: u156 :: u157 :: u158 :: u159 :: u160 :: u161 :: u162 :: u163 :: u164 :: u165 :: u166 :: u167 :: u168 :: u169 :: u170 :: u171 :: u172 :: u173 :: u174 :: u175 :: u176 :: u177 :: u178 :: u179 :: u180 :: u181 :: u182 :: u183 :: u184 :: u185 :: u186 :: u187 :: u188 :: u189 :: u190 :: u191 :: u192 :: u193 :: u194 :: u195 :: u196 :: u197 :: u198 :: u199 :: u200 :: u201 :: u202 :: u203 :: u204 :: u205 :: u206 :: u207 :: u208 :: u209 :: u210 :: u211 :: u212 :: u213 :: u214 :: u215 :: u216 :: u217 :: u218 :: u219 :: u220 :: u221 :: u222 :: u223 :: u224 :: u225 :: u226 :: u227 :: u228 :: u229 :: u230 :: u231 :: u232 :: u233 :: u234 :: u235 :: u236 :: u237 :: u238 :: u239 :: u240 :: u241 :: u242 :: u243 :: u244 :: u245 :: u246 :: u247 :: u248 :: u249 :: u250 :: u251 :: u252 :: u253 :: u254 :: u255 :: u256 :: u257 :: u258 :: u259 :: u260 :: u261 :: u262 :: u263 :: u264 :: u265 :: u266 :: u267 :: u268 :: u269 :: u270 :: u271 :: u272 :: u273 :: u274 :: u275 :: u276 :: u277 :: u278 :: u279 :: u280 :: u281 :: u282 :: u283 :: u284 :: u285 :: u286 :: u287 :: u288 :: u289 :: u290 :: u291 :: u292 :: u293 :: u294 :: u295 :: u296 :: u297 :: (v298) :: (v299) :: (v300) :: (v301) :: (v302) :: (v303) :: (v304) :: (v305) :: (v306) :: (v307) :: (v308) :: (v309) :: (v310) :: (v311) :: (v312) :: (v313) :: (v314) :: (v315) :: (v316) :: (v317) :: (v318) :: (v319) :: (v320) :: (v321) :: (v322) :: (v323) :: (v324) :: (v325) :: (v326) :: (v327) :: (v328) :: (v329) :: (v330) :: (v331) :: (v332) :: (v333) :: (v334) :: (v335) :: (v336) :: (v337) :: (v338) :: (v339) :: (v340) :: (v341) :: (v342) :: (v343) :: (v344) :: (v345) :: (v346) :: (v347) :: (v348) :: (v349) :: (v350) :: (v351) :: (v352) :: (v353) :: (v354) :: (v355) :: (v356) :: (v357) :: (v358) :: (v359) :: (v360) :: (v361) :: (v362) :: (v363) :: (v364) :: (v365) :: (v366) :: (v367) :: (v368) :: (v369) :: (v370) :: (v371) :: (v372) :: (v373) :: (v374) :: (v375) :: (v376) :: (v377) :: (v378) :: (v379) :: (v380) :: (v381) :: (v382) :: (v383) :: (v384) :: (v385) :: (v386) :: (v387) :: (v388) :: (v389) :: u390 :: u391 :: []), []⟩ wx)) :
    Code.wp Try.prog (Code.loop body7) Q0 ⟨List.toArray (u0 :: (.int .i64 below) :: u2 :: u3 :: u4 :: (.pointer (some ⟨b, 0, none⟩)) :: u6 :: u7 :: (.slice ko el kc) :: u9 :: u10 :: u11 :: u12 :: u13 :: u14 :: u15 :: u16 :: u17 :: u18 :: u19 :: u20 :: u21 :: u22 :: u23 :: u24 :: (.int .i64 nx) :: (.slice (some ⟨B, 0, none⟩) nx nx) :: u27 :: (.int .i64 mm) :: (.int .i64 1) :: u30 :: u31 :: u32 :: u33 :: u34 :: u35 :: u36 :: u37 :: u38 :: u39 :: u40 :: u41 :: u42 :: u43 :: u44 :: u45 :: u46 :: u47 :: u48 :: u49 :: u50 :: u51 :: u52 :: u53 :: u54 :: u55 :: u56 :: u57 :: u58 :: u59 :: u60 :: u61 :: u62 :: u63 :: u64 :: u65 :: u66 :: u67 :: u68 :: u69 :: u70 :: u71 :: u72 :: u73 :: u74 :: u75 :: u76 :: u77 :: u78 :: u79 :: u80 :: u81 :: u82 :: u83 :: u84 :: u85 :: u86 :: u87 :: u88 :: u89 :: u90 :: u91 :: u92 :: u93 :: u94 :: u95 :: u96 :: u97 :: u98 :: u99 :: u100 :: u101 :: u102 :: u103 :: u104 :: u105 :: u106 :: u107 :: u108 :: u109 :: u110 :: u111 :: u112 :: u113 :: u114 :: u115 :: u116 :: u117 :: u118 :: u119 :: u120 :: u121 :: u122 :: u123 :: u124 :: u125 :: u126 :: u127 :: u128 :: u129 :: u130 :: u131 :: u132 :: u133 :: u134 :: u135 :: u136 :: u137 :: u138 :: u139 :: u140 :: u141 :: u142 :: u143 :: u144 :: u145 :: u146 :: u147 :: u148 :: u149 :: u150 :: u151 :: u152 :: u153 :: u154 :: u155 :: u156 :: u157 :: u158 :: u159 :: u160 :: u161 :: u162 :: u163 :: u164 :: u165 :: u166 :: u167 :: u168 :: u169 :: u170 :: u171 :: u172 :: u173 :: u174 :: u175 :: u176 :: u177 :: u178 :: u179 :: u180 :: u181 :: u182 :: u183 :: u184 :: u185 :: u186 :: u187 :: u188 :: u189 :: u190 :: u191 :: u192 :: u193 :: u194 :: u195 :: u196 :: u197 :: u198 :: u199 :: u200 :: u201 :: u202 :: u203 :: u204 :: u205 :: u206 :: u207 :: u208 :: u209 :: u210 :: u211 :: u212 :: u213 :: u214 :: u215 :: u216 :: u217 :: u218 :: u219 :: u220 :: u221 :: u222 :: u223 :: u224 :: u225 :: u226 :: u227 :: u228 :: u229 :: u230 :: u231 :: u232 :: u233 :: u234 :: u235 :: u236 :: u237 :: u238 :: u239 :: u240 :: u241 :: u242 :: u243 :: u244 :: u245 :: u246 :: u247 :: u248 :: u249 :: u250 :: u251 :: u252 :: u253 :: u254 :: u255 :: u256 :: u257 :: u258 :: u259 :: u260 :: u261 :: u262 :: u263 :: u264 :: u265 :: u266 :: u267 :: u268 :: u269 :: u270 :: u271 :: u272 :: u273 :: u274 :: u275 :: u276 :: u277 :: u278 :: u279 :: u280 :: u281 :: u282 :: u283 :: u284 :: u285 :: u286 :: u287 :: u288 :: u289 :: u290 :: u291 :: u292 :: u293 :: u294 :: u295 :: u296 :: u297 :: u298 :: u299 :: u300 :: u301 :: u302 :: u303 :: u304 :: u305 :: u306 :: u307 :: u308 :: u309 :: u310 :: u311 :: u312 :: u313 :: u314 :: u315 :: u316 :: u317 :: u318 :: u319 :: u320 :: u321 :: u322 :: u323 :: u324 :: u325 :: u326 :: u327 :: u328 :: u329 :: u330 :: u331 :: u332 :: u333 :: u334 :: u335 :: u336 :: u337 :: u338 :: u339 :: u340 :: u341 :: u342 :: u343 :: u344 :: u345 :: u346 :: u347 :: u348 :: u349 :: u350 :: u351 :: u352 :: u353 :: u354 :: u355 :: u356 :: u357 :: u358 :: u359 :: u360 :: u361 :: u362 :: u363 :: u364 :: u365 :: u366 :: u367 :: u368 :: u369 :: u370 :: u371 :: u372 :: u373 :: u374 :: u375 :: u376 :: u377 :: u378 :: u379 :: u380 :: u381 :: u382 :: u383 :: u384 :: u385 :: u386 :: u387 :: u388 :: u389 :: u390 :: u391 :: []), []⟩ w8 := by
  conv => arg 2; arg 1; whnf
  go_loopw [28, 29] (fun mv i wr => ∃ j' r : Nat, i = .int .i64 j' ∧ mv = .int .i64 r ∧ 1 ≤ j' ∧ j' ≤ nx ∧ r ≤ 2147483648 ∧ Hid (r = remN m below j') ∧ Hid (Tch (fun _ => False) w8 wr)) (fun _ i _ => nx - (intOf i).toNat)
  case atStart => exact ⟨1, mm, rfl, rfl, by omega, by omega, by
    have h1 : mm ≤ m.nx := by rw [Hmm.out]; unfold Mg.many; exact Nat.le_trans (List.length_filter_le _ _) (by simp)
    have := Hwf.out.n2
    omega, by show _ = _; rw [rem_one Hwf.out]; exact Hmm.out, Tch.refl _ _⟩
  case round =>
    obtain ⟨j', r, rfl, rfl, hj1', hjn', hr8, Hr, Htj'⟩ := hrel
    obtain ⟨wj, hwj⟩ : ∃ wj, wj = wr := ⟨_, rfl⟩
    subst hwj
    by_cases hjlt' : (j' : Int) < nx
    · have hjl' : j' < nx := by omega
      have hjm : j' < m.nx := by rw [← Hnx.out]; exact hjl'
      have q := state_f b _ wj _ (HM8.out.no Htj'.out) j' (by omega) (by omega)
      have hBw := (Htj'.out.block B (blk_lt HB8.out) (fun h => h)).trans HB8.out
      have cB : wj.cell? ⟨B, j', none⟩ = some (.int .i64 ((m.state j' : Nat) : Int)) := by
        rw [blk_cell hBw, List.getElem?_toArray, wcl_at _ hjl', if_pos (by omega)]
      obtain ⟨s0, hs0⟩ : ∃ s0, s0 = m.state j' := ⟨_, rfl⟩
      have hs0c := sees_cond Hwf.out Hall.out hj1' hjm
      rw [← hs0] at cB hs0c
      have Hs0 : Hid (s0 = m.state j') := hs0
      have HcB : Hid (∀ W, Tch (fun _ => False) w8 W → W.cell? ⟨B, j', none⟩ = some (.int .i64 (s0 : Nat))) := fun W tW => by rw [blk_cell ((tW.block B (blk_lt HB8.out) (fun h => h)).trans HB8.out), List.getElem?_toArray, wcl_at _ hjl', if_pos (by omega), Hs0.out]
      have hst := rem_step m below hjm
      have Hrs : Hid (r = (if goneN m below j' then 1 else 0) + remN m below (j' + 1)) := by show _ = _; rw [Hr.out, hst]
      have HSee : Hid (∀ (x : EW), x ∈ E → ∀ W, Tch (fun _ => False) w8 W → Calls Try.prog 15 #[.pointer (some ⟨b, 0, none⟩), .agg #[.int .i64 x.e.mn, .int .i64 x.e.nx, .slice x.so x.e.on.length x.sc], .int .i64 0, .int .i64 j'] W fun y w' => y = .returned (.bool ((m.forget below).sees x.e.mn x.e.nx (ints x.e.on) 0 j')) ∧ Tch (fun _ => False) W w') := fun x hx W tW => by
        have h1 := (HKD8.out.kept (kept_of tW)).ent x hx
        have h2 := sees_f b _ W F1 (HM8.out.no tW) x.e.mn x.e.nx (ints x.e.on) x.so x.sc (by
          have h3 := (Hok.out x hx).le
          have h4 := h1.o.1
          simp only [ints, List.length_map]
          rcases h1.o.2 with ⟨_, h5⟩ | ⟨_, _, _, _, _, _, h6, h7, _⟩
          · omega
          · unfold maxLen at h7; omega) h1.ir 0 j' (by omega) (by omega) (by omega) (by omega)
        have e : (ints x.e.on).length = x.e.on.length := by simp [ints]
        rw [e] at h2
        exact h2
      obtain ⟨s1, hs1⟩ : ∃ s1, s1 = (m.forget below).state j' := ⟨_, rfl⟩
      rw [← hs1] at q
      have HG : Hid ((goneN m below j' = false ∧ s1 = s0) ∨ (goneN m below j' = true ∧ s1 = 0 ∧ (s0 = 3 ∨ s0 = 4) ∧ (j' : Int) < below)) := by
        cases hg : goneN m below j' with
        | false => exact Or.inl ⟨rfl, by rw [hs1, Hs0.out]; exact st_stays Hwf.out below hg⟩
        | true =>
          obtain ⟨e1, e2, e3⟩ := st_gone Hwf.out below hg
          exact Or.inr ⟨rfl, by rw [hs1]; exact e1, by rw [Hs0.out]; exact e2, e3⟩
      clear hBw hs0 hst hs1
      go_wp2_with fail
      refine q.mono ?_
      rintro x w9 ⟨rfl, t9⟩
      have Ht9 : Hid (Tch (fun _ => False) w8 w9) := Htj'.out.trans' t9
      have c9 := HcB.out w9 Ht9.out
      clear q t9 cB
      go_upto_if 311 with fail
      go_cut [28] from 298 to 389 (fun mv wx => ∃ r' : Nat, mv = .int .i64 r' ∧ r' ≤ 2147483648 ∧ Hid (r' = remN m below (j' + 1)) ∧ wx = w9)
      case first =>
        rcases HG.out with ⟨hg, h10⟩ | ⟨hg, h10, h34, hbl⟩
        · as_aux_lemma =>
            have Hr' : Hid (r = remN m below (j' + 1)) := by show _ = _; have := Hrs.out; rw [hg] at this; simpa using this
            subst h10
            clear hg
            go_wp2_with fail
            go_meet
            case rel => exact ⟨r, rfl, hr8, Hr', rfl⟩
        · as_aux_lemma =>
            have hr1 : 1 ≤ r := by have := Hrs.out; rw [hg] at this; simp at this; omega
            have Hr' : Hid (r - 1 = remN m below (j' + 1)) := by show _ = _; have := Hrs.out; rw [hg] at this; simp at this; omega
            have hbl' : ¬ below ≤ (j' : Int) := by omega
            subst h10
            clear hg
            rcases h34 with h3 | h4
            · subst h3
              go_wp2_with fail
              go_meet
              case rel => exact ⟨r - 1, by go_num, by omega, Hr', rfl⟩
            · subst h4
              go_wp2_with fail
              go_meet
              case rel => exact ⟨r - 1, by go_num, by omega, Hr', rfl⟩
      case rest =>
        obtain ⟨r', rfl, hr8', Hr', rfl⟩ := hcut
        clear Hr Hrs
        go_wp2_with fail
        refine loop8 w8 _ b B ko el kc nx m E F1 below j' s0 s1 (s1 : Int) rfl HKD8 Hwf Hall Hok Hel hEl hj1' hjl' hjm Hs0 HG hs0c HcB HSee Ht9 _ _ _ _ _ _ _ _ _ _ _ _ _ _ _ _ _ _ _ _ _ _ _ _ _ _ _ _ _ _ _ _ _ _ _ _ _ _ _ _ _ _ _ _ _ _ _ _ _ _ _ _ _ _ _ _ _ _ _ _ _ _ _ _ _ _ _ _ _ _ _ _ _ _ _ _ _ _ _ _ _ _ _ _ _ _ _ _ _ _ _ _ _ _ _ _ _ _ _ _ _ _ _ _ _ _ _ _ _ _ _ _ _ _ _ _ _ _ _ _ _ _ _ _ _ _ _ _ _ _ _ _ _ _ _ _ _ _ _ _ _ _ _ _ _ _ _ _ _ _ _ _ _ _ _ _ _ _ _ _ _ _ _ _ _ _ _ _ _ _ _ _ _ _ _ _ _ _ _ _ _ _ _ _ _ _ _ _ _ _ _ _ _ _ _ _ _ _ _ _ _ _ _ _ _ _ _ _ _ _ _ _ _ _ _ _ _ _ _ _ _ _ _ _ _ _ _ _ _ _ _ _ _ _ _ _ _ _ _ _ _ _ _ _ _ _ _ _ _ _ _ _ _ _ _ _ _ _ _ _ _ _ _ _ _ _ _ _ _ _ _ _ _ _ _ _ _ _ _ _ _ _ _ _ _ _ _ _ _ _ _ _ _ _ _ _ _ _ _ _ _ _ _ _ _ _ _ _ _ _ _ _ _ _ _ _ _ _ _ _ _ _ _ _ _ _ _ _ _ _ _ _ _ _ _ _ _ _ _ _ _ _ _ _ _ _ _ _ _ _ _ _ _ _ _ _ _ _ _ _ _ _ _ _ _ _ _ _ _ _ _ _ _ _ _ _ _ _ _ _ _ _ _ _ _ _ _ ?_
        intro v4 v31 v32 v33 v335 v336 v337 v338 v339 v340 v341 v342 v343 v344 v345 v346 v347 v348 v349 v350 v351 v352 v353 v354 v355 v356 v357 v358 v359 v360 v361 v362 v363 v364 v365 v366 v367 v368 v369 v370 v371 v372 v373 v374 v375 v376 v377 v378 v379 v380 v381 v382 v383 v384 v385 v386 v387 v388 v389 wx Hwx
        go_wp2_with fail
        go_roundw
        case rel => exact ⟨j' + 1, r', by go_num, rfl, by omega, by omega, by omega, Hr', Hwx⟩
        case measure => simp [intOf]; omega
    · have hEnd : r = 0 := by
        have e : j' = m.nx := by have := Hnx.out; omega
        rw [Hr.out, e]; exact rem_end m below
      subst hEnd
      clear Hr
      go_wp2_with fail
      exact Hexit.out _ _ _ _ _ _ _ _ _ _ _ _ _ _ _ _ _ _ _ _ _ _ _ _ _ _ _ _ _ _ _ _ _ _ _ _ _ _ _ _ _ _ _ _ _ _ _ _ _ _ _ _ _ _ _ _ _ _ _ _ _ _ _ _ _ _ _ _ _ _ _ _ _ _ _ _ _ _ _ _ _ _ _ _ _ _ _ _ _ _ _ _ _ _ _ _ _ _ _ Htj'
end Go.Proofs.Ytkokmgoplldcfaa
