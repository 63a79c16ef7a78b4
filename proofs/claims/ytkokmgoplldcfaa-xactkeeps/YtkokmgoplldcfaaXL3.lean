/- XactKeeps: loop 3. -/
import Derived.Test.YtkokmgoplldcfaaXKeep3
import Derived.Test.YtkokmgoplldcfaaXLoops
import Derived.Deep.DeepCutAuto
import Derived.Deep.CutBlock
namespace Go.Proofs.Ytkokmgoplldcfaa
open Go.RowKit Go Go.Sort

set_option maxHeartbeats 4000000 in
set_option maxRecDepth 100000 in
theorem loop3 (w wj : World) (N b G : Nat) (ko : Option Addr) (el kc nx' : Nat) (m m' : Mg) (E' : List EW) (F' : Nat → Prop)
    (HN : Hid (N = w.heap.size)) (HNG : Hid (N ≤ G)) (Hnx' : Hid (nx' = m'.nx)) (hnxb : nx' ≤ 123) (hnx22 : 2 ≤ nx') (Hall : Hid (All m)) (Hst : Hid (St m m'))
    (HW' : Hid (LW w N b G wj (.slice ko el kc) (gOf m) m' E' F')) (Q0 : Exit → Act → World → Prop)
    (u0 u1 u2 u3 u4 u6 u7 u10 u11 u12 u13 u14 u15 u16 u18 u19 u20 u21 u22 u23 u24 u25 u26 u27 u28 u29 u30 u31 u32 u33 u34 u35 u36 u37 u38 u39 u40 u41 u42 u43 u44 u45 u46 u47 u48 u49 u50 u51 u52 u53 u54 u55 u56 u57 u58 u59 u60 u61 u62 u63 u64 u65 u66 u67 u68 u69 u70 u71 u72 u73 u74 u75 u76 u77 u78 u79 u80 u81 u82 u83 u84 u85 u86 u87 u88 u89 u90 u91 u92 u93 u94 u95 u96 u97 u98 u99 u100 u101 u102 u103 u104 u105 u106 u107 u108 u109 u110 u111 u112 u113 u114 u115 u116 u117 u118 u119 u120 u121 u122 u123 u124 u125 u126 u127 u128 u129 u130 u131 u132 u133 u134 u135 u136 u137 u138 u139 u140 u141 u142 u143 u144 u145 u146 u147 u148 u149 u150 u151 u152 u153 u154 u155 u156 u157 u158 u159 u160 u161 u162 u163 u164 u165 u166 u167 u168 u169 u170 u171 u172 u173 u174 u175 u176 u177 u178 u179 u180 u181 u182 u183 u184 u185 u186 u187 u188 u189 u190 u191 u192 u193 u194 u195 u196 u197 u198 u199 u200 u201 u202 u203 u204 u205 u206 u207 u208 u209 u210 u211 u212 u213 u214 u215 u216 u217 u218 u219 u220 u221 u222 u223 u224 u225 u226 u227 u228 u229 u230 u231 u232 u233 u234 u235 u236 u237 u238 u239 u240 u241 u242 u243 u244 u245 u246 u247 u248 u249 u250 u251 u252 u253 u254 u255 u256 u257 u258 u259 u260 u261 u262 u263 u264 u265 u266 u267 u268 u269 u270 u271 u272 u273 u274 u275 u276 u277 u278 u279 u280 u281 u282 u283 u284 u285 u286 u287 u288 u289 u290 u291 u292 u293 u294 u295 u296 u297 u298 u299 u300 u301 u302 u303 u304 u305 u306 u307 u308 u309 u310 u311 u312 u313 u314 u315 u316 u317 u318 u319 u320 u321 u322 u323 u324 u325 u326 u327 u328 u329 u330 u331 u332 u333 u334 u335 u336 u337 u338 u339 u340 u341 u342 u343 u344 u345 u346 u347 u348 u349 u350 u351 u352 u353 u354 u355 u356 u357 u358 u359 u360 u361 u362 u363 u364 u365 u366 u367 u368 u369 u370 u371 u372 u373 u374 u375 u376 u377 u378 u379 u380 u381 u382 u383 u384 u385 u386 u387 u388 u389 u390 u391 : Value)
    (Hexit : Hid (∀ (v4 v17 v18 v19 v20 v177 v178 v179 v180 v181 v182 v183 v184 v185 v186 v187 v188 v189 v190 v191 v192 v193 v194 v195 v196 v197 v198 v199 v200 v201 v202 v203 v204 v205 v206 v207 v208 v209 v210 v211 v212 v213 v214 v215 v216 v217 v218 v219 v220 v221 v222 v223 : Value)  (wx : World), Hid (LW w N b G wx (.slice ko el kc) (gOf m') m' E' F') → Q0 (.exit 5) ⟨List.toArray (u0 :: u1 :: u2 :: u3 :: (v4) :: (.pointer (some ⟨b, 0, none⟩)) :: u6 :: u7 :: (.slice ko el kc) :: (.slice (some ⟨G, 0, none⟩) 400 400) :: u10 :: u11 :: u12 :: u13 :: u14 :: u15 :: u16 :: (v17) :: (v18) :: (v19) :: (v20) :: u21 :: u22 :: u23 :: u24 :: u25 :: u26 :: u27 :: u28 :: u29 :: u30 :: u31 :: u32 :: u33 :: u34 :: u35 :: u36 :: u37 :: u38 :: u39 :: u40 :: u41 :: u42 :: u43 :: u44 :: u45 :: u46 :: u47 :: u48 :: u49 :: u50 :: u51 :: u52 :: u53 :: u54 :: u55 :: u56 :: u57 :: u58 :: u59 :: u60 :: u61 :: u62 :: u63 :: u64 :: u65 :: u66 :: u67 :: u68 :: u69 :: u70 :: u71 :: u72 :: u73 :: u74 :: u75 :: u76 :: u77 :: u78 :: u79 :: u80 :: u81 :: u82 :: u83 :: u84 :: u85 :: u86 :: u87 :: u88 :: u89 :: u90 :: u91 :: u92 :: u93 :: u94 :: u95 :: u96 :: u97 :: u98 :: u99 :: u100 :: u101 :: u102 :: u103 :: u104 :: u105 :: u106 :: u107 :: u108 :: u109 :: u110 :: u111 :: u112 :: u113 :: u114 :: u115 :: u116 :: u117 :: u118 :: u119 :: u120 :: u121 :: u122 :: u123 :: u124 :: u125 :: u126 :: u127 :: u128 :: u129 :: u130 :: u131 :: u132 :: u133 :: u134 :: u135 :: u136 :: u137 :: u138 :: u139 :: u140 :: u141 :: u142 :: u143 :: u144 :: u145 :: u146 :: u147 :: u148 :: u149 :: u150 :: u151 :: u152 :: u153 :: u154 :: u155 :: u156 :: u157 :: u158 :: u159 :: u160 :: u161 :: u162 :: u163 :: u164 :: u165 :: u166 :: u167 :: u168 :: u169 :: u170 :: u171 :: u172 :: u173 :: u174 :: u175 :: u176 :: (v177) :: (v178) :: (v179) :: (v180) :: (v181) :: (v182) :: (v183) :: (v184) :: (v185) :: (v186) :: (v187) :: (v188) :: (v189) :: (v190) :: (v191) :: (v192) :: (v193) :: (v194) :: (v195) :: (v196) :: (v197) :: (v198) :: (v199) :: (v200) :: (v201) :: (v202) :: (v203) :: (v204) :: (v205) :: (v206) :: (v207) :: (v208) :: (v209) :: (v210) :: (v211) :: (v212) :: (v213) :: (v214) :: (v215) :: (v216) :: (v217) :: (v218) :: (v219) :: (v220) :: (v221) :: (v222) :: (v223) :: u224 :: u225 :: u226 :: u227 :: u228 :: u229 :: u230 :: u231 :: u232 :: u233 :: u234 :: u235 :: u236 :: u237 :: u238 :: u239 :: u240 :: u241 :: u242 :: u243 :: u244 :: u245 :: u246 :: u247 :: u248 :: u249 :: u250 :: u251 :: u252 :: u253 :: u254 :: u255 :: u256 :: u257 :: u258 :: u259 :: u260 :: u261 :: u262 :: u263 :: u264 :: u265 :: u266 :: u267 :: u268 :: u269 :: u270 :: u271 :: u272 :: u273 :: u274 :: u275 :: u276 :: u277 :: u278 :: u279 :: u280 :: u281 :: u282 :: u283 :: u284 :: u285 :: u286 :: u287 :: u288 :: u289 :: u290 :: u291 :: u292 :: u293 :: u294 :: u295 :: u296 :: u297 :: u298 :: u299 :: u300 :: u301 :: u302 :: u303 :: u304 :: u305 :: u306 :: u307 :: u308 :: u309 :: u310 :: u311 :: u312 :: u313 :: u314 :: u315 :: u316 :: u317 :: u318 :: u319 :: u320 :: u321 :: u322 :: u323 :: u324 :: u325 :: u326 :: u327 :: u328 :: u329 :: u330 :: u331 :: u332 :: u333 :: u334 :: u335 :: u336 :: u337 :: u338 :: u339 :: u340 :: u341 :: u342 :: u343 :: u344 :: u345 :: u346 :: u347 :: u348 :: u349 :: u350 :: u351 :: u352 :: u353 :: u354 :: u355 :: u356 :: u357 :: u358 :: u359 :: u360 :: u361 :: u362 :: u363 :: u364 :: u365 :: u366 :: u367 :: u368 :: u369 :: u370 :: u371 :: u372 :: u373 :: u374 :: u375 :: u376 :: u377 :: u378 :: u379 :: u380 :: u381 :: u382 :: u383 :: u384 :: u385 :: u386 :: u387 :: u388 :: u389 :: u390 :: u391 :: []), []⟩ wx)) :
    Code.wp Try.prog (Code.loop body3) Q0 ⟨List.toArray (u0 :: u1 :: u2 :: u3 :: u4 :: (.pointer (some ⟨b, 0, none⟩)) :: u6 :: u7 :: (.slice ko el kc) :: (.slice (some ⟨G, 0, none⟩) 400 400) :: u10 :: u11 :: u12 :: u13 :: u14 :: u15 :: u16 :: (.int .i64 1) :: u18 :: u19 :: u20 :: u21 :: u22 :: u23 :: u24 :: u25 :: u26 :: u27 :: u28 :: u29 :: u30 :: u31 :: u32 :: u33 :: u34 :: u35 :: u36 :: u37 :: u38 :: u39 :: u40 :: u41 :: u42 :: u43 :: u44 :: u45 :: u46 :: u47 :: u48 :: u49 :: u50 :: u51 :: u52 :: u53 :: u54 :: u55 :: u56 :: u57 :: u58 :: u59 :: u60 :: u61 :: u62 :: u63 :: u64 :: u65 :: u66 :: u67 :: u68 :: u69 :: u70 :: u71 :: u72 :: u73 :: u74 :: u75 :: u76 :: u77 :: u78 :: u79 :: u80 :: u81 :: u82 :: u83 :: u84 :: u85 :: u86 :: u87 :: u88 :: u89 :: u90 :: u91 :: u92 :: u93 :: u94 :: u95 :: u96 :: u97 :: u98 :: u99 :: u100 :: u101 :: u102 :: u103 :: u104 :: u105 :: u106 :: u107 :: u108 :: u109 :: u110 :: u111 :: u112 :: u113 :: u114 :: u115 :: u116 :: u117 :: u118 :: u119 :: u120 :: u121 :: u122 :: u123 :: u124 :: u125 :: u126 :: u127 :: u128 :: u129 :: u130 :: u131 :: u132 :: u133 :: u134 :: u135 :: u136 :: u137 :: u138 :: u139 :: u140 :: u141 :: u142 :: u143 :: u144 :: u145 :: u146 :: u147 :: u148 :: u149 :: u150 :: u151 :: u152 :: u153 :: u154 :: u155 :: u156 :: u157 :: u158 :: u159 :: u160 :: u161 :: u162 :: u163 :: u164 :: u165 :: u166 :: u167 :: u168 :: u169 :: u170 :: u171 :: u172 :: u173 :: u174 :: u175 :: u176 :: u177 :: u178 :: u179 :: u180 :: u181 :: u182 :: u183 :: u184 :: u185 :: u186 :: u187 :: u188 :: u189 :: u190 :: u191 :: u192 :: u193 :: u194 :: u195 :: u196 :: u197 :: u198 :: u199 :: u200 :: u201 :: u202 :: u203 :: u204 :: u205 :: u206 :: u207 :: u208 :: u209 :: u210 :: u211 :: u212 :: u213 :: u214 :: u215 :: u216 :: u217 :: u218 :: u219 :: u220 :: u221 :: u222 :: u223 :: u224 :: u225 :: u226 :: u227 :: u228 :: u229 :: u230 :: u231 :: u232 :: u233 :: u234 :: u235 :: u236 :: u237 :: u238 :: u239 :: u240 :: u241 :: u242 :: u243 :: u244 :: u245 :: u246 :: u247 :: u248 :: u249 :: u250 :: u251 :: u252 :: u253 :: u254 :: u255 :: u256 :: u257 :: u258 :: u259 :: u260 :: u261 :: u262 :: u263 :: u264 :: u265 :: u266 :: u267 :: u268 :: u269 :: u270 :: u271 :: u272 :: u273 :: u274 :: u275 :: u276 :: u277 :: u278 :: u279 :: u280 :: u281 :: u282 :: u283 :: u284 :: u285 :: u286 :: u287 :: u288 :: u289 :: u290 :: u291 :: u292 :: u293 :: u294 :: u295 :: u296 :: u297 :: u298 :: u299 :: u300 :: u301 :: u302 :: u303 :: u304 :: u305 :: u306 :: u307 :: u308 :: u309 :: u310 :: u311 :: u312 :: u313 :: u314 :: u315 :: u316 :: u317 :: u318 :: u319 :: u320 :: u321 :: u322 :: u323 :: u324 :: u325 :: u326 :: u327 :: u328 :: u329 :: u330 :: u331 :: u332 :: u333 :: u334 :: u335 :: u336 :: u337 :: u338 :: u339 :: u340 :: u341 :: u342 :: u343 :: u344 :: u345 :: u346 :: u347 :: u348 :: u349 :: u350 :: u351 :: u352 :: u353 :: u354 :: u355 :: u356 :: u357 :: u358 :: u359 :: u360 :: u361 :: u362 :: u363 :: u364 :: u365 :: u366 :: u367 :: u368 :: u369 :: u370 :: u371 :: u372 :: u373 :: u374 :: u375 :: u376 :: u377 :: u378 :: u379 :: u380 :: u381 :: u382 :: u383 :: u384 :: u385 :: u386 :: u387 :: u388 :: u389 :: u390 :: u391 :: []), []⟩ wj := by
  conv => arg 2; arg 1; whnf
  go_loopw [17] (fun i wr => ∃ j : Nat, i = .int .i64 j ∧ 1 ≤ j ∧ j ≤ nx' ∧ Hid (LW w N b G wr (.slice ko el kc) (fun i => if i < j then gOf m' i else gOf m i) m' E' F')) (fun i _ => nx' - (intOf i).toNat)
  case atStart =>
    refine ⟨1, rfl, by omega, by omega, HW'.out.g (fun i => ?_)⟩
    by_cases hi : i < 1
    · have : i = 0 := by omega
      subst this
      rw [if_pos hi]; simp [gOf]
    · rw [if_neg hi]
  case round =>
    obtain ⟨j, rfl, hj1, hjn, HLj⟩ := hrel
    obtain ⟨wj, hwj⟩ : ∃ wj, wj = wr := ⟨_, rfl⟩
    subst hwj
    have qn := next_f b _ wj _ HLj.out.mf
    rw [← Hnx'.out] at qn
    go_wp2_with fail
    refine qn.mono ?_
    rintro x w5 ⟨rfl, hw5⟩
    obtain rfl := hw5.symm
    clear qn hw5
    by_cases hjlt : (j : Int) < nx'
    · have hjl : j < nx' := by omega
      have hjm : j < m'.nx := by rw [← Hnx'.out]; exact hjl
      have qs := state_f b _ wj _ HLj.out.mf j (by omega) (by omega)
      obtain ⟨t, i, hf⟩ : ∃ t i, fnd m'.tx (j : Int) = some (t, i) := by
        cases hf : fnd m'.tx (j : Int) with
        | none => exact absurd hf (HLj.out.all j hj1 hjm)
        | some a => exact ⟨a.1, a.2, rfl⟩
      obtain ⟨s, hs⟩ : ∃ s, s = m'.state j := ⟨_, rfl⟩
      rw [← hs] at qs
      have hsc := sees_cond HLj.out.mf.wf HLj.out.all hj1 hjm
      rw [← hs] at hsc
      have Htop : Hid (∀ W, Tch (fun _ => False) wj W → Calls Try.prog 20 #[.pointer (some ⟨b, 0, none⟩), .int .i64 j] W fun x w' => x = .returned (.tuple #[.int .i64 t.x, .int .i64 0]) ∧ Tch (fun _ => False) W w') := fun W tW => by
        obtain ⟨σ, mb, bl, hM, _⟩ := (HLj.out.mf.no tW)
        exact top_some b m' σ mb bl W hM j (by omega) (by omega) hf
      have hxs : s ≠ 4 → m'.state t.x = s := fun h4 => by
        have h1 : s = stE (some (t, i)) := by rw [hs]; simp [Mg.state, hf]
        have h2 : fnd m'.tx (t.x : Int) = some (t, -1) := by
          have htm := (fnd_mem hf).1
          cases hg : fnd m'.tx (t.x : Int) with
          | none => exact absurd rfl (fnd_none hg t htm).1
          | some a =>
            obtain ⟨u, i'⟩ := a
            have wf := HLj.out.mf.wf
            obtain ⟨hum, ⟨e0, e⟩ | ⟨k', p, e0, _, hp, e, _⟩⟩ := fnd_mem hg
            · have := wf.uniq u hum t htm (by omega)
              rw [this, e0]
            · exfalso
              have hpm := List.mem_of_getElem? hp
              have key : ∀ L : List Tx, L.Pairwise (fun t u => t.x < u.x) → L.Pairwise (fun t u => ∀ p ∈ t.ps, p.x ≠ u.x ∧ ∀ q ∈ u.ps, p.x ≠ q.x) → (∀ v ∈ L, v ∈ m'.tx) → u ∈ L → t ∈ L → False := by
                intro L
                induction L with
                | nil => intro _ _ _ h; cases h
                | cons c r ih =>
                  intro p1 p2 hL hu ht
                  obtain ⟨p1a, p1b⟩ := List.pairwise_cons.1 p1
                  obtain ⟨p2a, p2b⟩ := List.pairwise_cons.1 p2
                  have hup := (wf.pl u hum p hpm).1
                  rcases List.mem_cons.1 hu with e1 | hu' <;> rcases List.mem_cons.1 ht with e2 | ht'
                  · rw [e1, ← e2] at hup; omega
                  · have := (p2a t ht' p (by rw [← e1]; exact hpm)).1; omega
                  · have := p1a u hu'; rw [← e2] at this; omega
                  · exact ih p1b p2b (fun v hv => hL v (by simp [hv])) hu' ht'
              exact key m'.tx wf.up wf.ap (fun _ h => h) hum htm
        have h3 : s = t.st := by
          rw [h1]; simp only [stE]
          split
          · rename_i h5; exfalso; apply h4; rw [h1]; simp [stE, h5]
          · rfl
        rw [h3]; simp [Mg.state, h2, stE, fate]
      obtain ⟨tx, htx⟩ : ∃ tx, tx = t.x := ⟨_, rfl⟩
      rw [← htx] at Htop hxs
      have htxb : (tx : Int) ≤ 2147483648 := by
        have h1 := (HLj.out.mf.wf.lo t (fnd_mem hf).1).2
        have h2 := HLj.out.mf.wf.n2
        omega
      have hgc : gOf m j = true → s = 4 := fun hg => by
        unfold gOf at hg
        rw [decide_eq_true_eq] at hg
        rw [hs]; exact Hst.out.gone (by
          intro j0 h0 h0'
          have h9 := Hall.out
          exact h9 j0 h0 h0') hj1 hg.2.1 hg.2.2
      have hgj : ∀ W, Tch (fun _ => False) wj W → W.cell? ⟨G, j, none⟩ = some (.bool (gOf m j)) := fun W tW => by
        have h9 := (HLj.out.no HN.out tW).ga
        rw [blk_cell h9, List.getElem?_toArray, gcells_at _ (by omega), if_neg (by omega)]
      have hfz : ∀ W, Tch (fun _ => False) wj W → W.frozen? ⟨G, j, none⟩ = false := fun W tW => blk_frozen (HLj.out.no HN.out tW).ga j
      have HNew : Hid (∀ W, Tch (fun _ => False) wj W → LW w N b G (W.setCell ⟨G, j, none⟩ (.bool (decide (s = 4)))) (.slice ko el kc) (fun i => if i < j + 1 then gOf m' i else gOf m i) m' E' F') := fun W tW => by
        refine ((HLj.out.no HN.out tW).gone HNG.out HN.out j (decide (s = 4))).g (fun i => ?_)
        by_cases hi : i = j
        · subst hi
          rw [if_pos rfl, if_pos (by omega)]
          unfold gOf
          exact decide_eq_decide.2 ⟨fun h => ⟨hj1, hjm, by rw [← hs]; exact h⟩, fun h => by rw [hs]; exact h.2.2⟩
        · rw [if_neg hi]
          by_cases h2 : i < j
          · rw [if_pos h2, if_pos (by omega)]
          · rw [if_neg h2, if_neg (by omega)]
      have Hs2 : Hid (∀ W, Tch (fun _ => False) wj W → s ≠ 4 → Calls Try.prog 19 #[.pointer (some ⟨b, 0, none⟩), .int .i64 (tx : Nat)] W fun x w' => x = .returned (.int .i64 s) ∧ Tch (fun _ => False) W w') := fun W tW h4 => by
        have h1 := state_f b _ W _ (HLj.out.mf.no tW) tx (by omega) (by omega)
        rw [hxs h4] at h1
        exact h1
      have Hgj : Hid _ := hgj
      have Hfz : Hid _ := hfz
      clear hf hs hxs htx hgj hfz
      go_wp2_with fail
      refine qs.mono ?_
      rintro x w5 ⟨rfl, t5⟩
      have Ht5 : Hid (Tch (fun _ => False) wj w5) := t5
      have qt := Htop.out w5 t5
      clear qs t5
      go_wp2_with fail
      refine qt.mono ?_
      rintro x w6 ⟨rfl, t6⟩
      have Ht6 : Hid (Tch (fun _ => False) wj w6) := Ht5.out.trans' t6
      clear qt t6
      have cG := Hgj.out w6 Ht6.out
      have fG := Hfz.out w6 Ht6.out
      have hs0b : ((s : Int) == 0) = false := by simp; omega
      obtain ⟨gg, hgg⟩ : ∃ gg, gg = gOf m j := ⟨_, rfl⟩
      rw [← hgg] at cG hgc
      clear hgg
      by_cases h4 : s = 4
      · subst h4
        have HN1 : Hid _ := HNew.out w6 Ht6.out
        cases gg
        all_goals
          as_aux_lemma =>
            go_wp2_with fail
            go_roundw
            case rel => exact ⟨j + 1, by go_num, by omega, by omega, HN1⟩
            case measure => simp [intOf]; omega
      · have hgf : gg = false := by
          cases gg with
          | false => rfl
          | true => exact absurd (hgc rfl) h4
        subst hgf
        have h4b : ((s : Int) == 4) = false := by simp; omega
        have h4I : ¬ (s : Int) = 4 := by omega
        have q2 := Hs2.out w6 Ht6.out h4
        clear hgc
        as_aux_lemma =>
          go_wp2_with fail
          refine q2.mono ?_
          rintro x w7 ⟨rfl, t7⟩
          have Ht7 : Hid (Tch (fun _ => False) wj w7) := Ht6.out.trans' t7
          have cG' := Hgj.out w7 Ht7.out
          have fG' := Hfz.out w7 Ht7.out
          have HN1 := HNew.out w7 Ht7.out
          rw [decide_eq_false h4] at HN1
          have HN2 : Hid _ := HN1
          clear q2 t7 HN1 cG fG
          go_wp2_with fail
          go_roundw
          case rel => exact ⟨j + 1, by go_num, by omega, by omega, HN2⟩
          case measure => simp [intOf]; omega
    · have HLG : Hid (LW w N b G wj (.slice ko el kc) (gOf m') m' E' F') := HLj.out.g (fun i => by
        by_cases hi : i < j
        · rw [if_pos hi]
        · rw [if_neg hi]
          have hjx : j = m'.nx := by have := Hnx'.out; omega
          have h1 : gOf m i = false := decide_eq_false (fun h => by have := Hst.out.nx; omega)
          have h2 : gOf m' i = false := decide_eq_false (fun h => by omega)
          rw [h1, h2])
      clear HLj
      go_wp2_with fail
      exact Hexit.out _ _ _ _ _ _ _ _ _ _ _ _ _ _ _ _ _ _ _ _ _ _ _ _ _ _ _ _ _ _ _ _ _ _ _ _ _ _ _ _ _ _ _ _ _ _ _ _ _ _ _ _ _ HLG
  end Go.Proofs.Ytkokmgoplldcfaa
