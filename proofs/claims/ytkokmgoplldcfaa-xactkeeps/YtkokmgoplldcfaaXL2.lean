/- XactKeeps: loop 2. -/
import Derived.Test.YtkokmgoplldcfaaXKeep4
import Derived.Test.YtkokmgoplldcfaaXLoops
import Derived.Test.YtkokmgoplldcfaaOrdv
import Derived.Deep.DeepCutAuto
import Derived.Deep.CutBlock
namespace Go.Proofs.Ytkokmgoplldcfaa
open Go.RowKit Go Go.Sort

set_option maxHeartbeats 4000000 in
set_option maxRecDepth 100000 in
theorem loop2 (w wv w6 w7 : World) (N b G X : Nat) (kv : Value) (nx mn ol : Nat) (m : Mg) (E : List EW) (F : Nat → Prop) (so : Option Addr) (sc : Nat)
    (Hnx : Hid (nx = m.nx)) (hnxb : nx ≤ 123) (hnx2 : 2 ≤ nx) (HW : Hid (LW w N b G wv kv (gOf m) m E F)) (Hmn : Hid (mn = m.on.headD m.nx)) (Hol : Hid (ol = m.on.length))
    (Hv : Hid (w6.ownsRow wv.heap.size 3 1 (.slice so m.on.length sc) m.on.length (icl m.on))) (Ht6 : Hid (Tch (fun _ => False) wv w6)) (HX : Hid (X = w6.heap.size))
    (HX7 : Hid (w7.heap[X]? = some (.cells #[.int .i64 mn, .int .i64 nx, .slice so ol sc, .slice none 0 0, .int .i64 nx] 47 (0, 0)) ∧ Tch (fun _ => False) w6 w7)) (Q0 : Exit → Act → World → Prop)
    (u0 u1 u2 u3 u4 u6 u7 u8 u9 u10 u12 u13 u14 u17 u18 u19 u20 u21 u22 u23 u24 u25 u26 u27 u28 u29 u30 u31 u32 u33 u34 u35 u36 u37 u38 u39 u40 u41 u42 u43 u44 u45 u46 u47 u48 u49 u50 u51 u52 u53 u54 u55 u56 u57 u58 u59 u60 u61 u62 u63 u64 u65 u66 u67 u68 u69 u70 u71 u72 u73 u74 u75 u76 u77 u78 u79 u80 u81 u82 u83 u84 u85 u86 u87 u88 u89 u90 u91 u92 u93 u94 u95 u96 u97 u98 u99 u100 u101 u102 u103 u104 u105 u106 u107 u108 u109 u110 u111 u112 u113 u114 u115 u116 u117 u118 u119 u120 u121 u122 u123 u124 u125 u126 u127 u128 u129 u130 u131 u132 u133 u134 u135 u136 u137 u138 u139 u140 u141 u142 u143 u144 u145 u146 u147 u148 u149 u150 u151 u152 u153 u154 u155 u156 u157 u158 u159 u160 u161 u162 u163 u164 u165 u166 u167 u168 u169 u170 u171 u172 u173 u174 u175 u176 u177 u178 u179 u180 u181 u182 u183 u184 u185 u186 u187 u188 u189 u190 u191 u192 u193 u194 u195 u196 u197 u198 u199 u200 u201 u202 u203 u204 u205 u206 u207 u208 u209 u210 u211 u212 u213 u214 u215 u216 u217 u218 u219 u220 u221 u222 u223 u224 u225 u226 u227 u228 u229 u230 u231 u232 u233 u234 u235 u236 u237 u238 u239 u240 u241 u242 u243 u244 u245 u246 u247 u248 u249 u250 u251 u252 u253 u254 u255 u256 u257 u258 u259 u260 u261 u262 u263 u264 u265 u266 u267 u268 u269 u270 u271 u272 u273 u274 u275 u276 u277 u278 u279 u280 u281 u282 u283 u284 u285 u286 u287 u288 u289 u290 u291 u292 u293 u294 u295 u296 u297 u298 u299 u300 u301 u302 u303 u304 u305 u306 u307 u308 u309 u310 u311 u312 u313 u314 u315 u316 u317 u318 u319 u320 u321 u322 u323 u324 u325 u326 u327 u328 u329 u330 u331 u332 u333 u334 u335 u336 u337 u338 u339 u340 u341 u342 u343 u344 u345 u346 u347 u348 u349 u350 u351 u352 u353 u354 u355 u356 u357 u358 u359 u360 u361 u362 u363 u364 u365 u366 u367 u368 u369 u370 u371 u372 u373 u374 u375 u376 u377 u378 u379 u380 u381 u382 u383 u384 u385 u386 u387 u388 u389 u390 u391 : Value)
    (Hexit : Hid (∀ (v16 v93 v94 v95 v96 v97 v98 v99 v100 v101 v102 v103 v104 v105 v106 v107 : Value) (ss : Option Addr) (sd : Nat) (wx : World), Hid (wx.heap[X]? = some (.cells #[.int .i64 mn, .int .i64 nx, .slice so ol sc, .slice ss nx sd, .int .i64 nx] 47 (0, 0)) ∧ wx.ownsRow w6.heap.size 4 1 (.slice ss nx sd) nx (bcl (seN m nx)) ∧ Tch (fun _ => False) w6 wx) → Q0 (.exit 3) ⟨List.toArray (u0 :: u1 :: u2 :: u3 :: u4 :: (.pointer (some ⟨b, 0, none⟩)) :: u6 :: u7 :: u8 :: u9 :: u10 :: (.int .i64 ((nx : Int) - 1)) :: u12 :: u13 :: u14 :: (.pointer (some ⟨X, 0, none⟩)) :: (v16) :: u17 :: u18 :: u19 :: u20 :: u21 :: u22 :: u23 :: u24 :: u25 :: u26 :: u27 :: u28 :: u29 :: u30 :: u31 :: u32 :: u33 :: u34 :: u35 :: u36 :: u37 :: u38 :: u39 :: u40 :: u41 :: u42 :: u43 :: u44 :: u45 :: u46 :: u47 :: u48 :: u49 :: u50 :: u51 :: u52 :: u53 :: u54 :: u55 :: u56 :: u57 :: u58 :: u59 :: u60 :: u61 :: u62 :: u63 :: u64 :: u65 :: u66 :: u67 :: u68 :: u69 :: u70 :: u71 :: u72 :: u73 :: u74 :: u75 :: u76 :: u77 :: u78 :: u79 :: u80 :: u81 :: u82 :: u83 :: u84 :: u85 :: u86 :: u87 :: u88 :: u89 :: u90 :: u91 :: u92 :: (v93) :: (v94) :: (v95) :: (v96) :: (v97) :: (v98) :: (v99) :: (v100) :: (v101) :: (v102) :: (v103) :: (v104) :: (v105) :: (v106) :: (v107) :: u108 :: u109 :: u110 :: u111 :: u112 :: u113 :: u114 :: u115 :: u116 :: u117 :: u118 :: u119 :: u120 :: u121 :: u122 :: u123 :: u124 :: u125 :: u126 :: u127 :: u128 :: u129 :: u130 :: u131 :: u132 :: u133 :: u134 :: u135 :: u136 :: u137 :: u138 :: u139 :: u140 :: u141 :: u142 :: u143 :: u144 :: u145 :: u146 :: u147 :: u148 :: u149 :: u150 :: u151 :: u152 :: u153 :: u154 :: u155 :: u156 :: u157 :: u158 :: u159 :: u160 :: u161 :: u162 :: u163 :: u164 :: u165 :: u166 :: u167 :: u168 :: u169 :: u170 :: u171 :: u172 :: u173 :: u174 :: u175 :: u176 :: u177 :: u178 :: u179 :: u180 :: u181 :: u182 :: u183 :: u184 :: u185 :: u186 :: u187 :: u188 :: u189 :: u190 :: u191 :: u192 :: u193 :: u194 :: u195 :: u196 :: u197 :: u198 :: u199 :: u200 :: u201 :: u202 :: u203 :: u204 :: u205 :: u206 :: u207 :: u208 :: u209 :: u210 :: u211 :: u212 :: u213 :: u214 :: u215 :: u216 :: u217 :: u218 :: u219 :: u220 :: u221 :: u222 :: u223 :: u224 :: u225 :: u226 :: u227 :: u228 :: u229 :: u230 :: u231 :: u232 :: u233 :: u234 :: u235 :: u236 :: u237 :: u238 :: u239 :: u240 :: u241 :: u242 :: u243 :: u244 :: u245 :: u246 :: u247 :: u248 :: u249 :: u250 :: u251 :: u252 :: u253 :: u254 :: u255 :: u256 :: u257 :: u258 :: u259 :: u260 :: u261 :: u262 :: u263 :: u264 :: u265 :: u266 :: u267 :: u268 :: u269 :: u270 :: u271 :: u272 :: u273 :: u274 :: u275 :: u276 :: u277 :: u278 :: u279 :: u280 :: u281 :: u282 :: u283 :: u284 :: u285 :: u286 :: u287 :: u288 :: u289 :: u290 :: u291 :: u292 :: u293 :: u294 :: u295 :: u296 :: u297 :: u298 :: u299 :: u300 :: u301 :: u302 :: u303 :: u304 :: u305 :: u306 :: u307 :: u308 :: u309 :: u310 :: u311 :: u312 :: u313 :: u314 :: u315 :: u316 :: u317 :: u318 :: u319 :: u320 :: u321 :: u322 :: u323 :: u324 :: u325 :: u326 :: u327 :: u328 :: u329 :: u330 :: u331 :: u332 :: u333 :: u334 :: u335 :: u336 :: u337 :: u338 :: u339 :: u340 :: u341 :: u342 :: u343 :: u344 :: u345 :: u346 :: u347 :: u348 :: u349 :: u350 :: u351 :: u352 :: u353 :: u354 :: u355 :: u356 :: u357 :: u358 :: u359 :: u360 :: u361 :: u362 :: u363 :: u364 :: u365 :: u366 :: u367 :: u368 :: u369 :: u370 :: u371 :: u372 :: u373 :: u374 :: u375 :: u376 :: u377 :: u378 :: u379 :: u380 :: u381 :: u382 :: u383 :: u384 :: u385 :: u386 :: u387 :: u388 :: u389 :: u390 :: u391 :: []), []⟩ wx)) :
    Code.wp Try.prog (Code.loop body2) Q0 ⟨List.toArray (u0 :: u1 :: u2 :: u3 :: u4 :: (.pointer (some ⟨b, 0, none⟩)) :: u6 :: u7 :: u8 :: u9 :: u10 :: (.int .i64 ((nx : Int) - 1)) :: u12 :: u13 :: u14 :: (.pointer (some ⟨X, 0, none⟩)) :: (.int .i64 0) :: u17 :: u18 :: u19 :: u20 :: u21 :: u22 :: u23 :: u24 :: u25 :: u26 :: u27 :: u28 :: u29 :: u30 :: u31 :: u32 :: u33 :: u34 :: u35 :: u36 :: u37 :: u38 :: u39 :: u40 :: u41 :: u42 :: u43 :: u44 :: u45 :: u46 :: u47 :: u48 :: u49 :: u50 :: u51 :: u52 :: u53 :: u54 :: u55 :: u56 :: u57 :: u58 :: u59 :: u60 :: u61 :: u62 :: u63 :: u64 :: u65 :: u66 :: u67 :: u68 :: u69 :: u70 :: u71 :: u72 :: u73 :: u74 :: u75 :: u76 :: u77 :: u78 :: u79 :: u80 :: u81 :: u82 :: u83 :: u84 :: u85 :: u86 :: u87 :: u88 :: u89 :: u90 :: u91 :: u92 :: u93 :: u94 :: u95 :: u96 :: u97 :: u98 :: u99 :: u100 :: u101 :: u102 :: u103 :: u104 :: u105 :: u106 :: u107 :: u108 :: u109 :: u110 :: u111 :: u112 :: u113 :: u114 :: u115 :: u116 :: u117 :: u118 :: u119 :: u120 :: u121 :: u122 :: u123 :: u124 :: u125 :: u126 :: u127 :: u128 :: u129 :: u130 :: u131 :: u132 :: u133 :: u134 :: u135 :: u136 :: u137 :: u138 :: u139 :: u140 :: u141 :: u142 :: u143 :: u144 :: u145 :: u146 :: u147 :: u148 :: u149 :: u150 :: u151 :: u152 :: u153 :: u154 :: u155 :: u156 :: u157 :: u158 :: u159 :: u160 :: u161 :: u162 :: u163 :: u164 :: u165 :: u166 :: u167 :: u168 :: u169 :: u170 :: u171 :: u172 :: u173 :: u174 :: u175 :: u176 :: u177 :: u178 :: u179 :: u180 :: u181 :: u182 :: u183 :: u184 :: u185 :: u186 :: u187 :: u188 :: u189 :: u190 :: u191 :: u192 :: u193 :: u194 :: u195 :: u196 :: u197 :: u198 :: u199 :: u200 :: u201 :: u202 :: u203 :: u204 :: u205 :: u206 :: u207 :: u208 :: u209 :: u210 :: u211 :: u212 :: u213 :: u214 :: u215 :: u216 :: u217 :: u218 :: u219 :: u220 :: u221 :: u222 :: u223 :: u224 :: u225 :: u226 :: u227 :: u228 :: u229 :: u230 :: u231 :: u232 :: u233 :: u234 :: u235 :: u236 :: u237 :: u238 :: u239 :: u240 :: u241 :: u242 :: u243 :: u244 :: u245 :: u246 :: u247 :: u248 :: u249 :: u250 :: u251 :: u252 :: u253 :: u254 :: u255 :: u256 :: u257 :: u258 :: u259 :: u260 :: u261 :: u262 :: u263 :: u264 :: u265 :: u266 :: u267 :: u268 :: u269 :: u270 :: u271 :: u272 :: u273 :: u274 :: u275 :: u276 :: u277 :: u278 :: u279 :: u280 :: u281 :: u282 :: u283 :: u284 :: u285 :: u286 :: u287 :: u288 :: u289 :: u290 :: u291 :: u292 :: u293 :: u294 :: u295 :: u296 :: u297 :: u298 :: u299 :: u300 :: u301 :: u302 :: u303 :: u304 :: u305 :: u306 :: u307 :: u308 :: u309 :: u310 :: u311 :: u312 :: u313 :: u314 :: u315 :: u316 :: u317 :: u318 :: u319 :: u320 :: u321 :: u322 :: u323 :: u324 :: u325 :: u326 :: u327 :: u328 :: u329 :: u330 :: u331 :: u332 :: u333 :: u334 :: u335 :: u336 :: u337 :: u338 :: u339 :: u340 :: u341 :: u342 :: u343 :: u344 :: u345 :: u346 :: u347 :: u348 :: u349 :: u350 :: u351 :: u352 :: u353 :: u354 :: u355 :: u356 :: u357 :: u358 :: u359 :: u360 :: u361 :: u362 :: u363 :: u364 :: u365 :: u366 :: u367 :: u368 :: u369 :: u370 :: u371 :: u372 :: u373 :: u374 :: u375 :: u376 :: u377 :: u378 :: u379 :: u380 :: u381 :: u382 :: u383 :: u384 :: u385 :: u386 :: u387 :: u388 :: u389 :: u390 :: u391 :: []), []⟩ w7 := by
  obtain ⟨i1, hi1, hzb0, hzb1, hzb2⟩ := info_parts info_bool
  conv => arg 2; arg 1; whnf
  go_loopw [16] (fun i wr => ∃ j : Nat, i = .int .i64 j ∧ j ≤ nx ∧ Hid (∃ ss sd, wr.heap[X]? = some (.cells #[.int .i64 mn, .int .i64 nx, .slice so ol sc, .slice ss j sd, .int .i64 nx] 47 (0, 0)) ∧ wr.ownsRow w6.heap.size 4 1 (.slice ss j sd) j (bcl (seN m j)) ∧ Tch (fun _ => False) w6 wr)) (fun i _ => nx - (intOf i).toNat)
  case atStart => exact ⟨0, rfl, by omega, ⟨none, 0, HX7.out.1, ⟨rfl, Or.inl ⟨rfl, rfl⟩⟩, HX7.out.2⟩⟩
  case round =>
    obtain ⟨j, rfl, hjn, Hj⟩ := hrel
    by_cases hjlt : (j : Int) ≤ (nx : Int) - 1
    · obtain ⟨ss, sd, hXj, hsj, tj⟩ := Hj.out
      have hMj : MF wr b m F := HW.out.mf.no (Ht6.out.trans' tj)
      obtain ⟨now, hnow⟩ : ∃ now, now = m.sees (m.on.headD m.nx : Nat) m.nx (ints m.on) 0 j := ⟨_, rfl⟩
      have HSee : Hid (∀ W, Tch (fun _ => False) wr W → Calls Try.prog 15 #[.pointer (some ⟨b, 0, none⟩), .agg #[.int .i64 mn, .int .i64 nx, .slice so ol sc], .int .i64 0, .int .i64 j] W fun y w' => y = .returned (.bool now) ∧ Tch (fun _ => False) W w') := fun W tW => by
        have hI : IR W so (ints m.on) := IR.of_own (own_tch Hv.out (tj.trans' tW) (fun _ _ h => h))
        have h2 := sees_f b _ W F (hMj.no tW) mn nx (ints m.on) so sc (by
          have := on_le HW.out.mf.wf
          simp only [ints, List.length_map]; omega) hI 0 j (by omega) (by omega) (by omega) (by omega)
        rw [show (ints m.on).length = ol by rw [Hol.out]; simp [ints], Hmn.out, Hnx.out, ← hnow] at h2
        rw [Hmn.out, Hnx.out]
        exact h2
      have Hsn : Hid (bcl (seN m (j + 1)) = bcl (seN m j) ++ [.bool now]) := by show _ = _; rw [seN_snoc, bcl_snoc, ← hnow]
      have hXl := blk_lt hXj
      have hsX : ∀ g, (Value.slice ss j sd).ownBlock = some g → g ≠ X := fun g hg e => by
        obtain ⟨cur, hc⟩ := own_blk hsj hg
        rw [e, hXj] at hc; cases hc
      have Hsj : Hid (wr.ownsRow w6.heap.size 4 1 (.slice ss j sd) j (bcl (seN m j))) := hsj
      have HXj : Hid (wr.heap[X]? = some (.cells #[.int .i64 mn, .int .i64 nx, .slice so ol sc, .slice ss j sd, .int .i64 nx] 47 (0, 0))) := hXj
      have HsX : Hid _ := hsX
      have Htj : Hid (Tch (fun _ => False) w6 wr) := tj
      clear hnow hsj hXj hsX tj hMj Hj
      go_wp2_with fail
      obtain ⟨C, hC⟩ : ∃ C : List Value → World → Prop, C = fun s W => match s with
        | [] => Tch (fun _ => False) wr W
        | [x] => x = .bool now ∧ Tch (fun _ => False) wr W
        | [_, y] => Tch (fun _ => False) wr W ∧ ∃ g, y = .slice (some ⟨g, 0, none⟩) 1 1 ∧ ∀ l u, ([.bool now] : List Value)[l]? = some u → W.cell? ((⟨g, 0, none⟩ : Addr).add l) = some u
        | [_, _, z] => Tch (fun i => (Value.slice ss j sd).ownBlock = some i) wr W ∧ ∃ o5 c5, z = .slice o5 (j + 1) c5 ∧ W.ownsRow w6.heap.size 4 1 z (j + 1) (bcl (seN m j) ++ [.bool now]) ∧ (z.ownBlock = (Value.slice ss j sd).ownBlock ∨ ∃ g, z.ownBlock = some g ∧ wr.heap.size ≤ g)
        | _ => False := ⟨_, rfl⟩
      have HXW : Hid (∀ W, Tch (fun i => (Value.slice ss j sd).ownBlock = some i) wr W → W.heap[X]? = some (.cells #[.int .i64 mn, .int .i64 nx, .slice so ol sc, .slice ss j sd, .int .i64 nx] 47 (0, 0))) := fun W tW => (tW.block X hXl (fun e => HsX.out X e rfl)).trans HXj.out
      have hK : ∀ s W, C s W → W.cell? ⟨X, 0, none⟩ = some (.int .i64 mn) ∧ W.cell? ⟨X, 1, none⟩ = some (.int .i64 nx) ∧ W.cell? ⟨X, 2, none⟩ = some (.slice so ol sc) ∧ W.cell? ⟨X, 3, none⟩ = some (.slice ss j sd) := fun s W h => by
        have hT : Tch (fun i => (Value.slice ss j sd).ownBlock = some i) wr W := by
          rw [hC] at h
          match s, h with
          | [], h => exact h.mono (fun _ _ h => h.elim)
          | [_], h => exact h.2.mono (fun _ _ h => h.elim)
          | [_, _], h => exact h.1.mono (fun _ _ h => h.elim)
          | [_, _, _], h => exact h.1
        have h1 := HXW.out W hT
        exact ⟨by rw [blk_cell h1]; rfl, by rw [blk_cell h1]; rfl, by rw [blk_cell h1]; rfl, by rw [blk_cell h1]; rfl⟩
      have hcall : ∀ W, C [] W → Calls Try.prog 15 #[.pointer (some ⟨b, 0, none⟩), .agg #[.int .i64 mn, .int .i64 nx, .slice so ol sc], .int .i64 0, .int .i64 j] W fun y w' => y = .returned (.bool now) ∧ C [.bool now] w' := fun W h => by
        rw [hC] at h
        refine (HSee.out W h).mono ?_
        rintro y w' ⟨rfl, t⟩
        rw [hC]
        exact ⟨rfl, rfl, Tch.trans' h t⟩
      have h7 : ∀ W, C [.bool now] W → C [.bool now, .slice (some ⟨W.heap.size, 0, none⟩) 1 1] (W.alloc (.cells #[.bool now] 4)) := fun W h => by
        rw [hC] at h ⊢
        refine ⟨Tch.allocR h.2 _, W.heap.size, rfl, fun l u hu => ?_⟩
        rw [add_plain, blk_cell (alloc_new _ _)]
        simpa using hu
      have h8 : ∀ g W, C [.bool now, .slice (some ⟨g, 0, none⟩) 1 1] W → ∃ o5 c5 w', (Builtin.append_ #[40, 40] 40 #[.slice ss j sd, .slice (some ⟨g, 0, none⟩) 1 1]).run Try.prog W = .ok (.slice o5 (j + 1) c5) w' ∧ C [.bool now, .slice (some ⟨g, 0, none⟩) 1 1, .slice o5 (j + 1) c5] w' := fun g W h => by
        rw [hC] at h
        obtain ⟨tW, g', e, hg⟩ := h
        have e' : g = g' := by simpa using e
        subst e'
        obtain ⟨v', w', hr, hown, hgr, hat, _⟩ := run_append_keeps (P := Try.prog) W w6.heap.size 40 40 4 i1 (.bool false) 1 1 Try.underlying40 hi1 hzb0 hzb1 hzb2 rfl (by decide) (.slice ss j sd) j (bcl (seN m j)) (own_tch Hsj.out tW (fun _ _ h => h)) ⟨g, 0, none⟩ 1 1 [.bool now] rfl hg (by simp [Value.oneCell']) (by unfold maxLen; omega) (by omega) (Nat.le_trans Htj.out.size tW.size)
        obtain ⟨o5, c5, rfl⟩ := row_slice hown
        refine ⟨o5, c5, w', hr, ?_⟩
        rw [hC]
        exact ⟨(tW.mono (fun _ _ h => h.elim)).trans' (grown_at (Tch.refl (fun _ => False) W) hgr), o5, c5, rfl, hown, hat.imp id (fun e => ⟨_, e, tW.size⟩)⟩
      have h0' : C [] wr.drew := by rw [hC]; exact (Tch.refl _ _).drew
      have hsh0 : Hid (∀ x W, C [x] W → x = .bool now) := fun x W h => by rw [hC] at h; exact h.1
      have hsh1 : ∀ x y W, C [x, y] W → ∃ g, y = .slice (some ⟨g, 0, none⟩) 1 1 := fun x y W h => by
        rw [hC] at h
        obtain ⟨_, g, e, _⟩ := h
        exact ⟨g, e⟩
      have hsh2 : ∀ x y z W, C [x, y, z] W → ∃ o5 c5, z = .slice o5 (j + 1) c5 := fun x y z W h => by
        rw [hC] at h
        obtain ⟨_, o5, c5, e, _⟩ := h
        exact ⟨o5, c5, e⟩
      have Hfin : Hid (∀ x y z W, C [x, y, z] W → Tch (fun i => (Value.slice ss j sd).ownBlock = some i) wr W ∧ W.ownsRow w6.heap.size 4 1 z (j + 1) (bcl (seN m j) ++ [.bool now]) ∧ (z.ownBlock = (Value.slice ss j sd).ownBlock ∨ ∃ g, z.ownBlock = some g ∧ wr.heap.size ≤ g)) := fun x y z W h => by
        rw [hC] at h
        obtain ⟨h1, _, _, _, h2, h3⟩ := h
        exact ⟨h1, h2, h3⟩
      clear hC
      refine wp_region_ordv [6, 7, 8] C 9 [0, 1, 2, 3, 4, 5, 6, 7, 8] (by kernel_rfl) (by kernel_rfl) h0' ?_
      clear h0'
      refine ordv_read rfl (by go_simp) (by rfl) ?_
      apply Exists.intro
      refine ⟨fun s' W hW b K Q hK' => ?_, fun K hK' => ?_⟩
      · obtain ⟨c0, c1, c2, c3⟩ := hK _ W hW
        go_simp
        exact hK' W hW
      go_simp
      refine hK' _ ?_
      clear hK' K
      refine ordv_read rfl (by go_simp) (by rfl) ?_
      apply Exists.intro
      refine ⟨fun s' W hW b K Q hK' => ?_, fun K hK' => ?_⟩
      · obtain ⟨c0, c1, c2, c3⟩ := hK _ W hW
        go_simp
        exact hK' W hW
      go_simp
      refine hK' _ ?_
      clear hK' K
      refine ordv_read rfl (by go_simp) (by rfl) ?_
      apply Exists.intro
      refine ⟨fun s' W hW b K Q hK' => ?_, fun K hK' => ?_⟩
      · obtain ⟨c0, c1, c2, c3⟩ := hK _ W hW
        go_simp
        exact hK' W hW
      go_simp
      refine hK' _ ?_
      clear hK' K
      refine ordv_read rfl (by go_simp) (by rfl) ?_
      apply Exists.intro
      refine ⟨fun s' W hW b K Q hK' => ?_, fun K hK' => ?_⟩
      · obtain ⟨c0, c1, c2, c3⟩ := hK _ W hW
        go_simp
        exact hK' W hW
      go_simp
      refine hK' _ ?_
      clear hK' K
      refine ordv_read rfl (by go_simp) (by rfl) ?_
      apply Exists.intro
      refine ⟨fun s' W hW b K Q hK' => ?_, fun K hK' => ?_⟩
      · obtain ⟨c0, c1, c2, c3⟩ := hK _ W hW
        go_simp
        exact hK' W hW
      go_simp
      refine hK' _ ?_
      clear hK' K
      refine ordv_read rfl (by go_simp) (by rfl) ?_
      apply Exists.intro
      refine ⟨fun s' W hW b K Q hK' => ?_, fun K hK' => ?_⟩
      · obtain ⟨c0, c1, c2, c3⟩ := hK _ W hW
        go_simp
        exact hK' W hW
      go_simp
      refine hK' _ ?_
      clear hK' K
      refine ordv_turn rfl (by go_simp) (by rfl) (fun W hW b K Q hK' => ?_) (fun u hu K hK' => ?_)
      · go_simp
        go_at_call 15
        refine (hcall W hW).mono ?_
        rintro x w' ⟨rfl, h1⟩
        exact hK' _ w' h1
      obtain rfl : u = .bool now := by
        obtain ⟨W', hW'⟩ := hu
        exact hsh0.out u W' hW'
      clear hu hcall
      go_simp
      refine hK' _ ?_
      clear hK' K
      refine ordv_turn rfl (by go_simp) (by rfl) (fun W hW b K Q hK' => ?_) (fun u hu K hK' => ?_)
      · go_simp
        exact hK' _ _ (h7 W hW)
      obtain ⟨g, rfl⟩ : ∃ g, u = .slice (some ⟨g, 0, none⟩) 1 1 := by
        obtain ⟨W', hW'⟩ := hu
        exact hsh1 _ u W' hW'
      clear hu h7
      go_simp
      refine hK' _ ?_
      clear hK' K
      refine ordv_turn rfl (by go_simp) (by rfl) (fun W hW => ?_) (fun u hu K hK' => ?_)
      · obtain ⟨to', tc', w', hr, h1⟩ := h8 g W hW
        exact yv_append (.tmp 99) (.tmp 105) 40 rfl (.slice ss j sd) (.slice (some ⟨g, 0, none⟩) 1 1) rfl rfl hr h1
      obtain ⟨o5, c5, rfl⟩ : ∃ o5 c5, u = .slice o5 (j + 1) c5 := by
        obtain ⟨W', hW'⟩ := hu
        exact hsh2 _ _ u W' hW'
      clear hu h8 hsh1 hsh2
      go_simp
      refine hK' _ ?_
      clear hK' K
      refine ordv_nil ?_
      intro w5 hw5
      obtain ⟨T5, hown5, hat5⟩ := Hfin.out _ _ _ w5 hw5
      have hX5 := HXW.out w5 T5
      have c3 : w5.cell? ⟨X, 3, none⟩ = some (.slice ss j sd) := by rw [blk_cell hX5]; rfl
      have f3 := blk_frozen hX5 3
      have HE : Hid (∃ ss' sd', (w5.setCell ⟨X, 3, none⟩ (.slice o5 (j + 1) c5)).heap[X]? = some (.cells #[.int .i64 mn, .int .i64 nx, .slice so ol sc, .slice ss' (j + 1) sd', .int .i64 nx] 47 (0, 0)) ∧ (w5.setCell ⟨X, 3, none⟩ (.slice o5 (j + 1) c5)).ownsRow w6.heap.size 4 1 (.slice ss' (j + 1) sd') (j + 1) (bcl (seN m (j + 1))) ∧ Tch (fun _ => False) w6 (w5.setCell ⟨X, 3, none⟩ (.slice o5 (j + 1) c5))) := by
        have tS : Tch (fun i => i = X) w5 (w5.setCell ⟨X, 3, none⟩ (.slice o5 (j + 1) c5)) := Tch.setCell (fun i => i = X) w5 ⟨X, 3, none⟩ _ rfl
        refine ⟨o5, c5, by rw [blk_set hX5]; rfl, ?_, ?_⟩
        · rw [Hsn.out]
          refine own_tch hown5 tS (fun g' hg' e => ?_)
          rcases hat5 with e2 | ⟨g2, e2, h2⟩
          · rw [e2] at hg'; exact HsX.out g' hg' e
          · rw [e2] at hg'; injection hg' with hg'; omega
        · refine (Htj.out.trans T5 (fun i hi e => ?_)).trans tS (fun i hi e => ?_)
          · have := row_ge Hsj.out e; omega
          · have := HX.out; omega
      clear Hfin HXW hK hw5 hX5 hown5 hat5 T5
      go_wp2_with fail
      go_roundw
      case rel => exact ⟨j + 1, by go_num, by omega, HE⟩
      case measure => simp [intOf]; omega
    · obtain rfl : j = nx := by omega
      obtain ⟨ss, sd, hE⟩ := Hj.out
      have HE : Hid _ := hE
      clear hE Hj
      go_wp2_with fail
      exact Hexit.out _ _ _ _ _ _ _ _ _ _ _ _ _ _ _ _ ss sd _ HE
end Go.Proofs.Ytkokmgoplldcfaa
