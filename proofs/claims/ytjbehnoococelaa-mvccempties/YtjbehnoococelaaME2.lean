import Derived.Test.YtjbehnoococelaaME1
import Derived.Test.YtjbehnoococelaaXPart2
import Derived.Deep.DeepCutAuto
import Derived.Deep.CutBlock
/- MvccEmpties: loop 2. -/
namespace Go.Proofs.Ytjbehnoococelaa
open Go.RowKit Go Go.Sort Go.Maps

set_option maxHeartbeats 4000000 in
set_option maxRecDepth 100000 in
theorem loopE2 (w wj : World) (base hb mb qb sb : Nat) (so vo : Option Addr) (sc vl vc : Nat) (WL : List Nat) (part : Bool) (bx : List (Nat × Obj))
    (Hvl : Hid (vl = WL.length)) (hvl : vl ≤ 20) (HW6 : Hid (∀ x ∈ WL, x < 6)) (HB : Hid (BB bx qb sb hb mb so sc))
    (HS0 : Hid (SW w wj base hb mb (m2 part) (L2 WL) 120 bx (.slice vo vl vc) WL)) (Q0 : Exit → Act → World → Prop)
    (u0 u1 u2 u3 u4 u5 u9 u10 u11 u12 u13 u15 u16 u17 u18 u19 u20 u22 u23 u24 u25 u26 u27 u28 u29 u30 u31 u32 u33 u34 u35 u36 u37 u38 u39 u40 u41 u42 u43 u44 u45 u46 u47 u48 u49 u50 u51 u52 u53 u54 u55 u56 u57 u58 u59 u60 u61 u62 u63 u64 u65 u66 u67 u68 u69 u70 u71 u72 u73 u74 u75 u76 u77 u78 u79 u80 u81 u82 u83 u84 u85 u86 u87 u88 u89 u90 u91 u92 u93 u94 u95 u96 u97 u98 u99 u100 u101 u102 u103 u104 u105 u106 u107 u108 u109 u110 u111 u112 u113 u114 u115 u116 u117 u118 u119 u120 u121 u122 u123 u124 u125 u126 u127 u128 u129 u130 u131 u132 u133 u134 u135 u136 u137 u138 u139 u140 u141 u142 u143 u144 u145 u146 u147 u148 u149 u150 u151 u152 u153 u154 u155 u156 u157 u158 u159 u160 u161 u162 u163 u164 u165 u166 u167 u168 u169 u170 u171 u172 u173 u174 u175 u176 u177 u178 u179 u180 u181 u182 u183 u184 u185 u186 u187 u188 u189 u190 u191 u192 u193 u194 u195 u196 u197 u198 u199 u200 u201 u202 u203 u204 u205 u206 u207 u208 u209 u210 u211 u212 u213 u214 u215 u216 u217 u218 u219 u220 u221 u222 u223 u224 u225 u226 u227 u228 u229 u230 u231 u232 u233 u234 u235 u236 u237 u238 u239 u240 u241 u242 u243 u244 u245 u246 u247 u248 u249 u250 u251 u252 u253 u254 u255 u256 u257 u258 u259 u260 u261 u262 u263 u264 u265 u266 u267 u268 u269 u270 u271 u272 u273 u274 u275 u276 u277 u278 u279 u280 u281 u282 u283 u284 u285 u286 u287 u288 u289 u290 u291 u292 : Value)
    (Hexit : Hid (∀ (v4 v21 v22 v23 v24 v25 v223 v224 v225 v226 v227 v228 v229 v230 v231 v232 v233 v234 v235 v236 v237 v238 v239 v240 v241 v242 v243 v244 v245 v246 v247 v248 v249 v250 v251 v252 v253 v254 v255 v256 v257 v258 v259 v260 v261 v262 v263 v264 v265 v266 v267 v268 v269 v270 v271 : Value)  (wx : World), Hid (SW w wx base hb mb (m2 part) (L2 WL) 120 bx (.slice vo vl vc) WL) → Q0 (.exit 2) ⟨List.toArray (u0 :: u1 :: u2 :: u3 :: (v4) :: u5 :: (.pointer (some ⟨qb, 0, none⟩)) :: (.pointer (some ⟨sb, 0, none⟩)) :: (.int .i64 1) :: u9 :: u10 :: u11 :: u12 :: u13 :: (.slice vo vl vc) :: u15 :: u16 :: u17 :: u18 :: u19 :: u20 :: (v21) :: (v22) :: (v23) :: (v24) :: (v25) :: u26 :: u27 :: u28 :: u29 :: u30 :: u31 :: u32 :: u33 :: u34 :: u35 :: u36 :: u37 :: u38 :: u39 :: u40 :: u41 :: u42 :: u43 :: u44 :: u45 :: u46 :: u47 :: u48 :: u49 :: u50 :: u51 :: u52 :: u53 :: u54 :: u55 :: u56 :: u57 :: u58 :: u59 :: u60 :: u61 :: u62 :: u63 :: u64 :: u65 :: u66 :: u67 :: u68 :: u69 :: u70 :: u71 :: u72 :: u73 :: u74 :: u75 :: u76 :: u77 :: u78 :: u79 :: u80 :: u81 :: u82 :: u83 :: u84 :: u85 :: u86 :: u87 :: u88 :: u89 :: u90 :: u91 :: u92 :: u93 :: u94 :: u95 :: u96 :: u97 :: u98 :: u99 :: u100 :: u101 :: u102 :: u103 :: u104 :: u105 :: u106 :: u107 :: u108 :: u109 :: u110 :: u111 :: u112 :: u113 :: u114 :: u115 :: u116 :: u117 :: u118 :: u119 :: u120 :: u121 :: u122 :: u123 :: u124 :: u125 :: u126 :: u127 :: u128 :: u129 :: u130 :: u131 :: u132 :: u133 :: u134 :: u135 :: u136 :: u137 :: u138 :: u139 :: u140 :: u141 :: u142 :: u143 :: u144 :: u145 :: u146 :: u147 :: u148 :: u149 :: u150 :: u151 :: u152 :: u153 :: u154 :: u155 :: u156 :: u157 :: u158 :: u159 :: u160 :: u161 :: u162 :: u163 :: u164 :: u165 :: u166 :: u167 :: u168 :: u169 :: u170 :: u171 :: u172 :: u173 :: u174 :: u175 :: u176 :: u177 :: u178 :: u179 :: u180 :: u181 :: u182 :: u183 :: u184 :: u185 :: u186 :: u187 :: u188 :: u189 :: u190 :: u191 :: u192 :: u193 :: u194 :: u195 :: u196 :: u197 :: u198 :: u199 :: u200 :: u201 :: u202 :: u203 :: u204 :: u205 :: u206 :: u207 :: u208 :: u209 :: u210 :: u211 :: u212 :: u213 :: u214 :: u215 :: u216 :: u217 :: u218 :: u219 :: u220 :: u221 :: u222 :: (v223) :: (v224) :: (v225) :: (v226) :: (v227) :: (v228) :: (v229) :: (v230) :: (v231) :: (v232) :: (v233) :: (v234) :: (v235) :: (v236) :: (v237) :: (v238) :: (v239) :: (v240) :: (v241) :: (v242) :: (v243) :: (v244) :: (v245) :: (v246) :: (v247) :: (v248) :: (v249) :: (v250) :: (v251) :: (v252) :: (v253) :: (v254) :: (v255) :: (v256) :: (v257) :: (v258) :: (v259) :: (v260) :: (v261) :: (v262) :: (v263) :: (v264) :: (v265) :: (v266) :: (v267) :: (v268) :: (v269) :: (v270) :: (v271) :: u272 :: u273 :: u274 :: u275 :: u276 :: u277 :: u278 :: u279 :: u280 :: u281 :: u282 :: u283 :: u284 :: u285 :: u286 :: u287 :: u288 :: u289 :: u290 :: u291 :: u292 :: []), []⟩ wx)) :
    Code.wp Try.prog (Code.loop emp2) Q0 ⟨List.toArray (u0 :: u1 :: u2 :: u3 :: u4 :: u5 :: (.pointer (some ⟨qb, 0, none⟩)) :: (.pointer (some ⟨sb, 0, none⟩)) :: (.int .i64 1) :: u9 :: u10 :: u11 :: u12 :: u13 :: (.slice vo vl vc) :: u15 :: u16 :: u17 :: u18 :: u19 :: u20 :: (.int .i64 0) :: u22 :: u23 :: u24 :: u25 :: u26 :: u27 :: u28 :: u29 :: u30 :: u31 :: u32 :: u33 :: u34 :: u35 :: u36 :: u37 :: u38 :: u39 :: u40 :: u41 :: u42 :: u43 :: u44 :: u45 :: u46 :: u47 :: u48 :: u49 :: u50 :: u51 :: u52 :: u53 :: u54 :: u55 :: u56 :: u57 :: u58 :: u59 :: u60 :: u61 :: u62 :: u63 :: u64 :: u65 :: u66 :: u67 :: u68 :: u69 :: u70 :: u71 :: u72 :: u73 :: u74 :: u75 :: u76 :: u77 :: u78 :: u79 :: u80 :: u81 :: u82 :: u83 :: u84 :: u85 :: u86 :: u87 :: u88 :: u89 :: u90 :: u91 :: u92 :: u93 :: u94 :: u95 :: u96 :: u97 :: u98 :: u99 :: u100 :: u101 :: u102 :: u103 :: u104 :: u105 :: u106 :: u107 :: u108 :: u109 :: u110 :: u111 :: u112 :: u113 :: u114 :: u115 :: u116 :: u117 :: u118 :: u119 :: u120 :: u121 :: u122 :: u123 :: u124 :: u125 :: u126 :: u127 :: u128 :: u129 :: u130 :: u131 :: u132 :: u133 :: u134 :: u135 :: u136 :: u137 :: u138 :: u139 :: u140 :: u141 :: u142 :: u143 :: u144 :: u145 :: u146 :: u147 :: u148 :: u149 :: u150 :: u151 :: u152 :: u153 :: u154 :: u155 :: u156 :: u157 :: u158 :: u159 :: u160 :: u161 :: u162 :: u163 :: u164 :: u165 :: u166 :: u167 :: u168 :: u169 :: u170 :: u171 :: u172 :: u173 :: u174 :: u175 :: u176 :: u177 :: u178 :: u179 :: u180 :: u181 :: u182 :: u183 :: u184 :: u185 :: u186 :: u187 :: u188 :: u189 :: u190 :: u191 :: u192 :: u193 :: u194 :: u195 :: u196 :: u197 :: u198 :: u199 :: u200 :: u201 :: u202 :: u203 :: u204 :: u205 :: u206 :: u207 :: u208 :: u209 :: u210 :: u211 :: u212 :: u213 :: u214 :: u215 :: u216 :: u217 :: u218 :: u219 :: u220 :: u221 :: u222 :: u223 :: u224 :: u225 :: u226 :: u227 :: u228 :: u229 :: u230 :: u231 :: u232 :: u233 :: u234 :: u235 :: u236 :: u237 :: u238 :: u239 :: u240 :: u241 :: u242 :: u243 :: u244 :: u245 :: u246 :: u247 :: u248 :: u249 :: u250 :: u251 :: u252 :: u253 :: u254 :: u255 :: u256 :: u257 :: u258 :: u259 :: u260 :: u261 :: u262 :: u263 :: u264 :: u265 :: u266 :: u267 :: u268 :: u269 :: u270 :: u271 :: u272 :: u273 :: u274 :: u275 :: u276 :: u277 :: u278 :: u279 :: u280 :: u281 :: u282 :: u283 :: u284 :: u285 :: u286 :: u287 :: u288 :: u289 :: u290 :: u291 :: u292 :: []), []⟩ wj := by
  conv => arg 2; arg 1; whnf
  go_loopw [21] (fun i wr => ∃ j : Nat, i = .int .i64 j ∧ j ≤ vl ∧ Hid (SW w wr base hb mb (m2 part) (L2 WL) 120 bx (.slice vo vl vc) WL)) (fun i _ => 20 - (intOf i).toNat)
  case atStart => exact ⟨0, rfl, by omega, HS0⟩
  case round =>
    obtain ⟨j, rfl, hj, hstA⟩ := hrel
    obtain ⟨wA, hwA⟩ : ∃ wA, wA = wr := ⟨_, rfl⟩
    subst hwA
    by_cases hlt : (j : Int) < vl
    · obtain ⟨k, hk⟩ : ∃ k, WL[j]? = some k := ⟨_, List.getElem?_eq_getElem (by have := Hvl.out; omega)⟩
      have hkm : k ∈ WL := List.mem_of_getElem? hk
      have hk6 : k < 6 := HW6.out k hkm
      have Hir : Hid (∀ W, SW w W base hb mb (m2 part) (L2 WL) 120 bx (.slice vo vl vc) WL → IR W vo (ints WL)) := fun W h => by
        have h1 := h.own
        rw [← Hvl.out] at h1
        exact IR.of_own h1
      have hki : (ints WL)[j]? = some (k : Int) := by simp [ints, hk]
      obtain ⟨wg, wo, rfl, -⟩ := Hir.out wA hstA.out j k hki
      have Hcell : Hid (∀ W, SW w W base hb mb (m2 part) (L2 WL) 120 bx (.slice (some ⟨wg, wo, none⟩) vl vc) WL → W.cell? ⟨wg, wo + j, none⟩ = some (.int .i64 k)) := fun W h => by
        obtain ⟨g, o, e, hc⟩ := Hir.out W h j k hki
        cases e
        exact hc
      have HkS : Hid ((keyB k).size ≤ maxLen) := keyB_size k hk6
      have HG1 : Hid (getV (m2 part) 1 1 [] 1 (chL (L2 WL) 1 (keyB k).data.toList) = none) := by
        have := chL_L2 1 k hk6 WL HW6.out
        rw [if_neg (fun h => by have := h.2; omega)] at this
        exact (congrArg _ this).trans (get1 part)
      have HG2 : Hid (getV (m2 part) 1 1 [] 1 (chL (L2 WL) 2 (keyB k).data.toList) = some (v2 k)) := by
        have := chL_L2 2 k hk6 WL HW6.out
        rw [if_pos ⟨hkm, rfl⟩] at this
        exact (congrArg _ this).trans (get2 part k)
      clear hk hkm hki Hir
      go_wp2_with fail
      obtain ⟨C, hC⟩ : ∃ C : List Value → World → Prop, C = fun s W => match s with
        | [] => SW w W base hb mb (m2 part) (L2 WL) 120 bx (.slice (some ⟨wg, wo, none⟩) vl vc) WL
        | [y] => y = .string (keyB k) ∧ SW w W base hb mb (m2 part) (L2 WL) 120 bx (.slice (some ⟨wg, wo, none⟩) vl vc) WL
        | [_, z] => SW w W base hb mb (m2 part) (L2 WL) 120 bx (.slice (some ⟨wg, wo, none⟩) vl vc) WL ∧ z = .tuple #[.slice none 0 0, .int .i64 90]
        | _ => False := ⟨_, rfl⟩
      have hK : ∀ s W, C s W → W.cell? ⟨qb, 1, none⟩ = some (.pointer (some ⟨hb, 0, none⟩)) ∧ W.cell? ⟨sb, 0, none⟩ = some (.int .i64 1) ∧ W.cell? ⟨sb, 1, none⟩ = some (.int .i64 1) ∧ W.cell? ⟨sb, 2, none⟩ = some (.slice so 0 sc) ∧ W.cell? ⟨wg, wo + j, none⟩ = some (.int .i64 k) := fun s W hW => by
        have hS : SW w W base hb mb (m2 part) (L2 WL) 120 bx (.slice (some ⟨wg, wo, none⟩) vl vc) WL := by
          rw [hC] at hW
          match s, hW with
          | [], hW => exact hW
          | [_], hW => exact hW.2
          | [_, _], hW => exact hW.1
        have h1 := ((HB.out.1 W hS.box).1).2
        exact ⟨h1.1, h1.2.1, h1.2.2.1, h1.2.2.2, Hcell.out W hS⟩
      have h0' : C [] wA.drew := by rw [hC]; exact hstA.out.no (Tch.refl _ _).drew
      have c0 : ∀ W, C [] W → Calls Try.prog 12 #[.int .i64 k] W fun x W' => ∃ y, x = .returned y ∧ C [y] W' := fun W hW => by
        rw [hC] at hW ⊢
        refine (keyOf_any k hk6 W).mono ?_
        rintro x W' ⟨rfl, t⟩
        exact ⟨_, rfl, rfl, SW.no hW t⟩
      have s0 : Hid (∀ y W, C [y] W → y = .string (keyB k)) := fun y W hW => by rw [hC] at hW; exact hW.1
      have c2 : ∀ y W, C [y] W → Calls Try.prog 17 #[.pointer (some ⟨hb, 0, none⟩), .agg #[.int .i64 1, .int .i64 1, .slice so 0 sc], .int .i64 1, .int .i64 1, .string (keyB k)] W fun z W' => ∃ u, z = .returned u ∧ C [y, u] W' := fun y W hW => by
        rw [hC] at hW ⊢
        have h1 := hW.2
        refine Calls.mono (get_sw h1 HB.out (by omega) 1 (by omega) (by omega) (keyB k) (HkS.out) 1 (by omega) (by omega) _ HG1.out) ?_
        rintro x W' ⟨rfl, t⟩
        exact ⟨_, rfl, SW.no h1 t, rfl⟩
      have HF : Hid (∀ x z W, C [x, z] W → SW w W base hb mb (m2 part) (L2 WL) 120 bx (.slice (some ⟨wg, wo, none⟩) vl vc) WL ∧ z = .tuple #[.slice none 0 0, .int .i64 90]) := fun x z W hW => by
        rw [hC] at hW
        exact hW
      clear hC
      refine wp_region_ordv [10, 11] C 16 [0, 1, 2, 3, 4, 5, 6, 7, 8, 9, 10, 11, 12, 13, 14, 15] (by kernel_rfl) (by kernel_rfl) h0' ?_
      clear h0'
      refine ordv_read rfl (by go_simp) (by rfl) ?_
      apply Exists.intro
      refine ⟨fun s' W hW b K Q hK' => ?_, fun K hK' => ?_⟩
      · obtain ⟨q0, q1, q2, q3, q4⟩ := hK _ W hW
        go_simp
        exact hK' W hW
      go_simp
      refine hK' _ ?_
      clear hK' K
      refine ordv_read rfl (by go_simp) (by rfl) ?_
      apply Exists.intro
      refine ⟨fun s' W hW b K Q hK' => ?_, fun K hK' => ?_⟩
      · obtain ⟨q0, q1, q2, q3, q4⟩ := hK _ W hW
        go_simp
        exact hK' W hW
      go_simp
      refine hK' _ ?_
      clear hK' K
      refine ordv_read rfl (by go_simp) (by rfl) ?_
      apply Exists.intro
      refine ⟨fun s' W hW b K Q hK' => ?_, fun K hK' => ?_⟩
      · obtain ⟨q0, q1, q2, q3, q4⟩ := hK _ W hW
        go_simp
        exact hK' W hW
      go_simp
      refine hK' _ ?_
      clear hK' K
      refine ordv_read rfl (by go_simp) (by rfl) ?_
      apply Exists.intro
      refine ⟨fun s' W hW b K Q hK' => ?_, fun K hK' => ?_⟩
      · obtain ⟨q0, q1, q2, q3, q4⟩ := hK _ W hW
        go_simp
        exact hK' W hW
      go_simp
      refine hK' _ ?_
      clear hK' K
      refine ordv_read rfl (by go_simp) (by rfl) ?_
      apply Exists.intro
      refine ⟨fun s' W hW b K Q hK' => ?_, fun K hK' => ?_⟩
      · obtain ⟨q0, q1, q2, q3, q4⟩ := hK _ W hW
        go_simp
        exact hK' W hW
      go_simp
      refine hK' _ ?_
      clear hK' K
      refine ordv_read rfl (by go_simp) (by rfl) ?_
      apply Exists.intro
      refine ⟨fun s' W hW b K Q hK' => ?_, fun K hK' => ?_⟩
      · obtain ⟨q0, q1, q2, q3, q4⟩ := hK _ W hW
        go_simp
        exact hK' W hW
      go_simp
      refine hK' _ ?_
      clear hK' K
      refine ordv_read rfl (by go_simp) (by rfl) ?_
      apply Exists.intro
      refine ⟨fun s' W hW b K Q hK' => ?_, fun K hK' => ?_⟩
      · obtain ⟨q0, q1, q2, q3, q4⟩ := hK _ W hW
        go_simp
        exact hK' W hW
      go_simp
      refine hK' _ ?_
      clear hK' K
      refine ordv_read rfl (by go_simp) (by rfl) ?_
      apply Exists.intro
      refine ⟨fun s' W hW b K Q hK' => ?_, fun K hK' => ?_⟩
      · obtain ⟨q0, q1, q2, q3, q4⟩ := hK _ W hW
        go_simp
        exact hK' W hW
      go_simp
      refine hK' _ ?_
      clear hK' K
      refine ordv_read rfl (by go_simp) (by rfl) ?_
      apply Exists.intro
      refine ⟨fun s' W hW b K Q hK' => ?_, fun K hK' => ?_⟩
      · obtain ⟨q0, q1, q2, q3, q4⟩ := hK _ W hW
        go_simp
        exact hK' W hW
      go_simp
      refine hK' _ ?_
      clear hK' K
      refine ordv_read rfl (by go_simp) (by rfl) ?_
      apply Exists.intro
      refine ⟨fun s' W hW b K Q hK' => ?_, fun K hK' => ?_⟩
      · obtain ⟨q0, q1, q2, q3, q4⟩ := hK _ W hW
        go_simp
        exact hK' W hW
      go_simp
      refine hK' _ ?_
      clear hK' K
      refine ordv_turn rfl (by go_simp) (by rfl) (fun W hW b K Q hK' => ?_) (fun u hu K hK' => ?_)
      · go_simp
        go_at_call 12
        refine (c0 W hW).mono ?_
        rintro x w' ⟨y, rfl, h1⟩
        exact hK' y w' h1
      obtain rfl : u = .string (keyB k) := by
        obtain ⟨W', hW'⟩ := hu
        exact s0.out u W' hW'
      clear hu c0 s0
      go_simp
      refine hK' _ ?_
      clear hK' K
      refine ordv_turn rfl (by go_simp) (by rfl) (fun W hW b K Q hK' => ?_) (fun u hu K hK' => ?_)
      · go_simp
        go_at_call 17
        refine (c2 _ W hW).mono ?_
        rintro x w' ⟨y, rfl, h1⟩
        exact hK' y w' h1
      obtain rfl : u = .tuple #[.slice none 0 0, .int .i64 90] := by
        obtain ⟨W', hW'⟩ := hu
        exact (HF.out _ u W' hW').2
      clear hu c2
      go_simp
      refine hK' _ ?_
      clear hK' K
      refine ordv_read rfl (by go_simp) (by rfl) ?_
      apply Exists.intro
      refine ⟨fun s' W hW b K Q hK' => ?_, fun K hK' => ?_⟩
      · obtain ⟨q0, q1, q2, q3, q4⟩ := hK _ W hW
        go_simp
        exact hK' W hW
      go_simp
      refine hK' _ ?_
      clear hK' K
      refine ordv_read rfl (by go_simp) (by rfl) ?_
      apply Exists.intro
      refine ⟨fun s' W hW b K Q hK' => ?_, fun K hK' => ?_⟩
      · obtain ⟨q0, q1, q2, q3, q4⟩ := hK _ W hW
        go_simp
        exact hK' W hW
      go_simp
      refine hK' _ ?_
      clear hK' K
      refine ordv_read rfl (by go_simp) (by rfl) ?_
      apply Exists.intro
      refine ⟨fun s' W hW b K Q hK' => ?_, fun K hK' => ?_⟩
      · obtain ⟨q0, q1, q2, q3, q4⟩ := hK _ W hW
        go_simp
        exact hK' W hW
      go_simp
      refine hK' _ ?_
      clear hK' K
      refine ordv_read rfl (by go_simp) (by rfl) ?_
      apply Exists.intro
      refine ⟨fun s' W hW b K Q hK' => ?_, fun K hK' => ?_⟩
      · obtain ⟨q0, q1, q2, q3, q4⟩ := hK _ W hW
        go_simp
        exact hK' W hW
      go_simp
      refine hK' _ ?_
      clear hK' K
      refine ordv_nil ?_
      intro wB hwB
      have hst : Hid (SW w wB base hb mb (m2 part) (L2 WL) 120 bx (.slice (some ⟨wg, wo, none⟩) vl vc) WL) := (HF.out _ _ wB hwB).1
      clear hK HF hwB C hstA wA
      obtain ⟨wA, hwA⟩ : ∃ wA, wA = wB := ⟨_, rfl⟩
      subst hwA
      have hstA := hst
      clear hst HG1
      go_wp2_with fail
      obtain ⟨C, hC⟩ : ∃ C : List Value → World → Prop, C = fun s W => match s with
        | [] => SW w W base hb mb (m2 part) (L2 WL) 120 bx (.slice (some ⟨wg, wo, none⟩) vl vc) WL
        | [y] => y = .string (keyB k) ∧ SW w W base hb mb (m2 part) (L2 WL) 120 bx (.slice (some ⟨wg, wo, none⟩) vl vc) WL
        | [_, z] => SW w W base hb mb (m2 part) (L2 WL) 120 bx (.slice (some ⟨wg, wo, none⟩) vl vc) WL ∧ ∃ ro rc, z = .tuple #[.slice ro 1 rc, .int .i64 0] ∧ RdR W ro 1 rc (rowC k)
        | _ => False := ⟨_, rfl⟩
      have hK : ∀ s W, C s W → W.cell? ⟨qb, 1, none⟩ = some (.pointer (some ⟨hb, 0, none⟩)) ∧ W.cell? ⟨sb, 0, none⟩ = some (.int .i64 1) ∧ W.cell? ⟨sb, 1, none⟩ = some (.int .i64 1) ∧ W.cell? ⟨sb, 2, none⟩ = some (.slice so 0 sc) ∧ W.cell? ⟨wg, wo + j, none⟩ = some (.int .i64 k) := fun s W hW => by
        have hS : SW w W base hb mb (m2 part) (L2 WL) 120 bx (.slice (some ⟨wg, wo, none⟩) vl vc) WL := by
          rw [hC] at hW
          match s, hW with
          | [], hW => exact hW
          | [_], hW => exact hW.2
          | [_, _], hW => exact hW.1
        have h1 := ((HB.out.1 W hS.box).1).2
        exact ⟨h1.1, h1.2.1, h1.2.2.1, h1.2.2.2, Hcell.out W hS⟩
      have h0' : C [] wA.drew := by rw [hC]; exact hstA.out.no (Tch.refl _ _).drew
      have c0 : ∀ W, C [] W → Calls Try.prog 12 #[.int .i64 k] W fun x W' => ∃ y, x = .returned y ∧ C [y] W' := fun W hW => by
        rw [hC] at hW ⊢
        refine (keyOf_any k hk6 W).mono ?_
        rintro x W' ⟨rfl, t⟩
        exact ⟨_, rfl, rfl, SW.no hW t⟩
      have s0 : Hid (∀ y W, C [y] W → y = .string (keyB k)) := fun y W hW => by rw [hC] at hW; exact hW.1
      have c2 : ∀ y W, C [y] W → Calls Try.prog 17 #[.pointer (some ⟨hb, 0, none⟩), .agg #[.int .i64 1, .int .i64 1, .slice so 0 sc], .int .i64 1, .int .i64 2, .string (keyB k)] W fun z W' => ∃ u, z = .returned u ∧ C [y, u] W' := fun y W hW => by
        rw [hC] at hW ⊢
        have h1 := hW.2
        refine Calls.mono (get_sw h1 HB.out (by omega) 2 (by omega) (by omega) (keyB k) (HkS.out) 1 (by omega) (by omega) _ HG2.out) ?_
        rintro x W' ⟨⟨ro, rc, rfl, ho⟩, t⟩
        exact ⟨_, rfl, SW.no h1 t, ro, rc, rfl, RdR.of_own ho (by simp [rowC, Value.oneCell']) (by simp)⟩
      have HF : Hid (∀ x z W, C [x, z] W → SW w W base hb mb (m2 part) (L2 WL) 120 bx (.slice (some ⟨wg, wo, none⟩) vl vc) WL ∧ ∃ ro rc, z = .tuple #[.slice ro 1 rc, .int .i64 0] ∧ RdR W ro 1 rc (rowC k)) := fun x z W hW => by
        rw [hC] at hW
        exact hW
      clear hC
      refine wp_region_ordv [10, 11] C 16 [0, 1, 2, 3, 4, 5, 6, 7, 8, 9, 10, 11, 12, 13, 14, 15] (by kernel_rfl) (by kernel_rfl) h0' ?_
      clear h0'
      refine ordv_read rfl (by go_simp) (by rfl) ?_
      apply Exists.intro
      refine ⟨fun s' W hW b K Q hK' => ?_, fun K hK' => ?_⟩
      · obtain ⟨q0, q1, q2, q3, q4⟩ := hK _ W hW
        go_simp
        exact hK' W hW
      go_simp
      refine hK' _ ?_
      clear hK' K
      refine ordv_read rfl (by go_simp) (by rfl) ?_
      apply Exists.intro
      refine ⟨fun s' W hW b K Q hK' => ?_, fun K hK' => ?_⟩
      · obtain ⟨q0, q1, q2, q3, q4⟩ := hK _ W hW
        go_simp
        exact hK' W hW
      go_simp
      refine hK' _ ?_
      clear hK' K
      refine ordv_read rfl (by go_simp) (by rfl) ?_
      apply Exists.intro
      refine ⟨fun s' W hW b K Q hK' => ?_, fun K hK' => ?_⟩
      · obtain ⟨q0, q1, q2, q3, q4⟩ := hK _ W hW
        go_simp
        exact hK' W hW
      go_simp
      refine hK' _ ?_
      clear hK' K
      refine ordv_read rfl (by go_simp) (by rfl) ?_
      apply Exists.intro
      refine ⟨fun s' W hW b K Q hK' => ?_, fun K hK' => ?_⟩
      · obtain ⟨q0, q1, q2, q3, q4⟩ := hK _ W hW
        go_simp
        exact hK' W hW
      go_simp
      refine hK' _ ?_
      clear hK' K
      refine ordv_read rfl (by go_simp) (by rfl) ?_
      apply Exists.intro
      refine ⟨fun s' W hW b K Q hK' => ?_, fun K hK' => ?_⟩
      · obtain ⟨q0, q1, q2, q3, q4⟩ := hK _ W hW
        go_simp
        exact hK' W hW
      go_simp
      refine hK' _ ?_
      clear hK' K
      refine ordv_read rfl (by go_simp) (by rfl) ?_
      apply Exists.intro
      refine ⟨fun s' W hW b K Q hK' => ?_, fun K hK' => ?_⟩
      · obtain ⟨q0, q1, q2, q3, q4⟩ := hK _ W hW
        go_simp
        exact hK' W hW
      go_simp
      refine hK' _ ?_
      clear hK' K
      refine ordv_read rfl (by go_simp) (by rfl) ?_
      apply Exists.intro
      refine ⟨fun s' W hW b K Q hK' => ?_, fun K hK' => ?_⟩
      · obtain ⟨q0, q1, q2, q3, q4⟩ := hK _ W hW
        go_simp
        exact hK' W hW
      go_simp
      refine hK' _ ?_
      clear hK' K
      refine ordv_read rfl (by go_simp) (by rfl) ?_
      apply Exists.intro
      refine ⟨fun s' W hW b K Q hK' => ?_, fun K hK' => ?_⟩
      · obtain ⟨q0, q1, q2, q3, q4⟩ := hK _ W hW
        go_simp
        exact hK' W hW
      go_simp
      refine hK' _ ?_
      clear hK' K
      refine ordv_read rfl (by go_simp) (by rfl) ?_
      apply Exists.intro
      refine ⟨fun s' W hW b K Q hK' => ?_, fun K hK' => ?_⟩
      · obtain ⟨q0, q1, q2, q3, q4⟩ := hK _ W hW
        go_simp
        exact hK' W hW
      go_simp
      refine hK' _ ?_
      clear hK' K
      refine ordv_read rfl (by go_simp) (by rfl) ?_
      apply Exists.intro
      refine ⟨fun s' W hW b K Q hK' => ?_, fun K hK' => ?_⟩
      · obtain ⟨q0, q1, q2, q3, q4⟩ := hK _ W hW
        go_simp
        exact hK' W hW
      go_simp
      refine hK' _ ?_
      clear hK' K
      refine ordv_turn rfl (by go_simp) (by rfl) (fun W hW b K Q hK' => ?_) (fun u hu K hK' => ?_)
      · go_simp
        go_at_call 12
        refine (c0 W hW).mono ?_
        rintro x w' ⟨y, rfl, h1⟩
        exact hK' y w' h1
      obtain rfl : u = .string (keyB k) := by
        obtain ⟨W', hW'⟩ := hu
        exact s0.out u W' hW'
      clear hu c0 s0
      go_simp
      refine hK' _ ?_
      clear hK' K
      refine ordv_turn rfl (by go_simp) (by rfl) (fun W hW b K Q hK' => ?_) (fun u hu K hK' => ?_)
      · go_simp
        go_at_call 17
        refine (c2 _ W hW).mono ?_
        rintro x w' ⟨y, rfl, h1⟩
        exact hK' y w' h1
      obtain ⟨ro, rc, rfl⟩ : ∃ ro rc, u = .tuple #[.slice ro 1 rc, .int .i64 0] := by
        obtain ⟨W', hW'⟩ := hu
        obtain ⟨_, ro, rc, e, _⟩ := HF.out _ u W' hW'
        exact ⟨ro, rc, e⟩
      clear hu c2
      go_simp
      refine hK' _ ?_
      clear hK' K
      refine ordv_read rfl (by go_simp) (by rfl) ?_
      apply Exists.intro
      refine ⟨fun s' W hW b K Q hK' => ?_, fun K hK' => ?_⟩
      · obtain ⟨q0, q1, q2, q3, q4⟩ := hK _ W hW
        go_simp
        exact hK' W hW
      go_simp
      refine hK' _ ?_
      clear hK' K
      refine ordv_read rfl (by go_simp) (by rfl) ?_
      apply Exists.intro
      refine ⟨fun s' W hW b K Q hK' => ?_, fun K hK' => ?_⟩
      · obtain ⟨q0, q1, q2, q3, q4⟩ := hK _ W hW
        go_simp
        exact hK' W hW
      go_simp
      refine hK' _ ?_
      clear hK' K
      refine ordv_read rfl (by go_simp) (by rfl) ?_
      apply Exists.intro
      refine ⟨fun s' W hW b K Q hK' => ?_, fun K hK' => ?_⟩
      · obtain ⟨q0, q1, q2, q3, q4⟩ := hK _ W hW
        go_simp
        exact hK' W hW
      go_simp
      refine hK' _ ?_
      clear hK' K
      refine ordv_read rfl (by go_simp) (by rfl) ?_
      apply Exists.intro
      refine ⟨fun s' W hW b K Q hK' => ?_, fun K hK' => ?_⟩
      · obtain ⟨q0, q1, q2, q3, q4⟩ := hK _ W hW
        go_simp
        exact hK' W hW
      go_simp
      refine hK' _ ?_
      clear hK' K
      refine ordv_nil ?_
      intro wB hwB
      have hst : Hid (SW w wB base hb mb (m2 part) (L2 WL) 120 bx (.slice (some ⟨wg, wo, none⟩) vl vc) WL) := (HF.out _ _ wB hwB).1
      have HR : Hid (RdR wB ro 1 rc (rowC k)) := by
        obtain ⟨_, ro', rc', e, h⟩ := HF.out _ _ wB hwB
        cases e
        exact h
      clear hK HF hwB C hstA wA
      have Hk1 : Hid ((k : Int) + 1 = ((k + 1 : Nat) : Int)) := by show _ = _; omega
      clear HG2
      go_wp2_with fail
      obtain ⟨C, hC⟩ : ∃ C : List Value → World → Prop, C = fun s W => match s with
        | [] => SW w W base hb mb (m2 part) (L2 WL) 120 bx (.slice (some ⟨wg, wo, none⟩) vl vc) WL ∧ RdR W ro 1 rc (rowC k)
        | [y] => y = .int .i64 ((k : Int) + 1) ∧ SW w W base hb mb (m2 part) (L2 WL) 120 bx (.slice (some ⟨wg, wo, none⟩) vl vc) WL
        | _ => False := ⟨_, rfl⟩
      have hK : ∀ s W, C s W → W.cell? ⟨qb, 1, none⟩ = some (.pointer (some ⟨hb, 0, none⟩)) ∧ W.cell? ⟨sb, 0, none⟩ = some (.int .i64 1) ∧ W.cell? ⟨sb, 1, none⟩ = some (.int .i64 1) ∧ W.cell? ⟨sb, 2, none⟩ = some (.slice so 0 sc) ∧ W.cell? ⟨wg, wo + j, none⟩ = some (.int .i64 k) := fun s W hW => by
        have hS : SW w W base hb mb (m2 part) (L2 WL) 120 bx (.slice (some ⟨wg, wo, none⟩) vl vc) WL := by
          rw [hC] at hW
          match s, hW with
          | [], hW => exact hW.1
          | [_], hW => exact hW.2
        have h1 := ((HB.out.1 W hS.box).1).2
        exact ⟨h1.1, h1.2.1, h1.2.2.1, h1.2.2.2, Hcell.out W hS⟩
      have h0' : C [] wB.drew := by rw [hC]; exact ⟨hst.out.no (Tch.refl _ _).drew, HR.out.no (Tch.refl _ _).drew⟩
      have c0 : ∀ W, C [] W → Calls Try.prog 18 #[.slice ro 1 rc, .int .i64 0] W fun x W' => ∃ y, x = .returned y ∧ C [y] W' := fun W hW => by
        rw [hC] at hW ⊢
        refine (number_any ro rc k W (by omega) hW.2).mono ?_
        rintro x W' ⟨rfl, rfl⟩
        exact ⟨_, rfl, by rw [Hk1.out], hW.1⟩
      have s0 : Hid (∀ y W, C [y] W → y = .int .i64 ((k : Int) + 1) ∧ SW w W base hb mb (m2 part) (L2 WL) 120 bx (.slice (some ⟨wg, wo, none⟩) vl vc) WL) := fun y W hW => by rw [hC] at hW; exact hW
      clear hC
      refine wp_region_ordv [5] C 12 [0, 1, 2, 3, 4, 6, 7, 8, 9, 10, 5, 11] (by kernel_rfl) (by kernel_rfl) h0' ?_
      clear h0'
      refine ordv_read rfl (by go_simp) (by rfl) ?_
      apply Exists.intro
      refine ⟨fun s' W hW b K Q hK' => ?_, fun K hK' => ?_⟩
      · obtain ⟨q0, q1, q2, q3, q4⟩ := hK _ W hW
        go_simp
        exact hK' W hW
      go_simp
      refine hK' _ ?_
      clear hK' K
      refine ordv_read rfl (by go_simp) (by rfl) ?_
      apply Exists.intro
      refine ⟨fun s' W hW b K Q hK' => ?_, fun K hK' => ?_⟩
      · obtain ⟨q0, q1, q2, q3, q4⟩ := hK _ W hW
        go_simp
        exact hK' W hW
      go_simp
      refine hK' _ ?_
      clear hK' K
      refine ordv_read rfl (by go_simp) (by rfl) ?_
      apply Exists.intro
      refine ⟨fun s' W hW b K Q hK' => ?_, fun K hK' => ?_⟩
      · obtain ⟨q0, q1, q2, q3, q4⟩ := hK _ W hW
        go_simp
        exact hK' W hW
      go_simp
      refine hK' _ ?_
      clear hK' K
      refine ordv_read rfl (by go_simp) (by rfl) ?_
      apply Exists.intro
      refine ⟨fun s' W hW b K Q hK' => ?_, fun K hK' => ?_⟩
      · obtain ⟨q0, q1, q2, q3, q4⟩ := hK _ W hW
        go_simp
        exact hK' W hW
      go_simp
      refine hK' _ ?_
      clear hK' K
      refine ordv_read rfl (by go_simp) (by rfl) ?_
      apply Exists.intro
      refine ⟨fun s' W hW b K Q hK' => ?_, fun K hK' => ?_⟩
      · obtain ⟨q0, q1, q2, q3, q4⟩ := hK _ W hW
        go_simp
        exact hK' W hW
      go_simp
      refine hK' _ ?_
      clear hK' K
      refine ordv_read rfl (by go_simp) (by rfl) ?_
      apply Exists.intro
      refine ⟨fun s' W hW b K Q hK' => ?_, fun K hK' => ?_⟩
      · obtain ⟨q0, q1, q2, q3, q4⟩ := hK _ W hW
        go_simp
        exact hK' W hW
      go_simp
      refine hK' _ ?_
      clear hK' K
      refine ordv_read rfl (by go_simp) (by rfl) ?_
      apply Exists.intro
      refine ⟨fun s' W hW b K Q hK' => ?_, fun K hK' => ?_⟩
      · obtain ⟨q0, q1, q2, q3, q4⟩ := hK _ W hW
        go_simp
        exact hK' W hW
      go_simp
      refine hK' _ ?_
      clear hK' K
      refine ordv_read rfl (by go_simp) (by rfl) ?_
      apply Exists.intro
      refine ⟨fun s' W hW b K Q hK' => ?_, fun K hK' => ?_⟩
      · obtain ⟨q0, q1, q2, q3, q4⟩ := hK _ W hW
        go_simp
        exact hK' W hW
      go_simp
      refine hK' _ ?_
      clear hK' K
      refine ordv_read rfl (by go_simp) (by rfl) ?_
      apply Exists.intro
      refine ⟨fun s' W hW b K Q hK' => ?_, fun K hK' => ?_⟩
      · obtain ⟨q0, q1, q2, q3, q4⟩ := hK _ W hW
        go_simp
        exact hK' W hW
      go_simp
      refine hK' _ ?_
      clear hK' K
      refine ordv_read rfl (by go_simp) (by rfl) ?_
      apply Exists.intro
      refine ⟨fun s' W hW b K Q hK' => ?_, fun K hK' => ?_⟩
      · obtain ⟨q0, q1, q2, q3, q4⟩ := hK _ W hW
        go_simp
        exact hK' W hW
      go_simp
      refine hK' _ ?_
      clear hK' K
      refine ordv_turn rfl (by go_simp) (by rfl) (fun W hW b K Q hK' => ?_) (fun u hu K hK' => ?_)
      · go_simp
        go_at_call 18
        refine (c0 W hW).mono ?_
        rintro x w' ⟨y, rfl, h1⟩
        exact hK' y w' h1
      obtain rfl : u = .int .i64 ((k : Int) + 1) := by
        obtain ⟨W', hW'⟩ := hu
        exact (s0.out u W' hW').1
      clear hu c0
      go_simp
      refine hK' _ ?_
      clear hK' K
      refine ordv_read rfl (by go_simp) (by rfl) ?_
      apply Exists.intro
      refine ⟨fun s' W hW b K Q hK' => ?_, fun K hK' => ?_⟩
      · obtain ⟨q0, q1, q2, q3, q4⟩ := hK _ W hW
        go_simp
        exact hK' W hW
      go_simp
      refine hK' _ ?_
      clear hK' K
      refine ordv_nil ?_
      intro wC hwC
      have hstC : Hid (SW w wC base hb mb (m2 part) (L2 WL) 120 bx (.slice (some ⟨wg, wo, none⟩) vl vc) WL) := (s0.out _ wC hwC).2
      clear hK s0 hwC C hst HR
      go_wp2_with fail
      go_roundw
      case rel => exact ⟨j + 1, by go_num, by omega, hstC⟩
      case measure => simp [intOf]; omega
    · go_wp2_with fail
      exact Hexit.out _ _ _ _ _ _ _ _ _ _ _ _ _ _ _ _ _ _ _ _ _ _ _ _ _ _ _ _ _ _ _ _ _ _ _ _ _ _ _ _ _ _ _ _ _ _ _ _ _ _ _ _ _ _ _ _ hstA
end Go.Proofs.Ytjbehnoococelaa
