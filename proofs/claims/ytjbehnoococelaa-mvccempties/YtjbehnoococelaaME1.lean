import Derived.Test.YtjbehnoococelaaMLo
import Derived.Test.YtjbehnoococelaaXPart2
import Derived.Deep.DeepCutAuto
import Derived.Deep.CutBlock
/- MvccEmpties: loop 1. -/
namespace Go.Proofs.Ytjbehnoococelaa
open Go.RowKit Go Go.Sort Go.Maps

theorem keyB_size (k : Nat) (hk : k < 6) : (keyB k).size ≤ maxLen := by
  rcases (by omega : k = 0 ∨ k = 1 ∨ k = 2 ∨ k = 3 ∨ k = 4 ∨ k = 5) with rfl | rfl | rfl | rfl | rfl | rfl <;> decide
set_option maxHeartbeats 4000000 in
set_option maxRecDepth 100000 in
theorem loopE1 (w wj : World) (base hb mb qb sb n c : Nat) (ao so : Option Addr) (sc : Nat) (ks : List Int) (part : Bool) (bx : List (Nat × Obj)) (bI : Int)
    (Hn : Hid (n = ks.length)) (HIR : Hid (∀ W, Tch (fun _ => False) w W → IR W ao ks)) (Hrg : Hid (∀ x ∈ ks, -9223372036854775808 ≤ x ∧ x ≤ 9223372036854775807)) (HB : Hid (BB bx qb sb hb mb so sc)) (HbI : Hid (bI = byN part)) (hb1 : -9223372036854775808 ≤ bI) (hb2 : bI ≤ 9223372036854775807)
    (HS0 : Hid (SW w wj base hb mb (m1 part) [] 0 bx (.slice none 0 0) [])) (Q0 : Exit → Act → World → Prop)
    (u1 u2 u3 u4 u5 u9 u10 u11 u13 u16 u17 u18 u19 u20 u21 u22 u23 u24 u25 u26 u27 u28 u29 u30 u31 u32 u33 u34 u35 u36 u37 u38 u39 u40 u41 u42 u43 u44 u45 u46 u47 u48 u49 u50 u51 u52 u53 u54 u55 u56 u57 u58 u59 u60 u61 u62 u63 u64 u65 u66 u67 u68 u69 u70 u71 u72 u73 u74 u75 u76 u77 u78 u79 u80 u81 u82 u83 u84 u85 u86 u87 u88 u89 u90 u91 u92 u93 u94 u95 u96 u97 u98 u99 u100 u101 u102 u103 u104 u105 u106 u107 u108 u109 u110 u111 u112 u113 u114 u115 u116 u117 u118 u119 u120 u121 u122 u123 u124 u125 u126 u127 u128 u129 u130 u131 u132 u133 u134 u135 u136 u137 u138 u139 u140 u141 u142 u143 u144 u145 u146 u147 u148 u149 u150 u151 u152 u153 u154 u155 u156 u157 u158 u159 u160 u161 u162 u163 u164 u165 u166 u167 u168 u169 u170 u171 u172 u173 u174 u175 u176 u177 u178 u179 u180 u181 u182 u183 u184 u185 u186 u187 u188 u189 u190 u191 u192 u193 u194 u195 u196 u197 u198 u199 u200 u201 u202 u203 u204 u205 u206 u207 u208 u209 u210 u211 u212 u213 u214 u215 u216 u217 u218 u219 u220 u221 u222 u223 u224 u225 u226 u227 u228 u229 u230 u231 u232 u233 u234 u235 u236 u237 u238 u239 u240 u241 u242 u243 u244 u245 u246 u247 u248 u249 u250 u251 u252 u253 u254 u255 u256 u257 u258 u259 u260 u261 u262 u263 u264 u265 u266 u267 u268 u269 u270 u271 u272 u273 u274 u275 u276 u277 u278 u279 u280 u281 u282 u283 u284 u285 u286 u287 u288 u289 u290 u291 u292 : Value)
    (Hexit : Hid (∀ (v4 v15 v16 v17 v18 v79 v80 v81 v82 v83 v84 v85 v86 v87 v88 v89 v90 v91 v92 v93 v94 v95 v96 v97 v98 v99 v100 v101 v102 v103 v104 v105 v106 v107 v108 v109 v110 v111 v112 v113 v114 v115 v116 v117 v118 v119 v120 v121 v122 v123 v124 v125 v126 : Value) (vo : Option Addr) (vl vc : Nat) (WL : List Nat) (wx : World), Hid (vl = WL.length ∧ vl ≤ 20 ∧ (∀ x ∈ WL, x < 6) ∧ SW w wx base hb mb (m1 part) (LH part WL) 120 bx (.slice vo vl vc) WL) → Q0 (.exit 0) ⟨List.toArray ((.slice ao n c) :: u1 :: u2 :: u3 :: (v4) :: u5 :: (.pointer (some ⟨qb, 0, none⟩)) :: (.pointer (some ⟨sb, 0, none⟩)) :: (.int .i64 1) :: u9 :: u10 :: u11 :: (.int .i64 bI) :: u13 :: (.slice vo vl vc) :: (v15) :: (v16) :: (v17) :: (v18) :: u19 :: u20 :: u21 :: u22 :: u23 :: u24 :: u25 :: u26 :: u27 :: u28 :: u29 :: u30 :: u31 :: u32 :: u33 :: u34 :: u35 :: u36 :: u37 :: u38 :: u39 :: u40 :: u41 :: u42 :: u43 :: u44 :: u45 :: u46 :: u47 :: u48 :: u49 :: u50 :: u51 :: u52 :: u53 :: u54 :: u55 :: u56 :: u57 :: u58 :: u59 :: u60 :: u61 :: u62 :: u63 :: u64 :: u65 :: u66 :: u67 :: u68 :: u69 :: u70 :: u71 :: u72 :: u73 :: u74 :: u75 :: u76 :: u77 :: u78 :: (v79) :: (v80) :: (v81) :: (v82) :: (v83) :: (v84) :: (v85) :: (v86) :: (v87) :: (v88) :: (v89) :: (v90) :: (v91) :: (v92) :: (v93) :: (v94) :: (v95) :: (v96) :: (v97) :: (v98) :: (v99) :: (v100) :: (v101) :: (v102) :: (v103) :: (v104) :: (v105) :: (v106) :: (v107) :: (v108) :: (v109) :: (v110) :: (v111) :: (v112) :: (v113) :: (v114) :: (v115) :: (v116) :: (v117) :: (v118) :: (v119) :: (v120) :: (v121) :: (v122) :: (v123) :: (v124) :: (v125) :: (v126) :: u127 :: u128 :: u129 :: u130 :: u131 :: u132 :: u133 :: u134 :: u135 :: u136 :: u137 :: u138 :: u139 :: u140 :: u141 :: u142 :: u143 :: u144 :: u145 :: u146 :: u147 :: u148 :: u149 :: u150 :: u151 :: u152 :: u153 :: u154 :: u155 :: u156 :: u157 :: u158 :: u159 :: u160 :: u161 :: u162 :: u163 :: u164 :: u165 :: u166 :: u167 :: u168 :: u169 :: u170 :: u171 :: u172 :: u173 :: u174 :: u175 :: u176 :: u177 :: u178 :: u179 :: u180 :: u181 :: u182 :: u183 :: u184 :: u185 :: u186 :: u187 :: u188 :: u189 :: u190 :: u191 :: u192 :: u193 :: u194 :: u195 :: u196 :: u197 :: u198 :: u199 :: u200 :: u201 :: u202 :: u203 :: u204 :: u205 :: u206 :: u207 :: u208 :: u209 :: u210 :: u211 :: u212 :: u213 :: u214 :: u215 :: u216 :: u217 :: u218 :: u219 :: u220 :: u221 :: u222 :: u223 :: u224 :: u225 :: u226 :: u227 :: u228 :: u229 :: u230 :: u231 :: u232 :: u233 :: u234 :: u235 :: u236 :: u237 :: u238 :: u239 :: u240 :: u241 :: u242 :: u243 :: u244 :: u245 :: u246 :: u247 :: u248 :: u249 :: u250 :: u251 :: u252 :: u253 :: u254 :: u255 :: u256 :: u257 :: u258 :: u259 :: u260 :: u261 :: u262 :: u263 :: u264 :: u265 :: u266 :: u267 :: u268 :: u269 :: u270 :: u271 :: u272 :: u273 :: u274 :: u275 :: u276 :: u277 :: u278 :: u279 :: u280 :: u281 :: u282 :: u283 :: u284 :: u285 :: u286 :: u287 :: u288 :: u289 :: u290 :: u291 :: u292 :: []), []⟩ wx)) :
    Code.wp Try.prog (Code.loop emp1) Q0 ⟨List.toArray ((.slice ao n c) :: u1 :: u2 :: u3 :: u4 :: u5 :: (.pointer (some ⟨qb, 0, none⟩)) :: (.pointer (some ⟨sb, 0, none⟩)) :: (.int .i64 1) :: u9 :: u10 :: u11 :: (.int .i64 bI) :: u13 :: (.slice none 0 0) :: (.int .i64 0) :: u16 :: u17 :: u18 :: u19 :: u20 :: u21 :: u22 :: u23 :: u24 :: u25 :: u26 :: u27 :: u28 :: u29 :: u30 :: u31 :: u32 :: u33 :: u34 :: u35 :: u36 :: u37 :: u38 :: u39 :: u40 :: u41 :: u42 :: u43 :: u44 :: u45 :: u46 :: u47 :: u48 :: u49 :: u50 :: u51 :: u52 :: u53 :: u54 :: u55 :: u56 :: u57 :: u58 :: u59 :: u60 :: u61 :: u62 :: u63 :: u64 :: u65 :: u66 :: u67 :: u68 :: u69 :: u70 :: u71 :: u72 :: u73 :: u74 :: u75 :: u76 :: u77 :: u78 :: u79 :: u80 :: u81 :: u82 :: u83 :: u84 :: u85 :: u86 :: u87 :: u88 :: u89 :: u90 :: u91 :: u92 :: u93 :: u94 :: u95 :: u96 :: u97 :: u98 :: u99 :: u100 :: u101 :: u102 :: u103 :: u104 :: u105 :: u106 :: u107 :: u108 :: u109 :: u110 :: u111 :: u112 :: u113 :: u114 :: u115 :: u116 :: u117 :: u118 :: u119 :: u120 :: u121 :: u122 :: u123 :: u124 :: u125 :: u126 :: u127 :: u128 :: u129 :: u130 :: u131 :: u132 :: u133 :: u134 :: u135 :: u136 :: u137 :: u138 :: u139 :: u140 :: u141 :: u142 :: u143 :: u144 :: u145 :: u146 :: u147 :: u148 :: u149 :: u150 :: u151 :: u152 :: u153 :: u154 :: u155 :: u156 :: u157 :: u158 :: u159 :: u160 :: u161 :: u162 :: u163 :: u164 :: u165 :: u166 :: u167 :: u168 :: u169 :: u170 :: u171 :: u172 :: u173 :: u174 :: u175 :: u176 :: u177 :: u178 :: u179 :: u180 :: u181 :: u182 :: u183 :: u184 :: u185 :: u186 :: u187 :: u188 :: u189 :: u190 :: u191 :: u192 :: u193 :: u194 :: u195 :: u196 :: u197 :: u198 :: u199 :: u200 :: u201 :: u202 :: u203 :: u204 :: u205 :: u206 :: u207 :: u208 :: u209 :: u210 :: u211 :: u212 :: u213 :: u214 :: u215 :: u216 :: u217 :: u218 :: u219 :: u220 :: u221 :: u222 :: u223 :: u224 :: u225 :: u226 :: u227 :: u228 :: u229 :: u230 :: u231 :: u232 :: u233 :: u234 :: u235 :: u236 :: u237 :: u238 :: u239 :: u240 :: u241 :: u242 :: u243 :: u244 :: u245 :: u246 :: u247 :: u248 :: u249 :: u250 :: u251 :: u252 :: u253 :: u254 :: u255 :: u256 :: u257 :: u258 :: u259 :: u260 :: u261 :: u262 :: u263 :: u264 :: u265 :: u266 :: u267 :: u268 :: u269 :: u270 :: u271 :: u272 :: u273 :: u274 :: u275 :: u276 :: u277 :: u278 :: u279 :: u280 :: u281 :: u282 :: u283 :: u284 :: u285 :: u286 :: u287 :: u288 :: u289 :: u290 :: u291 :: u292 :: []), []⟩ wj := by
  conv => arg 2; arg 1; whnf
  go_loopw [14, 15] (fun v i wr => ∃ (j : Nat) (vo : Option Addr) (vl vc : Nat), i = .int .i64 j ∧ v = .slice vo vl vc ∧ j ≤ 20 ∧ j ≤ n ∧ Hid (vl = (wantF (ks.take j)).length ∧ SW w wr base hb mb (m1 part) (LH part (wantF (ks.take j))) (6 * j) bx (.slice vo vl vc) (wantF (ks.take j)))) (fun _ i _ => 20 - (intOf i).toNat)
  case atStart => exact ⟨0, none, 0, 0, rfl, rfl, by omega, by omega, rfl, HS0.out⟩
  case round =>
    obtain ⟨j, vo, vl, vc, rfl, rfl, hj, hjn, HJ⟩ := hrel
    obtain ⟨wA, hwA⟩ : ∃ wA, wA = wr := ⟨_, rfl⟩
    subst hwA
    by_cases hlt : (j : Int) < n ∧ (j : Int) < 20
    · obtain ⟨hlt1, hlt2⟩ := hlt
      obtain ⟨WL, hWL⟩ : ∃ WL, WL = wantF (ks.take j) := ⟨_, rfl⟩
      have HWL : Hid (WL = wantF (ks.take j)) := hWL
      rw [← hWL] at HJ
      clear hWL
      have hst : Hid (SW w wA base hb mb (m1 part) (LH part WL) (6 * j) bx (.slice vo vl vc) WL) := HJ.out.2
      have Hvl : Hid (vl = WL.length) := HJ.out.1
      clear HJ
      obtain ⟨x, hx⟩ : ∃ x, ks[j]? = some x := ⟨_, List.getElem?_eq_getElem (by have := Hn.out; omega)⟩
      obtain ⟨hx1, hx2⟩ := Hrg.out x (List.mem_of_getElem? hx)
      obtain ⟨kg, ko, rfl, kc⟩ := HIR.out wA hst.out.tch j x hx
      have qp := pick9_any x 6 wA hx1 hx2 (by omega) (by omega)
      obtain ⟨k, hk⟩ : ∃ k, k = pkN x 6 := ⟨_, rfl⟩
      have hk6 : k < 6 := by rw [hk]; exact pkN_lt _ (by omega)
      rw [← hk] at qp
      have Hk : Hid (k = pkN x 6) := hk
      have Hx : Hid (ks[j]? = some x) := hx
      have hW6 : Hid (∀ y ∈ WL, y < 6) := by have := HWL.out; show _; rw [this]; exact want_lt _
      obtain ⟨E, L1, hE1, hL1, hE2, hL2, hEE⟩ := step1 part WL hW6.out k hk6
      rw [← HbI.out] at hE1 hL1
      obtain ⟨e, he⟩ : ∃ e : Int, e = (E : Nat) := ⟨_, rfl⟩
      have He : Hid (e = (E : Nat)) := he
      have HE1 : Hid (insE (m1 part) 1 1 [] bI (chL (LH part WL) 1 (keyB k).data.toList) = E) := hE1
      have HE2 : Hid (insE (m1 part) 1 1 [] 1 (chL L1 2 (keyB k).data.toList) = E) := hE2
      have HL1 : Hid ((if E = 0 then appL (LH part WL) 1 (keyB k).data.toList ⟨bI, true, 1, rowC k⟩ else LH part WL) = L1) := hL1
      have HL2 : Hid ((if E = 0 then appL L1 2 (keyB k).data.toList ⟨1, true, 1, rowC k⟩ else L1) = LH part (add1 WL k)) := hL2
      have HEE : Hid (e = 0 ∧ add1 WL k = WL ++ [k] ∨ e = 91 ∧ add1 WL k = WL) := hEE.imp (fun h => ⟨by rw [he, h.1]; rfl, h.2⟩) (fun h => ⟨by rw [he, h.1]; rfl, h.2⟩)
      have HkS : Hid ((keyB k).size ≤ maxLen) := keyB_size k hk6
      have Hnx : Hid (wantF (ks.take (j + 1)) = add1 WL k) := by
        show _ = _
        rw [HWL.out, hk, ← wantF_snoc, List.take_add_one, hx]; rfl
      clear hx hk hE1 hE2 hL1 hL2 hEE he
      go_wp2_with fail
      refine qp.mono ?_
      rintro z w9 ⟨rfl, hw9⟩
      obtain rfl := hw9.symm
      clear hw9 qp kc
      go_wp2_with fail
      obtain ⟨C, hC⟩ : ∃ C : List Value → World → Prop, C = fun s W => match s with
        | [] => SW w W base hb mb (m1 part) (LH part WL) (6 * j) bx (.slice vo vl vc) WL
        | [y] => y = .string (keyB k) ∧ SW w W base hb mb (m1 part) (LH part WL) (6 * j) bx (.slice vo vl vc) WL
        | [_, y] => SW w W base hb mb (m1 part) (LH part WL) (6 * j) bx (.slice vo vl vc) WL ∧ ∃ g, y = .slice (some ⟨g, 0, none⟩) 1 1 ∧ RdR W (some ⟨g, 0, none⟩) 1 1 (rowC k)
        | [_, _, x] => x = .int .i64 e ∧ SW w W base hb mb (m1 part) L1 (6 * j + 3) bx (.slice vo vl vc) WL
        | _ => False := ⟨_, rfl⟩
      have hK : ∀ s W, C s W → W.cell? ⟨qb, 1, none⟩ = some (.pointer (some ⟨hb, 0, none⟩)) ∧ W.cell? ⟨sb, 0, none⟩ = some (.int .i64 1) ∧ W.cell? ⟨sb, 1, none⟩ = some (.int .i64 1) ∧ W.cell? ⟨sb, 2, none⟩ = some (.slice so 0 sc) := fun s W hW => by
        have hbb : ∀ p ∈ bx, W.heap[p.1]? = some p.2 := by
          rw [hC] at hW
          match s, hW with
          | [], hW => exact SW.box hW
          | [_], hW => exact SW.box hW.2
          | [_, _], hW => exact SW.box hW.1
          | [_, _, _], hW => exact SW.box hW.2
        exact ((HB.out.1 W hbb).1).2
      have h0' : C [] wA.drew := by rw [hC]; exact hst.out.no (Tch.refl _ _).drew
      have c0 : ∀ W, C [] W → Calls Try.prog 12 #[.int .i64 k] W fun x W' => ∃ y, x = .returned y ∧ C [y] W' := fun W hW => by
        rw [hC] at hW ⊢
        refine (keyOf_any k hk6 W).mono ?_
        rintro x W' ⟨rfl, t⟩
        exact ⟨_, rfl, rfl, SW.no hW t⟩
      have c1 : ∀ y W, C [y] W → Calls Try.prog 13 #[.int .i64 k] W fun x W' => ∃ u, x = .returned u ∧ C [y, u] W' := fun y W hW => by
        rw [hC] at hW ⊢
        refine (row_any k W).mono ?_
        rintro x W' ⟨rfl, rfl⟩
        exact ⟨_, rfl, SW.no hW.2 (Tch.alloc _ _ _), _, rfl, row_rd k W⟩
      have s0 : Hid (∀ y W, C [y] W → y = .string (keyB k)) := fun y W hW => by rw [hC] at hW; exact hW.1
      have s1 : ∀ x y W, C [x, y] W → ∃ g, y = .slice (some ⟨g, 0, none⟩) 1 1 := fun x y W hW => by
        rw [hC] at hW
        obtain ⟨_, g, e, _⟩ := hW
        exact ⟨g, e⟩
      have c2 : ∀ x y W, C [x, y] W → Calls Try.prog 11 #[.pointer (some ⟨hb, 0, none⟩), .agg #[.int .i64 1, .int .i64 1, .slice so 0 sc], .int .i64 bI, .int .i64 1, .string (keyB k), y] W fun z W' => ∃ u, z = .returned u ∧ C [x, y, u] W' := fun x y W hW => by
        rw [hC] at hW ⊢
        obtain ⟨h1, g, rfl, h2⟩ := hW
        refine Calls.mono (insert_w h1 HB.out (by omega) 1 (by omega) (by omega) (keyB k) (HkS.out) bI (by omega) (by omega) _ 1 1 _ h2 E HE1.out) ?_
        rintro x W' ⟨rfl, h3⟩
        exact ⟨_, rfl, by rw [He.out], by rw [← HL1.out]; exact h3⟩
      have HF : Hid (∀ x y u W, C [x, y, u] W → u = .int .i64 e ∧ SW w W base hb mb (m1 part) L1 (6 * j + 3) bx (.slice vo vl vc) WL) := fun x y u W hW => by
        rw [hC] at hW
        exact hW
      clear hC
      refine wp_region_ordv [7, 9, 10] C 11 [0, 1, 2, 3, 4, 5, 6, 8, 7, 9, 10] (by kernel_rfl) (by kernel_rfl) h0' ?_
      clear h0'
      refine ordv_read rfl (by go_simp) (by rfl) ?_
      apply Exists.intro
      refine ⟨fun s' W hW b K Q hK' => ?_, fun K hK' => ?_⟩
      · obtain ⟨q0, q1, q2, q3⟩ := hK _ W hW
        go_simp
        exact hK' W hW
      go_simp
      refine hK' _ ?_
      clear hK' K
      refine ordv_read rfl (by go_simp) (by rfl) ?_
      apply Exists.intro
      refine ⟨fun s' W hW b K Q hK' => ?_, fun K hK' => ?_⟩
      · obtain ⟨q0, q1, q2, q3⟩ := hK _ W hW
        go_simp
        exact hK' W hW
      go_simp
      refine hK' _ ?_
      clear hK' K
      refine ordv_read rfl (by go_simp) (by rfl) ?_
      apply Exists.intro
      refine ⟨fun s' W hW b K Q hK' => ?_, fun K hK' => ?_⟩
      · obtain ⟨q0, q1, q2, q3⟩ := hK _ W hW
        go_simp
        exact hK' W hW
      go_simp
      refine hK' _ ?_
      clear hK' K
      refine ordv_read rfl (by go_simp) (by rfl) ?_
      apply Exists.intro
      refine ⟨fun s' W hW b K Q hK' => ?_, fun K hK' => ?_⟩
      · obtain ⟨q0, q1, q2, q3⟩ := hK _ W hW
        go_simp
        exact hK' W hW
      go_simp
      refine hK' _ ?_
      clear hK' K
      refine ordv_read rfl (by go_simp) (by rfl) ?_
      apply Exists.intro
      refine ⟨fun s' W hW b K Q hK' => ?_, fun K hK' => ?_⟩
      · obtain ⟨q0, q1, q2, q3⟩ := hK _ W hW
        go_simp
        exact hK' W hW
      go_simp
      refine hK' _ ?_
      clear hK' K
      refine ordv_read rfl (by go_simp) (by rfl) ?_
      apply Exists.intro
      refine ⟨fun s' W hW b K Q hK' => ?_, fun K hK' => ?_⟩
      · obtain ⟨q0, q1, q2, q3⟩ := hK _ W hW
        go_simp
        exact hK' W hW
      go_simp
      refine hK' _ ?_
      clear hK' K
      refine ordv_read rfl (by go_simp) (by rfl) ?_
      apply Exists.intro
      refine ⟨fun s' W hW b K Q hK' => ?_, fun K hK' => ?_⟩
      · obtain ⟨q0, q1, q2, q3⟩ := hK _ W hW
        go_simp
        exact hK' W hW
      go_simp
      refine hK' _ ?_
      clear hK' K
      refine ordv_read rfl (by go_simp) (by rfl) ?_
      apply Exists.intro
      refine ⟨fun s' W hW b K Q hK' => ?_, fun K hK' => ?_⟩
      · obtain ⟨q0, q1, q2, q3⟩ := hK _ W hW
        go_simp
        exact hK' W hW
      go_simp
      refine hK' _ ?_
      clear hK' K
      refine ordv_turn rfl (by go_simp) (by rfl) (fun W hW b K Q hK' => ?_) (fun u hu K hK' => ?_)
      · go_simp
        go_at_call 12
        refine (c0 W hW).mono ?_
        rintro x w' ⟨y, rfl, h1⟩
        exact hK' y w' h1
      obtain rfl : u = .string (keyB k) := by
        obtain ⟨W', hW'⟩ := hu
        exact s0.out u W' hW'
      clear hu c0 s0
      go_simp
      refine hK' _ ?_
      clear hK' K
      refine ordv_turn rfl (by go_simp) (by rfl) (fun W hW b K Q hK' => ?_) (fun u hu K hK' => ?_)
      · go_simp
        go_at_call 13
        refine (c1 _ W hW).mono ?_
        rintro x w' ⟨y, rfl, h1⟩
        exact hK' y w' h1
      obtain ⟨g9, rfl⟩ : ∃ g, u = .slice (some ⟨g, 0, none⟩) 1 1 := by
        obtain ⟨W', hW'⟩ := hu
        exact s1 _ u W' hW'
      clear hu c1 s1
      go_simp
      refine hK' _ ?_
      clear hK' K
      refine ordv_turn rfl (by go_simp) (by rfl) (fun W hW b K Q hK' => ?_) (fun u hu K hK' => ?_)
      · go_simp
        go_at_call 11
        refine (c2 _ _ W hW).mono ?_
        rintro x w' ⟨y, rfl, h1⟩
        exact hK' y w' h1
      obtain rfl : u = .int .i64 e := by
        obtain ⟨W', hW'⟩ := hu
        exact (HF.out _ _ u W' hW').1
      clear hu c2
      go_simp
      refine hK' _ ?_
      clear hK' K
      refine ordv_nil ?_
      intro wB hwB
      have hstB : Hid (SW w wB base hb mb (m1 part) L1 (6 * j + 3) bx (.slice vo vl vc) WL) := (HF.out _ _ _ wB hwB).2
      clear hK HF hwB C hst wA
      obtain ⟨wA, hwA⟩ : ∃ wA, wA = wB := ⟨_, rfl⟩
      subst hwA
      have hst := hstB
      clear hstB HE1 HL1
      go_wp2_with fail
      obtain ⟨C, hC⟩ : ∃ C : List Value → World → Prop, C = fun s W => match s with
        | [] => SW w W base hb mb (m1 part) L1 (6 * j + 3) bx (.slice vo vl vc) WL
        | [y] => y = .string (keyB k) ∧ SW w W base hb mb (m1 part) L1 (6 * j + 3) bx (.slice vo vl vc) WL
        | [_, y] => SW w W base hb mb (m1 part) L1 (6 * j + 3) bx (.slice vo vl vc) WL ∧ ∃ g, y = .slice (some ⟨g, 0, none⟩) 1 1 ∧ RdR W (some ⟨g, 0, none⟩) 1 1 (rowC k)
        | [_, _, x] => x = .int .i64 e ∧ SW w W base hb mb (m1 part) (LH part (add1 WL k)) (6 * j + 3 + 3) bx (.slice vo vl vc) WL
        | _ => False := ⟨_, rfl⟩
      have hK : ∀ s W, C s W → W.cell? ⟨qb, 1, none⟩ = some (.pointer (some ⟨hb, 0, none⟩)) ∧ W.cell? ⟨sb, 0, none⟩ = some (.int .i64 1) ∧ W.cell? ⟨sb, 1, none⟩ = some (.int .i64 1) ∧ W.cell? ⟨sb, 2, none⟩ = some (.slice so 0 sc) := fun s W hW => by
        have hbb : ∀ p ∈ bx, W.heap[p.1]? = some p.2 := by
          rw [hC] at hW
          match s, hW with
          | [], hW => exact SW.box hW
          | [_], hW => exact SW.box hW.2
          | [_, _], hW => exact SW.box hW.1
          | [_, _, _], hW => exact SW.box hW.2
        exact ((HB.out.1 W hbb).1).2
      have h0' : C [] wA.drew := by rw [hC]; exact hst.out.no (Tch.refl _ _).drew
      have c0 : ∀ W, C [] W → Calls Try.prog 12 #[.int .i64 k] W fun x W' => ∃ y, x = .returned y ∧ C [y] W' := fun W hW => by
        rw [hC] at hW ⊢
        refine (keyOf_any k hk6 W).mono ?_
        rintro x W' ⟨rfl, t⟩
        exact ⟨_, rfl, rfl, SW.no hW t⟩
      have c1 : ∀ y W, C [y] W → Calls Try.prog 13 #[.int .i64 k] W fun x W' => ∃ u, x = .returned u ∧ C [y, u] W' := fun y W hW => by
        rw [hC] at hW ⊢
        refine (row_any k W).mono ?_
        rintro x W' ⟨rfl, rfl⟩
        exact ⟨_, rfl, SW.no hW.2 (Tch.alloc _ _ _), _, rfl, row_rd k W⟩
      have s0 : Hid (∀ y W, C [y] W → y = .string (keyB k)) := fun y W hW => by rw [hC] at hW; exact hW.1
      have s1 : ∀ x y W, C [x, y] W → ∃ g, y = .slice (some ⟨g, 0, none⟩) 1 1 := fun x y W hW => by
        rw [hC] at hW
        obtain ⟨_, g, e, _⟩ := hW
        exact ⟨g, e⟩
      have c2 : ∀ x y W, C [x, y] W → Calls Try.prog 11 #[.pointer (some ⟨hb, 0, none⟩), .agg #[.int .i64 1, .int .i64 1, .slice so 0 sc], .int .i64 1, .int .i64 2, .string (keyB k), y] W fun z W' => ∃ u, z = .returned u ∧ C [x, y, u] W' := fun x y W hW => by
        rw [hC] at hW ⊢
        obtain ⟨h1, g, rfl, h2⟩ := hW
        refine Calls.mono (insert_w h1 HB.out (by omega) 2 (by omega) (by omega) (keyB k) (HkS.out) 1 (by omega) (by omega) _ 1 1 _ h2 E HE2.out) ?_
        rintro x W' ⟨rfl, h3⟩
        exact ⟨_, rfl, by rw [He.out], by rw [← HL2.out]; exact h3⟩
      have HF : Hid (∀ x y u W, C [x, y, u] W → u = .int .i64 e ∧ SW w W base hb mb (m1 part) (LH part (add1 WL k)) (6 * j + 3 + 3) bx (.slice vo vl vc) WL) := fun x y u W hW => by
        rw [hC] at hW
        exact hW
      clear hC
      refine wp_region_ordv [7, 9, 10] C 11 [0, 1, 2, 3, 4, 5, 6, 8, 7, 9, 10] (by kernel_rfl) (by kernel_rfl) h0' ?_
      clear h0'
      refine ordv_read rfl (by go_simp) (by rfl) ?_
      apply Exists.intro
      refine ⟨fun s' W hW b K Q hK' => ?_, fun K hK' => ?_⟩
      · obtain ⟨q0, q1, q2, q3⟩ := hK _ W hW
        go_simp
        exact hK' W hW
      go_simp
      refine hK' _ ?_
      clear hK' K
      refine ordv_read rfl (by go_simp) (by rfl) ?_
      apply Exists.intro
      refine ⟨fun s' W hW b K Q hK' => ?_, fun K hK' => ?_⟩
      · obtain ⟨q0, q1, q2, q3⟩ := hK _ W hW
        go_simp
        exact hK' W hW
      go_simp
      refine hK' _ ?_
      clear hK' K
      refine ordv_read rfl (by go_simp) (by rfl) ?_
      apply Exists.intro
      refine ⟨fun s' W hW b K Q hK' => ?_, fun K hK' => ?_⟩
      · obtain ⟨q0, q1, q2, q3⟩ := hK _ W hW
        go_simp
        exact hK' W hW
      go_simp
      refine hK' _ ?_
      clear hK' K
      refine ordv_read rfl (by go_simp) (by rfl) ?_
      apply Exists.intro
      refine ⟨fun s' W hW b K Q hK' => ?_, fun K hK' => ?_⟩
      · obtain ⟨q0, q1, q2, q3⟩ := hK _ W hW
        go_simp
        exact hK' W hW
      go_simp
      refine hK' _ ?_
      clear hK' K
      refine ordv_read rfl (by go_simp) (by rfl) ?_
      apply Exists.intro
      refine ⟨fun s' W hW b K Q hK' => ?_, fun K hK' => ?_⟩
      · obtain ⟨q0, q1, q2, q3⟩ := hK _ W hW
        go_simp
        exact hK' W hW
      go_simp
      refine hK' _ ?_
      clear hK' K
      refine ordv_read rfl (by go_simp) (by rfl) ?_
      apply Exists.intro
      refine ⟨fun s' W hW b K Q hK' => ?_, fun K hK' => ?_⟩
      · obtain ⟨q0, q1, q2, q3⟩ := hK _ W hW
        go_simp
        exact hK' W hW
      go_simp
      refine hK' _ ?_
      clear hK' K
      refine ordv_read rfl (by go_simp) (by rfl) ?_
      apply Exists.intro
      refine ⟨fun s' W hW b K Q hK' => ?_, fun K hK' => ?_⟩
      · obtain ⟨q0, q1, q2, q3⟩ := hK _ W hW
        go_simp
        exact hK' W hW
      go_simp
      refine hK' _ ?_
      clear hK' K
      refine ordv_read rfl (by go_simp) (by rfl) ?_
      apply Exists.intro
      refine ⟨fun s' W hW b K Q hK' => ?_, fun K hK' => ?_⟩
      · obtain ⟨q0, q1, q2, q3⟩ := hK _ W hW
        go_simp
        exact hK' W hW
      go_simp
      refine hK' _ ?_
      clear hK' K
      refine ordv_turn rfl (by go_simp) (by rfl) (fun W hW b K Q hK' => ?_) (fun u hu K hK' => ?_)
      · go_simp
        go_at_call 12
        refine (c0 W hW).mono ?_
        rintro x w' ⟨y, rfl, h1⟩
        exact hK' y w' h1
      obtain rfl : u = .string (keyB k) := by
        obtain ⟨W', hW'⟩ := hu
        exact s0.out u W' hW'
      clear hu c0 s0
      go_simp
      refine hK' _ ?_
      clear hK' K
      refine ordv_turn rfl (by go_simp) (by rfl) (fun W hW b K Q hK' => ?_) (fun u hu K hK' => ?_)
      · go_simp
        go_at_call 13
        refine (c1 _ W hW).mono ?_
        rintro x w' ⟨y, rfl, h1⟩
        exact hK' y w' h1
      obtain ⟨g9, rfl⟩ : ∃ g, u = .slice (some ⟨g, 0, none⟩) 1 1 := by
        obtain ⟨W', hW'⟩ := hu
        exact s1 _ u W' hW'
      clear hu c1 s1
      go_simp
      refine hK' _ ?_
      clear hK' K
      refine ordv_turn rfl (by go_simp) (by rfl) (fun W hW b K Q hK' => ?_) (fun u hu K hK' => ?_)
      · go_simp
        go_at_call 11
        refine (c2 _ _ W hW).mono ?_
        rintro x w' ⟨y, rfl, h1⟩
        exact hK' y w' h1
      obtain rfl : u = .int .i64 e := by
        obtain ⟨W', hW'⟩ := hu
        exact (HF.out _ _ u W' hW').1
      clear hu c2
      go_simp
      refine hK' _ ?_
      clear hK' K
      refine ordv_nil ?_
      intro wB hwB
      have hstB : Hid (SW w wB base hb mb (m1 part) (LH part (add1 WL k)) (6 * j + 3 + 3) bx (.slice vo vl vc) WL) := (HF.out _ _ _ wB hwB).2
      clear hK HF hwB C hst wA
      clear HE2 HL2 He
      have hEE := HEE.out
      clear HEE
      rcases hEE with ⟨rfl, hadd⟩ | ⟨rfl, hadd⟩
      · have HA : Hid (add1 WL k = WL ++ [k]) := hadd
        clear hadd
        obtain ⟨i0, hi, hz0, hz1, hz2⟩ := info_parts info_int
        obtain ⟨wC, hwC⟩ : ∃ wC, wC = wB.alloc (.cells #[.int .i64 k] 3) := ⟨_, rfl⟩
        have HC : Hid (wC = wB.alloc (.cells #[.int .i64 k] 3)) := hwC
        have tC : Tch (fun _ => False) wB wC := by rw [hwC]; exact Tch.alloc _ _ _
        have HSC : Hid (SW w wC base hb mb (m1 part) (LH part (add1 WL k)) (6 * j + 3 + 3) bx (.slice vo vl vc) WL) := hstB.out.no tC
        have Hcl : Hid (∀ i u, ([.int .i64 k] : List Value)[i]? = some u → wC.cell? ((⟨wB.heap.size, 0, none⟩ : Addr).add i) = some u) := fun i u hu => by
          rw [add_plain, hwC, blk_cell (alloc_new _ _)]
          simpa using hu
        have Hrow : Hid (wC.ownsRow base 3 1 (.slice vo vl vc) vl (icl WL)) := (by have h1 := HSC.out.own; rw [← Hvl.out] at h1; exact h1)
        have hvl20 : vl ≤ 20 := by
          have h1 := want_len (ks.take j)
          have h2 := Hvl.out
          rw [HWL.out] at h2
          have h3 : (ks.take j).length ≤ j := by simp; omega
          omega
        have Hbs : Hid (base ≤ wC.heap.size) := HSC.out.2.2.1
        clear hwC tC hstB
        go_wp2_with (at_builtin; have hw0 := HC.out; rw [← hw0]; clear hw0; refine wpList_append_keeps _ rfl _ _ 22 rfl base 3 i0 (.int .i64 0) 1 8 Try.underlying22 hi hz0 hz1 hz2 rfl (by decide) (.slice vo vl vc) vl (icl WL) rfl Hrow.out ⟨wB.heap.size, 0, none⟩ 1 1 [.int .i64 k] rfl (by simp) Hcl.out (by simp [Value.oneCell']) (by unfold maxLen; omega) (by omega) Hbs.out ?_; intro v1 w1 hown1 hgr1 hat1 _; have HF : Hid (w1.ownsRow base 3 1 v1 (vl + 1) (icl WL ++ [.int .i64 k])) := hown1; have HT : Hid (Tch (fun i => (Value.slice vo vl vc).ownBlock = some i) wC w1) := (grown_at (Tch.refl (fun _ => False) wC) hgr1); have HAt : Hid (v1.ownBlock = (Value.slice vo vl vc).ownBlock ∨ v1.ownBlock = some wC.heap.size) := hat1; clear hown1 hgr1 hat1; obtain ⟨o1, c1, hv1⟩ := row_slice HF.out; subst hv1)
        have HE : Hid (vl + 1 = (wantF (ks.take (j + 1))).length ∧ SW w w1 base hb mb (m1 part) (LH part (wantF (ks.take (j + 1)))) (6 * (j + 1)) bx (.slice o1 (vl + 1) c1) (wantF (ks.take (j + 1)))) := by
          have e1 : (wantF (ks.take (j + 1))) = WL ++ [k] := by rw [Hnx.out, HA.out]
          have e2 : vl + 1 = (WL ++ [k]).length := by rw [Hvl.out]; simp
          show _ ∧ _
          rw [e1]
          refine ⟨e2, ?_⟩
          have h1 := HSC.out
          rw [HA.out] at h1
          exact (h1.app HT.out (by rw [← e2, icl_snoc]; exact HF.out) (HAt.out.imp id (fun e => ⟨_, e, Nat.le_refl _⟩))).more (by omega)
        clear HSC HF HT HAt Hcl HC Hrow Hbs
        go_wp2_with fail
        go_roundw
        case rel => exact ⟨j + 1, o1, vl + 1, c1, by go_num, by go_num, by omega, by omega, HE⟩
        case measure => simp [intOf]; omega
      · have HE : Hid (vl = (wantF (ks.take (j + 1))).length ∧ SW w wB base hb mb (m1 part) (LH part (wantF (ks.take (j + 1)))) (6 * (j + 1)) bx (.slice vo vl vc) (wantF (ks.take (j + 1)))) := by
          have e1 : (wantF (ks.take (j + 1))) = WL := by rw [Hnx.out, hadd]
          show _ ∧ _
          rw [e1]
          refine ⟨Hvl.out, ?_⟩
          have h1 := hstB.out
          rw [hadd] at h1
          exact h1.more (by omega)
        clear hstB hadd
        go_wp2_with fail
        go_roundw
        case rel => exact ⟨j + 1, vo, vl, vc, by go_num, rfl, by omega, by omega, HE⟩
        case measure => simp [intOf]; omega
    · have hcase : ¬ (j : Int) < n ∨ ((j : Int) < n ∧ ¬ (j : Int) < 20) := by
        by_cases h1 : (j : Int) < n
        · exact Or.inr ⟨h1, fun h2 => hlt ⟨h1, h2⟩⟩
        · exact Or.inl h1
      have HE : Hid (vl = (wantF (ks.take j)).length ∧ vl ≤ 20 ∧ (∀ x ∈ wantF (ks.take j), x < 6) ∧ SW w wA base hb mb (m1 part) (LH part (wantF (ks.take j))) 120 bx (.slice vo vl vc) (wantF (ks.take j))) := by
        refine ⟨HJ.out.1, ?_, want_lt _, HJ.out.2.more (by omega)⟩
        have h1 := want_len (ks.take j)
        have h2 := HJ.out.1
        have h3 : (ks.take j).length ≤ j := by simp; omega
        omega
      clear hlt HJ
      rcases hcase with hkn | ⟨hkn, hk20⟩
      all_goals
        go_wp2_with fail
        exact Hexit.out _ _ _ _ _ _ _ _ _ _ _ _ _ _ _ _ _ _ _ _ _ _ _ _ _ _ _ _ _ _ _ _ _ _ _ _ _ _ _ _ _ _ _ _ _ _ _ _ _ _ _ _ _ vo vl vc _ _ HE
end Go.Proofs.Ytjbehnoococelaa
