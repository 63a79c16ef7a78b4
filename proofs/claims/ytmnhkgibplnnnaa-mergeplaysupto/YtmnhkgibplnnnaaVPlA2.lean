import Derived.Test.YtmnhkgibplnnnaaVPlA4
/- MergePlays: the arm 2 of its law's switch. -/
namespace Go.Proofs.Ytmnhkgibplnnnaa
open Go.RowKit Go

set_option maxHeartbeats 16000000 in
set_option maxRecDepth 2000000 in
theorem arm2 (V W wr : World) (Z : Nat → Prop) (n gs sc NN i m sc' : Nat) (so : Option Addr) (ops : List Opd) (p : Opd) (s : Sv) (_hNN2 : NN ≤ 1048579) (_hi : i < NN) (_hi' : (i : Int) < (NN : Int)) (_hNc : NN ≤ sc) (_hscm : sc ≤ 9223372036854775807)
    (HSC : Hid (SC V Z W gs (lits (n + 4) ++ ops))) (HP : Hid ((lits (n + 4) ++ ops)[i]? = some p)) (I : Hid (StP V Z W wr (n + 1) (n + 2) (n + 3) so m sc' i s)) (h1 : ¬ p.k = 1) (h2 : p.k = 2) (Q0 : Exit → Act → World → Prop)
    (u1 u2 u8 u9 u10 u11 u12 u13 u14 u15 u16 u17 u18 u19 u20 u21 u22 u23 u24 u25 u26 u27 u28 u29 u30 u31 u32 u33 u34 u35 u36 u37 u38 u39 u40 u41 u42 u43 u44 u45 u46 u48 u49 u50 u51 u52 u53 u54 u55 u56 u57 u58 u59 u60 u61 u62 u63 u64 u65 u66 u67 u68 u69 u70 u71 u72 u73 u74 u75 u76 u77 u78 u79 u80 u81 u82 u83 u84 u85 u86 u87 u88 u89 u90 u91 u92 u93 u94 u95 u96 u97 u98 u99 u100 u101 u102 u103 u104 u105 u106 u107 u108 u109 u110 u111 u112 u113 u114 u115 u116 u117 u118 u119 u120 u121 u122 u123 u124 u125 u126 u127 u128 u129 u130 u131 u132 u133 u134 u135 u136 u137 u138 u139 u140 u141 u142 u143 u144 u145 u146 u147 u148 u149 u150 u151 u152 u153 u154 u155 u156 u157 u158 u159 u160 u161 u162 u163 u164 u165 u166 u167 u168 u169 u170 u171 u172 u173 u174 u175 u176 u177 u178 u179 u180 u181 u182 u183 u184 u185 u186 u187 u188 u189 u190 u191 u192 u193 u194 u195 u196 u197 u198 u199 u200 u201 u202 u203 u204 u205 u206 u207 u208 u209 u210 u211 u212 u213 u214 u215 u216 u217 u218 u219 u220 u221 : Value)
    (Hexit : Hid (∀ (v6 v8 v9 v10 v11 v12 v13 v14 v15 v16 v17 v37 v38 v39 v40 v41 v42 v43 v44 v45 v46 v47 v48 v49 v50 v51 v52 v53 v54 v55 v56 v57 v58 v59 v60 v61 v62 v63 v64 v65 v66 v67 v68 v69 v70 v71 v72 v73 v74 v75 v76 v77 v78 v79 v80 v81 v82 v83 v84 v85 v86 v87 v88 v89 v90 v91 v92 v93 v94 v95 v96 v97 v98 v99 v100 v101 v102 v103 v104 v105 v106 v107 v108 v109 v110 v111 v112 v113 v114 v115 v116 v117 v118 v119 v120 v121 v122 v123 v124 v125 v126 v127 v128 v129 v130 v131 v132 v133 v134 v135 v136 v137 v138 v139 v140 v141 v142 v143 v144 v145 v146 v147 v148 v149 v150 v151 v152 v153 v154 v155 v156 v157 v158 v159 v160 v161 v162 v163 v164 v165 v166 v167 v168 v169 v170 v171 v172 v173 v174 v175 v176 v177 v178 v179 v180 v181 v182 v183 v184 v185 v186 v187 v188 v189 v190 v191 v192 v193 v194 v195 v196 v197 v198 v199 v200 v201 v202 v203 v204 v205 v206 v207 v208 v209 v210 v211 v212 v213 v214 v215 v216 v217 v218 v219 v220 v221 : Value) (wc : World), (∃ (so : Option Addr) (m sc' : Nat) (s : Sv), v6 = .slice so m sc' ∧ Hid (StP V Z W wc (n + 1) (n + 2) (n + 3) so m sc' (i + 1) s)) → Q0 .normal ⟨List.toArray ((.slice (some ⟨gs, 0, none⟩) NN sc) :: u1 :: u2 :: (.pointer (some ⟨n + 1, 0, none⟩)) :: (.pointer (some ⟨n + 2, 0, none⟩)) :: (.pointer (some ⟨n + 3, 0, none⟩)) :: (v6) :: (.int .i64 i) :: (v8) :: (v9) :: (v10) :: (v11) :: (v12) :: (v13) :: (v14) :: (v15) :: (v16) :: (v17) :: u18 :: u19 :: u20 :: u21 :: u22 :: u23 :: u24 :: u25 :: u26 :: u27 :: u28 :: u29 :: u30 :: u31 :: u32 :: u33 :: u34 :: u35 :: u36 :: (v37) :: (v38) :: (v39) :: (v40) :: (v41) :: (v42) :: (v43) :: (v44) :: (v45) :: (v46) :: (v47) :: (v48) :: (v49) :: (v50) :: (v51) :: (v52) :: (v53) :: (v54) :: (v55) :: (v56) :: (v57) :: (v58) :: (v59) :: (v60) :: (v61) :: (v62) :: (v63) :: (v64) :: (v65) :: (v66) :: (v67) :: (v68) :: (v69) :: (v70) :: (v71) :: (v72) :: (v73) :: (v74) :: (v75) :: (v76) :: (v77) :: (v78) :: (v79) :: (v80) :: (v81) :: (v82) :: (v83) :: (v84) :: (v85) :: (v86) :: (v87) :: (v88) :: (v89) :: (v90) :: (v91) :: (v92) :: (v93) :: (v94) :: (v95) :: (v96) :: (v97) :: (v98) :: (v99) :: (v100) :: (v101) :: (v102) :: (v103) :: (v104) :: (v105) :: (v106) :: (v107) :: (v108) :: (v109) :: (v110) :: (v111) :: (v112) :: (v113) :: (v114) :: (v115) :: (v116) :: (v117) :: (v118) :: (v119) :: (v120) :: (v121) :: (v122) :: (v123) :: (v124) :: (v125) :: (v126) :: (v127) :: (v128) :: (v129) :: (v130) :: (v131) :: (v132) :: (v133) :: (v134) :: (v135) :: (v136) :: (v137) :: (v138) :: (v139) :: (v140) :: (v141) :: (v142) :: (v143) :: (v144) :: (v145) :: (v146) :: (v147) :: (v148) :: (v149) :: (v150) :: (v151) :: (v152) :: (v153) :: (v154) :: (v155) :: (v156) :: (v157) :: (v158) :: (v159) :: (v160) :: (v161) :: (v162) :: (v163) :: (v164) :: (v165) :: (v166) :: (v167) :: (v168) :: (v169) :: (v170) :: (v171) :: (v172) :: (v173) :: (v174) :: (v175) :: (v176) :: (v177) :: (v178) :: (v179) :: (v180) :: (v181) :: (v182) :: (v183) :: (v184) :: (v185) :: (v186) :: (v187) :: (v188) :: (v189) :: (v190) :: (v191) :: (v192) :: (v193) :: (v194) :: (v195) :: (v196) :: (v197) :: (v198) :: (v199) :: (v200) :: (v201) :: (v202) :: (v203) :: (v204) :: (v205) :: (v206) :: (v207) :: (v208) :: (v209) :: (v210) :: (v211) :: (v212) :: (v213) :: (v214) :: (v215) :: (v216) :: (v217) :: (v218) :: (v219) :: (v220) :: (v221) :: []), []⟩ wc)) :
    Code.wp Try.prog sw1 Q0 ⟨List.toArray ((.slice (some ⟨gs, 0, none⟩) NN sc) :: u1 :: u2 :: (.pointer (some ⟨n + 1, 0, none⟩)) :: (.pointer (some ⟨n + 2, 0, none⟩)) :: (.pointer (some ⟨n + 3, 0, none⟩)) :: (.slice so m sc') :: (.int .i64 i) :: u8 :: u9 :: u10 :: u11 :: u12 :: u13 :: u14 :: u15 :: u16 :: u17 :: u18 :: u19 :: u20 :: u21 :: u22 :: u23 :: u24 :: u25 :: u26 :: u27 :: u28 :: u29 :: u30 :: u31 :: u32 :: u33 :: u34 :: u35 :: u36 :: u37 :: u38 :: u39 :: u40 :: u41 :: u42 :: u43 :: u44 :: u45 :: u46 :: (.int .i64 p.k) :: u48 :: u49 :: u50 :: u51 :: u52 :: u53 :: u54 :: u55 :: u56 :: u57 :: u58 :: u59 :: u60 :: u61 :: u62 :: u63 :: u64 :: u65 :: u66 :: u67 :: u68 :: u69 :: u70 :: u71 :: u72 :: u73 :: u74 :: u75 :: u76 :: u77 :: u78 :: u79 :: u80 :: u81 :: u82 :: u83 :: u84 :: u85 :: u86 :: u87 :: u88 :: u89 :: u90 :: u91 :: u92 :: u93 :: u94 :: u95 :: u96 :: u97 :: u98 :: u99 :: u100 :: u101 :: u102 :: u103 :: u104 :: u105 :: u106 :: u107 :: u108 :: u109 :: u110 :: u111 :: u112 :: u113 :: u114 :: u115 :: u116 :: u117 :: u118 :: u119 :: u120 :: u121 :: u122 :: u123 :: u124 :: u125 :: u126 :: u127 :: u128 :: u129 :: u130 :: u131 :: u132 :: u133 :: u134 :: u135 :: u136 :: u137 :: u138 :: u139 :: u140 :: u141 :: u142 :: u143 :: u144 :: u145 :: u146 :: u147 :: u148 :: u149 :: u150 :: u151 :: u152 :: u153 :: u154 :: u155 :: u156 :: u157 :: u158 :: u159 :: u160 :: u161 :: u162 :: u163 :: u164 :: u165 :: u166 :: u167 :: u168 :: u169 :: u170 :: u171 :: u172 :: u173 :: u174 :: u175 :: u176 :: u177 :: u178 :: u179 :: u180 :: u181 :: u182 :: u183 :: u184 :: u185 :: u186 :: u187 :: u188 :: u189 :: u190 :: u191 :: u192 :: u193 :: u194 :: u195 :: u196 :: u197 :: u198 :: u199 :: u200 :: u201 :: u202 :: u203 :: u204 :: u205 :: u206 :: u207 :: u208 :: u209 :: u210 :: u211 :: u212 :: u213 :: u214 :: u215 :: u216 :: u217 :: u218 :: u219 :: u220 :: u221 :: []), []⟩ wr := by
  conv => arg 2; whnf
  obtain ⟨y0, y1⟩ := HSC.out.get HP.out I.out.q.w0
  have hb1 : (p.k == 1) = false := by simp [h1]
  have hb2 : (p.k == 2) = true := by simp [h2]
  have q1 := I.out.next1 (by omega)
  unfold rcV at q1
  have hlt := I.out.q.lt
  have hrt := I.out.q.rt
  go_wp2_with fail
  refine q1.mono ?_
  rintro e w1 ⟨d, a, c, o1, g1, cap1, L1, H1, rs1, rfl, hN1, hcs1⟩
  obtain ⟨w2, hw2⟩ : ∃ w2, w2 = w1.alloc (.cells #[.int .i64 a.l, .int .i64 a.x, .int .i64 a.k, .int .i64 a.t, .slice a.oa a.ol a.oc, .slice a.na a.nl a.nc] 27) := ⟨_, rfl⟩
  obtain ⟨A1, hA1⟩ : ∃ A1, A1 = w1.heap.size := ⟨_, rfl⟩
  have t2 : Tch (fun _ => False) w1 w2 := by rw [hw2]; exact Tch.alloc _ _ _
  have bA2 : w2.heap[A1]? = some (.cells (kc6 a).toArray 27 (0, 0)) := by rw [hw2, hA1]; exact alloc_new _ _
  obtain ⟨hN1b, hcs1b⟩ := hN1.box hcs1 t2
  have q2 := hN1b.next2 hcs1b I.out.q.a1 I.out.q.a2 hlt hrt (by omega)
  unfold rcV at q2
  have HW2 : Hid (w2 = _) := hw2
  have HA1 : Hid (A1 = w1.heap.size) := hA1
  have HB2 : Hid _ := bA2
  clear q1 hw2 hA1 t2 bA2 hN1 hcs1 hN1b hcs1b hlt hrt
  go_upto_region 25 with (fail)
  rw [← HW2.out, ← HA1.out]
  go_wp2_with fail
  refine q2.mono ?_
  rintro e w3 ⟨c2, nx', rfl, hN2, k3⟩
  clear q2
  have bA3 : w3.heap[A1]? = some (.cells (kc6 a).toArray 27 (0, 0)) := (k3 A1 (blk_lt HB2.out) (newO_ge (by have := HA1.out; omega))).trans HB2.out
  obtain ⟨s2, hs2⟩ : ∃ s2 : Sv, s2 = { s with o := newO o1 w1.heap.size 10, g := g1, cap := cap1, L := L1, H := H1, rs := rs1, nx := nx' } := ⟨_, rfl⟩
  have ho2 : ∀ b, w1.heap.size ≤ b → s2.o b = 10 := fun b hb => by rw [hs2]; exact newO_ge hb
  have hsA : s2.A = s.A ∧ s2.held = s.held ∧ s2.was = s.was := by rw [hs2]; exact ⟨rfl, rfl, rfl⟩
  rw [← hs2] at hN2
  have HLS : Hid (s2.ls.length ≤ i + 1 ∧ s2.rs.length ≤ i + 1) := by have h1 := hN2.p.q.lt; have h2 := hN2.p.q.rt; exact ⟨by omega, by omega⟩
  obtain ⟨w4, hw4⟩ : ∃ w4, w4 = w3.alloc (.cells #[.int .i64 c2.l, .int .i64 c2.x, .int .i64 c2.k, .int .i64 c2.t, .slice c2.oa c2.ol c2.oc, .slice c2.na c2.nl c2.nc] 27) := ⟨_, rfl⟩
  obtain ⟨A3, hA3⟩ : ∃ A3, A3 = w3.heap.size := ⟨_, rfl⟩
  have t4 : Tch (fun _ => False) w3 w4 := by rw [hw4]; exact Tch.alloc _ _ _
  have bC4 : w4.heap[A3]? = some (.cells (kc6 c2).toArray 27 (0, 0)) := by rw [hw4, hA3]; exact alloc_new _ _
  have bA4 := (t4.block A1 (blk_lt bA3) (fun h => h)).trans bA3
  have hN4 := hN2.no t4
  have q3 := alike_two hN4.ca hN4.cc
  unfold rcV at q3
  obtain ⟨x0, x1, x2, x3, x4, x5⟩ := box_get bA4
  obtain ⟨z0, z1, z2, z3, z4, z5⟩ := box_get bC4
  have hA31 : w1.heap.size ≤ A3 := by have h1 := blk_lt bA3; have h2 := HA1.out; omega
  have HW4 : Hid (w4 = _) := hw4
  have HA3 : Hid (A3 = w3.heap.size) := hA3
  have H4 : Hid _ := And.intro hN4 (And.intro bA4 (And.intro bC4 (And.intro ho2 (And.intro hsA hA31))))
  clear hw4 hA3 t4 bA3 bC4 bA4 hN2 hN4 hs2 k3 ho2 hsA hA31
  go_upto_region 26 with (fail)
  rw [← HW4.out, ← HA3.out]
  go_wp2_with fail
  refine q3.mono ?_
  rintro e w5 ⟨rfl, t5⟩
  clear q3 x0 x1 x2 x3 x4 x5 z0 z1 z2 z3 z4 z5
  obtain ⟨hN4, bA4, bC4, ho2, hsA, hA31⟩ := H4.out
  have hN5 := hN4.no t5
  have bA5 := (t5.block A1 (blk_lt bA4) (fun h => h)).trans bA4
  have bC5 := (t5.block A3 (blk_lt bC4) (fun h => h)).trans bC4
  obtain ⟨hd, hhd⟩ : ∃ hd, hd = s2.held := ⟨_, rfl⟩
  obtain ⟨ws, hws⟩ : ∃ ws, ws = s2.was := ⟨_, rfl⟩
  obtain ⟨C, hC⟩ : ∃ C : List Value → World → Prop, C = fun _ Wy => Tch (fun _ => False) w5 Wy := ⟨_, rfl⟩
  have hK : ∀ s' Wy, C s' Wy → (Wy.cell? ⟨n + 3, 1, none⟩ = some (.int .i64 hd.l) ∧ Wy.cell? ⟨n + 3, 2, none⟩ = some (.int .i64 hd.x) ∧ Wy.cell? ⟨n + 3, 3, none⟩ = some (.int .i64 hd.k) ∧ Wy.cell? ⟨n + 3, 4, none⟩ = some (.int .i64 hd.t) ∧ Wy.cell? ⟨n + 3, 5, none⟩ = some (.slice hd.oa hd.ol hd.oc) ∧ Wy.cell? ⟨n + 3, 6, none⟩ = some (.slice hd.na hd.nl hd.nc)) ∧ Wy.cell? ⟨n + 3, 7, none⟩ = some (.int .i64 ws.l) ∧ Wy.cell? ⟨n + 3, 8, none⟩ = some (.int .i64 ws.x) ∧ Wy.cell? ⟨n + 3, 9, none⟩ = some (.int .i64 ws.k) ∧ Wy.cell? ⟨n + 3, 10, none⟩ = some (.int .i64 ws.t) ∧ Wy.cell? ⟨n + 3, 11, none⟩ = some (.slice ws.oa ws.ol ws.oc) ∧ Wy.cell? ⟨n + 3, 12, none⟩ = some (.slice ws.na ws.nl ws.nc) := fun s' Wy h => by
    rw [hC] at h
    rw [hhd, hws]
    exact bk_get (hN5.no h).p.q.bk
  have h6 : ∀ {s'} Wy, C s' Wy → Calls Try.prog 15 #[.agg #[.int .i64 hd.l, .int .i64 hd.x, .int .i64 hd.k, .int .i64 hd.t, .slice hd.oa hd.ol hd.oc, .slice hd.na hd.nl hd.nc], .agg #[.int .i64 ws.l, .int .i64 ws.x, .int .i64 ws.k, .int .i64 ws.t, .slice ws.oa ws.ol ws.oc, .slice ws.na ws.nl ws.nc]] Wy fun x w' => x = .returned (.bool true) ∧ C s' w' := fun {s'} Wy h => by
    rw [hC] at h
    have hh := (hN5.no h).p.q.ch
    rw [hhd, hws]
    refine (alike_two hh.h hh.s).mono ?_
    rintro x w' ⟨rfl, t'⟩
    exact ⟨rfl, by rw [hC]; exact h.trans' t'⟩
  have h0' : C [] w5.drew := by rw [hC]; exact (Tch.refl _ _).drew
  have Hfin : Hid (∀ s' Wy, C s' Wy → Tch (fun _ => False) w5 Wy) := fun s' Wy h => by rw [hC] at h; exact h
  have H5 : Hid _ := And.intro hN5 (And.intro bA5 (And.intro bC5 (And.intro ho2 (And.intro hsA (And.intro hA31 (And.intro hhd hws))))))
  clear hC hN4 bA4 bC4 ho2 hsA hA31 hN5 bA5 bC5 hhd hws t5
  go_wp2_with fail
  refine wp_region_ordv [] C 9 [0, 1, 2, 3, 4, 5, 6, 7, 8] (by kernel_rfl) (by kernel_rfl) h0' ?_
  clear h0'
  refine ordv_read rfl (by go_simp) (by rfl) ?_
  apply Exists.intro
  refine ⟨fun s' Wy hW b K Q hK' => ?_, fun K hK' => ?_⟩
  · obtain ⟨⟨x0, x1, x2, x3, x4, x5⟩, z0, z1, z2, z3, z4, z5⟩ := hK _ Wy hW
    go_simp
    exact hK' Wy hW
  go_simp
  refine hK' _ ?_
  clear hK' K
  refine ordv_read rfl (by go_simp) (by rfl) ?_
  apply Exists.intro
  refine ⟨fun s' Wy hW b K Q hK' => ?_, fun K hK' => ?_⟩
  · obtain ⟨⟨x0, x1, x2, x3, x4, x5⟩, z0, z1, z2, z3, z4, z5⟩ := hK _ Wy hW
    go_simp
    exact hK' Wy hW
  go_simp
  refine hK' _ ?_
  clear hK' K
  refine ordv_read rfl (by go_simp) (by rfl) ?_
  apply Exists.intro
  refine ⟨fun s' Wy hW b K Q hK' => ?_, fun K hK' => ?_⟩
  · obtain ⟨⟨x0, x1, x2, x3, x4, x5⟩, z0, z1, z2, z3, z4, z5⟩ := hK _ Wy hW
    go_simp
    exact hK' Wy hW
  go_simp
  refine hK' _ ?_
  clear hK' K
  refine ordv_read rfl (by go_simp) (by rfl) ?_
  apply Exists.intro
  refine ⟨fun s' Wy hW b K Q hK' => ?_, fun K hK' => ?_⟩
  · obtain ⟨⟨x0, x1, x2, x3, x4, x5⟩, z0, z1, z2, z3, z4, z5⟩ := hK _ Wy hW
    go_simp
    exact hK' Wy hW
  go_simp
  refine hK' _ ?_
  clear hK' K
  refine ordv_read rfl (by go_simp) (by rfl) ?_
  apply Exists.intro
  refine ⟨fun s' Wy hW b K Q hK' => ?_, fun K hK' => ?_⟩
  · obtain ⟨⟨x0, x1, x2, x3, x4, x5⟩, z0, z1, z2, z3, z4, z5⟩ := hK _ Wy hW
    go_simp
    exact hK' Wy hW
  go_simp
  refine hK' _ ?_
  clear hK' K
  refine ordv_read rfl (by go_simp) (by rfl) ?_
  apply Exists.intro
  refine ⟨fun s' Wy hW b K Q hK' => ?_, fun K hK' => ?_⟩
  · obtain ⟨⟨x0, x1, x2, x3, x4, x5⟩, z0, z1, z2, z3, z4, z5⟩ := hK _ Wy hW
    go_simp
    exact hK' Wy hW
  go_simp
  refine hK' _ ?_
  clear hK' K
  refine ordv_read rfl (by go_simp) (by rfl) ?_
  apply Exists.intro
  refine ⟨fun s' Wy hW b K Q hK' => ?_, fun K hK' => ?_⟩
  · obtain ⟨⟨x0, x1, x2, x3, x4, x5⟩, z0, z1, z2, z3, z4, z5⟩ := hK _ Wy hW
    go_simp
    exact hK' Wy hW
  go_simp
  refine hK' _ ?_
  clear hK' K
  refine ordv_read rfl (by go_simp) (by rfl) ?_
  apply Exists.intro
  refine ⟨fun s' Wy hW b K Q hK' => ?_, fun K hK' => ?_⟩
  · obtain ⟨⟨x0, x1, x2, x3, x4, x5⟩, z0, z1, z2, z3, z4, z5⟩ := hK _ Wy hW
    go_simp
    exact hK' Wy hW
  go_simp
  refine hK' _ ?_
  clear hK' K
  refine ordv_read rfl (by go_simp) (by rfl) ?_
  apply Exists.intro
  refine ⟨fun s' Wy hW b K Q hK' => ?_, fun K hK' => ?_⟩
  · go_simp
    go_at_call 15
    refine (h6 Wy hW).mono ?_
    rintro x w' ⟨rfl, hw'⟩
    exact hK' w' hw'
  go_simp
  refine hK' _ ?_
  clear hK' K
  refine ordv_nil ?_
  intro w6 hw6
  have t6 := Hfin.out _ w6 hw6
  clear hK hw6 Hfin h6
  obtain ⟨hN5, bA5, bC5, ho2, hsA, hA31, hhd, hws⟩ := H5.out
  have hN6 := hN5.no t6
  have bA6 := (t6.block A1 (blk_lt bA5) (fun h => h)).trans bA5
  have bC6 := (t6.block A3 (blk_lt bC5) (fun h => h)).trans bC5
  have q4 := hN6.rows (by omega)
  rw [← hhd, ← hws] at q4
  obtain ⟨⟨-, -, -, -, x5, -⟩, -⟩ := bk_get hN6.p.q.bk
  rw [← hhd] at x5
  have H6 : Hid _ := And.intro bA6 (And.intro bC6 (And.intro ho2 (And.intro hsA hA31)))
  clear hN5 bA5 bC5 hsA ho2 hA31 hhd hws t6 hN6 bA6 bC6
  go_wp2_with fail
  refine q4.mono ?_
  rintro e w7 ⟨rfl, ⟨rv1, hb7⟩, k7, q5⟩
  obtain ⟨⟨-, -, -, -, -, x6⟩, -⟩ := bk_get hb7
  clear q4 x5 hb7 k7
  go_wp2_with fail
  refine q5.mono ?_
  rintro e w8 ⟨rfl, o8, rv8, A8, hN8, hA8, k8⟩
  clear q5 x6
  obtain ⟨bA6, bC6, ho2, hsA, hA31⟩ := H6.out
  have bA8 := (k8 A1 (blk_lt bA6) (ho2 A1 (by have := HA1.out; omega))).1.trans bA6
  have bC8 := (k8 A3 (blk_lt bC6) (ho2 A3 hA31)).1.trans bC6
  have q6 := alike_two hN8.ca hN8.cc
  unfold rcV at q6
  obtain ⟨x0, x1, x2, x3, x4, x5⟩ := box_get bA8
  obtain ⟨z0, z1, z2, z3, z4, z5⟩ := box_get bC8
  have HA8 : Hid (A8.length = s.A.length + 20) := by rw [← hsA.1]; exact hA8
  have H8 : Hid _ := And.intro hN8 (And.intro bA8 bC8)
  clear bA6 bC6 ho2 hsA hA31 hN8 bA8 bC8 hA8 k8
  go_wp2_with fail
  refine q6.mono ?_
  rintro e w9 ⟨rfl, t9⟩
  clear q6 x0 x1 x2 x3 x4 x5 z0 z1 z2 z3 z4 z5
  obtain ⟨hN8, bA8, bC8⟩ := H8.out
  have bk9 := (t9.block (n + 3) (blk_lt hN8.bk) (fun h => h)).trans hN8.bk
  have hN9 := hN8.step t9 (fun b _ h => h.elim) (fun _ _ => rfl) bk9
  have bA9 := (t9.block A1 (blk_lt bA8) (fun h => h)).trans bA8
  have bC9 := (t9.block A3 (blk_lt bC8) (fun h => h)).trans bC8
  obtain ⟨w10, hw10⟩ : ∃ w10, w10 = (((((w9.setCell ⟨n + 3, 1, none⟩ (.int .i64 a.l)).setCell ⟨n + 3, 2, none⟩ (.int .i64 a.x)).setCell ⟨n + 3, 3, none⟩ (.int .i64 a.k)).setCell ⟨n + 3, 4, none⟩ (.int .i64 a.t)).setCell ⟨n + 3, 5, none⟩ (.slice a.oa a.ol a.oc)).setCell ⟨n + 3, 6, none⟩ (.slice a.na a.nl a.nc) := ⟨_, rfl⟩
  obtain ⟨hN10, t10⟩ := hN9.hold hw10
  have bC10 := (t10.block A3 (blk_lt bC9) (ne_ty bC9 bk9 (by decide))).trans bC9
  have q7 := copied_any c2 (DW W c).1 (DW W c).2 w10 hN10.cc.ro hN10.cc.rn
  unfold rcV at q7
  obtain ⟨x0, x1, x2, x3, x4, x5⟩ := box_get bA9
  obtain ⟨z0, z1, z2, z3, z4, z5⟩ := box_get bC10
  obtain ⟨⟨m1, m2, m3, m4, m5, m6⟩, -⟩ := bk_get bk9
  have fm := blk_frozen bk9
  have HW10 : Hid (w10 = _) := hw10
  have H10 : Hid _ := hN10
  clear hN8 bA8 bC8 bk9 hN9 bA9 bC9 hw10 hN10 t10 bC10 t9
  go_upto_region 32 with (fail)
  rw [← HW10.out]
  clear x0 x1 x2 x3 x4 x5 m1 m2 m3 m4 m5 m6 fm
  go_wp2_with fail
  refine q7.mono ?_
  rintro e w11 ⟨c3, rfl, sm3, ow3, t11⟩
  clear q7 z0 z1 z2 z3 z4 z5
  have hN10 := H10.out
  have bk11 := (t11.block (n + 3) (blk_lt hN10.bk) (fun h => h)).trans hN10.bk
  have hN11 := hN10.step (o' := newO o8 w10.heap.size 9) t11 (fun b _ h => h.elim) (fun b hb => newO_lt hb) bk11
  obtain ⟨w12, hw12⟩ : ∃ w12, w12 = (((((w11.setCell ⟨n + 3, 7, none⟩ (.int .i64 c3.l)).setCell ⟨n + 3, 8, none⟩ (.int .i64 c3.x)).setCell ⟨n + 3, 9, none⟩ (.int .i64 c3.k)).setCell ⟨n + 3, 10, none⟩ (.int .i64 c3.t)).setCell ⟨n + 3, 11, none⟩ (.slice c3.oa c3.ol c3.oc)).setCell ⟨n + 3, 12, none⟩ (.slice c3.na c3.nl c3.nc) := ⟨_, rfl⟩
  obtain ⟨hN12, t12⟩ := hN11.wasd hw12
  have cp3 : Cpy W 0 w12 c c3 := (Cpy.keep ⟨hN10.cc.sm.trans sm3, ow3.low (Nat.zero_le _), hN10.cc.ch⟩ t12 (fun b hb e => by
    obtain ⟨cv, hcv⟩ : ∃ cur, w11.heap[b]? = some (.cells cur 76 (0, 0)) := hb.elim (fun e => own_ty ow3.o e) (fun e => own_ty ow3.n e)
    subst e; exact ne_ty hcv bk11 (by decide) rfl))
  have HS : Hid (∃ s', StP V Z W w12 (n + 1) (n + 2) (n + 3) so m sc' (i + 1) s' ∧ s'.ls = s2.ls) := hN12.done cp3 (n := w10.heap.size) (fun b hb => (ow3.lt hb).1) (fun b hb _ => newO_ge hb) (by have := HA8.out; have := I.out.q.a1; omega) (by have := HA8.out; have := I.out.q.a2; omega) HLS.out.1 HLS.out.2
  obtain ⟨-, m1, m2, m3, m4, m5, m6⟩ := bk_get bk11
  have fm := blk_frozen bk11
  have HW12 : Hid (w12 = _) := hw12
  clear hN10 bk11 hN11 hw12 hN12 t12 cp3 sm3 ow3 t11
  go_upto_region 33 with (fail)
  rw [← HW12.out]
  clear m1 m2 m3 m4 m5 m6 fm
  obtain ⟨s9, hs9, -⟩ := HS.out
  have HS9 : Hid _ := hs9
  clear hs9
  cases d with
  | true =>
    go_wp2_with fail
    exact Hexit.out _ _ _ _ _ _ _ _ _ _ _ _ _ _ _ _ _ _ _ _ _ _ _ _ _ _ _ _ _ _ _ _ _ _ _ _ _ _ _ _ _ _ _ _ _ _ _ _ _ _ _ _ _ _ _ _ _ _ _ _ _ _ _ _ _ _ _ _ _ _ _ _ _ _ _ _ _ _ _ _ _ _ _ _ _ _ _ _ _ _ _ _ _ _ _ _ _ _ _ _ _ _ _ _ _ _ _ _ _ _ _ _ _ _ _ _ _ _ _ _ _ _ _ _ _ _ _ _ _ _ _ _ _ _ _ _ _ _ _ _ _ _ _ _ _ _ _ _ _ _ _ _ _ _ _ _ _ _ _ _ _ _ _ _ _ _ _ _ _ _ _ _ _ _ _ _ _ _ _ _ _ _ _ _ _ _ _ _ _ _ _ _ _ _ _ _ _ ⟨so, m, sc', s9, rfl, HS9⟩
  | false =>
    go_wp2_with fail
    exact Hexit.out _ _ _ _ _ _ _ _ _ _ _ _ _ _ _ _ _ _ _ _ _ _ _ _ _ _ _ _ _ _ _ _ _ _ _ _ _ _ _ _ _ _ _ _ _ _ _ _ _ _ _ _ _ _ _ _ _ _ _ _ _ _ _ _ _ _ _ _ _ _ _ _ _ _ _ _ _ _ _ _ _ _ _ _ _ _ _ _ _ _ _ _ _ _ _ _ _ _ _ _ _ _ _ _ _ _ _ _ _ _ _ _ _ _ _ _ _ _ _ _ _ _ _ _ _ _ _ _ _ _ _ _ _ _ _ _ _ _ _ _ _ _ _ _ _ _ _ _ _ _ _ _ _ _ _ _ _ _ _ _ _ _ _ _ _ _ _ _ _ _ _ _ _ _ _ _ _ _ _ _ _ _ _ _ _ _ _ _ _ _ _ _ _ _ _ _ _ ⟨so, m, sc', s9, rfl, HS9⟩
end Go.Proofs.Ytmnhkgibplnnnaa
