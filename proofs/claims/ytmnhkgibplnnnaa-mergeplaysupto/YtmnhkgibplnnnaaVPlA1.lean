import Derived.Test.YtmnhkgibplnnnaaVPlA4
/- MergePlays: the arm 1 of its law's switch. -/
namespace Go.Proofs.Ytmnhkgibplnnnaa
open Go.RowKit Go

set_option maxHeartbeats 16000000 in
set_option maxRecDepth 2000000 in
theorem arm1 (V W wr : World) (Z : Nat → Prop) (n gs sc NN i m sc' : Nat) (so : Option Addr) (ops : List Opd) (p : Opd) (s : Sv) (_hNN2 : NN ≤ 1048579) (_hi : i < NN) (_hi' : (i : Int) < (NN : Int)) (_hNc : NN ≤ sc) (_hscm : sc ≤ 9223372036854775807)
    (HSC : Hid (SC V Z W gs (lits (n + 4) ++ ops))) (HP : Hid ((lits (n + 4) ++ ops)[i]? = some p)) (I : Hid (StP V Z W wr (n + 1) (n + 2) (n + 3) so m sc' i s)) (h1 : p.k = 1) (Q0 : Exit → Act → World → Prop)
    (u1 u2 u8 u9 u10 u11 u12 u13 u14 u15 u16 u17 u18 u19 u20 u21 u22 u23 u24 u25 u26 u27 u28 u29 u30 u31 u32 u33 u34 u35 u36 u37 u38 u39 u40 u41 u42 u43 u44 u45 u46 u48 u49 u50 u51 u52 u53 u54 u55 u56 u57 u58 u59 u60 u61 u62 u63 u64 u65 u66 u67 u68 u69 u70 u71 u72 u73 u74 u75 u76 u77 u78 u79 u80 u81 u82 u83 u84 u85 u86 u87 u88 u89 u90 u91 u92 u93 u94 u95 u96 u97 u98 u99 u100 u101 u102 u103 u104 u105 u106 u107 u108 u109 u110 u111 u112 u113 u114 u115 u116 u117 u118 u119 u120 u121 u122 u123 u124 u125 u126 u127 u128 u129 u130 u131 u132 u133 u134 u135 u136 u137 u138 u139 u140 u141 u142 u143 u144 u145 u146 u147 u148 u149 u150 u151 u152 u153 u154 u155 u156 u157 u158 u159 u160 u161 u162 u163 u164 u165 u166 u167 u168 u169 u170 u171 u172 u173 u174 u175 u176 u177 u178 u179 u180 u181 u182 u183 u184 u185 u186 u187 u188 u189 u190 u191 u192 u193 u194 u195 u196 u197 u198 u199 u200 u201 u202 u203 u204 u205 u206 u207 u208 u209 u210 u211 u212 u213 u214 u215 u216 u217 u218 u219 u220 u221 : Value)
    (Hexit : Hid (∀ (v6 v8 v9 v10 v11 v12 v13 v14 v15 v16 v17 v37 v38 v39 v40 v41 v42 v43 v44 v45 v46 v47 v48 v49 v50 v51 v52 v53 v54 v55 v56 v57 v58 v59 v60 v61 v62 v63 v64 v65 v66 v67 v68 v69 v70 v71 v72 v73 v74 v75 v76 v77 v78 v79 v80 v81 v82 v83 v84 v85 v86 v87 v88 v89 v90 v91 v92 v93 v94 v95 v96 v97 v98 v99 v100 v101 v102 v103 v104 v105 v106 v107 v108 v109 v110 v111 v112 v113 v114 v115 v116 v117 v118 v119 v120 v121 v122 v123 v124 v125 v126 v127 v128 v129 v130 v131 v132 v133 v134 v135 v136 v137 v138 v139 v140 v141 v142 v143 v144 v145 v146 v147 v148 v149 v150 v151 v152 v153 v154 v155 v156 v157 v158 v159 v160 v161 v162 v163 v164 v165 v166 v167 v168 v169 v170 v171 v172 v173 v174 v175 v176 v177 v178 v179 v180 v181 v182 v183 v184 v185 v186 v187 v188 v189 v190 v191 v192 v193 v194 v195 v196 v197 v198 v199 v200 v201 v202 v203 v204 v205 v206 v207 v208 v209 v210 v211 v212 v213 v214 v215 v216 v217 v218 v219 v220 v221 : Value) (wc : World), (∃ (so : Option Addr) (m sc' : Nat) (s : Sv), v6 = .slice so m sc' ∧ Hid (StP V Z W wc (n + 1) (n + 2) (n + 3) so m sc' (i + 1) s)) → Q0 .normal ⟨List.toArray ((.slice (some ⟨gs, 0, none⟩) NN sc) :: u1 :: u2 :: (.pointer (some ⟨n + 1, 0, none⟩)) :: (.pointer (some ⟨n + 2, 0, none⟩)) :: (.pointer (some ⟨n + 3, 0, none⟩)) :: (v6) :: (.int .i64 i) :: (v8) :: (v9) :: (v10) :: (v11) :: (v12) :: (v13) :: (v14) :: (v15) :: (v16) :: (v17) :: u18 :: u19 :: u20 :: u21 :: u22 :: u23 :: u24 :: u25 :: u26 :: u27 :: u28 :: u29 :: u30 :: u31 :: u32 :: u33 :: u34 :: u35 :: u36 :: (v37) :: (v38) :: (v39) :: (v40) :: (v41) :: (v42) :: (v43) :: (v44) :: (v45) :: (v46) :: (v47) :: (v48) :: (v49) :: (v50) :: (v51) :: (v52) :: (v53) :: (v54) :: (v55) :: (v56) :: (v57) :: (v58) :: (v59) :: (v60) :: (v61) :: (v62) :: (v63) :: (v64) :: (v65) :: (v66) :: (v67) :: (v68) :: (v69) :: (v70) :: (v71) :: (v72) :: (v73) :: (v74) :: (v75) :: (v76) :: (v77) :: (v78) :: (v79) :: (v80) :: (v81) :: (v82) :: (v83) :: (v84) :: (v85) :: (v86) :: (v87) :: (v88) :: (v89) :: (v90) :: (v91) :: (v92) :: (v93) :: (v94) :: (v95) :: (v96) :: (v97) :: (v98) :: (v99) :: (v100) :: (v101) :: (v102) :: (v103) :: (v104) :: (v105) :: (v106) :: (v107) :: (v108) :: (v109) :: (v110) :: (v111) :: (v112) :: (v113) :: (v114) :: (v115) :: (v116) :: (v117) :: (v118) :: (v119) :: (v120) :: (v121) :: (v122) :: (v123) :: (v124) :: (v125) :: (v126) :: (v127) :: (v128) :: (v129) :: (v130) :: (v131) :: (v132) :: (v133) :: (v134) :: (v135) :: (v136) :: (v137) :: (v138) :: (v139) :: (v140) :: (v141) :: (v142) :: (v143) :: (v144) :: (v145) :: (v146) :: (v147) :: (v148) :: (v149) :: (v150) :: (v151) :: (v152) :: (v153) :: (v154) :: (v155) :: (v156) :: (v157) :: (v158) :: (v159) :: (v160) :: (v161) :: (v162) :: (v163) :: (v164) :: (v165) :: (v166) :: (v167) :: (v168) :: (v169) :: (v170) :: (v171) :: (v172) :: (v173) :: (v174) :: (v175) :: (v176) :: (v177) :: (v178) :: (v179) :: (v180) :: (v181) :: (v182) :: (v183) :: (v184) :: (v185) :: (v186) :: (v187) :: (v188) :: (v189) :: (v190) :: (v191) :: (v192) :: (v193) :: (v194) :: (v195) :: (v196) :: (v197) :: (v198) :: (v199) :: (v200) :: (v201) :: (v202) :: (v203) :: (v204) :: (v205) :: (v206) :: (v207) :: (v208) :: (v209) :: (v210) :: (v211) :: (v212) :: (v213) :: (v214) :: (v215) :: (v216) :: (v217) :: (v218) :: (v219) :: (v220) :: (v221) :: []), []⟩ wc)) :
    Code.wp Try.prog sw1 Q0 ⟨List.toArray ((.slice (some ⟨gs, 0, none⟩) NN sc) :: u1 :: u2 :: (.pointer (some ⟨n + 1, 0, none⟩)) :: (.pointer (some ⟨n + 2, 0, none⟩)) :: (.pointer (some ⟨n + 3, 0, none⟩)) :: (.slice so m sc') :: (.int .i64 i) :: u8 :: u9 :: u10 :: u11 :: u12 :: u13 :: u14 :: u15 :: u16 :: u17 :: u18 :: u19 :: u20 :: u21 :: u22 :: u23 :: u24 :: u25 :: u26 :: u27 :: u28 :: u29 :: u30 :: u31 :: u32 :: u33 :: u34 :: u35 :: u36 :: u37 :: u38 :: u39 :: u40 :: u41 :: u42 :: u43 :: u44 :: u45 :: u46 :: (.int .i64 p.k) :: u48 :: u49 :: u50 :: u51 :: u52 :: u53 :: u54 :: u55 :: u56 :: u57 :: u58 :: u59 :: u60 :: u61 :: u62 :: u63 :: u64 :: u65 :: u66 :: u67 :: u68 :: u69 :: u70 :: u71 :: u72 :: u73 :: u74 :: u75 :: u76 :: u77 :: u78 :: u79 :: u80 :: u81 :: u82 :: u83 :: u84 :: u85 :: u86 :: u87 :: u88 :: u89 :: u90 :: u91 :: u92 :: u93 :: u94 :: u95 :: u96 :: u97 :: u98 :: u99 :: u100 :: u101 :: u102 :: u103 :: u104 :: u105 :: u106 :: u107 :: u108 :: u109 :: u110 :: u111 :: u112 :: u113 :: u114 :: u115 :: u116 :: u117 :: u118 :: u119 :: u120 :: u121 :: u122 :: u123 :: u124 :: u125 :: u126 :: u127 :: u128 :: u129 :: u130 :: u131 :: u132 :: u133 :: u134 :: u135 :: u136 :: u137 :: u138 :: u139 :: u140 :: u141 :: u142 :: u143 :: u144 :: u145 :: u146 :: u147 :: u148 :: u149 :: u150 :: u151 :: u152 :: u153 :: u154 :: u155 :: u156 :: u157 :: u158 :: u159 :: u160 :: u161 :: u162 :: u163 :: u164 :: u165 :: u166 :: u167 :: u168 :: u169 :: u170 :: u171 :: u172 :: u173 :: u174 :: u175 :: u176 :: u177 :: u178 :: u179 :: u180 :: u181 :: u182 :: u183 :: u184 :: u185 :: u186 :: u187 :: u188 :: u189 :: u190 :: u191 :: u192 :: u193 :: u194 :: u195 :: u196 :: u197 :: u198 :: u199 :: u200 :: u201 :: u202 :: u203 :: u204 :: u205 :: u206 :: u207 :: u208 :: u209 :: u210 :: u211 :: u212 :: u213 :: u214 :: u215 :: u216 :: u217 :: u218 :: u219 :: u220 :: u221 :: []), []⟩ wr := by
  conv => arg 2; whnf
  obtain ⟨y0, y1⟩ := HSC.out.get HP.out I.out.q.w0
  have hb1 : (p.k == 1) = true := by simp [h1]
  clear h1
  obtain ⟨sb, hsb⟩ : ∃ sb, sb = wr.heap.size := ⟨_, rfl⟩
  obtain ⟨wz, hwz⟩ : ∃ wz, wz = wr.alloc (.cells #[.slice none 0 0, .int .i64 0, .bool false] 48) := ⟨_, rfl⟩
  have HK0 : Hid (K1 W wr sb p.u 0 0 wz none 0 [] none 0 []) := by rw [hsb, hwz]; exact K1.begin W wr p.u
  have HOP : Hid (OpS V Z W p) := HSC.out.el p (List.mem_of_getElem? HP.out)
  obtain ⟨mu, hmu⟩ : ∃ mu, mu = p.u.length := ⟨_, rfl⟩
  have Hmu : Hid (mu = p.u.length) := hmu
  have hmu2 : mu ≤ 1048576 := by rw [hmu]; exact HOP.out.bd
  have hmuc : mu ≤ p.uc := by rw [hmu]; exact HOP.out.len
  have hucm := HOP.out.cap
  have HWZ : Hid (wz = _) := hwz
  have HSB : Hid (sb = wr.heap.size) := hsb
  clear hwz hsb hmu
  go_upto_region 14 with (fail)
  rw [← HWZ.out, ← HSB.out]
  clear y0 y1
  go_wp2_with fail
  go_loopg [9, 10] mu (fun kx s9 s10 wx => ∃ (k : Nat) (la : Option Addr) (lc : Nat) (L' : List Rc) (lo : Option Addr) (ld : Nat) (l' : List Rc), s9 = .slice lo k ld ∧ s10 = .int .i64 k ∧ mu - k ≤ kx ∧ k ≤ mu ∧ Hid (K1 W wr sb p.u k k wx la lc L' lo ld l'))
  case atStart => exact ⟨0, none, 0, [], none, 0, [], rfl, rfl, by omega, by omega, HK0⟩
  case round =>
    rename World => wx
    obtain ⟨k, la, lc, L', lo, ld, l', rfl, rfl, hkk, hkm, J⟩ := hrel
    have tvz : Tch (fun b => ¬ Z b) V wx := I.out.q.vz J.out.tch
    obtain ⟨-, y1⟩ := HSC.out.get HP.out tvz
    rw [← Hmu.out] at y1
    by_cases hk2 : k < mu
    · skip
      have hk2' : (k : Int) < (mu : Int) := by omega
      obtain ⟨c, hc⟩ : ∃ c, p.u[k]? = some c := ⟨_, List.getElem?_eq_getElem (by have := Hmu.out; omega)⟩
      obtain ⟨ge, oe, hzg, hua, hx, hch, rdo, rdn⟩ := HOP.out.get hc tvz
      rw [hua] at y1
      obtain ⟨x0, x1, x2, x3, x4, x5⟩ := And.intro (hx 0 _ rfl) (And.intro (hx 1 _ rfl) (And.intro (hx 2 _ rfl) (And.intro (hx 3 _ rfl) (And.intro (hx 4 _ rfl) (hx 5 _ rfl)))))
      rw [Nat.add_zero] at x0
      have y0 : wx.cell? ⟨sb, 0, none⟩ = some (.slice la k lc) := blk_cell J.out.blk 0
      obtain ⟨i0, hi0, hz0, hz1, hz2⟩ := info_parts info_ch
      have nsb : ¬ (Value.slice la k lc).ownBlock = some sb := fun e => by obtain ⟨cu, hcu⟩ := own_ty J.out.ow1 e; exact ne_ty hcu J.out.blk (by decide) rfl
      have nzz : ∀ g, Z g → ¬ (Value.slice la k lc).ownBlock = some g := fun g hz e => by have h1 := (J.out.ow1.lt g e).1; have h2 := (I.out.q.lo g hz).2; have h3 := I.out.q.w0.size; omega
      have HK1 : Hid (∀ Wy, Tch (fun g => (Value.slice la k lc).ownBlock = some g) wx Wy → Wy.cell? ⟨sb, 0, none⟩ = some (.slice la k lc) ∧ Wy.cell? ⟨gs, i * 2 + 1, none⟩ = some (.slice (some ⟨ge, oe, none⟩) mu p.uc) ∧ Wy.cell? ⟨ge, oe + k * 6, none⟩ = some (.int .i64 c.l) ∧ Wy.cell? ⟨ge, oe + k * 6 + 1, none⟩ = some (.int .i64 c.x) ∧ Wy.cell? ⟨ge, oe + k * 6 + 2, none⟩ = some (.int .i64 c.k) ∧ Wy.cell? ⟨ge, oe + k * 6 + 3, none⟩ = some (.int .i64 c.t) ∧ Wy.cell? ⟨ge, oe + k * 6 + 4, none⟩ = some (.slice c.oa c.ol c.oc) ∧ Wy.cell? ⟨ge, oe + k * 6 + 5, none⟩ = some (.slice c.na c.nl c.nc)) := fun Wy ty => by
        have hzs : Z gs := HSC.out.zg
        exact ⟨(ty.cell (p := ⟨sb, 0, none⟩) (cell_lt y0) nsb).trans y0, (ty.cell (p := ⟨gs, i * 2 + 1, none⟩) (cell_lt y1) (nzz _ hzs)).trans y1,
          (ty.cell (p := ⟨ge, oe + k * 6, none⟩) (cell_lt x0) (nzz _ hzg)).trans x0, (ty.cell (p := ⟨ge, oe + k * 6 + 1, none⟩) (cell_lt x1) (nzz _ hzg)).trans x1, (ty.cell (p := ⟨ge, oe + k * 6 + 2, none⟩) (cell_lt x2) (nzz _ hzg)).trans x2,
          (ty.cell (p := ⟨ge, oe + k * 6 + 3, none⟩) (cell_lt x3) (nzz _ hzg)).trans x3, (ty.cell (p := ⟨ge, oe + k * 6 + 4, none⟩) (cell_lt x4) (nzz _ hzg)).trans x4, (ty.cell (p := ⟨ge, oe + k * 6 + 5, none⟩) (cell_lt x5) (nzz _ hzg)).trans x5⟩
      obtain ⟨C, hC⟩ : ∃ C : List Value → World → Prop, C = fun s Wy => match s with
        | [] => Tch (fun _ => False) wx Wy
        | [x] => ∃ c', x = rcV c' ∧ Cpy W wx.heap.size Wy c c' ∧ Tch (fun _ => False) wx Wy
        | [x, y] => ∃ c' g, x = rcV c' ∧ y = .slice (some ⟨g, 0, none⟩) 1 1 ∧ At Wy g 0 (kc6 c') ∧ Cpy W wx.heap.size Wy c c' ∧ Tch (fun _ => False) wx Wy
        | [_, _, z] => ∃ c' o5 c5, z = .slice o5 (k + 1) c5 ∧ Wy.ownsRow wr.heap.size 27 6 z (k + 1) (kcl (L' ++ [c'])) ∧ Cpy W wx.heap.size Wy c c' ∧ (∀ g, z.ownBlock = some g → (Value.slice la k lc).ownBlock = some g ∨ wx.heap.size ≤ g) ∧ Tch (fun g => (Value.slice la k lc).ownBlock = some g) wx Wy
        | _ => False := ⟨_, rfl⟩
      have hK : ∀ s Wy, C s Wy → Wy.cell? ⟨sb, 0, none⟩ = some (.slice la k lc) ∧ Wy.cell? ⟨gs, i * 2 + 1, none⟩ = some (.slice (some ⟨ge, oe, none⟩) mu p.uc) ∧ Wy.cell? ⟨ge, oe + k * 6, none⟩ = some (.int .i64 c.l) ∧ Wy.cell? ⟨ge, oe + k * 6 + 1, none⟩ = some (.int .i64 c.x) ∧ Wy.cell? ⟨ge, oe + k * 6 + 2, none⟩ = some (.int .i64 c.k) ∧ Wy.cell? ⟨ge, oe + k * 6 + 3, none⟩ = some (.int .i64 c.t) ∧ Wy.cell? ⟨ge, oe + k * 6 + 4, none⟩ = some (.slice c.oa c.ol c.oc) ∧ Wy.cell? ⟨ge, oe + k * 6 + 5, none⟩ = some (.slice c.na c.nl c.nc) := fun s Wy h => by
        rw [hC] at h
        match s, h with
        | [], h => exact HK1.out Wy (h.mono (fun _ _ h => h.elim))
        | [_], ⟨_, _, _, h⟩ => exact HK1.out Wy (h.mono (fun _ _ h => h.elim))
        | [_, _], ⟨_, _, _, _, _, _, h⟩ => exact HK1.out Wy (h.mono (fun _ _ h => h.elim))
        | [_, _, _], ⟨_, _, _, _, _, _, _, h⟩ => exact HK1.out Wy h
      have h6 : ∀ Wy, C [] Wy → Calls Try.prog 9 #[.agg #[.int .i64 c.l, .int .i64 c.x, .int .i64 c.k, .int .i64 c.t, .slice c.oa c.ol c.oc, .slice c.na c.nl c.nc]] Wy fun x w' => ∃ c' : Rc, x = .returned (.agg #[.int .i64 c'.l, .int .i64 c'.x, .int .i64 c'.k, .int .i64 c'.t, .slice c'.oa c'.ol c'.oc, .slice c'.na c'.nl c'.nc]) ∧ C [.agg #[.int .i64 c'.l, .int .i64 c'.x, .int .i64 c'.k, .int .i64 c'.t, .slice c'.oa c'.ol c'.oc, .slice c'.na c'.nl c'.nc]] w' := fun Wy h => by
        rw [hC] at h
        refine (copied_any c (DW W c).1 (DW W c).2 Wy (rdo.no h) (rdn.no h)).mono ?_
        rintro x w' ⟨c', rfl, hs, ho, t'⟩
        exact ⟨c', rfl, by rw [hC]; exact ⟨c', rfl, ⟨hs, ho.low h.size, hch⟩, h.trans' t'⟩⟩
      have h7 : ∀ (c' : Rc) Wy, C [rcV c'] Wy → C [rcV c', .slice (some ⟨Wy.heap.size, 0, none⟩) 1 1] (Wy.alloc (.cells #[.int .i64 c'.l, .int .i64 c'.x, .int .i64 c'.k, .int .i64 c'.t, .slice c'.oa c'.ol c'.oc, .slice c'.na c'.nl c'.nc] 27)) := fun c' Wy h => by
        rw [hC] at h ⊢
        obtain ⟨d, e, r, t⟩ := h
        have e' : c' = d := by
          obtain ⟨_, _, _, _, _, _, _, _, _, _⟩ := c'
          obtain ⟨_, _, _, _, _, _, _, _, _, _⟩ := d
          simpa [rcV, and_assoc] using e
        subst e'
        exact ⟨c', Wy.heap.size, rfl, rfl, blk_at (alloc_new Wy (.cells (kc6 c').toArray 27)), r.tch (Tch.alloc (fun _ => False) _ _) (fun _ _ _ h => h), t.allocR _⟩
      have h8 : ∀ (c' : Rc) (g : Nat) Wy, C [rcV c', .slice (some ⟨g, 0, none⟩) 1 1] Wy → ∃ o5 c5 w', (Builtin.append_ #[28, 28] 28 #[.slice la k lc, .slice (some ⟨g, 0, none⟩) 1 1]).run Try.prog Wy = .ok (.slice o5 (k + 1) c5) w' ∧ C [rcV c', .slice (some ⟨g, 0, none⟩) 1 1, .slice o5 (k + 1) c5] w' := fun c' g Wy h => by
        rw [hC] at h
        obtain ⟨d, g', e, e2, hat, r, t⟩ := h
        have e' : c' = d := by
          obtain ⟨_, _, _, _, _, _, _, _, _, _⟩ := c'
          obtain ⟨_, _, _, _, _, _, _, _, _, _⟩ := d
          simpa [rcV, and_assoc] using e
        subst e'
        have e2' : g = g' := by simpa using e2
        subst e2'
        have hoy := own_tch J.out.ow1 t (fun _ _ h => h)
        obtain ⟨v', w', hr', hown, hgr, _, hat'⟩ := run_append_own_at (P := Try.prog) Wy wr.heap.size 28 28 27 i0 _ 6 80 Try.underlying28 hi0 hz0 hz1 hz2 rfl (by decide) _ _ _ hoy ⟨g, 0, none⟩ 1 1 (kc6 c') rfl (fun j u hu => by rw [add_plain]; exact hat j u hu) (kc6_one _) (by unfold maxLen; omega) (by omega) (Nat.le_trans J.out.tch.size t.size)
        obtain ⟨o5, c5, rfl⟩ := row_slice hown
        have tg : Tch (fun g => (Value.slice la k lc).ownBlock = some g) Wy w' := Tch.of_grown hgr (fun g e => e)
        have nV : ∀ g cur, Wy.heap[g]? = some (.cells cur 76 (0, 0)) → ¬ (Value.slice la k lc).ownBlock = some g := fun g cur hg e => by obtain ⟨cu, hcu⟩ := own_ty hoy e; exact ne_ty hg hcu (by decide) rfl
        refine ⟨o5, c5, w', hr', ?_⟩
        rw [hC]
        refine ⟨c', o5, c5, rfl, by rw [kcl_snoc]; exact hown, r.tch tg nV, fun b eb => ?_, (t.mono (fun _ _ h => h.elim)).trans' tg⟩
        have eb' : (Value.slice o5 (k + 1) c5).ownBlock = some b := eb
        rcases hat' with e1 | e1
        · rw [e1] at eb'; exact .inl eb'
        · rw [e1] at eb'; injection eb' with eb'; have := t.size; exact .inr (by omega)
      have h0' : C [] wx.drew := by rw [hC]; exact (Tch.refl _ _).drew
      have hsh1 : ∀ y Wy, C [y] Wy → ∃ c', y = rcV c' := fun y Wy h => by
        rw [hC] at h
        obtain ⟨c', e, _⟩ := h
        exact ⟨c', e⟩
      have hsh2 : ∀ x y Wy, C [x, y] Wy → ∃ g, y = .slice (some ⟨g, 0, none⟩) 1 1 := fun x y Wy h => by
        rw [hC] at h
        obtain ⟨_, g, _, e, _⟩ := h
        exact ⟨g, e⟩
      have hsh3 : ∀ x y z Wy, C [x, y, z] Wy → ∃ o5 c5, z = .slice o5 (k + 1) c5 := fun x y z Wy h => by
        rw [hC] at h
        obtain ⟨_, o5, c5, e, _⟩ := h
        exact ⟨o5, c5, e⟩
      have Hfin : Hid (∀ x y o5 c5 Wy, C [x, y, .slice o5 (k + 1) c5] Wy → ∃ c', Wy.cell? ⟨sb, 0, none⟩ = some (.slice la k lc) ∧ (∀ j, Wy.frozen? ⟨sb, j, none⟩ = false) ∧ K1 W wr sb p.u (k + 1) k (Wy.setCell ⟨sb, 0, none⟩ (.slice o5 (k + 1) c5)) o5 c5 (L' ++ [c']) lo ld l') := fun x y o5 c5 Wy h => by
        rw [hC] at h
        obtain ⟨c', o5', c5', e, h1, h2, h3, h4⟩ := h
        exact ⟨c', J.out.one hc h2 h1 h3 h4⟩
      have HCC : Hid (p.u[k]? = some c) := hc
      have HUA : Hid (p.ua = some ⟨ge, oe, none⟩) := hua
      clear hC hx rdo rdn hc hch x0 x1 x2 x3 x4 x5 hi0 hz0 hz1 hz2 tvz nsb nzz HK1 hua
      go_wp2_with fail
      refine wp_region_ordv [13, 14, 15] C 16 [0, 1, 2, 3, 4, 5, 6, 7, 8, 9, 10, 11, 12, 13, 14, 15] (by kernel_rfl) (by kernel_rfl) h0' ?_
      clear h0' y0 y1
      refine ordv_read rfl (by go_simp) (by rfl) ?_
      apply Exists.intro
      refine ⟨fun s' Wy hW b K Q hK' => ?_, fun K hK' => ?_⟩
      · obtain ⟨y0, y1, x0, x1, x2, x3, x4, x5⟩ := hK _ Wy hW
        go_simp
        exact hK' Wy hW
      go_simp
      refine hK' _ ?_
      clear hK' K
      refine ordv_read rfl (by go_simp) (by rfl) ?_
      apply Exists.intro
      refine ⟨fun s' Wy hW b K Q hK' => ?_, fun K hK' => ?_⟩
      · obtain ⟨y0, y1, x0, x1, x2, x3, x4, x5⟩ := hK _ Wy hW
        go_simp
        exact hK' Wy hW
      go_simp
      refine hK' _ ?_
      clear hK' K
      refine ordv_read rfl (by go_simp) (by rfl) ?_
      apply Exists.intro
      refine ⟨fun s' Wy hW b K Q hK' => ?_, fun K hK' => ?_⟩
      · obtain ⟨y0, y1, x0, x1, x2, x3, x4, x5⟩ := hK _ Wy hW
        go_simp
        exact hK' Wy hW
      go_simp
      refine hK' _ ?_
      clear hK' K
      refine ordv_read rfl (by go_simp) (by rfl) ?_
      apply Exists.intro
      refine ⟨fun s' Wy hW b K Q hK' => ?_, fun K hK' => ?_⟩
      · obtain ⟨y0, y1, x0, x1, x2, x3, x4, x5⟩ := hK _ Wy hW
        go_simp
        exact hK' Wy hW
      go_simp
      refine hK' _ ?_
      clear hK' K
      refine ordv_read rfl (by go_simp) (by rfl) ?_
      apply Exists.intro
      refine ⟨fun s' Wy hW b K Q hK' => ?_, fun K hK' => ?_⟩
      · obtain ⟨y0, y1, x0, x1, x2, x3, x4, x5⟩ := hK _ Wy hW
        go_simp
        exact hK' Wy hW
      go_simp
      refine hK' _ ?_
      clear hK' K
      refine ordv_read rfl (by go_simp) (by rfl) ?_
      apply Exists.intro
      refine ⟨fun s' Wy hW b K Q hK' => ?_, fun K hK' => ?_⟩
      · obtain ⟨y0, y1, x0, x1, x2, x3, x4, x5⟩ := hK _ Wy hW
        go_simp
        exact hK' Wy hW
      go_simp
      refine hK' _ ?_
      clear hK' K
      refine ordv_read rfl (by go_simp) (by rfl) ?_
      apply Exists.intro
      refine ⟨fun s' Wy hW b K Q hK' => ?_, fun K hK' => ?_⟩
      · obtain ⟨y0, y1, x0, x1, x2, x3, x4, x5⟩ := hK _ Wy hW
        go_simp
        exact hK' Wy hW
      go_simp
      refine hK' _ ?_
      clear hK' K
      refine ordv_read rfl (by go_simp) (by rfl) ?_
      apply Exists.intro
      refine ⟨fun s' Wy hW b K Q hK' => ?_, fun K hK' => ?_⟩
      · obtain ⟨y0, y1, x0, x1, x2, x3, x4, x5⟩ := hK _ Wy hW
        go_simp
        exact hK' Wy hW
      go_simp
      refine hK' _ ?_
      clear hK' K
      refine ordv_read rfl (by go_simp) (by rfl) ?_
      apply Exists.intro
      refine ⟨fun s' Wy hW b K Q hK' => ?_, fun K hK' => ?_⟩
      · obtain ⟨y0, y1, x0, x1, x2, x3, x4, x5⟩ := hK _ Wy hW
        go_simp
        exact hK' Wy hW
      go_simp
      refine hK' _ ?_
      clear hK' K
      refine ordv_read rfl (by go_simp) (by rfl) ?_
      apply Exists.intro
      refine ⟨fun s' Wy hW b K Q hK' => ?_, fun K hK' => ?_⟩
      · obtain ⟨y0, y1, x0, x1, x2, x3, x4, x5⟩ := hK _ Wy hW
        go_simp
        exact hK' Wy hW
      go_simp
      refine hK' _ ?_
      clear hK' K
      refine ordv_read rfl (by go_simp) (by rfl) ?_
      apply Exists.intro
      refine ⟨fun s' Wy hW b K Q hK' => ?_, fun K hK' => ?_⟩
      · obtain ⟨y0, y1, x0, x1, x2, x3, x4, x5⟩ := hK _ Wy hW
        go_simp
        exact hK' Wy hW
      go_simp
      refine hK' _ ?_
      clear hK' K
      refine ordv_read rfl (by go_simp) (by rfl) ?_
      apply Exists.intro
      refine ⟨fun s' Wy hW b K Q hK' => ?_, fun K hK' => ?_⟩
      · obtain ⟨y0, y1, x0, x1, x2, x3, x4, x5⟩ := hK _ Wy hW
        go_simp
        exact hK' Wy hW
      go_simp
      refine hK' _ ?_
      clear hK' K
      refine ordv_read rfl (by go_simp) (by rfl) ?_
      apply Exists.intro
      refine ⟨fun s' Wy hW b K Q hK' => ?_, fun K hK' => ?_⟩
      · obtain ⟨y0, y1, x0, x1, x2, x3, x4, x5⟩ := hK _ Wy hW
        go_simp
        exact hK' Wy hW
      go_simp
      refine hK' _ ?_
      clear hK' K
      refine ordv_turn rfl (by go_simp) (by rfl) (fun Wy hW b K Q hK' => ?_) (fun y hy K hK' => ?_)
      · go_simp
        go_at_call 9
        refine (h6 Wy hW).mono ?_
        rintro x w' ⟨c', rfl, h1⟩
        exact hK' _ w' h1
      obtain ⟨c', rfl⟩ : ∃ c', y = rcV c' := by
        obtain ⟨W', hW'⟩ := hy
        exact hsh1 y W' hW'
      clear hy h6
      unfold rcV at hK'
      go_simp
      refine hK' _ ?_
      clear hK' K
      refine ordv_turn rfl (by go_simp) (by rfl) (fun Wy hW b K Q hK' => ?_) (fun y hy K hK' => ?_)
      · go_simp
        exact hK' _ _ (h7 c' Wy hW)
      obtain ⟨g, rfl⟩ : ∃ g, y = .slice (some ⟨g, 0, none⟩) 1 1 := by
        obtain ⟨W', hW'⟩ := hy
        exact hsh2 _ y W' hW'
      clear hy h7
      go_simp
      refine hK' _ ?_
      clear hK' K
      refine ordv_turn rfl (by go_simp) (by rfl) (fun Wy hW => ?_) (fun y hy K hK' => ?_)
      · obtain ⟨to', tc', w', hr', h1⟩ := h8 c' g Wy hW
        exact yv_append (.tmp 66) (.tmp 76) 28 rfl (.slice la k lc) (.slice (some ⟨g, 0, none⟩) 1 1) rfl rfl hr' h1
      obtain ⟨o5, c5, rfl⟩ : ∃ o5 c5, y = .slice o5 (k + 1) c5 := by
        obtain ⟨W', hW'⟩ := hy
        exact hsh3 _ _ y W' hW'
      clear hy h8 hsh1 hsh2 hsh3
      go_simp
      refine hK' _ ?_
      clear hK' K
      refine ordv_nil ?_
      intro w5 hw5
      obtain ⟨c2, y0, fO, P5⟩ := Hfin.out _ _ _ _ w5 hw5
      obtain ⟨w6, hw6⟩ : ∃ w6, w6 = w5.setCell ⟨sb, 0, none⟩ (.slice o5 (k + 1) c5) := ⟨_, rfl⟩
      rw [← hw6] at P5
      have tv6 : Tch (fun b => ¬ Z b) V w6 := I.out.q.vz P5.tch
      obtain ⟨-, y1⟩ := HSC.out.get HP.out tv6
      rw [← Hmu.out, HUA.out] at y1
      obtain ⟨ge', oe', -, hua', hx, hch, rdo, rdn⟩ := HOP.out.get HCC.out tv6
      have e2 : ge = ge' ∧ oe = oe' := by simpa using HUA.out.symm.trans hua'
      obtain ⟨rfl, rfl⟩ := e2
      obtain ⟨x0, x1, x2, x3, x4, x5⟩ := And.intro (hx 0 _ rfl) (And.intro (hx 1 _ rfl) (And.intro (hx 2 _ rfl) (And.intro (hx 3 _ rfl) (And.intro (hx 4 _ rfl) (hx 5 _ rfl)))))
      rw [Nat.add_zero] at x0
      have q8 := copied_any c (DW W c).1 (DW W c).2 w6 rdo rdn
      unfold rcV at q8
      have f0 := fO 0
      have HP5 : Hid _ := And.intro P5 hch
      have HW6 : Hid (w6 = _) := hw6
      clear hK hw5 Hfin fO P5 hx hch rdo rdn tv6 hua' hw6
      go_upto_region 19 with (fail)
      rw [← HW6.out]
      clear y0 f0
      go_wp2_with fail
      refine q8.mono ?_
      rintro e w7 ⟨c3, rfl, sm3, ow3, t7⟩
      clear q8 x0 x1 x2 x3 x4 x5 y1
      obtain ⟨i0, hi0, hz0, hz1, hz2⟩ := info_parts info_ch
      obtain ⟨w8, hw8⟩ : ∃ w8, w8 = w7.alloc (.cells #[.int .i64 c3.l, .int .i64 c3.x, .int .i64 c3.k, .int .i64 c3.t, .slice c3.oa c3.ol c3.oc, .slice c3.na c3.nl c3.nc] 27) := ⟨_, rfl⟩
      have t8 : Tch (fun _ => False) w6 w8 := by rw [hw8]; exact t7.allocR _
      have b8 : w8.heap[w7.heap.size]? = some (.cells (kc6 c3).toArray 27 (0, 0)) := by rw [hw8]; exact alloc_new _ _
      have ho8 := own_tch HP5.out.1.ow2 t8 (fun _ _ h => h)
      obtain ⟨v9, w9, hr9, hown9, hgr9, _, hat9⟩ := run_append_own_at (P := Try.prog) w8 wr.heap.size 28 28 27 i0 _ 6 80 Try.underlying28 hi0 hz0 hz1 hz2 rfl (by decide) _ _ _ ho8 ⟨w7.heap.size, 0, none⟩ 1 1 (kc6 c3) rfl (fun j u hu => by rw [add_plain, Nat.zero_add, blk_cell b8, List.getElem?_toArray]; exact hu) (kc6_one _) (by unfold maxLen; omega) (by omega) (Nat.le_trans HP5.out.1.tch.size t8.size)
      obtain ⟨o9, c9, rfl⟩ := row_slice hown9
      have t9 : Tch (fun g => (Value.slice lo k ld).ownBlock = some g) w8 w9 := Tch.of_grown hgr9 (fun g e => e)
      have ow8 : OwnC w6.heap.size w8 c3 (DW W c).1 (DW W c).2 := by rw [hw8]; exact ow3.tch (Tch.alloc (fun _ => False) _ _) (fun _ _ _ h => h)
      have HK9 : Hid (K1 W wr sb p.u (k + 1) (k + 1) w9 o5 c5 (L' ++ [c2]) o9 c9 (l' ++ [c3])) := by
        refine HP5.out.1.two HCC.out ⟨sm3, ow8.tch t9 (fun g cur hg e => by obtain ⟨cu, hcu⟩ := own_ty ho8 e; exact ne_ty hg hcu (by decide) rfl), HP5.out.2⟩ (by rw [kcl_snoc]; exact hown9) (fun b eb => ?_) ((t8.mono (fun _ _ h => h.elim)).trans' t9)
        have eb' : (Value.slice o9 (k + 1) c9).ownBlock = some b := eb
        rcases hat9 with e1 | e1
        · rw [e1] at eb'; exact .inl eb'
        · rw [e1] at eb'; injection eb' with eb'; have := t8.size; exact .inr (by omega)
      rw [hw8] at hr9
      clear hi0 hz0 hz1 hz2 hw8 t8 b8 ho8 hown9 hgr9 hat9 t9 ow8 sm3 ow3 t7
      go_wp2_with (at_builtin; refine wpList_app _ rfl _ _ 28 rfl rfl _ _ rfl rfl hr9 ?_)
      go_roundg (mu - (k + 1))
      case measure => omega
      case rel => exact ⟨k + 1, o5, c5, _, o9, c9, _, rfl, rfl, by omega, by omega, HK9⟩
    · skip
      have hk2' : ¬ (k : Int) < (mu : Int) := by omega
      obtain rfl : mu = k := by omega
      have hK1 : K1 W wr sb p.u p.u.length p.u.length wx la lc L' lo ld l' := by have := J.out; rw [Hmu.out] at this; exact this
      obtain ⟨so', sc2, w1, hr, o1, hA1⟩ := StP.made I.out hK1 HOP.out.bd (fun c hc => (HOP.out.ch c hc).1) (by omega)
      have q1 := hA1.add (by omega)
      unfold fS at q1
      have hll : l'.length = mu := by rw [Hmu.out]; exact hK1.sw.2.2.1
      have HI : Hid (s.A.length % 10 = 0 ∧ s.A.length ≤ 20 * i ∧ s.ls.length ≤ i ∧ s.rs.length ≤ i) := ⟨I.out.q.a1, I.out.q.a2, I.out.q.lt, I.out.q.rt⟩
      clear hK1 hA1 tvz
      go_upto_region 21 with (at_builtin; refine wpList_app _ rfl _ _ 43 rfl rfl _ _ rfl rfl hr ?_)
      clear hr y1
      have hmf : ∀ (fn : Fn) (first cap : Array Value) (w : World), (Instr.makeFunc fn first cap).run Try.prog w = .ok (.func fn first cap) w := fun _ _ _ _ => rfl
      go_wp2_with fail
      refine q1.mono ?_
      rintro e w2 ⟨rfl, o2, g2, cap2, L2, P2, H2, hA2⟩
      have q2 := hA2.add HI.out.1 HI.out.2.1 HI.out.2.2.1 HI.out.2.2.2 (by omega)
      rw [hll] at q2
      clear q1 hA2 hmf
      go_wp2_with fail
      refine q2.mono ?_
      rintro e w3 ⟨rfl, s3, hs3⟩
      have HS3 : Hid _ := hs3
      clear q2 hs3
      go_wp2_with fail
      exact Hexit.out _ _ _ _ _ _ _ _ _ _ _ _ _ _ _ _ _ _ _ _ _ _ _ _ _ _ _ _ _ _ _ _ _ _ _ _ _ _ _ _ _ _ _ _ _ _ _ _ _ _ _ _ _ _ _ _ _ _ _ _ _ _ _ _ _ _ _ _ _ _ _ _ _ _ _ _ _ _ _ _ _ _ _ _ _ _ _ _ _ _ _ _ _ _ _ _ _ _ _ _ _ _ _ _ _ _ _ _ _ _ _ _ _ _ _ _ _ _ _ _ _ _ _ _ _ _ _ _ _ _ _ _ _ _ _ _ _ _ _ _ _ _ _ _ _ _ _ _ _ _ _ _ _ _ _ _ _ _ _ _ _ _ _ _ _ _ _ _ _ _ _ _ _ _ _ _ _ _ _ _ _ _ _ _ _ _ _ _ _ _ _ _ _ _ _ _ _ ⟨so', m + 1, sc2, s3, rfl, HS3⟩
end Go.Proofs.Ytmnhkgibplnnnaa
