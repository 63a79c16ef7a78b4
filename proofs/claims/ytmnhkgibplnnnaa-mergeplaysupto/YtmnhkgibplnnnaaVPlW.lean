import Derived.Test.YtmnhkgibplnnnaaVPlA4
import Derived.Test.YtmnhkgibplnnnaaVPlA1
import Derived.Test.YtmnhkgibplnnnaaVPlA2
/- MergePlays: the law. -/
namespace Go.Proofs.Ytmnhkgibplnnnaa
open Go.RowKit Go

set_option maxHeartbeats 16000000 in
set_option maxRecDepth 2000000 in
theorem pl_law : PLaw := by
  intro W lo lc ops hA h0 hE hl hcap hmx
  obtain ⟨n, hn⟩ : ∃ n, n = W.heap.size := ⟨_, rfl⟩
  have q1 := vnew_any W W
  rw [← hn] at q1
  have HA : Hid _ := hA
  have H0 : Hid _ := h0
  have HE : Hid _ := hE
  have HL : Hid (ops.length ≤ 1048576) := hl
  have Hn : Hid (n = W.heap.size) := hn
  obtain ⟨N0, hN0⟩ : ∃ N0, N0 = ops.length := ⟨_, rfl⟩
  have HN0 : Hid (N0 = ops.length) := hN0
  have hN1 : N0 ≤ 1048576 := by omega
  have hlc : N0 ≤ lc := by omega
  have hmx' : lc ≤ 9223372036854775807 := hmx
  rw [← hN0]
  clear hA h0 hE hl hcap hmx hn hN0
  go_enter Try.func4, Try.ntmps4
  go_wp2_with fail
  refine q1.mono ?_
  rintro e w1 ⟨rfl, ⟨cap, hm1⟩, t1, hz1⟩
  obtain ⟨w2, hw2⟩ : ∃ w2, w2 = w1.alloc (.cells #[.slice none 0 0, .slice none 0 0] 38) := ⟨_, rfl⟩
  obtain ⟨w3, hw3⟩ : ∃ w3, w3 = w2.alloc (.cells #[.slice none 0 0, .int .i64 0, .int .i64 0, .int .i64 0, .int .i64 0, .slice none 0 0, .slice none 0 0, .int .i64 0, .int .i64 0, .int .i64 0, .int .i64 0, .slice none 0 0, .slice none 0 0] 42) := ⟨_, rfl⟩
  obtain ⟨w4, hw4⟩ : ∃ w4, w4 = w3.alloc (.cells #[.int .i64 5, .int .i64 1, .int .i64 0, .int .i64 0, .slice none 0 0, .slice none 0 0, .int .i64 9, .int .i64 0, .int .i64 0, .int .i64 0, .slice none 0 0, .slice none 0 0] 27) := ⟨_, rfl⟩
  obtain ⟨w5, hw5⟩ : ∃ w5, w5 = w4.alloc (.cells #[.int .i64 1, .slice (some ⟨n + 4, 0, none⟩) 2 2, .int .i64 3, .slice none 0 0, .int .i64 2, .slice none 0 0] 45) := ⟨_, rfl⟩
  have hz2 : w2.heap.size = n + 3 := by rw [hw2, World.size_alloc, hz1]
  have hz3 : w3.heap.size = n + 4 := by rw [hw3, World.size_alloc, hz2]
  have hz4 : w4.heap.size = n + 5 := by rw [hw4, World.size_alloc, hz3]
  have t2 : Tch (fun _ => False) w1 w2 := by rw [hw2]; exact Tch.alloc _ _ _
  have t3 : Tch (fun _ => False) w2 w3 := by rw [hw3]; exact Tch.alloc _ _ _
  have t4 : Tch (fun _ => False) w3 w4 := by rw [hw4]; exact Tch.alloc _ _ _
  have t5 : Tch (fun _ => False) w4 w5 := by rw [hw5]; exact Tch.alloc _ _ _
  have b2 : w2.heap[n + 2]? = some (.cells #[.slice none 0 0, .slice none 0 0] 38 (0, 0)) := by rw [hw2, ← hz1]; exact alloc_new _ _
  have b3 : w3.heap[n + 3]? = some (.cells (bkC (.slice none 0 0) k0 k0) 42 (0, 0)) := by rw [hw3, ← hz2]; exact alloc_new _ _
  have b4 : w4.heap[n + 4]? = some (.cells (kcl [lt1, lt2]).toArray 27 (0, 0)) := by rw [hw4, ← hz3]; exact alloc_new _ _
  have b5 : w5.heap[n + 5]? = some (.cells (opcl (lits (n + 4))).toArray 45 (0, 0)) := by rw [hw5, ← hz4]; exact alloc_new _ _
  have tW5 : Tch (fun _ => False) W w5 := (((t1.trans' t2).trans' t3).trans' t4).trans' t5
  obtain ⟨gs, sc, V, hr, hc1, hc2, hat, hgs, hgV, tV⟩ := scr_app w5 n lo lc ops b5 (fun hne => by
    obtain ⟨g, o, e, hg, hx⟩ := HA.out hne
    exact ⟨g, o, e, fun j v hv => (tW5.cell (p := ⟨g, o + j, none⟩) (cell_lt (hx j v hv)) (fun h => h)).trans (hx j v hv)⟩) H0.out HL.out
  rw [← HN0.out] at hr hc1
  obtain ⟨NN, hNN⟩ : ∃ NN, NN = 3 + N0 := ⟨_, rfl⟩
  rw [← hNN] at hr hc1
  have HNN : Hid (NN = 3 + N0) := hNN
  have hNN2 : NN ≤ 1048579 := by omega
  obtain ⟨Z, hZ⟩ : ∃ Z : Nat → Prop, Z = fun b => b < n ∨ b = n + 4 ∨ b = gs := ⟨_, rfl⟩
  have hw5s : w5.heap.size = n + 6 := by rw [hw5, World.size_alloc, hz4]
  have tWV : Tch (fun b => n + 3 < b) W V := (tW5.mono (fun _ _ h => h.elim)).trans tV (fun b _ e => by show n + 3 < b; have e' : b = n + 5 := e; omega)
  have b4V : V.heap[n + 4]? = some (.cells (kcl [lt1, lt2]).toArray 27 (0, 0)) := by
    rw [tV.block (n + 4) (by omega) (by show ¬ n + 4 = n + 5; omega), t5.block (n + 4) (by omega) (fun h => h)]; exact b4
  have nilRd : ∀ w : World, RdR w none 0 0 [] := fun w => ⟨rfl, fun _ h => (by cases h), by omega, .inl ⟨rfl, rfl, rfl⟩⟩
  have nilIn : RowIn W none 0 0 := ⟨nilRd W, rfl, fun _ h => (by cases h), Nat.le_refl _, Nat.zero_le _, Nat.zero_le _⟩
  have HSC : Hid (SC V Z W gs (lits (n + 4) ++ ops)) := by
    refine ⟨by rw [hZ]; exact .inr (.inr rfl), hat, fun p hp => ?_⟩
    rcases List.mem_append.1 hp with hp | hp
    · simp only [lits, List.mem_cons, List.not_mem_nil, or_false] at hp
      rcases hp with rfl | rfl | rfl
      · refine ⟨by simp, by simp, by simp, fun _ => ⟨n + 4, 0, by rw [hZ]; exact .inr (.inl rfl), rfl, fun j v hv => by rw [Nat.zero_add, blk_cell b4V, List.getElem?_toArray]; exact hv⟩, fun c hc => ?_⟩
        simp only [List.mem_cons, List.not_mem_nil, or_false] at hc
        rcases hc with rfl | rfl
        · exact ⟨⟨nilIn, nilIn⟩, nilRd V, nilRd V, fun _ h => (by cases h), fun _ h => (by cases h)⟩
        · exact ⟨⟨nilIn, nilIn⟩, nilRd V, nilRd V, fun _ h => (by cases h), fun _ h => (by cases h)⟩
      · exact ⟨by simp, by simp, by simp, fun h => absurd rfl h, fun c hc => by cases hc⟩
      · exact ⟨by simp, by simp, by simp, fun h => absurd rfl h, fun c hc => by cases hc⟩
    · obtain ⟨hrl, hci, hb⟩ := HE.out p hp
      have hrV : RL (DW W) W.heap.size V p.ua p.uc p.u := hrl.tch tWV (fun g hg e => by have := Hn.out; have e' : n + 3 < g := e; omega)
      refine ⟨hrV.len, hrV.cap, hb, fun hne => ?_, fun c hc => ?_⟩
      · obtain ⟨g, o, hg, e, hx⟩ := hrV.at' hne
        exact ⟨g, o, by rw [hZ]; exact .inl (by have := Hn.out; omega), e, hx⟩
      · obtain ⟨r1, r2, r3, r4⟩ := hrV.rd c hc
        exact ⟨hci c hc, r1, r2, fun a ha h0 => by rw [hZ]; exact .inl (by have := Hn.out; have := r3 a ha h0; omega), fun a ha h0 => by rw [hZ]; exact .inl (by have := Hn.out; have := r4 a ha h0; omega)⟩
  have HST : Hid (StP V Z W V (n + 1) (n + 2) (n + 3) none 0 0 0 ⟨begO n, n, cap, [], fun _ => 0, fun _ => ⟨0, none, 0, [], []⟩, fun _ => k0, [], .slice none 0 0, .slice none 0 0, [], [], [], fun _ => 0, .slice none 0 0, [], k0, k0, k0, []⟩) := by
    have hmV : MP W V (n + 1) n cap [] (fun _ => 0) (fun _ => ⟨0, none, 0, [], []⟩) (fun _ => k0) (fun _ => False) [] := ((((hm1.no t2).no t3).no t4).no t5).keep tV (fun b hb e => by
      have e' : b = n + 5 := e
      rcases hb with e1 | e1 | ⟨j, hj, _⟩ | ⟨j, c, u, e1, _⟩
      · omega
      · omega
      · simp at hj
      · simp at e1)
    have b2V : V.heap[n + 2]? = some (.cells #[.slice none 0 0, .slice none 0 0] 38 (0, 0)) := by
      rw [tV.block (n + 2) (by omega) (by show ¬ n + 2 = n + 5; omega), t5.block (n + 2) (by omega) (fun h => h), t4.block (n + 2) (by omega) (fun h => h), t3.block (n + 2) (by omega) (fun h => h)]; exact b2
    have b3V : V.heap[n + 3]? = some (.cells (bkC (.slice none 0 0) k0 k0) 42 (0, 0)) := by
      rw [tV.block (n + 3) (by omega) (by show ¬ n + 3 = n + 5; omega), t5.block (n + 3) (by omega) (fun h => h), t4.block (n + 3) (by omega) (fun h => h)]; exact b3
    refine StP.begin hmV b2V b3V (Tch.refl _ _) (fun b hb => ?_)
    have hVs : n + 6 ≤ V.heap.size := by have := tV.size; omega
    rw [hZ] at hb
    rcases hb with e | e | e
    · exact ⟨by omega, by omega⟩
    · exact ⟨by omega, by omega⟩
    · exact ⟨by omega, by omega⟩
  have HEND : Hid (∀ w, Tch (fun b => ¬ Z b) V w → Tch (fun _ => False) W w) := fun w tw => (tWV.trans tw (fun b hb e => absurd (show Z b by rw [hZ]; exact .inl (by have := Hn.out; omega)) e)).mono (fun b hb e => by have := Hn.out; have e' : n + 3 < b := e; omega)
  have HW2 : Hid (w2 = _) := hw2
  have HW3 : Hid (w3 = _) := hw3
  have HZ1 : Hid (w1.heap.size = n + 2) := hz1
  have HZ2 : Hid (w2.heap.size = n + 3) := hz2
  rw [hw5, hw4, ← hz3] at hr
  have e5 : n + 5 = w3.heap.size + 1 := by omega
  rw [e5] at hr
  clear q1 hm1 t1 hz1 hw2 hw3 hw4 hw5 hz2 hz3 hz4 t2 t3 t4 t5 b2 b3 b4 b5 tW5 hat hgs hgV tV hZ hw5s tWV b4V nilRd nilIn e5 hNN
  go_upto_region 3 with (fail)
  rw [← HW2.out, HZ1.out]
  go_upto_region 6 with (fail)
  rw [← HW3.out, HZ2.out]
  go_upto_region 8 with (at_builtin; refine wpList_app _ rfl _ _ 33 rfl rfl _ _ rfl rfl hr ?_)
  clear hr
  go_wp2_with fail
  go_loopg [6, 7] NN (fun kx s6 s7 wr => ∃ (i : Nat) (so : Option Addr) (m sc' : Nat) (s : Sv), s6 = .slice so m sc' ∧ s7 = .int .i64 i ∧ NN - i ≤ kx ∧ i ≤ NN ∧ Hid (StP V Z W wr (n + 1) (n + 2) (n + 3) so m sc' i s))
  case atStart => exact ⟨0, none, 0, 0, _, rfl, rfl, by omega, by omega, HST⟩
  case round =>
    obtain ⟨i, so, m, sc', s, rfl, rfl, hk, hin, I⟩ := hrel
    rename World => wr
    by_cases hi : i < NN
    · have hi' : (i : Int) < (NN : Int) := by omega
      obtain ⟨p, hp⟩ : ∃ p, (lits (n + 4) ++ ops)[i]? = some p := ⟨_, List.getElem?_eq_getElem (by have := HNN.out; have := HN0.out; simp [lits]; omega)⟩
      obtain ⟨y0, y1⟩ := HSC.out.get hp I.out.q.w0
      have HP : Hid ((lits (n + 4) ++ ops)[i]? = some p) := hp
      clear hp
      go_upto_block 2 with fail
      go_cut [6, 8, 9, 10, 11, 12, 13, 14, 15, 16, 17] from 37 to 221 (fun s6 _ _ _ _ _ _ _ _ _ _ wc => ∃ (so : Option Addr) (m sc' : Nat) (s : Sv), s6 = .slice so m sc' ∧ Hid (StP V Z W wc (n + 1) (n + 2) (n + 3) so m sc' (i + 1) s))
      case first =>
        by_cases h1 : p.k = 1
        · refine arm1 V W wr Z n gs sc NN i m sc' so ops p s hNN2 hi hi' hc1 hc2 HSC HP I h1 _ _ _ _ _ _ _ _ _ _ _ _ _ _ _ _ _ _ _ _ _ _ _ _ _ _ _ _ _ _ _ _ _ _ _ _ _ _ _ _ _ _ _ _ _ _ _ _ _ _ _ _ _ _ _ _ _ _ _ _ _ _ _ _ _ _ _ _ _ _ _ _ _ _ _ _ _ _ _ _ _ _ _ _ _ _ _ _ _ _ _ _ _ _ _ _ _ _ _ _ _ _ _ _ _ _ _ _ _ _ _ _ _ _ _ _ _ _ _ _ _ _ _ _ _ _ _ _ _ _ _ _ _ _ _ _ _ _ _ _ _ _ _ _ _ _ _ _ _ _ _ _ _ _ _ _ _ _ _ _ _ _ _ _ _ _ _ _ _ _ _ _ _ _ _ _ _ _ _ _ _ _ _ _ _ _ _ _ _ _ _ _ _ _ _ _ _ _ _ _ _ _ _ _ _ _ _ _ _ _ _ _ _ _ _ _ ?_
          intro v6 v8 v9 v10 v11 v12 v13 v14 v15 v16 v17 v37 v38 v39 v40 v41 v42 v43 v44 v45 v46 v47 v48 v49 v50 v51 v52 v53 v54 v55 v56 v57 v58 v59 v60 v61 v62 v63 v64 v65 v66 v67 v68 v69 v70 v71 v72 v73 v74 v75 v76 v77 v78 v79 v80 v81 v82 v83 v84 v85 v86 v87 v88 v89 v90 v91 v92 v93 v94 v95 v96 v97 v98 v99 v100 v101 v102 v103 v104 v105 v106 v107 v108 v109 v110 v111 v112 v113 v114 v115 v116 v117 v118 v119 v120 v121 v122 v123 v124 v125 v126 v127 v128 v129 v130 v131 v132 v133 v134 v135 v136 v137 v138 v139 v140 v141 v142 v143 v144 v145 v146 v147 v148 v149 v150 v151 v152 v153 v154 v155 v156 v157 v158 v159 v160 v161 v162 v163 v164 v165 v166 v167 v168 v169 v170 v171 v172 v173 v174 v175 v176 v177 v178 v179 v180 v181 v182 v183 v184 v185 v186 v187 v188 v189 v190 v191 v192 v193 v194 v195 v196 v197 v198 v199 v200 v201 v202 v203 v204 v205 v206 v207 v208 v209 v210 v211 v212 v213 v214 v215 v216 v217 v218 v219 v220 v221 wc HC
          obtain ⟨so', m', sc'', s', rfl, J⟩ := HC
          go_wp2_with fail
          go_meet
          case rel => exact ⟨so', m', sc'', s', rfl, J⟩
        by_cases h2 : p.k = 2
        · refine arm2 V W wr Z n gs sc NN i m sc' so ops p s hNN2 hi hi' hc1 hc2 HSC HP I h1 h2 _ _ _ _ _ _ _ _ _ _ _ _ _ _ _ _ _ _ _ _ _ _ _ _ _ _ _ _ _ _ _ _ _ _ _ _ _ _ _ _ _ _ _ _ _ _ _ _ _ _ _ _ _ _ _ _ _ _ _ _ _ _ _ _ _ _ _ _ _ _ _ _ _ _ _ _ _ _ _ _ _ _ _ _ _ _ _ _ _ _ _ _ _ _ _ _ _ _ _ _ _ _ _ _ _ _ _ _ _ _ _ _ _ _ _ _ _ _ _ _ _ _ _ _ _ _ _ _ _ _ _ _ _ _ _ _ _ _ _ _ _ _ _ _ _ _ _ _ _ _ _ _ _ _ _ _ _ _ _ _ _ _ _ _ _ _ _ _ _ _ _ _ _ _ _ _ _ _ _ _ _ _ _ _ _ _ _ _ _ _ _ _ _ _ _ _ _ _ _ _ _ _ _ _ _ _ _ _ _ _ _ _ _ _ _ _ ?_
          intro v6 v8 v9 v10 v11 v12 v13 v14 v15 v16 v17 v37 v38 v39 v40 v41 v42 v43 v44 v45 v46 v47 v48 v49 v50 v51 v52 v53 v54 v55 v56 v57 v58 v59 v60 v61 v62 v63 v64 v65 v66 v67 v68 v69 v70 v71 v72 v73 v74 v75 v76 v77 v78 v79 v80 v81 v82 v83 v84 v85 v86 v87 v88 v89 v90 v91 v92 v93 v94 v95 v96 v97 v98 v99 v100 v101 v102 v103 v104 v105 v106 v107 v108 v109 v110 v111 v112 v113 v114 v115 v116 v117 v118 v119 v120 v121 v122 v123 v124 v125 v126 v127 v128 v129 v130 v131 v132 v133 v134 v135 v136 v137 v138 v139 v140 v141 v142 v143 v144 v145 v146 v147 v148 v149 v150 v151 v152 v153 v154 v155 v156 v157 v158 v159 v160 v161 v162 v163 v164 v165 v166 v167 v168 v169 v170 v171 v172 v173 v174 v175 v176 v177 v178 v179 v180 v181 v182 v183 v184 v185 v186 v187 v188 v189 v190 v191 v192 v193 v194 v195 v196 v197 v198 v199 v200 v201 v202 v203 v204 v205 v206 v207 v208 v209 v210 v211 v212 v213 v214 v215 v216 v217 v218 v219 v220 v221 wc HC
          obtain ⟨so', m', sc'', s', rfl, J⟩ := HC
          go_wp2_with fail
          go_meet
          case rel => exact ⟨so', m', sc'', s', rfl, J⟩
        by_cases h3 : p.k = 3
        · refine arm3 V W wr Z n gs sc NN i m sc' so ops p s hNN2 hi hi' hc1 hc2 HSC HP I h1 h2 h3 _ _ _ _ _ _ _ _ _ _ _ _ _ _ _ _ _ _ _ _ _ _ _ _ _ _ _ _ _ _ _ _ _ _ _ _ _ _ _ _ _ _ _ _ _ _ _ _ _ _ _ _ _ _ _ _ _ _ _ _ _ _ _ _ _ _ _ _ _ _ _ _ _ _ _ _ _ _ _ _ _ _ _ _ _ _ _ _ _ _ _ _ _ _ _ _ _ _ _ _ _ _ _ _ _ _ _ _ _ _ _ _ _ _ _ _ _ _ _ _ _ _ _ _ _ _ _ _ _ _ _ _ _ _ _ _ _ _ _ _ _ _ _ _ _ _ _ _ _ _ _ _ _ _ _ _ _ _ _ _ _ _ _ _ _ _ _ _ _ _ _ _ _ _ _ _ _ _ _ _ _ _ _ _ _ _ _ _ _ _ _ _ _ _ _ _ _ _ _ _ _ _ _ _ _ _ _ _ _ _ _ _ _ _ _ _ ?_
          intro v6 v8 v9 v10 v11 v12 v13 v14 v15 v16 v17 v37 v38 v39 v40 v41 v42 v43 v44 v45 v46 v47 v48 v49 v50 v51 v52 v53 v54 v55 v56 v57 v58 v59 v60 v61 v62 v63 v64 v65 v66 v67 v68 v69 v70 v71 v72 v73 v74 v75 v76 v77 v78 v79 v80 v81 v82 v83 v84 v85 v86 v87 v88 v89 v90 v91 v92 v93 v94 v95 v96 v97 v98 v99 v100 v101 v102 v103 v104 v105 v106 v107 v108 v109 v110 v111 v112 v113 v114 v115 v116 v117 v118 v119 v120 v121 v122 v123 v124 v125 v126 v127 v128 v129 v130 v131 v132 v133 v134 v135 v136 v137 v138 v139 v140 v141 v142 v143 v144 v145 v146 v147 v148 v149 v150 v151 v152 v153 v154 v155 v156 v157 v158 v159 v160 v161 v162 v163 v164 v165 v166 v167 v168 v169 v170 v171 v172 v173 v174 v175 v176 v177 v178 v179 v180 v181 v182 v183 v184 v185 v186 v187 v188 v189 v190 v191 v192 v193 v194 v195 v196 v197 v198 v199 v200 v201 v202 v203 v204 v205 v206 v207 v208 v209 v210 v211 v212 v213 v214 v215 v216 v217 v218 v219 v220 v221 wc HC
          obtain ⟨so', m', sc'', s', rfl, J⟩ := HC
          go_wp2_with fail
          go_meet
          case rel => exact ⟨so', m', sc'', s', rfl, J⟩
        by_cases h4 : p.k = 4
        · refine arm4 V W wr Z n gs sc NN i m sc' so ops p s hNN2 hi hi' hc1 hc2 HSC HP I h1 h2 h3 h4 _ _ _ _ _ _ _ _ _ _ _ _ _ _ _ _ _ _ _ _ _ _ _ _ _ _ _ _ _ _ _ _ _ _ _ _ _ _ _ _ _ _ _ _ _ _ _ _ _ _ _ _ _ _ _ _ _ _ _ _ _ _ _ _ _ _ _ _ _ _ _ _ _ _ _ _ _ _ _ _ _ _ _ _ _ _ _ _ _ _ _ _ _ _ _ _ _ _ _ _ _ _ _ _ _ _ _ _ _ _ _ _ _ _ _ _ _ _ _ _ _ _ _ _ _ _ _ _ _ _ _ _ _ _ _ _ _ _ _ _ _ _ _ _ _ _ _ _ _ _ _ _ _ _ _ _ _ _ _ _ _ _ _ _ _ _ _ _ _ _ _ _ _ _ _ _ _ _ _ _ _ _ _ _ _ _ _ _ _ _ _ _ _ _ _ _ _ _ _ _ _ _ _ _ _ _ _ _ _ _ _ _ _ _ _ _ ?_
          intro v6 v8 v9 v10 v11 v12 v13 v14 v15 v16 v17 v37 v38 v39 v40 v41 v42 v43 v44 v45 v46 v47 v48 v49 v50 v51 v52 v53 v54 v55 v56 v57 v58 v59 v60 v61 v62 v63 v64 v65 v66 v67 v68 v69 v70 v71 v72 v73 v74 v75 v76 v77 v78 v79 v80 v81 v82 v83 v84 v85 v86 v87 v88 v89 v90 v91 v92 v93 v94 v95 v96 v97 v98 v99 v100 v101 v102 v103 v104 v105 v106 v107 v108 v109 v110 v111 v112 v113 v114 v115 v116 v117 v118 v119 v120 v121 v122 v123 v124 v125 v126 v127 v128 v129 v130 v131 v132 v133 v134 v135 v136 v137 v138 v139 v140 v141 v142 v143 v144 v145 v146 v147 v148 v149 v150 v151 v152 v153 v154 v155 v156 v157 v158 v159 v160 v161 v162 v163 v164 v165 v166 v167 v168 v169 v170 v171 v172 v173 v174 v175 v176 v177 v178 v179 v180 v181 v182 v183 v184 v185 v186 v187 v188 v189 v190 v191 v192 v193 v194 v195 v196 v197 v198 v199 v200 v201 v202 v203 v204 v205 v206 v207 v208 v209 v210 v211 v212 v213 v214 v215 v216 v217 v218 v219 v220 v221 wc HC
          obtain ⟨so', m', sc'', s', rfl, J⟩ := HC
          go_wp2_with fail
          go_meet
          case rel => exact ⟨so', m', sc'', s', rfl, J⟩
        refine arm0 V W wr Z n gs sc NN i m sc' so ops p s hNN2 hi hi' hc1 hc2 HSC HP I h1 h2 h3 h4 _ _ _ _ _ _ _ _ _ _ _ _ _ _ _ _ _ _ _ _ _ _ _ _ _ _ _ _ _ _ _ _ _ _ _ _ _ _ _ _ _ _ _ _ _ _ _ _ _ _ _ _ _ _ _ _ _ _ _ _ _ _ _ _ _ _ _ _ _ _ _ _ _ _ _ _ _ _ _ _ _ _ _ _ _ _ _ _ _ _ _ _ _ _ _ _ _ _ _ _ _ _ _ _ _ _ _ _ _ _ _ _ _ _ _ _ _ _ _ _ _ _ _ _ _ _ _ _ _ _ _ _ _ _ _ _ _ _ _ _ _ _ _ _ _ _ _ _ _ _ _ _ _ _ _ _ _ _ _ _ _ _ _ _ _ _ _ _ _ _ _ _ _ _ _ _ _ _ _ _ _ _ _ _ _ _ _ _ _ _ _ _ _ _ _ _ _ _ _ _ _ _ _ _ _ _ _ _ _ _ _ _ _ _ _ _ ?_
        intro v6 v8 v9 v10 v11 v12 v13 v14 v15 v16 v17 v37 v38 v39 v40 v41 v42 v43 v44 v45 v46 v47 v48 v49 v50 v51 v52 v53 v54 v55 v56 v57 v58 v59 v60 v61 v62 v63 v64 v65 v66 v67 v68 v69 v70 v71 v72 v73 v74 v75 v76 v77 v78 v79 v80 v81 v82 v83 v84 v85 v86 v87 v88 v89 v90 v91 v92 v93 v94 v95 v96 v97 v98 v99 v100 v101 v102 v103 v104 v105 v106 v107 v108 v109 v110 v111 v112 v113 v114 v115 v116 v117 v118 v119 v120 v121 v122 v123 v124 v125 v126 v127 v128 v129 v130 v131 v132 v133 v134 v135 v136 v137 v138 v139 v140 v141 v142 v143 v144 v145 v146 v147 v148 v149 v150 v151 v152 v153 v154 v155 v156 v157 v158 v159 v160 v161 v162 v163 v164 v165 v166 v167 v168 v169 v170 v171 v172 v173 v174 v175 v176 v177 v178 v179 v180 v181 v182 v183 v184 v185 v186 v187 v188 v189 v190 v191 v192 v193 v194 v195 v196 v197 v198 v199 v200 v201 v202 v203 v204 v205 v206 v207 v208 v209 v210 v211 v212 v213 v214 v215 v216 v217 v218 v219 v220 v221 wc HC
        obtain ⟨so', m', sc'', s', rfl, J⟩ := HC
        go_wp2_with fail
        go_meet
        case rel => exact ⟨so', m', sc'', s', rfl, J⟩
      case rest =>
        obtain ⟨so, m, sc', s, rfl, J⟩ := hcut
        obtain ⟨loA, lcA, z1, hchk⟩ := J.out.chk
        have HCH : Hid _ := hchk
        have hm2 : m ≤ 1048580 := by have := J.out.cs.ml; have := J.out.q.lt; omega
        have q5 := still_any (n + 3) (bkC s.rv s.held s.was) s.A s.rv (fun b => s.o b ≠ 3) wc J.out.q.bk rfl J.out.q.cb (by have := J.out.q.a2; omega)
        clear hchk y0 y1
        go_wp2_with fail
        go_loopg [18, 19] m (fun kx s18 s19 wq => ∃ q : Nat, s18 = .int .i64 q ∧ m - q ≤ kx ∧ q ≤ m ∧ wq = wc)
        case atStart => exact ⟨0, rfl, by omega, by omega, rfl⟩
        case round =>
          obtain ⟨q, rfl, hkq, hqm, rfl⟩ := hrel
          by_cases hq : q < m
          · have hq' : (q : Int) < (m : Int) := by omega
            obtain ⟨gA, gr, sb, nq, rfl, rfl, hnq, x1, x2, x3, x4⟩ := HCH.out q hq
            go_wp2_with fail
            go_roundg (m - (q + 1))
            case measure => omega
            case rel => exact ⟨q + 1, rfl, by omega, by omega, rfl⟩
          · have hq' : ¬ (q : Int) < (m : Int) := by omega
            go_wp2_with fail
            refine q5.mono ?_
            rintro e w9 ⟨rfl, hw9⟩
            subst hw9
            clear q5 z1
            go_wp2_with fail
            go_roundg (NN - (i + 1))
            case measure => omega
            case rel => exact ⟨i + 1, so, m, sc', s, rfl, rfl, by omega, by omega, J⟩
    · have hi' : ¬ (i : Int) < (NN : Int) := by omega
      go_wp2
      go_ret
      exact ⟨rfl, HEND.out _ I.out.q.w0⟩
end Go.Proofs.Ytmnhkgibplnnnaa
