import Derived.Test.YtkcmpipipelgoaaKPl1
import Derived.Test.YtkcmpipipelgoaaOrdv
import Derived.BigQuiet
/- HistoryPlays: what was lent is as it was. -/
namespace Go.Proofs.Ytkcmpipipelgoaa
open Go.RowKit Go
set_option maxRecDepth 100000

set_option maxHeartbeats 8000000 in
set_option maxRecDepth 1000000 in
theorem plays4 (W w1 wr : World) (P : List (Tbl × Value)) (gw n tc : Nat) (tv : Option Addr) (hn : n ≤ 1048576) (Hn : Hid (n = P.length)) (HTL : Hid (TL w1 (fun i => ¬ i < W.heap.size) tv P)) (HWw : Hid (W.heap.size ≤ w1.heap.size)) (Hcl : Hid (∀ p ∈ P, p.1.cols.length ≤ 1048576)) (gs : List Nat) (lo : Option Addr) (lc : Nat) (HJ : Hid (L2 w1 wr P gw P.length gs (n + 8) (.slice lo P.length lc))) (Q0 : Exit → Act → World → Prop)
    (u1 u2 u3 u4 u5 u6 u7 u8 u9 u12 u13 u14 u15 u16 u17 u18 u19 u22 u23 u24 u25 u26 u27 u28 u29 u30 u31 u32 u33 u34 u35 u36 u37 u38 u39 u40 u41 u42 u43 u44 u45 u46 u47 u48 u49 u50 u51 u52 u53 u54 u55 u56 u57 u58 u59 u60 u61 u62 u63 u64 u65 u66 u67 u68 u69 u70 u71 u72 u73 u74 u75 u76 u77 u78 u79 u80 u81 u82 u83 u84 u85 u86 u87 u88 u89 u90 u91 u92 u93 u94 u95 u96 u97 u98 u99 u100 u101 u102 u103 u104 u105 u106 u107 u108 u109 u110 u111 u112 u113 u114 u115 u116 u117 u118 u119 u120 u121 u122 u123 u124 u125 u126 u127 u128 u129 u130 u131 u132 u133 u134 u135 u136 u137 u138 u139 u140 u141 u142 u143 u144 u145 u146 u147 u148 u149 u150 u151 u152 u153 u154 u155 u156 u157 u158 u159 u160 u161 u162 u163 u164 u165 u166 u167 u168 u169 u170 u171 u172 u173 u174 u175 u176 u177 u178 u179 u180 u181 u182 u183 u184 u185 u186 u187 u188 : Value)
    (Hexit : Hid (∀ (v20 v21 v22 v91 v92 v93 v94 v95 v96 v97 v98 v99 v100 v101 v102 v103 v104 v105 v106 v107 v108 v109 v110 v111 v112 v113 v114 v115 v116 v117 v118 v119 v120 v121 v122 v123 v124 v125 v126 v127 v128 : Value) (wx : World), (v20 = .bool true ∧ Hid (Tch (fun g => g ∈ gs) wr wx)) → Q0 (.exit 6) ⟨List.toArray ((.slice tv n tc) :: u1 :: u2 :: u3 :: u4 :: u5 :: u6 :: u7 :: u8 :: u9 :: (.slice (some ⟨gw, 0, none⟩) (n + 8) (n + 8)) :: (.slice lo n lc) :: u12 :: u13 :: u14 :: u15 :: u16 :: u17 :: u18 :: u19 :: (v20) :: (v21) :: (v22) :: u23 :: u24 :: u25 :: u26 :: u27 :: u28 :: u29 :: u30 :: u31 :: u32 :: u33 :: u34 :: u35 :: u36 :: u37 :: u38 :: u39 :: u40 :: u41 :: u42 :: u43 :: u44 :: u45 :: u46 :: u47 :: u48 :: u49 :: u50 :: u51 :: u52 :: u53 :: u54 :: u55 :: u56 :: u57 :: u58 :: u59 :: u60 :: u61 :: u62 :: u63 :: u64 :: u65 :: u66 :: u67 :: u68 :: u69 :: u70 :: u71 :: u72 :: u73 :: u74 :: u75 :: u76 :: u77 :: u78 :: u79 :: u80 :: u81 :: u82 :: u83 :: u84 :: u85 :: u86 :: u87 :: u88 :: u89 :: u90 :: (v91) :: (v92) :: (v93) :: (v94) :: (v95) :: (v96) :: (v97) :: (v98) :: (v99) :: (v100) :: (v101) :: (v102) :: (v103) :: (v104) :: (v105) :: (v106) :: (v107) :: (v108) :: (v109) :: (v110) :: (v111) :: (v112) :: (v113) :: (v114) :: (v115) :: (v116) :: (v117) :: (v118) :: (v119) :: (v120) :: (v121) :: (v122) :: (v123) :: (v124) :: (v125) :: (v126) :: (v127) :: (v128) :: u129 :: u130 :: u131 :: u132 :: u133 :: u134 :: u135 :: u136 :: u137 :: u138 :: u139 :: u140 :: u141 :: u142 :: u143 :: u144 :: u145 :: u146 :: u147 :: u148 :: u149 :: u150 :: u151 :: u152 :: u153 :: u154 :: u155 :: u156 :: u157 :: u158 :: u159 :: u160 :: u161 :: u162 :: u163 :: u164 :: u165 :: u166 :: u167 :: u168 :: u169 :: u170 :: u171 :: u172 :: u173 :: u174 :: u175 :: u176 :: u177 :: u178 :: u179 :: u180 :: u181 :: u182 :: u183 :: u184 :: u185 :: u186 :: u187 :: u188 :: []), []⟩ wx)) :
    Code.wp Try.prog (Code.loop (plB 3)) Q0 ⟨List.toArray ((.slice tv n tc) :: u1 :: u2 :: u3 :: u4 :: u5 :: u6 :: u7 :: u8 :: u9 :: (.slice (some ⟨gw, 0, none⟩) (n + 8) (n + 8)) :: (.slice lo n lc) :: u12 :: u13 :: u14 :: u15 :: u16 :: u17 :: u18 :: u19 :: (.bool true) :: (.int .i64 0) :: u22 :: u23 :: u24 :: u25 :: u26 :: u27 :: u28 :: u29 :: u30 :: u31 :: u32 :: u33 :: u34 :: u35 :: u36 :: u37 :: u38 :: u39 :: u40 :: u41 :: u42 :: u43 :: u44 :: u45 :: u46 :: u47 :: u48 :: u49 :: u50 :: u51 :: u52 :: u53 :: u54 :: u55 :: u56 :: u57 :: u58 :: u59 :: u60 :: u61 :: u62 :: u63 :: u64 :: u65 :: u66 :: u67 :: u68 :: u69 :: u70 :: u71 :: u72 :: u73 :: u74 :: u75 :: u76 :: u77 :: u78 :: u79 :: u80 :: u81 :: u82 :: u83 :: u84 :: u85 :: u86 :: u87 :: u88 :: u89 :: u90 :: u91 :: u92 :: u93 :: u94 :: u95 :: u96 :: u97 :: u98 :: u99 :: u100 :: u101 :: u102 :: u103 :: u104 :: u105 :: u106 :: u107 :: u108 :: u109 :: u110 :: u111 :: u112 :: u113 :: u114 :: u115 :: u116 :: u117 :: u118 :: u119 :: u120 :: u121 :: u122 :: u123 :: u124 :: u125 :: u126 :: u127 :: u128 :: u129 :: u130 :: u131 :: u132 :: u133 :: u134 :: u135 :: u136 :: u137 :: u138 :: u139 :: u140 :: u141 :: u142 :: u143 :: u144 :: u145 :: u146 :: u147 :: u148 :: u149 :: u150 :: u151 :: u152 :: u153 :: u154 :: u155 :: u156 :: u157 :: u158 :: u159 :: u160 :: u161 :: u162 :: u163 :: u164 :: u165 :: u166 :: u167 :: u168 :: u169 :: u170 :: u171 :: u172 :: u173 :: u174 :: u175 :: u176 :: u177 :: u178 :: u179 :: u180 :: u181 :: u182 :: u183 :: u184 :: u185 :: u186 :: u187 :: u188 :: []), []⟩ wr := by
  conv => arg 2; arg 1; whnf
  go_loopg [20, 21, 22] (n + 8) (fun kx s20 s21 s22 wx => ∃ i : Nat, s20 = .bool true ∧ s21 = .int .i64 i ∧ n + 8 - i ≤ kx ∧ i ≤ n + 8 ∧ Hid (Tch (fun g => ∃ j, j < i ∧ gs[j]? = some g) wr wx))
  case atStart => exact ⟨0, rfl, rfl, by omega, by omega, Tch.refl _ _⟩
  case round =>
    rename World => wx
    obtain ⟨i, rfl, rfl, hkx, hin, J⟩ := hrel
    by_cases hi8 : i < n + 8
    · have hi8' : (i : Int) < (n : Int) + 8 := by omega
      by_cases hi : i < n
      · have hi' : (i : Int) < (n : Int) := by omega
        have hi1 : ¬ (n : Int) ≤ (i : Int) := by omega
        have hi2 : ¬ (i : Int) ≥ (n : Int) := by omega
        have hTx := (HTL.out.tch (S := fun g => w1.heap.size ≤ g) (HJ.out.t.mono (fun _ _ e => e.elim)) (fun i h1 h2 => by have h2' : w1.heap.size ≤ i := h2; omega)).tch (S := fun g => ∃ j, j < i ∧ gs[j]? = some g) J.out (fun k _ ⟨j, _, e⟩ => by have := (HJ.out.gs_lt (List.mem_of_getElem? e)).1; have := HWw.out; omega)
        have hil : i < P.length := by have := Hn.out; omega
        obtain ⟨p, hp⟩ : ∃ p, P[i]? = some p := ⟨_, List.getElem?_eq_getElem hil⟩
        have hpi : P[i] = p := by rw [List.getElem?_eq_getElem hil] at hp; simpa using hp
        have hpc := Hcl.out p (List.mem_of_getElem? hp)
        obtain ⟨co, cc, hck⟩ := hTx.col i hil
        obtain ⟨ga, oa, htv, ha0, ha1, ha2, ha3, ha4⟩ := hTx.at i hil
        rw [hpi] at hck ha0 ha1 ha2 ha3 ha4
        rw [hck.eq] at ha3
        subst htv
        obtain ⟨m, hm⟩ : ∃ m, m = p.1.cols.length := ⟨_, rfl⟩
        rw [← hm] at ha3
        have a0 : wx.cell? ⟨ga, oa + i * 5, none⟩ = some (.int .i64 p.1.id) := ha0
        have a1 : wx.cell? ⟨ga, oa + i * 5 + 1, none⟩ = some (.int .i64 p.1.ver) := ha1
        have a2 : wx.cell? ⟨ga, oa + i * 5 + 2, none⟩ = some (.string p.1.nm) := ha2
        have a3 : wx.cell? ⟨ga, oa + i * 5 + 3, none⟩ = some (.slice co m cc) := ha3
        have a4 : wx.cell? ⟨ga, oa + i * 5 + 4, none⟩ = some (.int .i64 p.1.key) := ha4
        have hgaW : ga < W.heap.size := by
          have := HTL.out.nf (by rintro rfl; simp at hil) ga oa rfl
          exact Classical.byContradiction this
        obtain ⟨g, lg, hgs, hlo, hl0, hLB, hg1, hg2, hown⟩ := (HJ.out.reads J.out).1 p hp
        subst hlo
        have hgS : ∀ k, k < i → gs[k]? ≠ some g := fun k hk e => by
          have hil2 : i < gs.length := (List.getElem?_eq_some_iff.1 hgs).1
          have hkl : k < gs.length := (List.getElem?_eq_some_iff.1 e).1
          have := List.pairwise_iff_getElem.1 HJ.out.nd k i hkl hil2 hk
          rw [List.getElem?_eq_getElem hkl] at e
          rw [List.getElem?_eq_getElem hil2] at hgs
          exact this (Option.some.inj (e.trans hgs.symm))
        have hgall := HJ.out.gs_lt (List.mem_of_getElem? hgs)
        have hlgn : lg ≠ g := fun e => hgall.2.2.2 (by rw [e]; rfl)
        unfold llv at hl0
        rw [← hm] at hl0
        have HK0 : Hid (∀ Wy, Tch (fun k => k = g) wx Wy → Wy.cell? ⟨ga, oa + i * 5, none⟩ = some (.int .i64 p.1.id) ∧ Wy.cell? ⟨ga, oa + i * 5 + 1, none⟩ = some (.int .i64 p.1.ver) ∧ Wy.cell? ⟨ga, oa + i * 5 + 2, none⟩ = some (.string p.1.nm) ∧ Wy.cell? ⟨ga, oa + i * 5 + 3, none⟩ = some (.slice co m cc) ∧ Wy.cell? ⟨ga, oa + i * 5 + 4, none⟩ = some (.int .i64 p.1.key) ∧ Wy.cell? ⟨lg, i, none⟩ = some (.slice (some ⟨g, 0, none⟩) (m + 8) (m + 8)) ∧ Wy.cell? ⟨gw, i * 5, none⟩ = some (.int .i64 p.1.id) ∧ Wy.cell? ⟨gw, i * 5 + 1, none⟩ = some (.int .i64 p.1.ver) ∧ Wy.cell? ⟨gw, i * 5 + 2, none⟩ = some (.string p.1.nm) ∧ Wy.cell? ⟨gw, i * 5 + 3, none⟩ = some (.slice (some ⟨g, 0, none⟩) m (m + 8)) ∧ Wy.cell? ⟨gw, i * 5 + 4, none⟩ = some (.int .i64 p.1.key)) := fun Wy ty => by
          have hga : ga ≠ g := fun e => by have := HWw.out; omega
          have n1 : ∀ {x y}, wx.cell? ⟨ga, x, none⟩ = some y → Wy.cell? ⟨ga, x, none⟩ = some y := fun {x y} h => (ty.cell (p := ⟨ga, x, none⟩) (cell_lt h) hga).trans h
          have n2 : ∀ {x y}, wx.cell? ⟨gw, x, none⟩ = some y → Wy.cell? ⟨gw, x, none⟩ = some y := fun {x y} h => (ty.cell (p := ⟨gw, x, none⟩) (cell_lt h) (fun e => hgall.2.2.1 e.symm)).trans h
          refine ⟨n1 a0, n1 a1, n1 a2, n1 a3, n1 a4, (ty.cell (p := ⟨lg, i, none⟩) (cell_lt hl0) hlgn).trans hl0, n2 (hown 0 _ (by omega) rfl), n2 (hown 1 _ (by omega) rfl), n2 (hown 2 _ (by omega) rfl), ?_, n2 (hown 4 _ (by omega) rfl)⟩
          have := n2 (hown 3 _ (by omega) rfl)
          unfold zpv at this
          rw [← hm] at this
          exact this
        obtain ⟨C, hC⟩ : ∃ C : List Value → World → Prop, C = fun s Wy => match s with
          | [] => Tch (fun _ => False) wx Wy
          | [y] => y = .bool true ∧ Tch (fun k => k = g) wx Wy
          | _ => False := ⟨_, rfl⟩
        have hK : ∀ s Wy, C s Wy → Wy.cell? ⟨ga, oa + i * 5, none⟩ = some (.int .i64 p.1.id) ∧ Wy.cell? ⟨ga, oa + i * 5 + 1, none⟩ = some (.int .i64 p.1.ver) ∧ Wy.cell? ⟨ga, oa + i * 5 + 2, none⟩ = some (.string p.1.nm) ∧ Wy.cell? ⟨ga, oa + i * 5 + 3, none⟩ = some (.slice co m cc) ∧ Wy.cell? ⟨ga, oa + i * 5 + 4, none⟩ = some (.int .i64 p.1.key) ∧ Wy.cell? ⟨lg, i, none⟩ = some (.slice (some ⟨g, 0, none⟩) (m + 8) (m + 8)) ∧ Wy.cell? ⟨gw, i * 5, none⟩ = some (.int .i64 p.1.id) ∧ Wy.cell? ⟨gw, i * 5 + 1, none⟩ = some (.int .i64 p.1.ver) ∧ Wy.cell? ⟨gw, i * 5 + 2, none⟩ = some (.string p.1.nm) ∧ Wy.cell? ⟨gw, i * 5 + 3, none⟩ = some (.slice (some ⟨g, 0, none⟩) m (m + 8)) ∧ Wy.cell? ⟨gw, i * 5 + 4, none⟩ = some (.int .i64 p.1.key) := fun s Wy hW => by
          rw [hC] at hW
          match s, hW with
          | [], hW => exact HK0.out Wy (hW.mono (fun _ _ h => h.elim))
          | [_], hW => exact HK0.out Wy hW.2
        have h6 : ∀ Wy, C [] Wy → Calls Try.prog 18 #[.agg #[.int .i64 p.1.id, .int .i64 p.1.ver, .string p.1.nm, .slice (some ⟨g, 0, none⟩) m (m + 8), .int .i64 p.1.key], .slice (some ⟨g, 0, none⟩) (m + 8) (m + 8), .agg #[.int .i64 p.1.id, .int .i64 p.1.ver, .string p.1.nm, .slice co m cc, .int .i64 p.1.key]] Wy fun x w' => x = .returned (.bool true) ∧ C [.bool true] w' := fun Wy hW => by
          rw [hC] at hW ⊢
          have h1 := back_any g (p.1.cols.length + 8) (p.1.cols.length + 8) p.1 co cc Wy (hLB.tch hW (fun e => e)) (by omega) (by omega) (by omega) (hck.sl.no hW) (fun hne g' o' e => by
            have h2 := (hck.nf hne g' o' e).1
            have := HWw.out
            intro e3
            omega)
          rw [← hm] at h1
          refine h1.mono ?_
          rintro x w' ⟨rfl, _, t'⟩
          exact ⟨rfl, rfl, (hW.mono (fun _ _ h => h.elim)).trans' t'⟩
        have e1 : Hid (∀ y W, C [y] W → y = .bool true) := fun y W hW => by rw [hC] at hW; exact hW.1
        have HE2 : Hid (∀ y W, C [y] W → Tch (fun g => ∃ j, j < i + 1 ∧ gs[j]? = some g) wr W) := fun y W hW => by
          rw [hC] at hW
          exact (J.out.mono (fun k _ ⟨j, h1, h2⟩ => ⟨j, by omega, h2⟩)).trans hW.2 (fun k _ e => by have e' : k = g := e; rw [e']; exact ⟨i, by omega, hgs⟩)
        have h0' : C [] wx.drew := by rw [hC]; exact (Tch.refl _ _).drew
        clear hC HK0 ha0 ha1 ha2 ha3 ha4 a0 a1 a2 a3 a4 hl0 hown hLB hck hTx hpi hp hpc hm hil hgs hgS hgall hlgn hg1 hg2 J hgaW
        go_wp2_with fail
        refine wp_region_ordv [12] C 13 [0, 1, 2, 3, 4, 5, 6, 7, 8, 9, 10, 11, 12] (by kernel_rfl) (by kernel_rfl) h0' ?_
        clear h0'
        refine ordv_read rfl (by go_simp) (by rfl) ?_
        apply Exists.intro
        refine ⟨fun s' Wy hW b K Q hK' => ?_, fun K hK' => ?_⟩
        · obtain ⟨a0, a1, a2, a3, a4, l0, o0, o1, o2, o3, o4⟩ := hK _ Wy hW
          go_simp
          exact hK' Wy hW
        go_simp
        refine hK' _ ?_
        clear hK' K
        refine ordv_read rfl (by go_simp) (by rfl) ?_
        apply Exists.intro
        refine ⟨fun s' Wy hW b K Q hK' => ?_, fun K hK' => ?_⟩
        · obtain ⟨a0, a1, a2, a3, a4, l0, o0, o1, o2, o3, o4⟩ := hK _ Wy hW
          go_simp
          exact hK' Wy hW
        go_simp
        refine hK' _ ?_
        clear hK' K
        refine ordv_read rfl (by go_simp) (by rfl) ?_
        apply Exists.intro
        refine ⟨fun s' Wy hW b K Q hK' => ?_, fun K hK' => ?_⟩
        · obtain ⟨a0, a1, a2, a3, a4, l0, o0, o1, o2, o3, o4⟩ := hK _ Wy hW
          go_simp
          exact hK' Wy hW
        go_simp
        refine hK' _ ?_
        clear hK' K
        refine ordv_read rfl (by go_simp) (by rfl) ?_
        apply Exists.intro
        refine ⟨fun s' Wy hW b K Q hK' => ?_, fun K hK' => ?_⟩
        · obtain ⟨a0, a1, a2, a3, a4, l0, o0, o1, o2, o3, o4⟩ := hK _ Wy hW
          go_simp
          exact hK' Wy hW
        go_simp
        refine hK' _ ?_
        clear hK' K
        refine ordv_read rfl (by go_simp) (by rfl) ?_
        apply Exists.intro
        refine ⟨fun s' Wy hW b K Q hK' => ?_, fun K hK' => ?_⟩
        · obtain ⟨a0, a1, a2, a3, a4, l0, o0, o1, o2, o3, o4⟩ := hK _ Wy hW
          go_simp
          exact hK' Wy hW
        go_simp
        refine hK' _ ?_
        clear hK' K
        refine ordv_read rfl (by go_simp) (by rfl) ?_
        apply Exists.intro
        refine ⟨fun s' Wy hW b K Q hK' => ?_, fun K hK' => ?_⟩
        · obtain ⟨a0, a1, a2, a3, a4, l0, o0, o1, o2, o3, o4⟩ := hK _ Wy hW
          go_simp
          exact hK' Wy hW
        go_simp
        refine hK' _ ?_
        clear hK' K
        refine ordv_read rfl (by go_simp) (by rfl) ?_
        apply Exists.intro
        refine ⟨fun s' Wy hW b K Q hK' => ?_, fun K hK' => ?_⟩
        · obtain ⟨a0, a1, a2, a3, a4, l0, o0, o1, o2, o3, o4⟩ := hK _ Wy hW
          go_simp
          exact hK' Wy hW
        go_simp
        refine hK' _ ?_
        clear hK' K
        refine ordv_read rfl (by go_simp) (by rfl) ?_
        apply Exists.intro
        refine ⟨fun s' Wy hW b K Q hK' => ?_, fun K hK' => ?_⟩
        · obtain ⟨a0, a1, a2, a3, a4, l0, o0, o1, o2, o3, o4⟩ := hK _ Wy hW
          go_simp
          exact hK' Wy hW
        go_simp
        refine hK' _ ?_
        clear hK' K
        refine ordv_read rfl (by go_simp) (by rfl) ?_
        apply Exists.intro
        refine ⟨fun s' Wy hW b K Q hK' => ?_, fun K hK' => ?_⟩
        · obtain ⟨a0, a1, a2, a3, a4, l0, o0, o1, o2, o3, o4⟩ := hK _ Wy hW
          go_simp
          exact hK' Wy hW
        go_simp
        refine hK' _ ?_
        clear hK' K
        refine ordv_read rfl (by go_simp) (by rfl) ?_
        apply Exists.intro
        refine ⟨fun s' Wy hW b K Q hK' => ?_, fun K hK' => ?_⟩
        · obtain ⟨a0, a1, a2, a3, a4, l0, o0, o1, o2, o3, o4⟩ := hK _ Wy hW
          go_simp
          exact hK' Wy hW
        go_simp
        refine hK' _ ?_
        clear hK' K
        refine ordv_read rfl (by go_simp) (by rfl) ?_
        apply Exists.intro
        refine ⟨fun s' Wy hW b K Q hK' => ?_, fun K hK' => ?_⟩
        · obtain ⟨a0, a1, a2, a3, a4, l0, o0, o1, o2, o3, o4⟩ := hK _ Wy hW
          go_simp
          exact hK' Wy hW
        go_simp
        refine hK' _ ?_
        clear hK' K
        refine ordv_read rfl (by go_simp) (by rfl) ?_
        apply Exists.intro
        refine ⟨fun s' Wy hW b K Q hK' => ?_, fun K hK' => ?_⟩
        · obtain ⟨a0, a1, a2, a3, a4, l0, o0, o1, o2, o3, o4⟩ := hK _ Wy hW
          go_simp
          exact hK' Wy hW
        go_simp
        refine hK' _ ?_
        clear hK' K
        refine ordv_turn rfl (by go_simp) (by rfl) (fun Wy hW b K Q hK' => ?_) (fun y hy K hK' => ?_)
        · go_simp
          go_at_call 18
          refine (h6 Wy hW).mono ?_
          rintro r w' ⟨rfl, h1⟩
          exact hK' _ w' h1
        obtain rfl : y = .bool true := by
          obtain ⟨W', hW'⟩ := hy
          exact e1.out y W' hW'
        clear hy h6 e1
        go_simp
        refine hK' _ ?_
        clear hK' K
        refine ordv_nil ?_
        intro w4 hw4
        have HJ4 : Hid (Tch (fun g => ∃ j, j < i + 1 ∧ gs[j]? = some g) wr w4) := HE2.out _ w4 hw4
        clear hK hw4 HE2
        go_wp2_with fail
        go_roundg (n + 8 - (i + 1))
        case measure => omega
        case rel => exact ⟨i + 1, rfl, by first | rfl | (congr 1; omega), by omega, by omega, HJ4⟩
      · have hi' : ¬ (i : Int) < (n : Int) := by omega
        have hi1 : (n : Int) ≤ (i : Int) := by omega
        have hi2 : (i : Int) ≥ (n : Int) := by omega
        have hw71 : IntKind.i64.wrap (71 + (i : Int)) = 71 + (i : Int) := wrap_of (by omega) (by omega)
        have y0 := (HJ.out.reads J.out).2 i (by have := Hn.out; omega) (by omega)
        have HJ4 : Hid (Tch (fun g => ∃ j, j < i + 1 ∧ gs[j]? = some g) wr wx) := J.out.mono (fun k _ ⟨j, h1, h2⟩ => ⟨j, by omega, h2⟩)
        clear J
        go_wp2_with fail
        go_roundg (n + 8 - (i + 1))
        case measure => omega
        case rel => exact ⟨i + 1, rfl, by first | rfl | (congr 1; omega), by omega, by omega, HJ4⟩
    · have hi' : ¬ (i : Int) < (n : Int) + 8 := by omega
      have HJ2 : Hid (Tch (fun g => g ∈ gs) wr wx) := J.out.mono (fun k _ ⟨j, _, h2⟩ => List.mem_of_getElem? h2)
      clear J
      go_wp2_with fail
      exact Hexit.out _ _ _ _ _ _ _ _ _ _ _ _ _ _ _ _ _ _ _ _ _ _ _ _ _ _ _ _ _ _ _ _ _ _ _ _ _ _ _ _ _ _ ⟨rfl, HJ2⟩
end Go.Proofs.Ytkcmpipipelgoaa
