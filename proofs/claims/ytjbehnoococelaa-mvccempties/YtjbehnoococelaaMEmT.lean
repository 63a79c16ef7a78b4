import Derived.Test.YtjbehnoococelaaMAw
import Derived.Test.YtjbehnoococelaaMMd
import Derived.Test.YtjbehnoococelaaMEh
import Derived.Test.YtjbehnoococelaaME2
import Derived.Deep.DeepCutAuto
import Derived.Deep.CutBlock
/- MvccEmpties: the law. -/
namespace Go.Proofs.Ytjbehnoococelaa
open Go.RowKit Go Go.Sort Go.Maps

set_option maxHeartbeats 8000000 in
set_option maxRecDepth 100000 in
theorem emp_lawT (ao : Option Addr) (n c : Nat) (ks : List Int) (w : World) (hn : n = ks.length) (hir : ∀ W, Tch (fun _ => False) w W → IR W ao ks) (hrg : ∀ x ∈ ks, -9223372036854775808 ≤ x ∧ x ≤ 9223372036854775807) :
    Calls Try.prog 3 #[.slice ao n c, .bool true] w fun x w' => x = .returned (.bool true) ∧ Tch (fun _ => False) w w' := by
  have Hn : Hid (n = ks.length) := hn
  have Hir : Hid (∀ W, Tch (fun _ => False) w W → IR W ao ks) := hir
  have Hrg : Hid (∀ x ∈ ks, -9223372036854775808 ≤ x ∧ x ≤ 9223372036854775807) := hrg
  have qA := awake_any w
  clear hn hir hrg
  go_enter Try.func3, Try.ntmps3
  go_wp2_with fail
  refine qA.mono ?_
  rintro x w1 ⟨rfl, t1⟩
  have T1 : Hid (Tch (fun _ => False) w w1) := t1
  clear qA t1
  have qM := model_any w1
  go_wp2_with fail
  refine qM.mono ?_
  rintro x w2 ⟨qb, hb, mb, rfl, oq, st2, cq0, cq1⟩
  clear qM
  have HQ : Hid (∀ W : World, W.heap[qb]? = some oq → W.cell? ⟨qb, 0, none⟩ = some (.pointer (some ⟨mb, 0, none⟩)) ∧ W.cell? ⟨qb, 1, none⟩ = some (.pointer (some ⟨hb, 0, none⟩))) := fun W hW => by
    have h2 := st2.box (List.mem_singleton.2 rfl)
    exact ⟨(cell_same hW h2).trans cq0, (cell_same hW h2).trans cq1⟩
  have qS := snap_s st2
  have H2 : Hid (St w1 w2 hb mb ⟨1, [], []⟩ [] 0 [(qb, oq)]) := st2
  clear st2
  go_wp2_with fail
  refine qS.mono ?_
  rintro x w3 ⟨so, sc, nb, rfl, st3, t3, J1, I1⟩
  clear qS t3 H2 cq0 cq1
  simp only [List.headD_nil, List.length_nil] at st3 ⊢
  have st4 := st3.alloc (.cells #[.int .i64 1, .int .i64 1, .slice so 0 sc] 27)
  obtain ⟨sb, hsb⟩ : ∃ sb, sb = w3.heap.size := ⟨_, rfl⟩
  obtain ⟨w4, hw4⟩ : ∃ w4, w4 = w3.alloc (.cells #[.int .i64 1, .int .i64 1, .slice so 0 sc] 27) := ⟨_, rfl⟩
  rw [← hw4, ← hsb] at st4
  obtain ⟨bx, hbx⟩ : ∃ bx, bx = [(qb, oq)] ++ nb ++ [(sb, Obj.cells #[.int .i64 1, .int .i64 1, .slice so 0 sc] 27 (0, 0))] := ⟨_, rfl⟩
  rw [← hbx] at st4
  have HB : Hid (BB bx qb sb hb mb so sc) := by
    refine ⟨fun W hW => ?_, fun a ha => ?_⟩
    · have h1 := HQ.out W (hW (qb, oq) (by rw [hbx]; simp))
      have h2 : W.heap[sb]? = some (Obj.cells #[.int .i64 1, .int .i64 1, .slice so 0 sc] 27 (0, 0)) := hW (sb, Obj.cells #[.int .i64 1, .int .i64 1, .slice so 0 sc] 27 (0, 0)) (by rw [hbx]; simp)
      exact ⟨⟨h1.1, h1.2, by rw [blk_cell h2]; rfl, by rw [blk_cell h2]; rfl, by rw [blk_cell h2]; rfl⟩, I1 W (fun p hp => hW p (by rw [hbx]; simp [hp]))⟩
    · obtain ⟨o, ho⟩ := J1 a ha
      exact ⟨o, by rw [hbx]; simp [ho]⟩
  clear J1 I1 hbx HQ
  have hq3 := blk_lt (st3.box (List.mem_append.2 (.inl (List.mem_singleton.2 rfl))))
  have c0 : w4.cell? ⟨qb, 0, none⟩ = some (.pointer (some ⟨mb, 0, none⟩)) := ((HB.out.1 w4 (fun p hp => st4.box hp)).1).1
  have c1 : w4.cell? ⟨qb, 1, none⟩ = some (.pointer (some ⟨hb, 0, none⟩)) := ((HB.out.1 w4 (fun p hp => st4.box hp)).1).2.1
  have qB : Calls Try.prog 7 #[.pointer (some ⟨mb, 0, none⟩)] w4 fun x w' => x = .returned (.tuple #[.int .i64 1, .int .i64 0]) ∧ St w1 w' hb mb ⟨2, [1], [⟨1, 1, []⟩]⟩ [] 0 bx := begin_s st4 (by decide)
  rw [hw4] at qB c0 c1
  have Hw4 : Hid (w4 = w3.alloc (.cells #[.int .i64 1, .int .i64 1, .slice so 0 sc] 27)) := hw4
  clear hw4 st4 st3
  go_wp2_with fail
  refine qB.mono ?_
  rw [← hsb]
  rintro x w5 ⟨rfl, st5⟩
  clear qB Hw4 hsb c0 c1 hq3
  have qB : Calls Try.prog 7 #[.pointer (some ⟨mb, 0, none⟩)] w5 fun x w' => x = .returned (.tuple #[.int .i64 2, .int .i64 0]) ∧ St w1 w' hb mb mgA [] 0 bx := begin_s st5 (by decide)
  have c0 : w5.cell? ⟨qb, 0, none⟩ = some (.pointer (some ⟨mb, 0, none⟩)) := ((HB.out.1 w5 (fun p hp => st5.box hp)).1).1
  have c1 : w5.cell? ⟨qb, 1, none⟩ = some (.pointer (some ⟨hb, 0, none⟩)) := ((HB.out.1 w5 (fun p hp => st5.box hp)).1).2.1
  clear st5
  go_wp2_with fail
  refine qB.mono ?_
  rintro x w6 ⟨rfl, st6⟩
  clear qB c0 c1
  have qP : Calls Try.prog 8 #[.pointer (some ⟨mb, 0, none⟩), .int .i64 1] w6 fun x w' => x = .returned (.tuple #[.int .i64 3, .int .i64 0]) ∧ St w1 w' hb mb mgB [] 0 bx := st6.kept (X := fun x => x = .returned (.tuple #[.int .i64 3, .int .i64 0])) (fun _ hs _ _ => part_h (t := ⟨1, 1, []⟩) (i := -1) hs rfl rfl (by omega) (by omega))
  have c0 : w6.cell? ⟨qb, 0, none⟩ = some (.pointer (some ⟨mb, 0, none⟩)) := ((HB.out.1 w6 (fun p hp => st6.box hp)).1).1
  have c1 : w6.cell? ⟨qb, 1, none⟩ = some (.pointer (some ⟨hb, 0, none⟩)) := ((HB.out.1 w6 (fun p hp => st6.box hp)).1).2.1
  clear st6
  go_wp2_with fail
  refine qP.mono ?_
  rintro x w7 ⟨rfl, st7⟩
  clear qP c0 c1
  have hs0 : SW w1 w7 w7.heap.size hb mb (m1 true) [] 0 bx (.slice none 0 0) [] := SW.first st7
  obtain ⟨base, hbase⟩ : ∃ base, base = w7.heap.size := ⟨_, rfl⟩
  rw [← hbase] at hs0
  clear hbase
  have qW := written_sw hs0 (by omega) 1 (by omega) (by omega) 2 (by omega) (by omega) false rfl
  have c0 : w7.cell? ⟨qb, 0, none⟩ = some (.pointer (some ⟨mb, 0, none⟩)) := ((HB.out.1 w7 (fun p hp => st7.box hp)).1).1
  have c1 : w7.cell? ⟨qb, 1, none⟩ = some (.pointer (some ⟨hb, 0, none⟩)) := ((HB.out.1 w7 (fun p hp => st7.box hp)).1).2.1
  clear st7 hs0
  go_wp2_with fail
  refine qW.mono ?_
  rintro x w8 ⟨rfl, hs8⟩
  clear qW c0 c1
  have qW := written_sw hs8 (by omega) 1 (by omega) (by omega) 0 (by omega) (by omega) false rfl
  have c0 : w8.cell? ⟨qb, 0, none⟩ = some (.pointer (some ⟨mb, 0, none⟩)) := ((HB.out.1 w8 (fun p hp => hs8.st.box hp)).1).1
  have c1 : w8.cell? ⟨qb, 1, none⟩ = some (.pointer (some ⟨hb, 0, none⟩)) := ((HB.out.1 w8 (fun p hp => hs8.st.box hp)).1).2.1
  clear hs8
  go_wp2_with fail
  refine qW.mono ?_
  rintro x w9 ⟨rfl, hs9⟩
  clear qW c0 c1
  have HS9 : Hid (SW w1 w9 base hb mb (m1 true) [] 0 bx (.slice none 0 0) []) := hs9
  clear hs9
  go_wp2_with fail
  refine loopE1 w1 w9 base hb mb qb sb n c ao so sc ks true bx 3 Hn (fun W t => Hir.out W (T1.out.trans' t)) Hrg HB rfl (by omega) (by omega) HS9 _ _ _ _ _ _ _ _ _ _ _ _ _ _ _ _ _ _ _ _ _ _ _ _ _ _ _ _ _ _ _ _ _ _ _ _ _ _ _ _ _ _ _ _ _ _ _ _ _ _ _ _ _ _ _ _ _ _ _ _ _ _ _ _ _ _ _ _ _ _ _ _ _ _ _ _ _ _ _ _ _ _ _ _ _ _ _ _ _ _ _ _ _ _ _ _ _ _ _ _ _ _ _ _ _ _ _ _ _ _ _ _ _ _ _ _ _ _ _ _ _ _ _ _ _ _ _ _ _ _ _ _ _ _ _ _ _ _ _ _ _ _ _ _ _ _ _ _ _ _ _ _ _ _ _ _ _ _ _ _ _ _ _ _ _ _ _ _ _ _ _ _ _ _ _ _ _ _ _ _ _ _ _ _ _ _ _ _ _ _ _ _ _ _ _ _ _ _ _ _ _ _ _ _ _ _ _ _ _ _ _ _ _ _ _ _ _ _ _ _ _ _ _ _ _ _ _ _ _ _ _ _ _ _ _ _ _ _ _ _ _ _ _ _ _ _ _ _ _ _ _ _ _ _ _ _ _ _ _ _ _ _ _ _ _ _ _ _ _ _ _ _ _ _ _ _ _ _ _ _ _ _ _ _ _ _ _ ?_
  intro x4 x15 x16 x17 x18 x79 x80 x81 x82 x83 x84 x85 x86 x87 x88 x89 x90 x91 x92 x93 x94 x95 x96 x97 x98 x99 x100 x101 x102 x103 x104 x105 x106 x107 x108 x109 x110 x111 x112 x113 x114 x115 x116 x117 x118 x119 x120 x121 x122 x123 x124 x125 x126 vo vl vc WL wA Hx
  have hvl : vl ≤ 20 := Hx.out.2.1
  have Hvl : Hid (vl = WL.length) := Hx.out.1
  have HW6 : Hid (∀ x ∈ WL, x < 6) := Hx.out.2.2.1
  have hsA : SW w1 wA base hb mb (m1 true) (LH true WL) 120 bx (.slice vo vl vc) WL := Hx.out.2.2.2
  clear Hx HS9
  obtain ⟨D, hD⟩ : ∃ D : Bool, D = decide ((0 : Int) < vl) := ⟨_, rfl⟩
  have HD : Hid ((!WL.isEmpty) = D) := by
    show _ = _
    rw [hD, Hvl.out]
    cases WL <;> simp
  have qW := written_sw hsA (by omega) 1 (by omega) (by omega) 2 (by omega) (by omega) D ((w12 true WL).trans HD.out)
  have c0 : wA.cell? ⟨qb, 0, none⟩ = some (.pointer (some ⟨mb, 0, none⟩)) := ((HB.out.1 wA (fun p hp => hsA.st.box hp)).1).1
  have c1 : wA.cell? ⟨qb, 1, none⟩ = some (.pointer (some ⟨hb, 0, none⟩)) := ((HB.out.1 wA (fun p hp => hsA.st.box hp)).1).2.1
  clear hsA
  go_wp2_with fail
  refine qW.mono ?_
  rintro x wB ⟨rfl, hsB⟩
  clear qW c0 c1
  have qW := written_sw hsB (by omega) 1 (by omega) (by omega) 0 (by omega) (by omega) D ((w10 true WL).trans HD.out)
  have c0 : wB.cell? ⟨qb, 0, none⟩ = some (.pointer (some ⟨mb, 0, none⟩)) := ((HB.out.1 wB (fun p hp => hsB.st.box hp)).1).1
  have c1 : wB.cell? ⟨qb, 1, none⟩ = some (.pointer (some ⟨hb, 0, none⟩)) := ((HB.out.1 wB (fun p hp => hsB.st.box hp)).1).2.1
  clear hsB
  go_wp2_with fail
  refine qW.mono ?_
  rintro x wC ⟨rfl, hsC⟩
  clear qW c0 c1
  have qW := written_sw hsC (by omega) 1 (by omega) (by omega) 1 (by omega) (by omega) false (w11 true WL)
  have c0 : wC.cell? ⟨qb, 0, none⟩ = some (.pointer (some ⟨mb, 0, none⟩)) := ((HB.out.1 wC (fun p hp => hsC.st.box hp)).1).1
  have c1 : wC.cell? ⟨qb, 1, none⟩ = some (.pointer (some ⟨hb, 0, none⟩)) := ((HB.out.1 wC (fun p hp => hsC.st.box hp)).1).2.1
  clear hsC
  go_wp2_with fail
  refine qW.mono ?_
  rintro x wD ⟨rfl, hsD⟩
  clear qW c0 c1
  have qW := written_sw hsD (by omega) 3 (by omega) (by omega) 2 (by omega) (by omega) false (w32 true WL)
  have c0 : wD.cell? ⟨qb, 0, none⟩ = some (.pointer (some ⟨mb, 0, none⟩)) := ((HB.out.1 wD (fun p hp => hsD.st.box hp)).1).1
  have c1 : wD.cell? ⟨qb, 1, none⟩ = some (.pointer (some ⟨hb, 0, none⟩)) := ((HB.out.1 wD (fun p hp => hsD.st.box hp)).1).2.1
  clear hsD
  go_wp2_with fail
  refine qW.mono ?_
  rintro x wE ⟨rfl, hsE⟩
  clear qW c0 c1
  have qK : Calls Try.prog 14 #[.pointer (some ⟨mb, 0, none⟩), .int .i64 3] wE fun x w' => x = .returned (.int .i64 0) ∧ SW w1 w' base hb mb (m2 true) (LH true WL) 120 bx (.slice vo vl vc) WL := hsE.kept (X := fun x => x = .returned (.int .i64 0)) (fun _ hs _ => back_h (t := ⟨1, 1, [⟨3, -1, 0⟩]⟩) (i := 0) hs rfl rfl (by omega) (by omega))
  have c0 : wE.cell? ⟨qb, 0, none⟩ = some (.pointer (some ⟨mb, 0, none⟩)) := ((HB.out.1 wE (fun p hp => hsE.st.box hp)).1).1
  have c1 : wE.cell? ⟨qb, 1, none⟩ = some (.pointer (some ⟨hb, 0, none⟩)) := ((HB.out.1 wE (fun p hp => hsE.st.box hp)).1).2.1
  clear hsE
  go_wp2_with fail
  refine qK.mono ?_
  rintro x wF ⟨rfl, hsF⟩
  clear qK c0 c1
  have qW := written_sw hsF (by omega) 1 (by omega) (by omega) 2 (by omega) (by omega) false (wb2 WL)
  have c0 : wF.cell? ⟨qb, 0, none⟩ = some (.pointer (some ⟨mb, 0, none⟩)) := ((HB.out.1 wF (fun p hp => hsF.st.box hp)).1).1
  have c1 : wF.cell? ⟨qb, 1, none⟩ = some (.pointer (some ⟨hb, 0, none⟩)) := ((HB.out.1 wF (fun p hp => hsF.st.box hp)).1).2.1
  clear hsF
  go_wp2_with fail
  refine qW.mono ?_
  rintro x wG ⟨rfl, hsG⟩
  clear qW c0 c1
  have hz2 : (2 * (vl : Int)) = ((2 * vl : Nat) : Int) := by omega
  have qV : Calls Try.prog 15 #[.pointer (some ⟨hb, 0, none⟩)] wG fun x w' => x = .returned (.int .i64 (2 * (vl : Int))) ∧ SW w1 w' base hb mb (m2 true) (LH true WL) 120 bx (.slice vo vl vc) WL := by
    rw [hz2]
    exact ver_sw hsG (2 * vl) (by rw [sum_LH, Hvl.out]) (by omega)
  have c0 : wG.cell? ⟨qb, 0, none⟩ = some (.pointer (some ⟨mb, 0, none⟩)) := ((HB.out.1 wG (fun p hp => hsG.st.box hp)).1).1
  have c1 : wG.cell? ⟨qb, 1, none⟩ = some (.pointer (some ⟨hb, 0, none⟩)) := ((HB.out.1 wG (fun p hp => hsG.st.box hp)).1).2.1
  clear hsG hz2
  go_wp2_with fail
  refine qV.mono ?_
  rintro x wH ⟨rfl, hsH⟩
  clear qV c0 c1
  have qE : Calls Try.prog 16 #[.pointer (some ⟨hb, 0, none⟩), .int .i64 1] wH fun x w' => x = .returned (.tuple #[]) ∧ SW w1 w' base hb mb (m2 true) (L2 WL) 120 bx (.slice vo vl vc) WL := hsH.kept (X := fun x => x = .returned (.tuple #[])) (fun F hs _ => by
    have := empty_f wH hb mb _ _ F 120 hs 1 (by omega) (by omega)
    rw [filt_LH] at this
    exact this)
  have c0 : wH.cell? ⟨qb, 0, none⟩ = some (.pointer (some ⟨mb, 0, none⟩)) := ((HB.out.1 wH (fun p hp => hsH.st.box hp)).1).1
  have c1 : wH.cell? ⟨qb, 1, none⟩ = some (.pointer (some ⟨hb, 0, none⟩)) := ((HB.out.1 wH (fun p hp => hsH.st.box hp)).1).2.1
  clear hsH
  go_wp2_with fail
  refine qE.mono ?_
  rintro x wI ⟨rfl, hsI⟩
  clear qE c0 c1
  have qV : Calls Try.prog 15 #[.pointer (some ⟨hb, 0, none⟩)] wI fun x w' => x = .returned (.int .i64 vl) ∧ SW w1 w' base hb mb (m2 true) (L2 WL) 120 bx (.slice vo vl vc) WL := ver_sw hsI vl (by rw [sum_L2, Hvl.out]) (by omega)
  have c0 : wI.cell? ⟨qb, 0, none⟩ = some (.pointer (some ⟨mb, 0, none⟩)) := ((HB.out.1 wI (fun p hp => hsI.st.box hp)).1).1
  have c1 : wI.cell? ⟨qb, 1, none⟩ = some (.pointer (some ⟨hb, 0, none⟩)) := ((HB.out.1 wI (fun p hp => hsI.st.box hp)).1).2.1
  clear hsI
  go_wp2_with fail
  refine qV.mono ?_
  rintro x wJ ⟨rfl, hsJ⟩
  clear qV c0 c1
  have HSJ : Hid (SW w1 wJ base hb mb (m2 true) (L2 WL) 120 bx (.slice vo vl vc) WL) := hsJ
  clear hsJ
  go_wp2_with fail
  refine loopE2 w1 wJ base hb mb qb sb so vo sc vl vc WL true bx Hvl hvl HW6 HB HSJ _ _ _ _ _ _ _ _ _ _ _ _ _ _ _ _ _ _ _ _ _ _ _ _ _ _ _ _ _ _ _ _ _ _ _ _ _ _ _ _ _ _ _ _ _ _ _ _ _ _ _ _ _ _ _ _ _ _ _ _ _ _ _ _ _ _ _ _ _ _ _ _ _ _ _ _ _ _ _ _ _ _ _ _ _ _ _ _ _ _ _ _ _ _ _ _ _ _ _ _ _ _ _ _ _ _ _ _ _ _ _ _ _ _ _ _ _ _ _ _ _ _ _ _ _ _ _ _ _ _ _ _ _ _ _ _ _ _ _ _ _ _ _ _ _ _ _ _ _ _ _ _ _ _ _ _ _ _ _ _ _ _ _ _ _ _ _ _ _ _ _ _ _ _ _ _ _ _ _ _ _ _ _ _ _ _ _ _ _ _ _ _ _ _ _ _ _ _ _ _ _ _ _ _ _ _ _ _ _ _ _ _ _ _ _ _ _ _ _ _ _ _ _ _ _ _ _ _ _ _ _ _ _ _ _ _ _ _ _ _ _ _ _ _ _ _ _ _ _ _ _ _ _ _ _ _ _ _ _ _ _ _ _ _ _ _ _ _ _ _ _ _ _ _ _ _ _ _ _ _ _ _ _ _ _ _ _ _ _ ?_
  intro y4 y21 y22 y23 y24 y25 y223 y224 y225 y226 y227 y228 y229 y230 y231 y232 y233 y234 y235 y236 y237 y238 y239 y240 y241 y242 y243 y244 y245 y246 y247 y248 y249 y250 y251 y252 y253 y254 y255 y256 y257 y258 y259 y260 y261 y262 y263 y264 y265 y266 y267 y268 y269 y270 y271 wK HsK
  have hsK := HsK.out
  clear HsK HSJ
  have qC : Calls Try.prog 19 #[.pointer (some ⟨mb, 0, none⟩), .int .i64 1] wK fun x w' => x = .returned (.int .i64 0) ∧ SW w1 w' base hb mb (m3 true) (L2 WL) 120 bx (.slice vo vl vc) WL := hsK.kept (X := fun x => x = .returned (.int .i64 0)) (fun _ hs _ => commit_h (t := ⟨1, 1, [⟨3, -1, 2⟩]⟩) hs rfl (by decide) (by omega) (by omega))
  have c0 : wK.cell? ⟨qb, 0, none⟩ = some (.pointer (some ⟨mb, 0, none⟩)) := ((HB.out.1 wK (fun p hp => hsK.st.box hp)).1).1
  have c1 : wK.cell? ⟨qb, 1, none⟩ = some (.pointer (some ⟨hb, 0, none⟩)) := ((HB.out.1 wK (fun p hp => hsK.st.box hp)).1).2.1
  clear hsK
  go_wp2_with fail
  refine qC.mono ?_
  rintro x wL ⟨rfl, hsL⟩
  clear qC c0 c1
  have qW := written_sw hsL (by omega) 2 (by omega) (by omega) 2 (by omega) (by omega) false (wc2 true WL)
  have c0 : wL.cell? ⟨qb, 0, none⟩ = some (.pointer (some ⟨mb, 0, none⟩)) := ((HB.out.1 wL (fun p hp => hsL.st.box hp)).1).1
  have c1 : wL.cell? ⟨qb, 1, none⟩ = some (.pointer (some ⟨hb, 0, none⟩)) := ((HB.out.1 wL (fun p hp => hsL.st.box hp)).1).2.1
  clear hsL
  go_wp2_with fail
  refine qW.mono ?_
  rintro x wM ⟨rfl, hsM⟩
  clear qW c0 c1
  have qW := written_sw hsM (by omega) 2 (by omega) (by omega) 0 (by omega) (by omega) false (wc0 true WL)
  have c0 : wM.cell? ⟨qb, 0, none⟩ = some (.pointer (some ⟨mb, 0, none⟩)) := ((HB.out.1 wM (fun p hp => hsM.st.box hp)).1).1
  have c1 : wM.cell? ⟨qb, 1, none⟩ = some (.pointer (some ⟨hb, 0, none⟩)) := ((HB.out.1 wM (fun p hp => hsM.st.box hp)).1).2.1
  clear hsM
  go_wp2_with fail
  refine qW.mono ?_
  rintro x wN ⟨rfl, hsN⟩
  clear qW c0 c1
  have HN : Hid (Tch (fun _ => False) w wN) := T1.out.trans' hsN.tch
  clear hsN
  go_wp2_with fail
  go_ret
  exact ⟨rfl, HN.out⟩
end Go.Proofs.Ytjbehnoococelaa
