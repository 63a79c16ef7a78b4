import Derived.Test.YtnjiiebjdpipjaaTPl0
/- TreePlays: the law. -/
namespace Go.Proofs.Ytnjiiebjdpipjaa
open Go.RowKit Go Go.Shelf Go.Sort

/-- A step of the script in the world. -/
structure OpAt (W : World) (g o : Nat) (p : Opv) : Prop where
  d0 : W.cell? ⟨g, o, none⟩ = some (.bool p.other)
  d1 : W.cell? ⟨g, o + 1, none⟩ = some (.int .i64 p.kind)
  d2 : W.cell? ⟨g, o + 2, none⟩ = some (.int .i64 p.n)
  d3 : W.cell? ⟨g, o + 3, none⟩ = some (.string p.s)
  d4 : W.cell? ⟨g, o + 4, none⟩ = some (.string p.t)
theorem OpAt.no {W W' : World} {g o : Nat} {p : Opv} (h : OpAt W g o p) (t : Tch (fun _ => False) W W') : OpAt W' g o p :=
  ⟨(t.cell (p := ⟨g, o, none⟩) (cell_lt h.d0) (fun h => h)).trans h.d0, (t.cell (p := ⟨g, o + 1, none⟩) (cell_lt h.d1) (fun h => h)).trans h.d1, (t.cell (p := ⟨g, o + 2, none⟩) (cell_lt h.d2) (fun h => h)).trans h.d2, (t.cell (p := ⟨g, o + 3, none⟩) (cell_lt h.d3) (fun h => h)).trans h.d3, (t.cell (p := ⟨g, o + 4, none⟩) (cell_lt h.d4) (fun h => h)).trans h.d4⟩
abbrev mapO : Obj := .cells #[.slice none 0 0, .slice none 0 0] 51
set_option maxHeartbeats 8000000 in
set_option maxRecDepth 100000 in
theorem plays_law (w0 : World) (so : Option Addr) (n cp : Nat) (ops : Nat → Opv) (hO : ∀ i, i < n → ∃ g o, so = some ⟨g, o, none⟩ ∧ OpAt w0 g (o + i * 5) (ops i) ∧ (ops i).ok) (hn : n ≤ 9223372036854775807) : Calls Try.prog 5 #[.slice so n cp] w0 fun x w' => x = .returned (.bool true) ∧ Tch (fun _ => False) w0 w' := by
  have HO : Hid (∀ i, i < n → ∃ g o, so = some ⟨g, o, none⟩ ∧ OpAt w0 g (o + i * 5) (ops i) ∧ (ops i).ok) := hO
  have hnI : (n : Int) ≤ 9223372036854775807 := by omega
  have q := known_any w0
  clear hO hn
  go_enter Try.func5, Try.ntmps5
  go_wp2_with fail
  refine q.mono ?_
  clear q
  rintro x w1 ⟨rfl, t1⟩
  have q := new_t w1
  go_wp2_with fail
  refine q.mono ?_
  clear q
  rintro x w2 ⟨rfl, h2, t2⟩
  obtain ⟨w3, h3⟩ : ∃ w3, w3 = (w2.alloc (.cells #[.slice none 0 0, .slice none 0 0] 51)).alloc (.cells #[pv w1.heap.size, pv w2.heap.size] 53) := ⟨_, rfl⟩
  have H3 : Hid (w3 = (w2.alloc (.cells #[.slice none 0 0, .slice none 0 0] 51)).alloc (.cells #[pv w1.heap.size, pv w2.heap.size] 53)) := h3
  have H2 : Hid (TW w2 w1.heap.size [] 0 [w1.heap.size]) := h2
  have T2 : Hid (Tch (fun _ => False) w1 w2) := t2
  have T1 : Hid (Tch (fun _ => False) w0 w1) := t1
  have q := new_t w3
  clear h2 t2 t1 h3
  go_wp2_with fail
  have h3' : w3 = (w2.alloc (.cells #[.slice none 0 0, .slice none 0 0] 51)).alloc (.cells #[.pointer (some ⟨w1.heap.size, 0, none⟩), .pointer (some ⟨w2.heap.size, 0, none⟩)] 53) := H3.out
  rw [← h3']
  clear h3'
  refine q.mono ?_
  clear q
  rintro x w4 ⟨rfl, h4, t4⟩
  obtain ⟨w5, h5⟩ : ∃ w5, w5 = (w4.alloc (.cells #[.slice none 0 0, .slice none 0 0] 51)).alloc (.cells #[pv w3.heap.size, pv w4.heap.size] 53) := ⟨_, rfl⟩
  have HL : Hid (LP w0 w5 w1.heap.size w2.heap.size w3.heap.size w4.heap.size (w2.heap.size + 1) (w4.heap.size + 1) 0) := lp_new T1.out H2.out T2.out H3.out h4 t4 h5
  have z0 : w5.cell? ⟨w2.heap.size + 1, 0, none⟩ = some (pv w1.heap.size) := by rw [blk_cell HL.out.a]; rfl
  have z1 : w5.cell? ⟨w4.heap.size + 1, 0, none⟩ = some (pv w3.heap.size) := by rw [blk_cell HL.out.b]; rfl
  rw [h5] at z0 z1
  have H5 : Hid (w5 = (w4.alloc (.cells #[.slice none 0 0, .slice none 0 0] 51)).alloc (.cells #[pv w3.heap.size, pv w4.heap.size] 53)) := h5
  clear h4 t4 h5 H3 H2 T2 T1
  go_wp2_with fail
  have h5' : w5 = (w4.alloc (.cells #[.slice none 0 0, .slice none 0 0] 51)).alloc (.cells #[.pointer (some ⟨w3.heap.size, 0, none⟩), .pointer (some ⟨w4.heap.size, 0, none⟩)] 53) := H5.out
  rw [← h5']
  clear h5' H5 z0 z1
  generalize w1.heap.size = ba at *
  generalize w2.heap.size = ma at *
  generalize w3.heap.size = bb at *
  generalize w4.heap.size = mb at *
  clear w1 w2 w3 w4
  go_loopw [6] (fun s6 wr => ∃ (wL : World) (i : Nat), wL = wr ∧ s6 = .int .i64 i ∧ i ≤ 400 ∧ i ≤ n ∧ Hid (LP w0 wL ba ma bb mb (ma + 1) (mb + 1) i)) (fun s6 _ => 400 - (intOf s6).toNat)
  case atStart => exact ⟨_, 0, rfl, rfl, by omega, by omega, HL⟩
  case round =>
    obtain ⟨wr, i, rfl, rfl, hi, hin, HM⟩ := hrel
    clear HL
    by_cases hlt : (i : Int) < n
    · by_cases h4 : (i : Int) < 400
      · obtain ⟨g, o, hso, hop, hok⟩ := HO.out i (by omega)
        subst hso
        obtain ⟨p, hp⟩ : ∃ p, p = ops i := ⟨_, rfl⟩
        rw [← hp] at hop hok
        obtain ⟨ot, kd, N, s, t⟩ := p
        have HOp : Hid (OpAt w0 g (o + i * 5) ⟨ot, kd, N, s, t⟩) := hop
        have Hok : Hid (Opv.ok ⟨ot, kd, N, s, t⟩) := hok
        obtain ⟨d0, d1, d2, d3, d4⟩ := hop.no HM.out.t
        have a0 : wr.cell? ⟨ma + 1, 0, none⟩ = some (pv ba) := by rw [blk_cell HM.out.a]; rfl
        have a1 : wr.cell? ⟨ma + 1, 1, none⟩ = some (pv ma) := by rw [blk_cell HM.out.a]; rfl
        have b0 : wr.cell? ⟨mb + 1, 0, none⟩ = some (pv bb) := by rw [blk_cell HM.out.b]; rfl
        have b1 : wr.cell? ⟨mb + 1, 1, none⟩ = some (pv mb) := by rw [blk_cell HM.out.b]; rfl
        have t9 : Tch (fun _ => False) wr (wr.alloc (.cells #[pv ba, pv ma] 53)) := Tch.alloc _ _ _
        have e0 := (hop.no (HM.out.t.trans' t9)).d0
        have b0' : (wr.alloc (.cells #[pv ba, pv ma] 53)).cell? ⟨mb + 1, 0, none⟩ = some (pv bb) := by rw [blk_cell ((t9.block _ (blk_lt HM.out.b) (fun h => h)).trans HM.out.b)]; rfl
        have b1' : (wr.alloc (.cells #[pv ba, pv ma] 53)).cell? ⟨mb + 1, 1, none⟩ = some (pv mb) := by rw [blk_cell ((t9.block _ (blk_lt HM.out.b) (fun h => h)).trans HM.out.b)]; rfl
        clear hp hop hok t9
        cases ot with
        | false =>
          go_wp2_with fail
          clear a0 a1 b0 b1 d0 d1 d2 d3 d4 e0 b0' b1'
          obtain ⟨w9, hw9⟩ : ∃ w9, w9 = wr.alloc (.cells #[pv ba, pv ma] 53) := ⟨_, rfl⟩
          have h9' : w9 = wr.alloc (.cells #[.pointer (some ⟨ba, 0, none⟩), .pointer (some ⟨ma, 0, none⟩)] 53) := hw9
          rw [← h9']
          have t9 : Tch (fun _ => False) wr w9 := by rw [hw9]; exact Tch.alloc _ _ _
          have o9 : w9.heap[wr.heap.size]? = some (.cells #[pv ba, pv ma] 53 (0, 0)) := by rw [hw9]; exact alloc_new _ _
          obtain ⟨q7, hq7⟩ : ∃ q7, q7 = wr.heap.size := ⟨_, rfl⟩
          rw [← hq7] at o9 ⊢
          obtain ⟨C, hC⟩ : ∃ C : List Value → World → Prop, C = fun s W => match s with
            | [] => Tch (fun _ => False) w9 W
            | [y] => y = .bool true ∧ LP w0 W ba ma bb mb (ma + 1) (mb + 1) (i + 1) ∧ W.heap[q7]? = some (.cells #[pv ba, pv ma] 53 (0, 0))
            | _ => False := ⟨_, rfl⟩
          have hC7 : ∀ s W, C s W → W.heap[q7]? = some (.cells #[pv ba, pv ma] 53 (0, 0)) ∧ Tch (fun _ => False) w0 W := fun s W hW => by
            rw [hC] at hW
            match s, hW with
            | [], hW => exact ⟨(hW.block _ (blk_lt o9) (fun h => h)).trans o9, HM.out.t.trans' (t9.trans' hW)⟩
            | [_], hW => exact ⟨hW.2.2, hW.2.1.t⟩
          have hK : ∀ s' W, C s' W → W.cell? ⟨q7, 0, none⟩ = some (pv ba) ∧ W.cell? ⟨q7, 1, none⟩ = some (pv ma) ∧ W.cell? ⟨g, o + i * 5, none⟩ = some (.bool false) ∧ W.cell? ⟨g, o + i * 5 + 1, none⟩ = some (.int .i64 kd) ∧ W.cell? ⟨g, o + i * 5 + 2, none⟩ = some (.int .i64 N) ∧ W.cell? ⟨g, o + i * 5 + 3, none⟩ = some (.string s) ∧ W.cell? ⟨g, o + i * 5 + 4, none⟩ = some (.string t) := fun s' W hW => by
            obtain ⟨z1, z2⟩ := hC7 s' W hW
            have z3 := HOp.out.no z2
            exact ⟨by rw [blk_cell z1]; rfl, by rw [blk_cell z1]; rfl, z3.d0, z3.d1, z3.d2, z3.d3, z3.d4⟩
          have h0' : C [] w9.drew := by rw [hC]; exact (Tch.refl _ _).drew
          have c1 : ∀ W, C [] W → Calls Try.prog 24 #[.agg #[pv ba, pv ma], .agg #[.bool false, .int .i64 kd, .int .i64 N, .string s, .string t]] W fun x W' => ∃ y, x = .returned y ∧ C [y] W' := fun W hW => by
            have z1 := (hC7 [] W hW).1
            rw [hC] at hW ⊢
            refine (LP.one HM.out (t9.trans' hW) (by omega) z1 (by omega) ⟨false, kd, N, s, t⟩ Hok.out).mono ?_
            rintro x W' ⟨rfl, h1, h2⟩
            exact ⟨_, rfl, rfl, h1, h2⟩
          have HF : Hid (∀ y W, C [y] W → y = .bool true ∧ LP w0 W ba ma bb mb (ma + 1) (mb + 1) (i + 1)) := fun y W hW => by
            rw [hC] at hW
            exact ⟨hW.1, hW.2.1⟩
          clear hC hC7 hw9 h9' t9 o9 hq7 HM HOp Hok
          refine wp_region_ordv [5] C 6 [0, 1, 2, 3, 4, 5] (by kernel_rfl) (by kernel_rfl) h0' ?_
          clear h0'
          refine ordv_read rfl (by go_simp) (by rfl) ?_
          apply Exists.intro
          refine ⟨fun s' W hW b K Q hK' => ?_, fun K hK' => ?_⟩
          · obtain ⟨q0, q1, q2, q3, q4, q5, q6⟩ := hK _ W hW
            go_simp
            exact hK' W hW
          go_simp
          refine hK' _ ?_
          clear hK' K
          refine ordv_read rfl (by go_simp) (by rfl) ?_
          apply Exists.intro
          refine ⟨fun s' W hW b K Q hK' => ?_, fun K hK' => ?_⟩
          · obtain ⟨q0, q1, q2, q3, q4, q5, q6⟩ := hK _ W hW
            go_simp
            exact hK' W hW
          go_simp
          refine hK' _ ?_
          clear hK' K
          refine ordv_read rfl (by go_simp) (by rfl) ?_
          apply Exists.intro
          refine ⟨fun s' W hW b K Q hK' => ?_, fun K hK' => ?_⟩
          · obtain ⟨q0, q1, q2, q3, q4, q5, q6⟩ := hK _ W hW
            go_simp
            exact hK' W hW
          go_simp
          refine hK' _ ?_
          clear hK' K
          refine ordv_read rfl (by go_simp) (by rfl) ?_
          apply Exists.intro
          refine ⟨fun s' W hW b K Q hK' => ?_, fun K hK' => ?_⟩
          · obtain ⟨q0, q1, q2, q3, q4, q5, q6⟩ := hK _ W hW
            go_simp
            exact hK' W hW
          go_simp
          refine hK' _ ?_
          clear hK' K
          refine ordv_read rfl (by go_simp) (by rfl) ?_
          apply Exists.intro
          refine ⟨fun s' W hW b K Q hK' => ?_, fun K hK' => ?_⟩
          · obtain ⟨q0, q1, q2, q3, q4, q5, q6⟩ := hK _ W hW
            go_simp
            exact hK' W hW
          go_simp
          refine hK' _ ?_
          clear hK' K
          refine ordv_turn rfl (by go_simp) (by rfl) (fun W hW b K Q hK' => ?_) (fun u hu K hK' => ?_)
          · go_simp
            go_at_call 24
            refine (c1 W hW).mono ?_
            rintro x w' ⟨y, rfl, h1⟩
            exact hK' y w' h1
          obtain rfl : u = .bool true := by
            obtain ⟨W', hW'⟩ := hu
            exact (HF.out u W' hW').1
          clear hu c1
          go_simp
          refine hK' _ ?_
          clear hK' K
          refine ordv_nil ?_
          intro wB hwB
          have HLB : Hid (LP w0 wB ba ma bb mb (ma + 1) (mb + 1) (i + 1)) := (HF.out _ wB hwB).2
          clear hK HF hwB C
          go_wp2_with fail
          go_roundw
          case measure => simp [intOf]; omega
          case rel => exact ⟨_, i + 1, rfl, by go_num, by omega, by omega, HLB⟩
        | true =>
          go_wp2_with fail
          clear a0 a1 b0 b1 d0 d1 d2 d3 d4 e0 b0' b1'
          obtain ⟨w9, hw9⟩ : ∃ w9, w9 = wr.alloc (.cells #[pv bb, pv mb] 53) := ⟨_, rfl⟩
          have h9' : w9 = wr.alloc (.cells #[.pointer (some ⟨bb, 0, none⟩), .pointer (some ⟨mb, 0, none⟩)] 53) := hw9
          rw [← h9']
          have t9 : Tch (fun _ => False) wr w9 := by rw [hw9]; exact Tch.alloc _ _ _
          have o9 : w9.heap[wr.heap.size]? = some (.cells #[pv bb, pv mb] 53 (0, 0)) := by rw [hw9]; exact alloc_new _ _
          obtain ⟨q7, hq7⟩ : ∃ q7, q7 = wr.heap.size := ⟨_, rfl⟩
          rw [← hq7] at o9 ⊢
          obtain ⟨C, hC⟩ : ∃ C : List Value → World → Prop, C = fun s W => match s with
            | [] => Tch (fun _ => False) w9 W
            | [y] => y = .bool true ∧ LP w0 W ba ma bb mb (ma + 1) (mb + 1) (i + 1) ∧ W.heap[q7]? = some (.cells #[pv bb, pv mb] 53 (0, 0))
            | _ => False := ⟨_, rfl⟩
          have hC7 : ∀ s W, C s W → W.heap[q7]? = some (.cells #[pv bb, pv mb] 53 (0, 0)) ∧ Tch (fun _ => False) w0 W := fun s W hW => by
            rw [hC] at hW
            match s, hW with
            | [], hW => exact ⟨(hW.block _ (blk_lt o9) (fun h => h)).trans o9, HM.out.t.trans' (t9.trans' hW)⟩
            | [_], hW => exact ⟨hW.2.2, hW.2.1.t⟩
          have hK : ∀ s' W, C s' W → W.cell? ⟨q7, 0, none⟩ = some (pv bb) ∧ W.cell? ⟨q7, 1, none⟩ = some (pv mb) ∧ W.cell? ⟨g, o + i * 5, none⟩ = some (.bool true) ∧ W.cell? ⟨g, o + i * 5 + 1, none⟩ = some (.int .i64 kd) ∧ W.cell? ⟨g, o + i * 5 + 2, none⟩ = some (.int .i64 N) ∧ W.cell? ⟨g, o + i * 5 + 3, none⟩ = some (.string s) ∧ W.cell? ⟨g, o + i * 5 + 4, none⟩ = some (.string t) := fun s' W hW => by
            obtain ⟨z1, z2⟩ := hC7 s' W hW
            have z3 := HOp.out.no z2
            exact ⟨by rw [blk_cell z1]; rfl, by rw [blk_cell z1]; rfl, z3.d0, z3.d1, z3.d2, z3.d3, z3.d4⟩
          have h0' : C [] w9.drew := by rw [hC]; exact (Tch.refl _ _).drew
          have c1 : ∀ W, C [] W → Calls Try.prog 24 #[.agg #[pv bb, pv mb], .agg #[.bool true, .int .i64 kd, .int .i64 N, .string s, .string t]] W fun x W' => ∃ y, x = .returned y ∧ C [y] W' := fun W hW => by
            have z1 := (hC7 [] W hW).1
            rw [hC] at hW ⊢
            refine (LP.two HM.out (t9.trans' hW) (by omega) z1 (by omega) ⟨true, kd, N, s, t⟩ Hok.out).mono ?_
            rintro x W' ⟨rfl, h1, h2⟩
            exact ⟨_, rfl, rfl, h1, h2⟩
          have HF : Hid (∀ y W, C [y] W → y = .bool true ∧ LP w0 W ba ma bb mb (ma + 1) (mb + 1) (i + 1)) := fun y W hW => by
            rw [hC] at hW
            exact ⟨hW.1, hW.2.1⟩
          clear hC hC7 hw9 h9' t9 o9 hq7 HM HOp Hok
          refine wp_region_ordv [5] C 6 [0, 1, 2, 3, 4, 5] (by kernel_rfl) (by kernel_rfl) h0' ?_
          clear h0'
          refine ordv_read rfl (by go_simp) (by rfl) ?_
          apply Exists.intro
          refine ⟨fun s' W hW b K Q hK' => ?_, fun K hK' => ?_⟩
          · obtain ⟨q0, q1, q2, q3, q4, q5, q6⟩ := hK _ W hW
            go_simp
            exact hK' W hW
          go_simp
          refine hK' _ ?_
          clear hK' K
          refine ordv_read rfl (by go_simp) (by rfl) ?_
          apply Exists.intro
          refine ⟨fun s' W hW b K Q hK' => ?_, fun K hK' => ?_⟩
          · obtain ⟨q0, q1, q2, q3, q4, q5, q6⟩ := hK _ W hW
            go_simp
            exact hK' W hW
          go_simp
          refine hK' _ ?_
          clear hK' K
          refine ordv_read rfl (by go_simp) (by rfl) ?_
          apply Exists.intro
          refine ⟨fun s' W hW b K Q hK' => ?_, fun K hK' => ?_⟩
          · obtain ⟨q0, q1, q2, q3, q4, q5, q6⟩ := hK _ W hW
            go_simp
            exact hK' W hW
          go_simp
          refine hK' _ ?_
          clear hK' K
          refine ordv_read rfl (by go_simp) (by rfl) ?_
          apply Exists.intro
          refine ⟨fun s' W hW b K Q hK' => ?_, fun K hK' => ?_⟩
          · obtain ⟨q0, q1, q2, q3, q4, q5, q6⟩ := hK _ W hW
            go_simp
            exact hK' W hW
          go_simp
          refine hK' _ ?_
          clear hK' K
          refine ordv_read rfl (by go_simp) (by rfl) ?_
          apply Exists.intro
          refine ⟨fun s' W hW b K Q hK' => ?_, fun K hK' => ?_⟩
          · obtain ⟨q0, q1, q2, q3, q4, q5, q6⟩ := hK _ W hW
            go_simp
            exact hK' W hW
          go_simp
          refine hK' _ ?_
          clear hK' K
          refine ordv_turn rfl (by go_simp) (by rfl) (fun W hW b K Q hK' => ?_) (fun u hu K hK' => ?_)
          · go_simp
            go_at_call 24
            refine (c1 W hW).mono ?_
            rintro x w' ⟨y, rfl, h1⟩
            exact hK' y w' h1
          obtain rfl : u = .bool true := by
            obtain ⟨W', hW'⟩ := hu
            exact (HF.out u W' hW').1
          clear hu c1
          go_simp
          refine hK' _ ?_
          clear hK' K
          refine ordv_nil ?_
          intro wB hwB
          have HLB : Hid (LP w0 wB ba ma bb mb (ma + 1) (mb + 1) (i + 1)) := (HF.out _ wB hwB).2
          clear hK HF hwB C
          go_wp2_with fail
          go_roundw
          case measure => simp [intOf]; omega
          case rel => exact ⟨_, i + 1, rfl, by go_num, by omega, by omega, HLB⟩
      · go_wp2_with fail
        obtain ⟨C, hC⟩ : ∃ C : List Value → World → Prop, C = fun s W => match s with
          | [] => Tch (fun _ => False) wr W
          | [y] => Tch (fun _ => False) wr W ∧ ∃ r, y = .func (.func 72) #[] #[pv r, pv (r + 1)] ∧ W.heap[r]? = some (.cells #[pv ba] 23 (0, 0)) ∧ W.heap[r + 1]? = some (.cells #[.string ⟨#[]⟩, .string ⟨#[]⟩, .bool false] 90 (0, 0))
          | [_, u] => u = .bool true ∧ Tch (fun _ => False) wr W
          | _ => False := ⟨_, rfl⟩
        have hCt : ∀ s W, C s W → Tch (fun _ => False) wr W := fun s W hW => by
          rw [hC] at hW
          match s, hW with
          | [], hW => exact hW
          | [_], hW => exact hW.1
          | [_, _], hW => exact hW.2
        have hK : ∀ s W, C s W → W.cell? ⟨ma + 1, 0, none⟩ = some (pv ba) ∧ W.cell? ⟨ma + 1, 1, none⟩ = some (pv ma) := fun s W hW => by
          have z1 := (HM.out.more (hCt s W hW)).a
          exact ⟨by rw [blk_cell z1]; rfl, by rw [blk_cell z1]; rfl⟩
        have h0' : C [] wr.drew := by rw [hC]; exact (Tch.refl _ _).drew
        have c1 : ∀ W, C [] W → Calls Try.prog 26 #[pv ba, .string ⟨#[]⟩, .string ⟨#[]⟩] W fun x W' => ∃ y, x = .returned y ∧ C [y] W' := fun W hW => by
          rw [hC] at hW ⊢
          refine (range_any ba ⟨#[]⟩ ⟨#[]⟩ W).mono ?_
          rintro x W' ⟨rfl, rfl⟩
          obtain ⟨m0, m1⟩ := two_new W (.cells #[pv ba] 23) (.cells #[.string ⟨#[]⟩, .string ⟨#[]⟩, .bool false] 90)
          exact ⟨_, rfl, (hW.allocR _).allocR _, _, rfl, m0, m1⟩
        have c2 : ∀ y W, C [y] W → Calls Try.prog 25 #[.agg #[pv ba, pv ma], y, .string ⟨#[]⟩, .string ⟨#[]⟩, .bool false, .int .i64 (-1)] W fun x W' => ∃ u, x = .returned u ∧ C [y, u] W' := fun y W hW => by
          rw [hC] at hW ⊢
          obtain ⟨h1, r, rfl, h2, h3⟩ := hW
          obtain ⟨_, _, _, Ga, Gb, la, lb, p1, p2, _, _, _, p6, p7⟩ := HM.out.more h1
          obtain ⟨_, F, FM, ht, k1, k2, _⟩ := p1
          refine (goes_any W ba ma r (r + 1) la ht F FM ⟨#[]⟩ ⟨#[]⟩ false (-1) k1 k2 (by omega) h2 h3).mono ?_
          rintro x W' ⟨rfl, t'⟩
          exact ⟨_, rfl, rfl, h1.trans' t'⟩
        have s1 : ∀ y W, C [y] W → ∃ r, y = .func (.func 72) #[] #[pv r, pv (r + 1)] := fun y W hW => by
          rw [hC] at hW
          obtain ⟨_, r, e, _⟩ := hW
          exact ⟨r, e⟩
        have HF : Hid (∀ y u W, C [y, u] W → u = .bool true ∧ LP w0 W ba ma bb mb (ma + 1) (mb + 1) i) := fun y u W hW => by
          rw [hC] at hW
          exact ⟨hW.1, HM.out.more hW.2⟩
        clear hC hCt HM
        refine wp_region_ordv [3, 4] C 5 [0, 1, 2, 3, 4] (by kernel_rfl) (by kernel_rfl) h0' ?_
        clear h0'
        refine ordv_read rfl (by go_simp) (by rfl) ?_
        apply Exists.intro
        refine ⟨fun s' W hW b K Q hK' => ?_, fun K hK' => ?_⟩
        · obtain ⟨q0, q1⟩ := hK _ W hW
          go_simp
          exact hK' W hW
        go_simp
        refine hK' _ ?_
        clear hK' K
        refine ordv_read rfl (by go_simp) (by rfl) ?_
        apply Exists.intro
        refine ⟨fun s' W hW b K Q hK' => ?_, fun K hK' => ?_⟩
        · obtain ⟨q0, q1⟩ := hK _ W hW
          go_simp
          exact hK' W hW
        go_simp
        refine hK' _ ?_
        clear hK' K
        refine ordv_read rfl (by go_simp) (by rfl) ?_
        apply Exists.intro
        refine ⟨fun s' W hW b K Q hK' => ?_, fun K hK' => ?_⟩
        · obtain ⟨q0, q1⟩ := hK _ W hW
          go_simp
          exact hK' W hW
        go_simp
        refine hK' _ ?_
        clear hK' K
        refine ordv_turn rfl (by go_simp) (by rfl) (fun W hW b K Q hK' => ?_) (fun u hu K hK' => ?_)
        · go_simp
          go_at_call 26
          refine (c1 W hW).mono ?_
          rintro x w' ⟨y, rfl, h1⟩
          exact hK' y w' h1
        obtain ⟨r9, rfl⟩ : ∃ r, u = .func (.func 72) #[] #[pv r, pv (r + 1)] := by
          obtain ⟨W', hW'⟩ := hu
          exact s1 u W' hW'
        clear hu c1 s1
        go_simp
        refine hK' _ ?_
        clear hK' K
        refine ordv_turn rfl (by go_simp) (by rfl) (fun W hW b K Q hK' => ?_) (fun u hu K hK' => ?_)
        · go_simp
          go_at_call 25
          refine (c2 _ W hW).mono ?_
          rintro x w' ⟨y, rfl, h1⟩
          exact hK' y w' h1
        obtain rfl : u = .bool true := by
          obtain ⟨W', hW'⟩ := hu
          exact (HF.out _ u W' hW').1
        clear hu c2
        go_simp
        refine hK' _ ?_
        clear hK' K
        refine ordv_nil ?_
        intro wE hwB
        have HE1 : Hid (LP w0 wE ba ma bb mb (ma + 1) (mb + 1) i) := (HF.out _ _ wE hwB).2
        clear hK HF hwB C
        go_wp2_with fail
        obtain ⟨C, hC⟩ : ∃ C : List Value → World → Prop, C = fun s W => match s with
          | [] => Tch (fun _ => False) wE W
          | [y] => Tch (fun _ => False) wE W ∧ ∃ r, y = .func (.func 72) #[] #[pv r, pv (r + 1)] ∧ W.heap[r]? = some (.cells #[pv bb] 23 (0, 0)) ∧ W.heap[r + 1]? = some (.cells #[.string ⟨#[]⟩, .string ⟨#[]⟩, .bool true] 90 (0, 0))
          | [_, u] => u = .bool true ∧ Tch (fun _ => False) wE W
          | _ => False := ⟨_, rfl⟩
        have hCt : ∀ s W, C s W → Tch (fun _ => False) wE W := fun s W hW => by
          rw [hC] at hW
          match s, hW with
          | [], hW => exact hW
          | [_], hW => exact hW.1
          | [_, _], hW => exact hW.2
        have hK : ∀ s W, C s W → W.cell? ⟨mb + 1, 0, none⟩ = some (pv bb) ∧ W.cell? ⟨mb + 1, 1, none⟩ = some (pv mb) := fun s W hW => by
          have z1 := (HE1.out.more (hCt s W hW)).b
          exact ⟨by rw [blk_cell z1]; rfl, by rw [blk_cell z1]; rfl⟩
        have h0' : C [] wE.drew := by rw [hC]; exact (Tch.refl _ _).drew
        have c1 : ∀ W, C [] W → Calls Try.prog 27 #[pv bb, .string ⟨#[]⟩, .string ⟨#[]⟩] W fun x W' => ∃ y, x = .returned y ∧ C [y] W' := fun W hW => by
          rw [hC] at hW ⊢
          refine (back_any bb ⟨#[]⟩ ⟨#[]⟩ W).mono ?_
          rintro x W' ⟨rfl, rfl⟩
          obtain ⟨m0, m1⟩ := two_new W (.cells #[pv bb] 23) (.cells #[.string ⟨#[]⟩, .string ⟨#[]⟩, .bool true] 90)
          exact ⟨_, rfl, (hW.allocR _).allocR _, _, rfl, m0, m1⟩
        have c2 : ∀ y W, C [y] W → Calls Try.prog 25 #[.agg #[pv bb, pv mb], y, .string ⟨#[]⟩, .string ⟨#[]⟩, .bool true, .int .i64 (-1)] W fun x W' => ∃ u, x = .returned u ∧ C [y, u] W' := fun y W hW => by
          rw [hC] at hW ⊢
          obtain ⟨h1, r, rfl, h2, h3⟩ := hW
          obtain ⟨_, _, _, Ga, Gb, la, lb, p1, p2, _, _, _, p6, p7⟩ := HE1.out.more h1
          obtain ⟨_, F, FM, ht, k1, k2, _⟩ := p2
          refine (goes_any W bb mb r (r + 1) lb ht F FM ⟨#[]⟩ ⟨#[]⟩ true (-1) k1 k2 (by omega) h2 h3).mono ?_
          rintro x W' ⟨rfl, t'⟩
          exact ⟨_, rfl, rfl, h1.trans' t'⟩
        have s1 : ∀ y W, C [y] W → ∃ r, y = .func (.func 72) #[] #[pv r, pv (r + 1)] := fun y W hW => by
          rw [hC] at hW
          obtain ⟨_, r, e, _⟩ := hW
          exact ⟨r, e⟩
        have HF : Hid (∀ y u W, C [y, u] W → u = .bool true ∧ LP w0 W ba ma bb mb (ma + 1) (mb + 1) i) := fun y u W hW => by
          rw [hC] at hW
          exact ⟨hW.1, HE1.out.more hW.2⟩
        clear hC hCt HE1
        refine wp_region_ordv [3, 4] C 5 [0, 1, 2, 3, 4] (by kernel_rfl) (by kernel_rfl) h0' ?_
        clear h0'
        refine ordv_read rfl (by go_simp) (by rfl) ?_
        apply Exists.intro
        refine ⟨fun s' W hW b K Q hK' => ?_, fun K hK' => ?_⟩
        · obtain ⟨q0, q1⟩ := hK _ W hW
          go_simp
          exact hK' W hW
        go_simp
        refine hK' _ ?_
        clear hK' K
        refine ordv_read rfl (by go_simp) (by rfl) ?_
        apply Exists.intro
        refine ⟨fun s' W hW b K Q hK' => ?_, fun K hK' => ?_⟩
        · obtain ⟨q0, q1⟩ := hK _ W hW
          go_simp
          exact hK' W hW
        go_simp
        refine hK' _ ?_
        clear hK' K
        refine ordv_read rfl (by go_simp) (by rfl) ?_
        apply Exists.intro
        refine ⟨fun s' W hW b K Q hK' => ?_, fun K hK' => ?_⟩
        · obtain ⟨q0, q1⟩ := hK _ W hW
          go_simp
          exact hK' W hW
        go_simp
        refine hK' _ ?_
        clear hK' K
        refine ordv_turn rfl (by go_simp) (by rfl) (fun W hW b K Q hK' => ?_) (fun u hu K hK' => ?_)
        · go_simp
          go_at_call 27
          refine (c1 W hW).mono ?_
          rintro x w' ⟨y, rfl, h1⟩
          exact hK' y w' h1
        obtain ⟨r9, rfl⟩ : ∃ r, u = .func (.func 72) #[] #[pv r, pv (r + 1)] := by
          obtain ⟨W', hW'⟩ := hu
          exact s1 u W' hW'
        clear hu c1 s1
        go_simp
        refine hK' _ ?_
        clear hK' K
        refine ordv_turn rfl (by go_simp) (by rfl) (fun W hW b K Q hK' => ?_) (fun u hu K hK' => ?_)
        · go_simp
          go_at_call 25
          refine (c2 _ W hW).mono ?_
          rintro x w' ⟨y, rfl, h1⟩
          exact hK' y w' h1
        obtain rfl : u = .bool true := by
          obtain ⟨W', hW'⟩ := hu
          exact (HF.out _ u W' hW').1
        clear hu c2
        go_simp
        refine hK' _ ?_
        clear hK' K
        refine ordv_nil ?_
        intro wG hwB
        have HE2 : Hid (LP w0 wG ba ma bb mb (ma + 1) (mb + 1) i) := (HF.out _ _ wG hwB).2
        clear hK HF hwB C
        go_wp2_with fail
        go_ret
        exact ⟨rfl, HE2.out.t⟩
    · go_wp2_with fail
      obtain ⟨C, hC⟩ : ∃ C : List Value → World → Prop, C = fun s W => match s with
        | [] => Tch (fun _ => False) wr W
        | [y] => Tch (fun _ => False) wr W ∧ ∃ r, y = .func (.func 72) #[] #[pv r, pv (r + 1)] ∧ W.heap[r]? = some (.cells #[pv ba] 23 (0, 0)) ∧ W.heap[r + 1]? = some (.cells #[.string ⟨#[]⟩, .string ⟨#[]⟩, .bool false] 90 (0, 0))
        | [_, u] => u = .bool true ∧ Tch (fun _ => False) wr W
        | _ => False := ⟨_, rfl⟩
      have hCt : ∀ s W, C s W → Tch (fun _ => False) wr W := fun s W hW => by
        rw [hC] at hW
        match s, hW with
        | [], hW => exact hW
        | [_], hW => exact hW.1
        | [_, _], hW => exact hW.2
      have hK : ∀ s W, C s W → W.cell? ⟨ma + 1, 0, none⟩ = some (pv ba) ∧ W.cell? ⟨ma + 1, 1, none⟩ = some (pv ma) := fun s W hW => by
        have z1 := (HM.out.more (hCt s W hW)).a
        exact ⟨by rw [blk_cell z1]; rfl, by rw [blk_cell z1]; rfl⟩
      have h0' : C [] wr.drew := by rw [hC]; exact (Tch.refl _ _).drew
      have c1 : ∀ W, C [] W → Calls Try.prog 26 #[pv ba, .string ⟨#[]⟩, .string ⟨#[]⟩] W fun x W' => ∃ y, x = .returned y ∧ C [y] W' := fun W hW => by
        rw [hC] at hW ⊢
        refine (range_any ba ⟨#[]⟩ ⟨#[]⟩ W).mono ?_
        rintro x W' ⟨rfl, rfl⟩
        obtain ⟨m0, m1⟩ := two_new W (.cells #[pv ba] 23) (.cells #[.string ⟨#[]⟩, .string ⟨#[]⟩, .bool false] 90)
        exact ⟨_, rfl, (hW.allocR _).allocR _, _, rfl, m0, m1⟩
      have c2 : ∀ y W, C [y] W → Calls Try.prog 25 #[.agg #[pv ba, pv ma], y, .string ⟨#[]⟩, .string ⟨#[]⟩, .bool false, .int .i64 (-1)] W fun x W' => ∃ u, x = .returned u ∧ C [y, u] W' := fun y W hW => by
        rw [hC] at hW ⊢
        obtain ⟨h1, r, rfl, h2, h3⟩ := hW
        obtain ⟨_, _, _, Ga, Gb, la, lb, p1, p2, _, _, _, p6, p7⟩ := HM.out.more h1
        obtain ⟨_, F, FM, ht, k1, k2, _⟩ := p1
        refine (goes_any W ba ma r (r + 1) la ht F FM ⟨#[]⟩ ⟨#[]⟩ false (-1) k1 k2 (by omega) h2 h3).mono ?_
        rintro x W' ⟨rfl, t'⟩
        exact ⟨_, rfl, rfl, h1.trans' t'⟩
      have s1 : ∀ y W, C [y] W → ∃ r, y = .func (.func 72) #[] #[pv r, pv (r + 1)] := fun y W hW => by
        rw [hC] at hW
        obtain ⟨_, r, e, _⟩ := hW
        exact ⟨r, e⟩
      have HF : Hid (∀ y u W, C [y, u] W → u = .bool true ∧ LP w0 W ba ma bb mb (ma + 1) (mb + 1) i) := fun y u W hW => by
        rw [hC] at hW
        exact ⟨hW.1, HM.out.more hW.2⟩
      clear hC hCt HM
      refine wp_region_ordv [3, 4] C 5 [0, 1, 2, 3, 4] (by kernel_rfl) (by kernel_rfl) h0' ?_
      clear h0'
      refine ordv_read rfl (by go_simp) (by rfl) ?_
      apply Exists.intro
      refine ⟨fun s' W hW b K Q hK' => ?_, fun K hK' => ?_⟩
      · obtain ⟨q0, q1⟩ := hK _ W hW
        go_simp
        exact hK' W hW
      go_simp
      refine hK' _ ?_
      clear hK' K
      refine ordv_read rfl (by go_simp) (by rfl) ?_
      apply Exists.intro
      refine ⟨fun s' W hW b K Q hK' => ?_, fun K hK' => ?_⟩
      · obtain ⟨q0, q1⟩ := hK _ W hW
        go_simp
        exact hK' W hW
      go_simp
      refine hK' _ ?_
      clear hK' K
      refine ordv_read rfl (by go_simp) (by rfl) ?_
      apply Exists.intro
      refine ⟨fun s' W hW b K Q hK' => ?_, fun K hK' => ?_⟩
      · obtain ⟨q0, q1⟩ := hK _ W hW
        go_simp
        exact hK' W hW
      go_simp
      refine hK' _ ?_
      clear hK' K
      refine ordv_turn rfl (by go_simp) (by rfl) (fun W hW b K Q hK' => ?_) (fun u hu K hK' => ?_)
      · go_simp
        go_at_call 26
        refine (c1 W hW).mono ?_
        rintro x w' ⟨y, rfl, h1⟩
        exact hK' y w' h1
      obtain ⟨r9, rfl⟩ : ∃ r, u = .func (.func 72) #[] #[pv r, pv (r + 1)] := by
        obtain ⟨W', hW'⟩ := hu
        exact s1 u W' hW'
      clear hu c1 s1
      go_simp
      refine hK' _ ?_
      clear hK' K
      refine ordv_turn rfl (by go_simp) (by rfl) (fun W hW b K Q hK' => ?_) (fun u hu K hK' => ?_)
      · go_simp
        go_at_call 25
        refine (c2 _ W hW).mono ?_
        rintro x w' ⟨y, rfl, h1⟩
        exact hK' y w' h1
      obtain rfl : u = .bool true := by
        obtain ⟨W', hW'⟩ := hu
        exact (HF.out _ u W' hW').1
      clear hu c2
      go_simp
      refine hK' _ ?_
      clear hK' K
      refine ordv_nil ?_
      intro wE hwB
      have HE1 : Hid (LP w0 wE ba ma bb mb (ma + 1) (mb + 1) i) := (HF.out _ _ wE hwB).2
      clear hK HF hwB C
      go_wp2_with fail
      obtain ⟨C, hC⟩ : ∃ C : List Value → World → Prop, C = fun s W => match s with
        | [] => Tch (fun _ => False) wE W
        | [y] => Tch (fun _ => False) wE W ∧ ∃ r, y = .func (.func 72) #[] #[pv r, pv (r + 1)] ∧ W.heap[r]? = some (.cells #[pv bb] 23 (0, 0)) ∧ W.heap[r + 1]? = some (.cells #[.string ⟨#[]⟩, .string ⟨#[]⟩, .bool true] 90 (0, 0))
        | [_, u] => u = .bool true ∧ Tch (fun _ => False) wE W
        | _ => False := ⟨_, rfl⟩
      have hCt : ∀ s W, C s W → Tch (fun _ => False) wE W := fun s W hW => by
        rw [hC] at hW
        match s, hW with
        | [], hW => exact hW
        | [_], hW => exact hW.1
        | [_, _], hW => exact hW.2
      have hK : ∀ s W, C s W → W.cell? ⟨mb + 1, 0, none⟩ = some (pv bb) ∧ W.cell? ⟨mb + 1, 1, none⟩ = some (pv mb) := fun s W hW => by
        have z1 := (HE1.out.more (hCt s W hW)).b
        exact ⟨by rw [blk_cell z1]; rfl, by rw [blk_cell z1]; rfl⟩
      have h0' : C [] wE.drew := by rw [hC]; exact (Tch.refl _ _).drew
      have c1 : ∀ W, C [] W → Calls Try.prog 27 #[pv bb, .string ⟨#[]⟩, .string ⟨#[]⟩] W fun x W' => ∃ y, x = .returned y ∧ C [y] W' := fun W hW => by
        rw [hC] at hW ⊢
        refine (back_any bb ⟨#[]⟩ ⟨#[]⟩ W).mono ?_
        rintro x W' ⟨rfl, rfl⟩
        obtain ⟨m0, m1⟩ := two_new W (.cells #[pv bb] 23) (.cells #[.string ⟨#[]⟩, .string ⟨#[]⟩, .bool true] 90)
        exact ⟨_, rfl, (hW.allocR _).allocR _, _, rfl, m0, m1⟩
      have c2 : ∀ y W, C [y] W → Calls Try.prog 25 #[.agg #[pv bb, pv mb], y, .string ⟨#[]⟩, .string ⟨#[]⟩, .bool true, .int .i64 (-1)] W fun x W' => ∃ u, x = .returned u ∧ C [y, u] W' := fun y W hW => by
        rw [hC] at hW ⊢
        obtain ⟨h1, r, rfl, h2, h3⟩ := hW
        obtain ⟨_, _, _, Ga, Gb, la, lb, p1, p2, _, _, _, p6, p7⟩ := HE1.out.more h1
        obtain ⟨_, F, FM, ht, k1, k2, _⟩ := p2
        refine (goes_any W bb mb r (r + 1) lb ht F FM ⟨#[]⟩ ⟨#[]⟩ true (-1) k1 k2 (by omega) h2 h3).mono ?_
        rintro x W' ⟨rfl, t'⟩
        exact ⟨_, rfl, rfl, h1.trans' t'⟩
      have s1 : ∀ y W, C [y] W → ∃ r, y = .func (.func 72) #[] #[pv r, pv (r + 1)] := fun y W hW => by
        rw [hC] at hW
        obtain ⟨_, r, e, _⟩ := hW
        exact ⟨r, e⟩
      have HF : Hid (∀ y u W, C [y, u] W → u = .bool true ∧ LP w0 W ba ma bb mb (ma + 1) (mb + 1) i) := fun y u W hW => by
        rw [hC] at hW
        exact ⟨hW.1, HE1.out.more hW.2⟩
      clear hC hCt HE1
      refine wp_region_ordv [3, 4] C 5 [0, 1, 2, 3, 4] (by kernel_rfl) (by kernel_rfl) h0' ?_
      clear h0'
      refine ordv_read rfl (by go_simp) (by rfl) ?_
      apply Exists.intro
      refine ⟨fun s' W hW b K Q hK' => ?_, fun K hK' => ?_⟩
      · obtain ⟨q0, q1⟩ := hK _ W hW
        go_simp
        exact hK' W hW
      go_simp
      refine hK' _ ?_
      clear hK' K
      refine ordv_read rfl (by go_simp) (by rfl) ?_
      apply Exists.intro
      refine ⟨fun s' W hW b K Q hK' => ?_, fun K hK' => ?_⟩
      · obtain ⟨q0, q1⟩ := hK _ W hW
        go_simp
        exact hK' W hW
      go_simp
      refine hK' _ ?_
      clear hK' K
      refine ordv_read rfl (by go_simp) (by rfl) ?_
      apply Exists.intro
      refine ⟨fun s' W hW b K Q hK' => ?_, fun K hK' => ?_⟩
      · obtain ⟨q0, q1⟩ := hK _ W hW
        go_simp
        exact hK' W hW
      go_simp
      refine hK' _ ?_
      clear hK' K
      refine ordv_turn rfl (by go_simp) (by rfl) (fun W hW b K Q hK' => ?_) (fun u hu K hK' => ?_)
      · go_simp
        go_at_call 27
        refine (c1 W hW).mono ?_
        rintro x w' ⟨y, rfl, h1⟩
        exact hK' y w' h1
      obtain ⟨r9, rfl⟩ : ∃ r, u = .func (.func 72) #[] #[pv r, pv (r + 1)] := by
        obtain ⟨W', hW'⟩ := hu
        exact s1 u W' hW'
      clear hu c1 s1
      go_simp
      refine hK' _ ?_
      clear hK' K
      refine ordv_turn rfl (by go_simp) (by rfl) (fun W hW b K Q hK' => ?_) (fun u hu K hK' => ?_)
      · go_simp
        go_at_call 25
        refine (c2 _ W hW).mono ?_
        rintro x w' ⟨y, rfl, h1⟩
        exact hK' y w' h1
      obtain rfl : u = .bool true := by
        obtain ⟨W', hW'⟩ := hu
        exact (HF.out _ u W' hW').1
      clear hu c2
      go_simp
      refine hK' _ ?_
      clear hK' K
      refine ordv_nil ?_
      intro wG hwB
      have HE2 : Hid (LP w0 wG ba ma bb mb (ma + 1) (mb + 1) i) := (HF.out _ _ wG hwB).2
      clear hK HF hwB C
      go_wp2_with fail
      go_ret
      exact ⟨rfl, HE2.out.t⟩
end Go.Proofs.Ytnjiiebjdpipjaa
