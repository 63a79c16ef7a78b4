import Derived.Test.YtmaekkhmiafnmaaGreatDoorEX2
import Derived.Test.YtmaekkhmiafnmaaGreatDoorVDec2
set_option maxHeartbeats 4000000
set_option maxRecDepth 100000
namespace Go.Proofs.YtmaekkhmiafnmaaGreatDoor
open Go.RowKit Go Go.Lib
theorem make_row11 (n : Nat) (w : World) (hn : n ≤ 1000000) :
    (Instr.makeSlice 22 (.int .i64 (n : Int)) (.int .i64 (n : Int))).run Tryz.prog w = .ok (.slice (some ⟨w.heap.size, 0, none⟩) n n) (w.alloc (.cells (madeCells #[.int .i64 0, .int .i64 0, .string ⟨#[]⟩] (n * 3)) 29)) := by
  obtain ⟨i0, hi, hz0, hz1, hz2⟩ := info_parts info_val
  have h := run_make (P := Tryz.prog) w 22 29 i0 (.agg #[.int .i64 0, .int .i64 0, .string ⟨#[]⟩]) Tryz.underlying22 hi hz0 .i64 .i64 n n (by omega) (Int.le_refl _) (by rw [hz2]; omega) (by omega)
  simpa [hz1, Value.cells] using h
theorem allV_step {v : Val} {l : List (Val × Int)} : allV ((v, 0) :: l) = (v :: (allV l).1, (allV l).2) := rfl
theorem allV_err {v : Val} {e : Int} {l : List (Val × Int)} (h : e ≠ 0) : allV ((v, e) :: l) = ([], e) := if_pos h
theorem allV_len : ∀ {l : List (Val × Int)}, (allV l).2 = 0 → (allV l).1.length = l.length
  | [], _ => rfl
  | (v, e) :: l, h => by
    by_cases he : e = 0
    · subst he
      rw [allV_step] at h ⊢
      simp only [List.length_cons]
      rw [allV_len h]
    · rw [allV_err he] at h
      exact absurd h he
theorem row_at11 {w : World} {g : Nat} {l : List Val} (h : RowAt w g 0 l) : At w g 0 (rcl l) := fun j u hu => by
  have hj : j < l.length * 3 := by rw [← rcl_len]; exact (List.getElem?_eq_some_iff.1 hu).1
  obtain ⟨q, hq⟩ : ∃ q, j = q * 3 ∨ j = q * 3 + 1 ∨ j = q * 3 + 2 := ⟨j / 3, by omega⟩
  have hi : q < l.length := by omega
  obtain ⟨r0, r1, r2⟩ := rcl_get l q hi
  obtain ⟨c0, c1, c2⟩ := h q hi
  rw [Nat.zero_add] at c0 c1 c2 ⊢
  rcases hq with rfl | rfl | rfl
  · rw [hu] at r0; injection r0 with r0; rw [r0]; exact c0
  · rw [hu] at r1; injection r1 with r1; rw [r1]; exact c1
  · rw [hu] at r2; injection r2 with r2; rw [r2]; exact c2
def AllOut (rs : List (Val × Int)) (w : World) (x : Ending) (w' : World) : Prop := Tch (fun _ => False) w w' ∧ (((allV rs).2 ≠ 0 ∧ x = .returned (.tuple #[.slice none 0 0, .int .i64 (allV rs).2])) ∨ ((allV rs).2 = 0 ∧ ∃ R, x = .returned (.tuple #[.slice (some ⟨R, 0, none⟩) rs.length rs.length, .int .i64 0]) ∧ At w' R 0 (rcl (allV rs).1)))
theorem box3 (W : World) (p i : Nat) (y0 y1 y2 : Value) : Tch (fun i => i = p) W (((W.setCell ⟨p, i, none⟩ y0).setCell ⟨p, i + 1, none⟩ y1).setCell ⟨p, i + 2, none⟩ y2) :=
  ((Tch.setCell (fun i => i = p) W ⟨p, i, none⟩ y0 rfl).setCellR ⟨p, i + 1, none⟩ y1 rfl).setCellR ⟨p, i + 2, none⟩ y2 rfl
theorem workAll_any (rs : List (Val × Int)) (ao co vo : Option Addr) (c nC cc nV vc : Nat) (w : World) (hp : WP w ao rs (rowA co vo nC cc nV vc)) (hl : rs.length ≤ 1000000) :
    Calls Tryz.prog 91 #[.slice ao rs.length c, rowA co vo nC cc nV vc] w fun x w' => AllOut rs w x w' := by
  obtain ⟨n, hn⟩ : ∃ n, n = rs.length := ⟨_, rfl⟩
  rw [← hn] at hl
  obtain ⟨w0, hw0⟩ : ∃ w0, w0 = w.alloc (.cells #[.slice co nC cc, .slice vo nV vc] 80) := ⟨_, rfl⟩
  obtain ⟨w1, hw1⟩ : ∃ w1, w1 = w0.alloc (.cells (madeCells #[.int .i64 0, .int .i64 0, .string ⟨#[]⟩] (n * 3)) 29) := ⟨_, rfl⟩
  have t0 : Tch (fun _ => False) w w1 := by rw [hw1, hw0]; exact (Tch.alloc _ _ _).allocR _
  have hz0 : w0.heap.size = w.heap.size + 1 := by rw [hw0]; simp
  have F0 : RO w1 (w.heap.size + 1) n [] := ⟨⟨_, by rw [hw1, ← hz0]; exact heap_new w0 _, size_madeCells _ _⟩, fun i hi => by simp at hi⟩
  have hr0 : w1.cell? ⟨w.heap.size, 0, none⟩ = some (.slice co nC cc) := by
    rw [hw1, World.cell?_alloc_lt _ _ _ (show w.heap.size < _ by omega), hw0]; simp
  have hr1 : w1.cell? ⟨w.heap.size, 1, none⟩ = some (.slice vo nV vc) := by
    rw [hw1, World.cell?_alloc_lt _ _ _ (show w.heap.size < _ by omega), hw0]; simp
  have hmk := fun W => make_row11 n W hl
  have HP : Hid (WP w ao rs (rowA co vo nC cc nV vc)) := hp
  have HW : Hid (∀ W, Tch (fun i => i = w.heap.size + 1) w1 W → Tch (fun i => i = w.heap.size + 1) w W ∧ Tch (fun _ => False) w W ∧ W.cell? ⟨w.heap.size, 0, none⟩ = some (.slice co nC cc) ∧ W.cell? ⟨w.heap.size, 1, none⟩ = some (.slice vo nV vc)) := fun W t => by
    have T : Tch (fun i => i = w.heap.size + 1) w W := (t0.mono (fun _ _ h => h.elim)).trans' t
    have l : w.heap.size < w1.heap.size := cell_lt hr0
    exact ⟨T, T.mono (fun i hi h => by omega), (t.cell (p := ⟨w.heap.size, 0, none⟩) l (by show ¬ w.heap.size = _; omega)).trans hr0, (t.cell (p := ⟨w.heap.size, 1, none⟩) l (by show ¬ w.heap.size = _; omega)).trans hr1⟩
  have Hn : Hid _ := hn
  have HF : Hid (RO w1 (w.heap.size + 1) n []) := F0
  have Hw : Hid (w1 = w0.alloc (.cells (madeCells #[.int .i64 0, .int .i64 0, .string ⟨#[]⟩] (n * 3)) 29) ∧ w0 = w.alloc (.cells #[.slice co nC cc, .slice vo nV vc] 80)) := ⟨hw1, hw0⟩
  rw [← hn]
  clear hp hw0 hw1 t0 hz0 F0 hr0 hr1 hn
  go_enter Tryz.func91, Tryz.ntmps91
  go_wp2_with fail
  rw [← Hw.out.2, ← Hw.out.1]
  go_loopw [16] (fun iv wr => ∃ (k : Nat) (l : List Val), iv = .int .i64 k ∧ k ≤ n ∧ Hid (l.length = k ∧ Tch (fun i => i = w.heap.size + 1) w1 wr ∧ RO wr (w.heap.size + 1) n l ∧ allV rs = (if (allV (rs.drop k)).2 ≠ 0 then (allV rs).1 else l ++ (allV (rs.drop k)).1, (allV (rs.drop k)).2))) (fun iv _ => n - (RowKit.intOf iv).toNat)
  case atStart => exact ⟨0, [], rfl, by omega, rfl, Tch.refl _ _, HF.out, by rw [List.drop_zero, List.nil_append]; split <;> rfl⟩
  case round =>
    obtain ⟨k, l, rfl, hk, HJ⟩ := hrel
    by_cases hlt : k < n
    · have hltI : (k : Int) < (n : Int) := by omega
      have hkl : k < rs.length := by rw [← Hn.out]; exact hlt
      obtain ⟨T, _, r0, r1⟩ := HW.out _ HJ.out.2.1
      obtain ⟨g, i, rfl, hh⟩ := HP.out k hkl
      obtain ⟨d, cd, q⟩ := hh wr (T.mono (fun j hj h => by have h : j = w.heap.size + 1 := h; show w.heap.size ≤ j; omega))
      obtain ⟨p, hp⟩ : ∃ p, p = rs[k] := ⟨_, rfl⟩
      rw [← hp] at q
      have HD : Hid (rs.drop k = p :: rs.drop (k + 1)) := (show _ = _ from by rw [hp, ← List.drop_eq_getElem_cons])
      obtain ⟨v, e⟩ := p
      simp only at q
      clear hh hp T
      by_cases he : e = 0
      · have He : Hid _ := he
        subst he
        have HS : Hid (∀ W, Tch (fun _ => False) wr W → (∃ a, W.cell? ⟨w.heap.size + 1, k * 3, none⟩ = some a) ∧ (∃ a, W.cell? ⟨w.heap.size + 1, k * 3 + 1, none⟩ = some a) ∧ (∃ a, W.cell? ⟨w.heap.size + 1, k * 3 + 2, none⟩ = some a) ∧ W.frozen? ⟨w.heap.size + 1, k * 3, none⟩ = false ∧ W.frozen? ⟨w.heap.size + 1, k * 3 + 1, none⟩ = false ∧ W.frozen? ⟨w.heap.size + 1, k * 3 + 2, none⟩ = false ∧ Tch (fun i => i = w.heap.size + 1) w1 W ∧ RO W (w.heap.size + 1) n l) := fun W t => by
          have O := HJ.out.2.2.1.tch t (fun h => h)
          obtain ⟨cur, h1, h2⟩ := O.blk
          refine ⟨?_, ?_, ?_, ?_, ?_, ?_, HJ.out.2.1.trans' (t.mono (fun _ _ h => h.elim)), O⟩
          · rw [blk_cell h1]; exact ⟨_, Array.getElem?_eq_getElem (by omega)⟩
          · rw [blk_cell h1]; exact ⟨_, Array.getElem?_eq_getElem (by omega)⟩
          · rw [blk_cell h1]; exact ⟨_, Array.getElem?_eq_getElem (by omega)⟩
          · simp [World.frozen?, h1]
          · simp [World.frozen?, h1]
          · simp [World.frozen?, h1]
        go_wp2_with (go_at_call 32; refine q.mono ?_; rintro y v5 ⟨rfl, t5⟩; obtain ⟨⟨y0, y1, y2⟩, _⟩ := vb_new v5 v; obtain ⟨⟨a0, u0⟩, ⟨a1, u1⟩, ⟨a2, u2⟩, n0, n1, n2, hk1, hk2⟩ := HS.out _ (t5.allocR (.cells #[.int .i64 v.k, .int .i64 v.n, .string v.s] 29)))
        go_roundw
        case rel =>
          refine ⟨k + 1, l ++ [v], by first | trivial | rfl, by omega, by rw [List.length_append, HJ.out.1]; rfl, hk1.trans' (box3 _ _ _ _ _ _), ?_, ?_⟩
          · have h := hk2.step (by rw [HJ.out.1]; exact hlt) v
            rw [HJ.out.1] at h
            exact h
          · have h := HJ.out.2.2.2
            rw [HD.out, allV_step] at h
            rw [h]
            simp only [List.append_assoc, List.singleton_append]
            by_cases hz : (allV (rs.drop (k + 1))).2 ≠ 0
            · simp [hz]
            · simp [hz]
        case measure => simp [RowKit.intOf]; omega
      · have ee : (e == 0) = false := by simpa using he
        have ee2 : (e != 0) = true := by simpa using he
        have HE : Hid ((allV rs).2 = e) := (show _ = _ from by rw [HJ.out.2.2.2, HD.out, allV_err he])
        have He : Hid _ := he
        have HT : Hid (Tch (fun _ => False) w wr) := (HW.out _ HJ.out.2.1).2.1
        go_wp2_with (go_at_call 32; refine q.mono ?_; rintro y v5 ⟨rfl, t5⟩)
        go_ret2
        exact ⟨(HT.out.trans' t5).allocR _, Or.inl ⟨by rw [HE.out]; exact He.out, by rw [HE.out]; rfl⟩⟩
    · have hltI : ¬ (k : Int) < (n : Int) := by omega
      have HE : Hid (allV rs = (l, 0)) := (show _ = _ from by
        have h := HJ.out.2.2.2
        rw [List.drop_of_length_le (by have := Hn.out; omega)] at h
        rw [h]; simp [allV])
      have HT : Hid (Tch (fun _ => False) w wr) := (HW.out _ HJ.out.2.1).2.1
      go_wp2_with fail
      go_ret2
      exact ⟨HT.out, Or.inr ⟨by rw [HE.out], w.heap.size + 1, by rw [← Hn.out]; rfl, by rw [HE.out]; exact row_at11 HJ.out.2.2.1.got⟩⟩
end Go.Proofs.YtmaekkhmiafnmaaGreatDoor
namespace Go.Proofs.YtmaekkhmiafnmaaGreatDoor
open Go.RowKit Go Go.Lib
theorem chosen_any (rs : List (Val × Int)) (ao co vo : Option Addr) (b c nC cc nV vc : Nat) (w : World) (h6 : w.cell? ⟨b, 6, none⟩ = some (.slice ao rs.length c)) (hp : WP w ao rs (rowA co vo nC cc nV vc)) (hl : rs.length ≤ 1000000) (hc : rs.length ≤ c) (h2 : 2 ≤ rs.length) :
    Calls Tryz.prog 89 #[ptV b, rowA co vo nC cc nV vc] w fun x w' => x = .returned (.tuple #[vV (chsV rs).1, .int .i64 (chsV rs).2]) ∧ Tch (fun _ => False) w w' := by
  have hbl : b < w.heap.size := cell_lt h6
  obtain ⟨w0, hw0⟩ : ∃ w0, w0 = (w.alloc (.cells #[.slice co nC cc, .slice vo nV vc] 80)).alloc (.cells #[.int .i64 0, .int .i64 0, .string ⟨#[]⟩] 29) := ⟨_, rfl⟩
  have t0 : Tch (fun _ => False) w w0 := by rw [hw0]; exact (Tch.alloc _ _ _).allocR _
  have hB : RB w.heap.size co vo nC cc nV vc w0 := by rw [hw0]; exact rb_new ..
  have hz0 : w0.heap.size = w.heap.size + 2 := by rw [hw0]; simp
  obtain ⟨g, i, rfl, hh⟩ := hp 0 (by omega)
  have hgl : g < w.heap.size := by
    obtain ⟨d2, cd2, _⟩ := hh w (Tch.refl _ _)
    exact cell_lt cd2
  have e6 : ∀ o1 o2, ((w.alloc o1).alloc o2).cell? ⟨b, 6, none⟩ = some (.slice (some ⟨g, i, none⟩) rs.length c) := fun o1 o2 => ((((Tch.alloc (fun _ => False) w o1).allocR o2)).cell (p := ⟨b, 6, none⟩) hbl (fun h => h)).trans h6
  have HP : Hid (WP w (some ⟨g, i, none⟩) rs (rowA co vo nC cc nV vc)) := hp
  obtain ⟨n, hn⟩ : ∃ n, n = rs.length := ⟨_, rfl⟩
  have Hn : Hid _ := hn
  rw [← hn] at hl e6 hc h2
  have HQ : Hid (∀ k, k < n → ∃ d, ∀ W, Tch (fun i => w.heap.size + 1 ≤ i) w0 W → W.cell? ⟨g, i + k, none⟩ = some (ptV d) ∧ Calls Tryz.prog 32 #[ptV d, rowA co vo nC cc nV vc] W fun x w' => x = .returned (.tuple #[vV (rs.getD k (zV, 0)).1, .int .i64 (rs.getD k (zV, 0)).2]) ∧ Tch (fun _ => False) W w') := fun k hk => by
    have hkl : k < rs.length := by omega
    obtain ⟨g', i', e', hh'⟩ := HP.out k hkl
    simp only [Option.some.injEq, Addr.mk.injEq, and_true] at e'
    obtain ⟨rfl, rfl⟩ := e'
    obtain ⟨d, cd, _⟩ := hh' w0 (t0.mono (fun _ _ h => h.elim))
    refine ⟨d, fun W t => ?_⟩
    obtain ⟨d2, cd2, q2⟩ := hh' W ((t0.mono (fun _ _ h => h.elim)).trans' (t.mono (fun j hj h => by have h : w.heap.size + 1 ≤ j := h; show w.heap.size ≤ j; omega)))
    have e := (t.cell (p := ⟨g, i + k, none⟩) (by show g < _; omega) (by show ¬ w.heap.size + 1 ≤ g; omega)).trans cd
    rw [e] at cd2
    simp only [Option.some.injEq, Value.pointer.injEq, Addr.mk.injEq, and_true] at cd2
    obtain rfl := cd2
    have hg : rs.getD k (zV, 0) = rs[k] := by simp [List.getD_eq_getElem?_getD, List.getElem?_eq_getElem hkl]
    rw [hg]
    exact ⟨e, q2⟩
  have HC : Hid (∀ W, Tch (fun i => w.heap.size + 2 ≤ i) w0 W → RB w.heap.size co vo nC cc nV vc W ∧ Tch (fun _ => False) w W) := fun W t => by
    have T : Tch (fun i => w.heap.size + 2 ≤ i) w W := (t0.mono (fun _ _ h => h.elim)).trans' t
    exact ⟨hB.off t (by omega) (by omega), T.mono (fun j hj h => by have h : w.heap.size + 2 ≤ j := h; omega)⟩
  obtain ⟨R, hR⟩ : ∃ R, R = chsV rs := ⟨_, rfl⟩
  have HR : Hid _ := hR
  rw [← hR]
  have Hw0 : Hid _ := hw0
  have Hsz : Hid (w0.heap.size = w.heap.size + 2) := hz0
  have HJ : Hid (n ≤ c ∧ R = chsV (rs.drop 0)) := ⟨hc, by rw [List.drop_zero]; exact hR⟩
  clear hp h6 t0 hB hw0 hn hR hz0 hh hc
  go_enter Tryz.func89, Tryz.ntmps89
  go_wp2_with fail
  rw [← Hw0.out]
  clear e6
  go_loopw [6] (fun sv wr => ∃ (k m c' : Nat) (so : Option Addr), sv = .slice so m c' ∧ k + m = n ∧ Hid (m ≤ c' ∧ (m ≠ 0 → so = some ⟨g, i + k, none⟩) ∧ R = chsV (rs.drop k)) ∧ Hid (Tch (fun i => w.heap.size + 2 ≤ i) w0 wr)) (fun sv _ => match sv with | .slice _ m _ => m | _ => 0)
  case atStart => exact ⟨0, n, c, some ⟨g, i, none⟩, rfl, by omega, ⟨HJ.out.1, fun _ => rfl, HJ.out.2⟩, Tch.refl _ _⟩
  case round =>
    obtain ⟨k, m, c', so, rfl, hkm, HK, HT⟩ := hrel
    by_cases hm : 1 < m
    · obtain ⟨m, rfl⟩ : ∃ m', m = m' + 2 := ⟨m - 2, by omega⟩
      have hmI : (1 : Int) < ((m + 2 : Nat) : Int) := by omega
      have hso := HK.out.2.1 (by omega)
      subst hso
      obtain ⟨d, HQ0⟩ := HQ.out k (by omega)
      obtain ⟨d1, HQ1⟩ := HQ.out (k + 1) (by omega)
      have HD : Hid (rs.drop k = rs.getD k (zV, 0) :: rs.getD (k + 1) (zV, 0) :: rs.drop (k + 2)) := (show _ = _ from by
        have hl := Hn.out
        rw [List.drop_eq_getElem_cons (show k < rs.length by omega), List.drop_eq_getElem_cons (show k + 1 < rs.length by omega)]
        simp [List.getD_eq_getElem?_getD, List.getElem?_eq_getElem (show k < rs.length by omega), List.getElem?_eq_getElem (show k + 1 < rs.length by omega)])
      obtain ⟨p0, hp0⟩ : ∃ p, p = rs.getD k (zV, 0) := ⟨_, rfl⟩
      obtain ⟨p1, hp1⟩ : ∃ p, p = rs.getD (k + 1) (zV, 0) := ⟨_, rfl⟩
      rw [← hp0] at HD HQ0
      rw [← hp1] at HD HQ1
      have HN0 : Hid (R = chsV (p0 :: p1 :: rs.drop (k + 2))) := (show _ = _ from by rw [HK.out.2.2, HD.out])
      clear hp0 hp1 HD
      obtain ⟨v, e⟩ := p0
      obtain ⟨v', e'⟩ := p1
      simp only at HQ0 HQ1
      have HQ1' : Hid _ := HQ1
      have Hq : Hid (∀ W, Tch (fun i => w.heap.size + 2 ≤ i) w0 W → Calls Tryz.prog 32 #[ptV d, rowA co vo nC cc nV vc] W fun x w' => x = .returned (.tuple #[vV v, .int .i64 e]) ∧ Tch (fun _ => False) W w') := fun W t => (HQ0 W (t.mono (fun j hj h => by have h : w.heap.size + 2 ≤ j := h; show w.heap.size + 1 ≤ j; omega))).2
      have HS : Hid (∀ W, Tch (fun i => w.heap.size + 2 ≤ i) w0 W → Tch (fun i => w.heap.size + 2 ≤ i) w0 W ∧ W.cell? ⟨g, i + k, none⟩ = some (ptV d) ∧ W.cell? ⟨w.heap.size, 0, none⟩ = some (.slice co nC cc) ∧ W.cell? ⟨w.heap.size, 1, none⟩ = some (.slice vo nV vc)) := fun W t => by
        have B := (HC.out W t).1
        exact ⟨t, (HQ0 W (t.mono (fun j hj h => by have h : w.heap.size + 2 ≤ j := h; show w.heap.size + 1 ≤ j; omega))).1, B.r0, B.r1⟩
      clear HQ0 HQ1
      go_wp2_with fail
      obtain ⟨_, q0, q1, q2⟩ := HS.out wr HT.out
      have hm0 : (0 : Int) < (m : Int) + 2 := by omega
      go_region_held3 (fun W => Tch (fun i => w.heap.size + 2 ≤ i) w0 W ∧ W.cell? ⟨g, i + k, none⟩ = some (ptV d) ∧ W.cell? ⟨w.heap.size, 0, none⟩ = some (.slice co nC cc) ∧ W.cell? ⟨w.heap.size, 1, none⟩ = some (.slice vo nV vc))
        ((refine HS.out _ ?_; first | assumption | with_reducible exact HT.out.drew | with_reducible exact Tch.allocR V1 _ | with_reducible exact (HT.out.allocR _).drew | with_reducible exact HT.out.allocR _ | ((with_reducible refine Tch.trans' V1 (Tch.mono (box_set_tch _ _ _ _ _) ?_)); intro j _ h; have h0 := HT.out.size; have h1 := Hsz.out; show w.heap.size + 2 ≤ j; omega)))
        ((go_at_call 32; refine (Hq.out _ (by first | exact (show _ ∧ _ by assumption).1 | exact HT.out.drew)).mono ?_; rintro y v1 ⟨rfl, t1⟩; have V1 := Tch.trans' (show _ ∧ _ by assumption).1 (no_mono t1); try (have bb := oneB (w := wr) (W := v1) (Tch.trans' (Tch.refl _ _).drew t1); obtain ⟨⟨x0, x1, x2⟩, f0, f1, f2⟩ := bb)))
      · have hV := vb_new v1 v
        obtain ⟨w2, hw2⟩ : ∃ w2, w2 = v1.alloc (.cells #[.int .i64 v.k, .int .i64 v.n, .string v.s] 29) := ⟨_, rfl⟩
        obtain ⟨M1, hM1⟩ : ∃ M1, M1 = v1.heap.size := ⟨_, rfl⟩
        have T2 : Tch (fun i => w.heap.size + 2 ≤ i) w0 w2 := by rw [hw2]; exact V1.allocR _
        have hMM : w.heap.size + 2 ≤ M1 := by have := V1.size; have := Hsz.out; omega
        rw [← hw2, ← hM1] at hV
        rw [← hw2, ← hM1]
        clear hw2 hM1 t1 V1
        have HB2 : Hid (∀ W, Tch (fun _ => False) w2 W → RB w.heap.size co vo nC cc nV vc W ∧ Bx M1 v W ∧ Tch (fun _ => False) w W ∧ Tch (fun i => w.heap.size + 2 ≤ i) w0 W) := fun W t => by
          have T := T2.trans' (no_mono t)
          have B := HC.out W T
          exact ⟨B.1, hV.c.no t, B.2, T⟩
        clear q0 q1 q2
        obtain ⟨⟨r0, r1, ⟨x0, x1, x2⟩, f0, f1, f2⟩, ⟨b0, b1, b2⟩, hw, _⟩ := HB2.out w2 (Tch.refl _ _)
        by_cases he0 : e = 0
        · subst he0
          clear x0 x1 x2 f0 f1 f2 hw r0 r1
          obtain ⟨f, hf⟩ : ∃ f, f = decide (v = tr true) := ⟨_, rfl⟩
          obtain ⟨tb, htb⟩ : ∃ tb, tb = tr true := ⟨_, rfl⟩
          have e1 : ∀ W, (binOp .eql 29 (vV v) (vV tb)).run Tryz.prog W = .ok (.bool f) W := fun W => by rw [hf, htb]; exact eql_dec v _ W
          have Htt : Hid (∀ W, Calls Tryz.prog 93 #[.bool true] W fun x w' => x = .returned (vV tb) ∧ Tch (fun _ => False) W w') := fun W => by rw [htb]; exact truth_any _ W
          have Hf : Hid _ := hf
          clear hf htb
          have HY : Hid (∀ W, Tch (fun _ => False) w2 W → Tch (fun _ => False) w2 W ∧ W.cell? ⟨M1, 0, none⟩ = some (.int .i64 v.k) ∧ W.cell? ⟨M1, 1, none⟩ = some (.int .i64 v.n) ∧ W.cell? ⟨M1, 2, none⟩ = some (.string v.s)) := fun W t => ⟨t, (HB2.out W t).2.1⟩
          cases f with
          | true =>
            have HE : Hid (R = (v', e')) := (show _ = _ from by rw [HN0.out]; show (if (0 : Int) ≠ 0 then (v, (0 : Int)) else if v = tr true then (v', e') else _) = _; rw [if_neg (by simp), if_pos (of_decide_eq_true Hf.out.symm)])
            go_wp2_with fail
            go_region_held3 (fun W => Tch (fun _ => False) w2 W ∧ W.cell? ⟨M1, 0, none⟩ = some (.int .i64 v.k) ∧ W.cell? ⟨M1, 1, none⟩ = some (.int .i64 v.n) ∧ W.cell? ⟨M1, 2, none⟩ = some (.string v.s))
              ((refine HY.out _ ?_; first | assumption | exact (Tch.refl _ _).drew))
              ((go_at_call 93; refine (Htt.out _).mono ?_; rintro y v3 ⟨rfl, t3⟩; have V3 : Tch (fun _ => False) w2 v3 := Tch.trans' (show _ ∧ _ by assumption).1 t3))
            all_goals
              obtain ⟨⟨r0, r1, ⟨x0, x1, x2⟩, f0, f1, f2⟩, _, hw, T3⟩ := HB2.out _ V3
              clear x0 x1 x2 f0 f1 f2 hw r0 r1
              have HQq : Hid (∀ W, Tch (fun i => w.heap.size + 1 ≤ i) w0 W → W.cell? ⟨g, i + k + 1, none⟩ = some (ptV d1) ∧ _) := fun W t => HQ1'.out W t
              have hm1 : (1 : Int) < (m : Int) + 2 := by omega
              go_wp2_with fail
              have TM : Tch (fun i => w.heap.size + 1 ≤ i) w0 _ := T3.mono (fun j hj h => by have h : w.heap.size + 2 ≤ j := h; show w.heap.size + 1 ≤ j; omega)
              have HS4 : Hid (∀ W, Tch (fun i => w.heap.size + 1 ≤ i) w0 W → Tch (fun i => w.heap.size + 1 ≤ i) w0 W ∧ W.cell? ⟨g, i + k + 1, none⟩ = some (ptV d1) ∧ W.cell? ⟨w.heap.size, 0, none⟩ = some (.slice co nC cc) ∧ W.cell? ⟨w.heap.size, 1, none⟩ = some (.slice vo nV vc)) := fun W t => ⟨t, (HQq.out W t).1, (t.cell (p := ⟨w.heap.size, 0, none⟩) (by have := Hsz.out; show w.heap.size < _; omega) (by show ¬ w.heap.size + 1 ≤ w.heap.size; omega)).trans (HC.out w0 (Tch.refl _ _)).1.r0, (t.cell (p := ⟨w.heap.size, 1, none⟩) (by have := Hsz.out; show w.heap.size < _; omega) (by show ¬ w.heap.size + 1 ≤ w.heap.size; omega)).trans (HC.out w0 (Tch.refl _ _)).1.r1⟩
              obtain ⟨_, q0, q1, q2⟩ := HS4.out _ TM
              go_region_held3 (fun W => Tch (fun i => w.heap.size + 1 ≤ i) w0 W ∧ W.cell? ⟨g, i + k + 1, none⟩ = some (ptV d1) ∧ W.cell? ⟨w.heap.size, 0, none⟩ = some (.slice co nC cc) ∧ W.cell? ⟨w.heap.size, 1, none⟩ = some (.slice vo nV vc))
                ((refine HS4.out _ ?_; first | assumption | with_reducible exact TM.drew | ((with_reducible refine Tch.trans' V4 (Tch.mono (box_set_tch _ _ _ _ _) ?_)); intro j _ h; have h : j = w.heap.size + 1 := h; show w.heap.size + 1 ≤ j; omega)))
                ((go_at_call 32; refine ((HQq.out _ (by first | exact TM | exact TM.drew)).2).mono ?_; rintro y v4 ⟨rfl, t4⟩; have V4 : Tch (fun i => w.heap.size + 1 ≤ i) w0 v4 := Tch.trans' (by first | exact TM | exact TM.drew) (no_mono t4); obtain ⟨⟨_, _, ⟨x0, x1, x2⟩, f0, f1, f2⟩, hw⟩ := HC.out _ (show Tch (fun i => w.heap.size + 2 ≤ i) w0 v4 from Tch.trans' (by first | exact T3 | exact T3.drew) (no_mono t4))))
              go_wp2_with fail
              obtain ⟨k0, k1, k2⟩ := box_set _ (w.heap.size + 1) _ _ _ (.int .i64 (v').k) (.int .i64 (v').n) (.string (v').s) x0 x1 x2
              refine bodyPost_ret (res_ve (j := 4) (m := 5) (by kernel_rfl) _ _ (w.heap.size + 1) (v') (.int .i64 e') ?_ ?_ k0 k1 k2) rfl ⟨by rw [HE.out], hw.trans (box_set_tch _ (w.heap.size + 1) _ _ _) (fun i hi h => by omega)⟩ <;> rfl
          | false =>
            have HE : Hid (R = chsV (rs.drop (k + 2))) := (show _ = _ from by rw [HN0.out]; show (if (0 : Int) ≠ 0 then (v, (0 : Int)) else if v = tr true then (v', e') else _) = _; rw [if_neg (by simp), if_neg (of_decide_eq_false Hf.out.symm)])
            go_wp2_with fail
            go_region_held3 (fun W => Tch (fun _ => False) w2 W ∧ W.cell? ⟨M1, 0, none⟩ = some (.int .i64 v.k) ∧ W.cell? ⟨M1, 1, none⟩ = some (.int .i64 v.n) ∧ W.cell? ⟨M1, 2, none⟩ = some (.string v.s))
              ((refine HY.out _ ?_; first | assumption | exact (Tch.refl _ _).drew))
              ((go_at_call 93; refine (Htt.out _).mono ?_; rintro y v3 ⟨rfl, t3⟩; have V3 : Tch (fun _ => False) w2 v3 := Tch.trans' (show _ ∧ _ by assumption).1 t3))
            all_goals
              obtain ⟨_, _, _, T3⟩ := HB2.out _ V3
              have i1 : (2 : Int) ≤ (m : Int) + 2 := by omega
              have i2 : (m : Int) + 2 ≤ (c' : Int) := by have := HK.out.1; omega
              have i3 : (m : Int) + 2 - 2 = (m : Int) := by omega
              have hcm := HK.out.1
              by_cases hc2 : c' = 2
              · subst hc2
                obtain rfl : m = 0 := by omega
                go_wp2_with fail
                exact ⟨⟨k + 2, 0, 0, _, rfl, by omega, ⟨Nat.le_refl _, fun h => absurd rfl h, HE.out⟩, T3⟩, by show 0 < 0 + 2; omega⟩
              · go_wp2_with fail
                exact ⟨⟨k + 2, m, c' - 2, some ⟨g, i + k + 2, none⟩, rfl, by omega, ⟨by omega, fun _ => by rw [Nat.add_assoc], HE.out⟩, T3⟩, by show m < m + 2; omega⟩
        · have HE : Hid (R = (v, e)) := (show _ = _ from by rw [HN0.out]; exact if_pos he0)
          have ee : (e == 0) = false := by simpa using he0
          have ee2 : (e != 0) = true := by simpa using he0
          go_wp2_with fail
          obtain ⟨k0, k1, k2⟩ := box_set _ (w.heap.size + 1) _ _ _ (.int .i64 (v).k) (.int .i64 (v).n) (.string (v).s) x0 x1 x2
          refine bodyPost_ret (res_ve (j := 4) (m := 5) (by kernel_rfl) _ _ (w.heap.size + 1) (v) (.int .i64 e) ?_ ?_ k0 k1 k2) rfl ⟨by rw [HE.out], hw.trans (box_set_tch _ (w.heap.size + 1) _ _ _) (fun i hi h => by omega)⟩ <;> rfl
      · have hV := VB.set (show VB wr.heap.size zV v1 from ⟨⟨x0, x1, x2⟩, f0, f1, f2⟩) v
        have hMM : w.heap.size + 2 ≤ wr.heap.size := by have := HT.out.size; have := Hsz.out; omega
        have T2 := V1.trans' (Tch.mono (box_set_tch v1 wr.heap.size (.int .i64 v.k) (.int .i64 v.n) (.string v.s)) (T := fun i => w.heap.size + 2 ≤ i) (by intro j _ h; have h : j = wr.heap.size := h; show w.heap.size + 2 ≤ j; omega))
        obtain ⟨w2, hw2⟩ : ∃ w2, w2 = ((v1.setCell ⟨wr.heap.size, 0, none⟩ (.int .i64 v.k)).setCell ⟨wr.heap.size, 1, none⟩ (.int .i64 v.n)).setCell ⟨wr.heap.size, 2, none⟩ (.string v.s) := ⟨_, rfl⟩
        obtain ⟨M1, hM1⟩ : ∃ M1, M1 = wr.heap.size := ⟨_, rfl⟩
        rw [← hw2] at hV T2 ⊢
        rw [← hM1] at hV hMM ⊢
        clear hw2 hM1 t1 V1 x0 x1 x2 f0 f1 f2
        have HB2 : Hid (∀ W, Tch (fun _ => False) w2 W → RB w.heap.size co vo nC cc nV vc W ∧ Bx M1 v W ∧ Tch (fun _ => False) w W ∧ Tch (fun i => w.heap.size + 2 ≤ i) w0 W) := fun W t => by
          have T := T2.trans' (no_mono t)
          have B := HC.out W T
          exact ⟨B.1, hV.c.no t, B.2, T⟩
        clear q0 q1 q2
        obtain ⟨⟨r0, r1, ⟨x0, x1, x2⟩, f0, f1, f2⟩, ⟨b0, b1, b2⟩, hw, _⟩ := HB2.out w2 (Tch.refl _ _)
        by_cases he0 : e = 0
        · subst he0
          clear x0 x1 x2 f0 f1 f2 hw r0 r1
          obtain ⟨f, hf⟩ : ∃ f, f = decide (v = tr true) := ⟨_, rfl⟩
          obtain ⟨tb, htb⟩ : ∃ tb, tb = tr true := ⟨_, rfl⟩
          have e1 : ∀ W, (binOp .eql 29 (vV v) (vV tb)).run Tryz.prog W = .ok (.bool f) W := fun W => by rw [hf, htb]; exact eql_dec v _ W
          have Htt : Hid (∀ W, Calls Tryz.prog 93 #[.bool true] W fun x w' => x = .returned (vV tb) ∧ Tch (fun _ => False) W w') := fun W => by rw [htb]; exact truth_any _ W
          have Hf : Hid _ := hf
          clear hf htb
          have HY : Hid (∀ W, Tch (fun _ => False) w2 W → Tch (fun _ => False) w2 W ∧ W.cell? ⟨M1, 0, none⟩ = some (.int .i64 v.k) ∧ W.cell? ⟨M1, 1, none⟩ = some (.int .i64 v.n) ∧ W.cell? ⟨M1, 2, none⟩ = some (.string v.s)) := fun W t => ⟨t, (HB2.out W t).2.1⟩
          cases f with
          | true =>
            have HE : Hid (R = (v', e')) := (show _ = _ from by rw [HN0.out]; show (if (0 : Int) ≠ 0 then (v, (0 : Int)) else if v = tr true then (v', e') else _) = _; rw [if_neg (by simp), if_pos (of_decide_eq_true Hf.out.symm)])
            go_wp2_with fail
            go_region_held3 (fun W => Tch (fun _ => False) w2 W ∧ W.cell? ⟨M1, 0, none⟩ = some (.int .i64 v.k) ∧ W.cell? ⟨M1, 1, none⟩ = some (.int .i64 v.n) ∧ W.cell? ⟨M1, 2, none⟩ = some (.string v.s))
              ((refine HY.out _ ?_; first | assumption | exact (Tch.refl _ _).drew))
              ((go_at_call 93; refine (Htt.out _).mono ?_; rintro y v3 ⟨rfl, t3⟩; have V3 : Tch (fun _ => False) w2 v3 := Tch.trans' (show _ ∧ _ by assumption).1 t3))
            all_goals
              obtain ⟨⟨r0, r1, ⟨x0, x1, x2⟩, f0, f1, f2⟩, _, hw, T3⟩ := HB2.out _ V3
              clear x0 x1 x2 f0 f1 f2 hw r0 r1
              have HQq : Hid (∀ W, Tch (fun i => w.heap.size + 1 ≤ i) w0 W → W.cell? ⟨g, i + k + 1, none⟩ = some (ptV d1) ∧ _) := fun W t => HQ1'.out W t
              have hm1 : (1 : Int) < (m : Int) + 2 := by omega
              go_wp2_with fail
              have TM : Tch (fun i => w.heap.size + 1 ≤ i) w0 _ := T3.mono (fun j hj h => by have h : w.heap.size + 2 ≤ j := h; show w.heap.size + 1 ≤ j; omega)
              have HS4 : Hid (∀ W, Tch (fun i => w.heap.size + 1 ≤ i) w0 W → Tch (fun i => w.heap.size + 1 ≤ i) w0 W ∧ W.cell? ⟨g, i + k + 1, none⟩ = some (ptV d1) ∧ W.cell? ⟨w.heap.size, 0, none⟩ = some (.slice co nC cc) ∧ W.cell? ⟨w.heap.size, 1, none⟩ = some (.slice vo nV vc)) := fun W t => ⟨t, (HQq.out W t).1, (t.cell (p := ⟨w.heap.size, 0, none⟩) (by have := Hsz.out; show w.heap.size < _; omega) (by show ¬ w.heap.size + 1 ≤ w.heap.size; omega)).trans (HC.out w0 (Tch.refl _ _)).1.r0, (t.cell (p := ⟨w.heap.size, 1, none⟩) (by have := Hsz.out; show w.heap.size < _; omega) (by show ¬ w.heap.size + 1 ≤ w.heap.size; omega)).trans (HC.out w0 (Tch.refl _ _)).1.r1⟩
              obtain ⟨_, q0, q1, q2⟩ := HS4.out _ TM
              go_region_held3 (fun W => Tch (fun i => w.heap.size + 1 ≤ i) w0 W ∧ W.cell? ⟨g, i + k + 1, none⟩ = some (ptV d1) ∧ W.cell? ⟨w.heap.size, 0, none⟩ = some (.slice co nC cc) ∧ W.cell? ⟨w.heap.size, 1, none⟩ = some (.slice vo nV vc))
                ((refine HS4.out _ ?_; first | assumption | with_reducible exact TM.drew | ((with_reducible refine Tch.trans' V4 (Tch.mono (box_set_tch _ _ _ _ _) ?_)); intro j _ h; have h : j = w.heap.size + 1 := h; show w.heap.size + 1 ≤ j; omega)))
                ((go_at_call 32; refine ((HQq.out _ (by first | exact TM | exact TM.drew)).2).mono ?_; rintro y v4 ⟨rfl, t4⟩; have V4 : Tch (fun i => w.heap.size + 1 ≤ i) w0 v4 := Tch.trans' (by first | exact TM | exact TM.drew) (no_mono t4); obtain ⟨⟨_, _, ⟨x0, x1, x2⟩, f0, f1, f2⟩, hw⟩ := HC.out _ (show Tch (fun i => w.heap.size + 2 ≤ i) w0 v4 from Tch.trans' (by first | exact T3 | exact T3.drew) (no_mono t4))))
              go_wp2_with fail
              obtain ⟨k0, k1, k2⟩ := box_set _ (w.heap.size + 1) _ _ _ (.int .i64 (v').k) (.int .i64 (v').n) (.string (v').s) x0 x1 x2
              refine bodyPost_ret (res_ve (j := 4) (m := 5) (by kernel_rfl) _ _ (w.heap.size + 1) (v') (.int .i64 e') ?_ ?_ k0 k1 k2) rfl ⟨by rw [HE.out], hw.trans (box_set_tch _ (w.heap.size + 1) _ _ _) (fun i hi h => by omega)⟩ <;> rfl
          | false =>
            have HE : Hid (R = chsV (rs.drop (k + 2))) := (show _ = _ from by rw [HN0.out]; show (if (0 : Int) ≠ 0 then (v, (0 : Int)) else if v = tr true then (v', e') else _) = _; rw [if_neg (by simp), if_neg (of_decide_eq_false Hf.out.symm)])
            go_wp2_with fail
            go_region_held3 (fun W => Tch (fun _ => False) w2 W ∧ W.cell? ⟨M1, 0, none⟩ = some (.int .i64 v.k) ∧ W.cell? ⟨M1, 1, none⟩ = some (.int .i64 v.n) ∧ W.cell? ⟨M1, 2, none⟩ = some (.string v.s))
              ((refine HY.out _ ?_; first | assumption | exact (Tch.refl _ _).drew))
              ((go_at_call 93; refine (Htt.out _).mono ?_; rintro y v3 ⟨rfl, t3⟩; have V3 : Tch (fun _ => False) w2 v3 := Tch.trans' (show _ ∧ _ by assumption).1 t3))
            all_goals
              obtain ⟨_, _, _, T3⟩ := HB2.out _ V3
              have i1 : (2 : Int) ≤ (m : Int) + 2 := by omega
              have i2 : (m : Int) + 2 ≤ (c' : Int) := by have := HK.out.1; omega
              have i3 : (m : Int) + 2 - 2 = (m : Int) := by omega
              have hcm := HK.out.1
              by_cases hc2 : c' = 2
              · subst hc2
                obtain rfl : m = 0 := by omega
                go_wp2_with fail
                exact ⟨⟨k + 2, 0, 0, _, rfl, by omega, ⟨Nat.le_refl _, fun h => absurd rfl h, HE.out⟩, T3⟩, by show 0 < 0 + 2; omega⟩
              · go_wp2_with fail
                exact ⟨⟨k + 2, m, c' - 2, some ⟨g, i + k + 2, none⟩, rfl, by omega, ⟨by omega, fun _ => by rw [Nat.add_assoc], HE.out⟩, T3⟩, by show m < m + 2; omega⟩
        · have HE : Hid (R = (v, e)) := (show _ = _ from by rw [HN0.out]; exact if_pos he0)
          have ee : (e == 0) = false := by simpa using he0
          have ee2 : (e != 0) = true := by simpa using he0
          go_wp2_with fail
          obtain ⟨k0, k1, k2⟩ := box_set _ (w.heap.size + 1) _ _ _ (.int .i64 (v).k) (.int .i64 (v).n) (.string (v).s) x0 x1 x2
          refine bodyPost_ret (res_ve (j := 4) (m := 5) (by kernel_rfl) _ _ (w.heap.size + 1) (v) (.int .i64 e) ?_ ?_ k0 k1 k2) rfl ⟨by rw [HE.out], hw.trans (box_set_tch _ (w.heap.size + 1) _ _ _) (fun i hi h => by omega)⟩ <;> rfl
    · have hm1 : m = 0 ∨ m = 1 := by omega
      rcases hm1 with rfl | rfl
      · have HE : Hid (R = (zV, 0)) := (show _ = _ from by rw [HK.out.2.2, List.drop_of_length_le (by have := Hn.out; omega)]; rfl)
        obtain ⟨⟨r0, r1, ⟨x0, x1, x2⟩, f0, f1, f2⟩, hw⟩ := HC.out _ HT.out
        go_wp2_with fail
        obtain ⟨k0, k1, k2⟩ := box_set wr (w.heap.size + 1) _ _ _ (.int .i64 zV.k) (.int .i64 zV.n) (.string zV.s) x0 x1 x2
        refine bodyPost_ret (res_ve (j := 4) (m := 5) (by kernel_rfl) _ _ (w.heap.size + 1) zV (.int .i64 0) ?_ ?_ k0 k1 k2) rfl ⟨by rw [HE.out], hw.trans (box_set_tch wr (w.heap.size + 1) _ _ _) (fun i hi h => by omega)⟩ <;> rfl
      · have hso := HK.out.2.1 (by omega)
        subst hso
        obtain ⟨d, HQ0⟩ := HQ.out k (by omega)
        obtain ⟨p0, hp0⟩ : ∃ p, p = rs.getD k (zV, 0) := ⟨_, rfl⟩
        have HE : Hid (R = p0) := (show _ = _ from by
          have hl := Hn.out
          rw [HK.out.2.2, hp0, List.drop_eq_getElem_cons (show k < rs.length by omega), List.drop_of_length_le (show rs.length ≤ k + 1 by omega)]
          simp [chsV, List.getD_eq_getElem?_getD, List.getElem?_eq_getElem (show k < rs.length by omega)])
        rw [← hp0] at HQ0
        clear hp0
        obtain ⟨v, e⟩ := p0
        simp only at HQ0
        have HQq : Hid (∀ W, Tch (fun i => w.heap.size + 1 ≤ i) w0 W → W.cell? ⟨g, i + k, none⟩ = some (ptV d) ∧ _) := HQ0
        clear HQ0
        go_wp2_with fail
        have TM : Tch (fun i => w.heap.size + 1 ≤ i) w0 _ := HT.out.mono (fun j hj h => by have h : w.heap.size + 2 ≤ j := h; show w.heap.size + 1 ≤ j; omega)
        have HS4 : Hid (∀ W, Tch (fun i => w.heap.size + 1 ≤ i) w0 W → Tch (fun i => w.heap.size + 1 ≤ i) w0 W ∧ W.cell? ⟨g, i + k, none⟩ = some (ptV d) ∧ W.cell? ⟨w.heap.size, 0, none⟩ = some (.slice co nC cc) ∧ W.cell? ⟨w.heap.size, 1, none⟩ = some (.slice vo nV vc)) := fun W t => ⟨t, (HQq.out W t).1, (t.cell (p := ⟨w.heap.size, 0, none⟩) (by have := Hsz.out; show w.heap.size < _; omega) (by show ¬ w.heap.size + 1 ≤ w.heap.size; omega)).trans (HC.out w0 (Tch.refl _ _)).1.r0, (t.cell (p := ⟨w.heap.size, 1, none⟩) (by have := Hsz.out; show w.heap.size < _; omega) (by show ¬ w.heap.size + 1 ≤ w.heap.size; omega)).trans (HC.out w0 (Tch.refl _ _)).1.r1⟩
        obtain ⟨_, q0, q1, q2⟩ := HS4.out _ TM
        go_region_held3 (fun W => Tch (fun i => w.heap.size + 1 ≤ i) w0 W ∧ W.cell? ⟨g, i + k, none⟩ = some (ptV d) ∧ W.cell? ⟨w.heap.size, 0, none⟩ = some (.slice co nC cc) ∧ W.cell? ⟨w.heap.size, 1, none⟩ = some (.slice vo nV vc))
          ((refine HS4.out _ ?_; first | assumption | with_reducible exact TM.drew | ((with_reducible refine Tch.trans' V4 (Tch.mono (box_set_tch _ _ _ _ _) ?_)); intro j _ h; have h : j = w.heap.size + 1 := h; show w.heap.size + 1 ≤ j; omega)))
          ((go_at_call 32; refine ((HQq.out _ (by first | exact TM | exact TM.drew)).2).mono ?_; rintro y v4 ⟨rfl, t4⟩; have V4 : Tch (fun i => w.heap.size + 1 ≤ i) w0 v4 := Tch.trans' (by first | exact TM | exact TM.drew) (no_mono t4); obtain ⟨⟨_, _, ⟨x0, x1, x2⟩, f0, f1, f2⟩, hw⟩ := HC.out _ (show Tch (fun i => w.heap.size + 2 ≤ i) w0 v4 from Tch.trans' (by first | exact HT.out | exact HT.out.drew) (no_mono t4))))
        go_wp2_with fail
        obtain ⟨k0, k1, k2⟩ := box_set _ (w.heap.size + 1) _ _ _ (.int .i64 (v).k) (.int .i64 (v).n) (.string (v).s) x0 x1 x2
        refine bodyPost_ret (res_ve (j := 4) (m := 5) (by kernel_rfl) _ _ (w.heap.size + 1) (v) (.int .i64 e) ?_ ?_ k0 k1 k2) rfl ⟨by rw [HE.out], hw.trans (box_set_tch _ (w.heap.size + 1) _ _ _) (fun i hi h => by omega)⟩ <;> rfl
end Go.Proofs.YtmaekkhmiafnmaaGreatDoor
