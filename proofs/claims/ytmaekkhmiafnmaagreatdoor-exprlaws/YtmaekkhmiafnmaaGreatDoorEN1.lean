import Derived.Test.YtmaekkhmiafnmaaGreatDoorEX6
import Derived.Test.YtmaekkhmiafnmaaGreatDoorEX2
import Derived.Test.YtmaekkhmiafnmaaGreatDoorVN
import Derived.Test.YtmaekkhmiafnmaaGreatDoorET6
import Derived.Test.YtmaekkhmiafnmaaGreatDoorEV0
set_option maxHeartbeats 4000000
set_option maxRecDepth 100000
namespace Go.Proofs.YtmaekkhmiafnmaaGreatDoor
open Go.RowKit Go Go.Lib
theorem SL.ge {w w' : World} {ao : Option Addr} {cs : List Value} (h : SL w ao cs) (t : Tch (fun i => w.heap.size ≤ i) w w') : SL w' ao cs := fun hc => by
  obtain ⟨g, o, e, ha⟩ := h hc
  exact ⟨g, o, e, ha.tch t (fun _ hk => by have := ha.lt hc; have hk : w.heap.size ≤ g := hk; omega)⟩
theorem plain_col (C : List Col11) (vs : List Val) (i : Nat) (nm : ByteArray) (co vo : Option Addr) (b cc vc : Nat) (w : World) (h0 : w.cell? ⟨b, 0, none⟩ = some (.int .i64 1)) (h5 : w.cell? ⟨b, 5, none⟩ = some (.string nm)) (hp : plc (csO C) nm = some i) (hi : i < vs.length) (hC : SL w co (colc C)) (hV : SL w vo (rcl vs)) (hl : C.length ≤ 1000000000) :
    Calls Tryz.prog 64 #[ptV b, rowA co vo C.length cc vs.length vc] w fun x w' => x = .returned (.tuple #[vV vs[i], .int .i64 0]) ∧ Tch (fun _ => False) w w' := by
  obtain ⟨v, hv⟩ : ∃ v, v = vs[i] := ⟨_, rfl⟩
  have hne : rcl vs ≠ [] := fun e => by have := rcl_len vs; rw [e] at this; simp at this; omega
  obtain ⟨g, o, rfl, hA⟩ := hV hne
  have hgl := hA.lt hne
  obtain ⟨g0, g1, g2⟩ := rcl_get vs i hi
  rw [← hv] at g0 g1 g2 ⊢
  have a0 := hA _ _ g0
  have a1 := hA _ _ g1
  have a2 := hA _ _ g2
  have hpl : plcI C nm = (i : Nat) := by unfold plcI; rw [hp]
  have HQ : Hid (∀ W, Tch (fun j => w.heap.size ≤ j) w W → Calls Tryz.prog 59 #[.slice co C.length cc, .string nm] W fun x w' => x = .returned (.int .i64 (i : Nat)) ∧ Tch (fun _ => False) W w') := fun W t => by
    have q := placeOf_any nm C co cc W (hC.ge t) hl
    rw [hpl] at q
    exact q
  obtain ⟨nC, hnC⟩ : ∃ n, n = C.length := ⟨_, rfl⟩
  obtain ⟨nV, hnV⟩ : ∃ n, n = vs.length := ⟨_, rfl⟩
  rw [← hnC] at HQ ⊢
  rw [← hnV] at hi ⊢
  have hbl : b < w.heap.size := cell_lt h0
  obtain ⟨w0, hw0⟩ : ∃ w0, w0 = (w.alloc (.cells #[.slice co nC cc, .slice (some ⟨g, o, none⟩) nV vc] 80)).alloc (.cells #[.int .i64 0, .int .i64 0, .string ⟨#[]⟩] 29) := ⟨_, rfl⟩
  have t0 : Tch (fun _ => False) w w0 := by rw [hw0]; exact (Tch.alloc _ _ _).allocR _
  have hB : RB w.heap.size co (some ⟨g, o, none⟩) nC cc nV vc w0 := by rw [hw0]; exact rb_new ..
  have hz0 : w0.heap.size = w.heap.size + 2 := by rw [hw0]; simp
  have e0 : ∀ o1 o2, ((w.alloc o1).alloc o2).cell? ⟨b, 0, none⟩ = some (.int .i64 1) := fun o1 o2 => ((((Tch.alloc (fun _ => False) w o1).allocR o2)).cell (p := ⟨b, 0, none⟩) hbl (fun h => h)).trans h0
  have HS : Hid (∀ W, Tch (fun j => j = w.heap.size + 1) w0 W → Tch (fun j => j = w.heap.size + 1) w0 W ∧ W.cell? ⟨w.heap.size, 0, none⟩ = some (.slice co nC cc) ∧ W.cell? ⟨w.heap.size, 1, none⟩ = some (.slice (some ⟨g, o, none⟩) nV vc) ∧ W.cell? ⟨b, 5, none⟩ = some (.string nm) ∧ W.cell? ⟨g, o + i * 3, none⟩ = some (.int .i64 v.k) ∧ W.cell? ⟨g, o + i * 3 + 1, none⟩ = some (.int .i64 v.n) ∧ W.cell? ⟨g, o + i * 3 + 2, none⟩ = some (.string v.s)) := fun W t => by
    have T : Tch (fun j => j = w.heap.size + 1) w W := (t0.mono (fun _ _ h => h.elim)).trans' t
    have kk : ∀ k, k < w.heap.size → ¬ (k = w.heap.size + 1) := fun k hk => by omega
    exact ⟨t, (t.cell (p := ⟨w.heap.size, 0, none⟩) (by show w.heap.size < _; omega) (by show ¬ w.heap.size = _; omega)).trans hB.r0, (t.cell (p := ⟨w.heap.size, 1, none⟩) (by show w.heap.size < _; omega) (by show ¬ w.heap.size = _; omega)).trans hB.r1, (T.cell (p := ⟨b, 5, none⟩) hbl (kk _ hbl)).trans h5, (T.cell (p := ⟨g, o + i * 3, none⟩) hgl (kk _ hgl)).trans a0, (T.cell (p := ⟨g, o + (i * 3 + 1), none⟩) hgl (kk _ hgl)).trans a1, (T.cell (p := ⟨g, o + (i * 3 + 2), none⟩) hgl (kk _ hgl)).trans a2⟩
  have HC : Hid (∀ W, Tch (fun _ => False) w0 W → OneB (w.heap.size + 1) W ∧ Tch (fun _ => False) w W) := fun W t => ⟨(hB.no t).z, t0.trans' t⟩
  have HT : Hid (∀ W, Tch (fun j => j = w.heap.size + 1) w0 W → Tch (fun j => w.heap.size ≤ j) w W) := fun W t => ((t0.mono (fun _ _ h => h.elim)).trans' t).mono (fun j hj h => by have h : j = w.heap.size + 1 := h; show w.heap.size ≤ j; omega)
  have hiI : (i : Int) < (nV : Int) := by omega
  have Hw0 : Hid _ := hw0
  clear h0 h5 hp hC hV hB hz0 t0 hw0 a0 a1 a2 g0 g1 g2 hA hpl hnC hnV hv hne
  go_enter Tryz.func64, Tryz.ntmps64
  go_wp2_with fail
  rw [← Hw0.out]
  obtain ⟨TM, q0, q1, q2, q3, q4, q5⟩ := HS.out w0 (Tch.refl _ _)
  clear e0
  go_region_held3 (fun W => Tch (fun j => j = w.heap.size + 1) w0 W ∧ W.cell? ⟨w.heap.size, 0, none⟩ = some (.slice co nC cc) ∧ W.cell? ⟨w.heap.size, 1, none⟩ = some (.slice (some ⟨g, o, none⟩) nV vc) ∧ W.cell? ⟨b, 5, none⟩ = some (.string nm) ∧ W.cell? ⟨g, o + i * 3, none⟩ = some (.int .i64 v.k) ∧ W.cell? ⟨g, o + i * 3 + 1, none⟩ = some (.int .i64 v.n) ∧ W.cell? ⟨g, o + i * 3 + 2, none⟩ = some (.string v.s))
    ((refine HS.out _ ?_; first | assumption | with_reducible exact TM.drew | ((with_reducible refine Tch.trans' V4 (box_set_tch _ _ _ _ _)))))
    ((go_at_call 59; refine (HQ.out _ (HT.out _ (by first | exact TM | exact TM.drew | exact (show _ ∧ _ by assumption).1))).mono ?_; rintro y v4 ⟨rfl, t4⟩; have V3 : Tch (fun _ => False) w0 v4 := Tch.trans' (by first | exact (Tch.refl _ _) | exact (Tch.refl _ _).drew) t4; have V4 : Tch (fun j => j = w.heap.size + 1) w0 v4 := no_mono V3; obtain ⟨⟨⟨x0, x1, x2⟩, f0, f1, f2⟩, hw⟩ := HC.out _ V3))
  all_goals
    go_wp2_with fail
    obtain ⟨k0, k1, k2⟩ := box_set _ (w.heap.size + 1) _ _ _ (.int .i64 (v).k) (.int .i64 (v).n) (.string (v).s) x0 x1 x2
    refine bodyPost_ret (res_ve (j := 4) (m := 5) (by kernel_rfl) _ _ (w.heap.size + 1) (v) (.int .i64 0) ?_ ?_ k0 k1 k2) rfl ⟨rfl, hw.trans (box_set_tch _ (w.heap.size + 1) _ _ _) (fun i hi h => by omega)⟩ <;> rfl
end Go.Proofs.YtmaekkhmiafnmaaGreatDoor
namespace Go.Proofs.YtmaekkhmiafnmaaGreatDoor
open Go.RowKit Go Go.Lib
theorem plain_rest (o : Nat) (ho : 4 ≤ o ∧ o ∉ [12, 22, 29]) (rs : List (Val × Int)) (ao co vo : Option Addr) (b c nC cc nV vc : Nat) (w : World) (h0 : w.cell? ⟨b, 0, none⟩ = some (.int .i64 (o : Nat))) (h6 : w.cell? ⟨b, 6, none⟩ = some (.slice ao rs.length c)) (hp : WP w ao rs (rowA co vo nC cc nV vc)) (hl : rs.length ≤ 1000000) (ha : arOk o rs.length) (hg : ∀ x ∈ rs, gP x) :
    Calls Tryz.prog 64 #[ptV b, rowA co vo nC cc nV vc] w fun x w' => x = .returned (.tuple #[vV (if (allV rs).2 ≠ 0 then (zV, (allV rs).2) else hldV o (allV rs).1).1, .int .i64 (if (allV rs).2 ≠ 0 then (zV, (allV rs).2) else hldV o (allV rs).1).2]) ∧ Tch (fun _ => False) w w' := by
  have hbl : b < w.heap.size := cell_lt h0
  have HQ0 : ∀ W, Tch (fun _ => False) w W → Calls Tryz.prog 91 #[.slice ao rs.length c, rowA co vo nC cc nV vc] W fun x w' => AllOut rs W x w' := fun W t => workAll_any rs ao co vo c nC cc nV vc W (hp.tch (t.mono (fun _ _ h => h.elim))) hl
  obtain ⟨n, hn⟩ : ∃ n, n = rs.length := ⟨_, rfl⟩
  rw [← hn] at HQ0 hl h6 ha
  obtain ⟨w0, hw0⟩ : ∃ w0, w0 = (w.alloc (.cells #[.slice co nC cc, .slice vo nV vc] 80)).alloc (.cells #[.int .i64 0, .int .i64 0, .string ⟨#[]⟩] 29) := ⟨_, rfl⟩
  have t0 : Tch (fun _ => False) w w0 := by rw [hw0]; exact (Tch.alloc _ _ _).allocR _
  have hB : RB w.heap.size co vo nC cc nV vc w0 := by rw [hw0]; exact rb_new ..
  have e0 : ∀ o1 o2, ((w.alloc o1).alloc o2).cell? ⟨b, 0, none⟩ = some (.int .i64 (o : Nat)) := fun o1 o2 => ((((Tch.alloc (fun _ => False) w o1).allocR o2)).cell (p := ⟨b, 0, none⟩) hbl (fun h => h)).trans h0
  have HS : Hid (∀ W, Tch (fun _ => False) w0 W → Tch (fun _ => False) w0 W ∧ W.cell? ⟨w.heap.size, 0, none⟩ = some (.slice co nC cc) ∧ W.cell? ⟨w.heap.size, 1, none⟩ = some (.slice vo nV vc) ∧ W.cell? ⟨b, 6, none⟩ = some (.slice ao n c)) := fun W t => ⟨t, (hB.no t).r0, (hB.no t).r1, ((t0.trans' t).cell (p := ⟨b, 6, none⟩) hbl (fun h => h)).trans h6⟩
  have HC : Hid (∀ W, Tch (fun _ => False) w0 W → OneB (w.heap.size + 1) W ∧ Tch (fun _ => False) w W) := fun W t => ⟨(hB.no t).z, t0.trans' t⟩
  have hno : ∀ k : Nat, k ∈ [0, 1, 3, 2, 12, 22, 29] → ((o : Int) == (k : Nat)) = false := fun k hk => by
    have hne : o ≠ k := by
      have h1 := ho.1
      have h2 := ho.2
      simp only [List.mem_cons, List.not_mem_nil, or_false, not_or] at hk h2
      rcases hk with rfl | rfl | rfl | rfl | rfl | rfl | rfl <;> omega
    simp only [beq_eq_false_iff_ne, ne_eq]; omega
  have b0 : ((o : Int) == 0) = false := hno 0 (by decide)
  have b1 : ((o : Int) == 1) = false := hno 1 (by decide)
  have b3 : ((o : Int) == 3) = false := hno 3 (by decide)
  have b2 : ((o : Int) == 2) = false := hno 2 (by decide)
  have b12 : ((o : Int) == 12) = false := hno 12 (by decide)
  have b22 : ((o : Int) == 22) = false := hno 22 (by decide)
  have b29 : ((o : Int) == 29) = false := hno 29 (by decide)
  have Hw0 : Hid _ := hw0
  have HK : Hid (w.cell? ⟨b, 0, none⟩ = some (.int .i64 (o : Nat))) := h0
  obtain ⟨RR, hRR⟩ : ∃ R, R = if (allV rs).2 ≠ 0 then (zV, (allV rs).2) else hldV o (allV rs).1 := ⟨_, rfl⟩
  rw [← hRR]
  by_cases hE : (allV rs).2 = 0
  · have hall := gP_all rs hg
    have hlen : (allV rs).1.length = n := by rw [hn]; exact allV_len hE
    have HQ : Hid (∀ W, Tch (fun _ => False) w W → Calls Tryz.prog 91 #[.slice ao n c, rowA co vo nC cc nV vc] W fun x w' => (∃ R, x = .returned (.tuple #[.slice (some ⟨R, 0, none⟩) n n, .int .i64 0]) ∧ At w' R 0 (rcl (allV rs).1)) ∧ Tch (fun _ => False) W w') := fun W t => by
      refine (HQ0 W t).mono ?_
      rintro x w' ⟨t', hx⟩
      refine ⟨?_, t'⟩
      rcases hx with ⟨h, _⟩ | ⟨_, R, hx, hA⟩
      · exact absurd hE h
      · rw [hn]; exact ⟨R, hx, hA⟩
    obtain ⟨l, hL⟩ : ∃ l, l = (allV rs).1 := ⟨_, rfl⟩
    rw [← hL] at HQ hall hlen
    have hRR2 : RR = hldV o l := by rw [hRR, if_neg (by rw [hE]; simp), hL]
    obtain ⟨v, e⟩ := RR
    have HE : Hid ((v, e) = hldV o l) := hRR2
    have HH : Hid (∀ W R, W.cell? ⟨b, 0, none⟩ = some (.int .i64 (o : Nat)) → At W R 0 (rcl l) → Calls Tryz.prog 92 #[ptV b, .slice (some ⟨R, 0, none⟩) n n] W fun x w' => x = .returned (.tuple #[vV v, .int .i64 e]) ∧ Tch (fun _ => False) W w') := fun W R h0' hA => by
      have q := hold_any o b R n l W ho (by rw [hlen]; exact ha) h0' hA (fun u hu => ⟨(hall u hu).1, Nat.le_trans (hall u hu).2 (by omega)⟩) (by rw [hlen]; exact hl)
      rw [hlen, ← hRR2] at q
      exact q
    clear HQ0 hw0 hRR hRR2 hall hlen hL hn t0 hB h0 h6 hp ha hg hE hno
    go_enter Tryz.func64, Tryz.ntmps64
    go_wp2_with fail
    rw [← Hw0.out]
    obtain ⟨_, q0, q1, q2⟩ := HS.out w0 (Tch.refl _ _)
    clear e0
    go_region_held3 (fun W => Tch (fun _ => False) w0 W ∧ W.cell? ⟨w.heap.size, 0, none⟩ = some (.slice co nC cc) ∧ W.cell? ⟨w.heap.size, 1, none⟩ = some (.slice vo nV vc) ∧ W.cell? ⟨b, 6, none⟩ = some (.slice ao n c))
      ((refine HS.out _ ?_; first | assumption | exact (Tch.refl _ _).drew))
      ((go_at_call 91; refine (HQ.out _ ((HC.out _ (by first | exact (show _ ∧ _ by assumption).1 | exact (Tch.refl _ _).drew)).2)).mono ?_; rintro y v4 ⟨⟨R, rfl, hA⟩, t4⟩; have V4 : Tch (fun _ => False) w0 v4 := Tch.trans' (by first | exact (show _ ∧ _ by assumption).1 | exact (Tch.refl _ _).drew) t4))
    all_goals
      have hb : v4.cell? ⟨b, 0, none⟩ = some (.int .i64 (o : Nat)) := (((HC.out _ V4).2).cell (p := ⟨b, 0, none⟩) hbl (fun h => h)).trans HK.out
      have qh := HH.out v4 R hb hA
      clear hA hb
      go_wp2_with (go_at_call 92; refine qh.mono ?_; rintro y v5 ⟨rfl, t5⟩; obtain ⟨⟨⟨x0, x1, x2⟩, f0, f1, f2⟩, hw⟩ := HC.out _ (V4.trans' t5))
      obtain ⟨k0, k1, k2⟩ := box_set _ (w.heap.size + 1) _ _ _ (.int .i64 (v).k) (.int .i64 (v).n) (.string (v).s) x0 x1 x2
      refine bodyPost_ret (res_ve (j := 4) (m := 5) (by kernel_rfl) _ _ (w.heap.size + 1) (v) (.int .i64 e) ?_ ?_ k0 k1 k2) rfl ⟨rfl, hw.trans (box_set_tch _ (w.heap.size + 1) _ _ _) (fun i hi h => by omega)⟩ <;> rfl
  · obtain ⟨E, hE2⟩ : ∃ E, E = (allV rs).2 := ⟨_, rfl⟩
    have HQ : Hid (∀ W, Tch (fun _ => False) w W → Calls Tryz.prog 91 #[.slice ao n c, rowA co vo nC cc nV vc] W fun x w' => x = .returned (.tuple #[.slice none 0 0, .int .i64 E]) ∧ Tch (fun _ => False) W w') := fun W t => by
      refine (HQ0 W t).mono ?_
      rintro x w' ⟨t', hx⟩
      refine ⟨?_, t'⟩
      rcases hx with ⟨_, h⟩ | ⟨h, _⟩
      · rw [hE2]; exact h
      · exact absurd h hE
    have HE : Hid (RR = (zV, E)) := (show _ = _ from by rw [hRR, if_pos hE, hE2])
    rw [← hE2] at hE
    have ee : (E == 0) = false := by simpa using hE
    have ee2 : (E != 0) = true := by simpa using hE
    clear HQ0 hw0 hRR hE2 hn t0 hB h0 h6 hp ha hg hE hno
    go_enter Tryz.func64, Tryz.ntmps64
    go_wp2_with fail
    rw [← Hw0.out]
    obtain ⟨_, q0, q1, q2⟩ := HS.out w0 (Tch.refl _ _)
    clear e0
    go_region_held3 (fun W => Tch (fun _ => False) w0 W ∧ W.cell? ⟨w.heap.size, 0, none⟩ = some (.slice co nC cc) ∧ W.cell? ⟨w.heap.size, 1, none⟩ = some (.slice vo nV vc) ∧ W.cell? ⟨b, 6, none⟩ = some (.slice ao n c))
      ((refine HS.out _ ?_; first | assumption | exact (Tch.refl _ _).drew))
      ((go_at_call 91; refine (HQ.out _ ((HC.out _ (by first | exact (show _ ∧ _ by assumption).1 | exact (Tch.refl _ _).drew)).2)).mono ?_; rintro y v4 ⟨rfl, t4⟩; have V4 : Tch (fun _ => False) w0 v4 := Tch.trans' (by first | exact (show _ ∧ _ by assumption).1 | exact (Tch.refl _ _).drew) t4; obtain ⟨⟨⟨x0, x1, x2⟩, f0, f1, f2⟩, hw⟩ := HC.out _ V4))
    all_goals
      go_wp2_with fail
      obtain ⟨k0, k1, k2⟩ := box_set _ (w.heap.size + 1) _ _ _ (.int .i64 (zV).k) (.int .i64 (zV).n) (.string (zV).s) x0 x1 x2
      refine bodyPost_ret (res_ve (j := 4) (m := 5) (by kernel_rfl) _ _ (w.heap.size + 1) (zV) (.int .i64 E) ?_ ?_ k0 k1 k2) rfl ⟨by rw [HE.out], hw.trans (box_set_tch _ (w.heap.size + 1) _ _ _) (fun i hi h => by omega)⟩ <;> rfl
end Go.Proofs.YtmaekkhmiafnmaaGreatDoor
namespace Go.Proofs.YtmaekkhmiafnmaaGreatDoor
open Go.RowKit Go Go.Lib
theorem work_of (no : Bool) (v : Val) (e : Int) (co vo : Option Addr) (b nC cc nV vc : Nat) (w : World) (h1 : w.cell? ⟨b, 1, none⟩ = some (.bool no))
    (hq : ∀ W, Tch (fun _ => False) w W → Calls Tryz.prog 64 #[ptV b, rowA co vo nC cc nV vc] W fun x w' => x = .returned (.tuple #[vV v, .int .i64 e]) ∧ Tch (fun _ => False) W w') :
    Calls Tryz.prog 32 #[ptV b, rowA co vo nC cc nV vc] w fun x w' => x = .returned (.tuple #[vV (if no = true then ngV v else v), .int .i64 e]) ∧ Tch (fun _ => False) w w' := by
  have hbl : b < w.heap.size := cell_lt h1
  obtain ⟨w0, hw0⟩ : ∃ w0, w0 = (w.alloc (.cells #[.slice co nC cc, .slice vo nV vc] 80)).alloc (.cells #[.int .i64 0, .int .i64 0, .string ⟨#[]⟩] 29) := ⟨_, rfl⟩
  have t0 : Tch (fun _ => False) w w0 := by rw [hw0]; exact (Tch.alloc _ _ _).allocR _
  have hB : RB w.heap.size co vo nC cc nV vc w0 := by rw [hw0]; exact rb_new ..
  have hq0 := hq w0 t0
  rw [hw0] at hq0
  have HC : Hid (∀ W, Tch (fun _ => False) ((w.alloc (.cells #[.slice co nC cc, .slice vo nV vc] 80)).alloc (.cells #[.int .i64 0, .int .i64 0, .string ⟨#[]⟩] 29)) W → W.cell? ⟨b, 1, none⟩ = some (.bool no) ∧ OneB (w.heap.size + 1) W ∧ Tch (fun _ => False) w W) := fun W t => by
    rw [← hw0] at t
    exact ⟨((t0.trans' t).cell (p := ⟨b, 1, none⟩) hbl (fun h => h)).trans h1, (hB.no t).z, t0.trans' t⟩
  have Hng : Hid _ := fun W => negated_any v W
  clear hw0 t0 hB h1 hq
  cases no with
  | false =>
    go_enter Tryz.func32, Tryz.ntmps32
    go_wp2_with (go_at_call 64; refine hq0.mono ?_; rintro y v1 ⟨rfl, t1⟩; obtain ⟨c1, ⟨⟨x0, x1, x2⟩, f0, f1, f2⟩, hw⟩ := HC.out _ (t1.allocR (.cells #[.int .i64 v.k, .int .i64 v.n, .string v.s] 29)))
    obtain ⟨k0, k1, k2⟩ := box_set _ (w.heap.size + 1) _ _ _ (.int .i64 (v).k) (.int .i64 (v).n) (.string (v).s) x0 x1 x2
    refine bodyPost_ret (res_ve (j := 4) (m := 5) (by kernel_rfl) _ _ (w.heap.size + 1) (v) (.int .i64 e) ?_ ?_ k0 k1 k2) rfl ⟨rfl, hw.trans (box_set_tch _ (w.heap.size + 1) _ _ _) (fun i hi h => by omega)⟩ <;> rfl
  | true =>
    go_enter Tryz.func32, Tryz.ntmps32
    go_wp2_with (first
      | (go_at_call 64; refine hq0.mono ?_; rintro y v1 ⟨rfl, t1⟩; have T1 := t1.allocR (.cells #[.int .i64 v.k, .int .i64 v.n, .string v.s] 29); obtain ⟨⟨y0, y1, y2⟩, g0, g1, g2⟩ := vb_new v1 v; have hV := vb_new v1 v; obtain ⟨c1, _, _⟩ := HC.out _ T1)
      | (go_at_call 65; refine (Hng.out _).mono ?_; rintro y v2 ⟨rfl, t2⟩; obtain ⟨_, hO, hw2⟩ := HC.out _ (T1.trans' t2); have hV2 := hV.no t2; obtain ⟨⟨z0, z1, z2⟩, i0, i1, i2⟩ := hV2; have tS := box_set_tch v2 v1.heap.size (.int .i64 (ngV v).k) (.int .i64 (ngV v).n) (.string (ngV v).s); have hge := t1.size; have hO2 := hO.off tS (by simp at hge; show ¬ w.heap.size + 1 = v1.heap.size; omega); obtain ⟨⟨x0, x1, x2⟩, f0, f1, f2⟩ := hO2; have hw := hw2.trans tS (fun i hi h => by simp at hge; omega); obtain ⟨q0, q1, q2⟩ := box_set v2 v1.heap.size _ _ _ (.int .i64 (ngV v).k) (.int .i64 (ngV v).n) (.string (ngV v).s) z0 z1 z2))
    obtain ⟨k0, k1, k2⟩ := box_set _ (w.heap.size + 1) _ _ _ (.int .i64 (ngV v).k) (.int .i64 (ngV v).n) (.string (ngV v).s) x0 x1 x2
    refine bodyPost_ret (res_ve (j := 4) (m := 5) (by kernel_rfl) _ _ (w.heap.size + 1) (ngV v) (.int .i64 e) ?_ ?_ k0 k1 k2) rfl ⟨rfl, hw.trans (box_set_tch _ (w.heap.size + 1) _ _ _) (fun i hi h => by omega)⟩ <;> rfl
end Go.Proofs.YtmaekkhmiafnmaaGreatDoor
namespace Go.Proofs.YtmaekkhmiafnmaaGreatDoor
open Go.RowKit Go Go.Lib
theorem wrkL_len (ρ : ByteArray → Val) : ∀ l : List Ex, (wrk.wrkL ρ l).length = l.length
  | [] => rfl
  | e :: l => by
    show (wrk.wrkL ρ l).length + 1 = l.length + 1
    rw [wrkL_len ρ l]
theorem wrkL_get (ρ : ByteArray → Val) : ∀ (l : List Ex) (k : Nat) (hk : k < l.length) (hk2 : k < (wrk.wrkL ρ l).length), (wrk.wrkL ρ l)[k] = wrk ρ l[k]
  | [], k, hk, _ => by simp at hk
  | e :: l, 0, _, _ => rfl
  | e :: l, k + 1, hk, hk2 => wrkL_get ρ l k (by simpa using hk) (by have := wrkL_len ρ l; simp at hk; omega)
def NmI11 (C : List Col11) (vs : List Val) (ρ : ByteArray → Val) (l : List ByteArray) : Prop := ∀ nm ∈ l, gV (ρ nm) ∧ ∃ i, plc (csO C) nm = some i ∧ ∃ hi : i < vs.length, vs[i] = ρ nm
theorem nms_part {o : Nat} {no : Bool} {v : Val} {nm : ByteArray} {l : List Ex} (ha : arOk o l.length) {e : Ex} (he : e ∈ l) {x : ByteArray} (hx : x ∈ nms e) : x ∈ nms (.mk o no v nm l) := by
  show x ∈ (if o = 1 then [nm] else nms.nmsL l [])
  rw [if_neg ?_]
  · exact mem_nmsL _ _ (Or.inr ⟨e, he, hx⟩)
  · intro h1
    have h2 := ha.2
    rw [if_pos (by omega)] at h2
    have := List.eq_nil_of_length_eq_zero h2
    subst this
    simp at he
theorem work_any (C : List Col11) (vs : List Val) (ρ : ByteArray → Val) (co vo : Option Addr) (cc vc : Nat) (hCl : C.length ≤ 1000000000) : ∀ (n : Nat) (F : Nat → Prop) (e : Ex) (b : Nat) (w : World), dep e ≤ n → gdE e → txE e → TR w F e b → SL w co (colc C) → SL w vo (rcl vs) → NmI11 C vs ρ (nms e) →
    Calls Tryz.prog 32 #[ptV b, rowA co vo C.length cc vs.length vc] w fun x w' => x = .returned (.tuple #[vV (wrk ρ e).1, .int .i64 (wrk ρ e).2]) ∧ Tch (fun _ => False) w w'
  | 0, _, .mk o no v nm l, b, w, hn, _, _, _, _, _, _ => by rw [dep_mk] at hn; omega
  | n + 1, F, .mk o no v nm l, b, w, hn, hg, ht, h, hC, hV, hN => by
    obtain ⟨_, har, hln, hgd⟩ := hg.part
    have hok : i64v v.n ∧ arOk o l.length ∧ okL l := hg.ok
    have htx : (v.s.size ≤ 400 ∧ nm.size ≤ 400) ∧ txL l := ht
    rw [dep_mk] at hn
    obtain ⟨c0, c1, c2, c3, c4, c5, ao2, c, c6, hc, hl⟩ := h.cells
    have hbl := cell_lt c0
    have ih := work_any C vs ρ co vo cc vc hCl n
    have hpn : ∀ e ∈ l, NmI11 C vs ρ (nms e) := fun e he x hx => hN x (nms_part har he hx)
    have hP : WP w ao2 (wrk.wrkL ρ l) (rowA co vo C.length cc vs.length vc) := fun k hk => by
      have hkl : k < l.length := by rw [← wrkL_len ρ l]; exact hk
      obtain ⟨g, i, e, hh⟩ := hl (by intro e; rw [e] at hkl; simp at hkl)
      refine ⟨g, i, e, fun W t => ?_⟩
      obtain ⟨d, cd, hd⟩ := hh k l[k] (List.getElem?_eq_getElem hkl)
      have hgl := cell_lt cd
      refine ⟨d, (t.cell (p := ⟨g, i + k, none⟩) hgl (by show ¬ w.heap.size ≤ g; have : g < w.heap.size := hgl; omega)).trans cd, ?_⟩
      rw [wrkL_get ρ l k hkl]
      exact ih (fun i => w.heap.size ≤ i) l[k] d W (by have := depL_get l k _ (List.getElem?_eq_getElem hkl); omega) (hgd k _ (List.getElem?_eq_getElem hkl)) (txL_get htx.2 (List.getElem?_eq_getElem hkl)) (TR.tch t (fun i hi => hi) (TR.mono (fun i hi h => by omega) hd)) (hC.ge t) (hV.ge t) (hpn _ (List.getElem_mem hkl))
    have hgP : ∀ x ∈ wrk.wrkL ρ l, gP x := gP_wrkL l hok.2.2 htx.2 (fun e he x hx => (hpn e he x hx).1)
    have hlen := wrkL_len ρ l
    refine work_of no (wkC ρ o v nm (wrk.wrkL ρ l)).1 (wkC ρ o v nm (wrk.wrkL ρ l)).2 co vo b C.length cc vs.length vc w c1 (fun W t => ?_)
    have d0 := (t.cell (p := ⟨b, 0, none⟩) hbl (fun h => h)).trans c0
    have d6 := (t.cell (p := ⟨b, 6, none⟩) hbl (fun h => h)).trans c6
    have hPW := hP.tch (t.mono (fun _ _ h => h.elim))
    rw [← hlen] at d6 hc hln har
    by_cases h0 : o = 0
    · subst h0
      exact plain_lit v co vo b C.length cc vs.length vc W d0 ((t.cell (p := ⟨b, 2, none⟩) hbl (fun h => h)).trans c2) ((t.cell (p := ⟨b, 3, none⟩) hbl (fun h => h)).trans c3) ((t.cell (p := ⟨b, 4, none⟩) hbl (fun h => h)).trans c4)
    by_cases h1 : o = 1
    · subst h1
      obtain ⟨_, i, hp, hi, hv⟩ := hN nm (List.mem_singleton.2 rfl)
      have q := plain_col C vs i nm co vo b cc vc W d0 ((t.cell (p := ⟨b, 5, none⟩) hbl (fun h => h)).trans c5) hp hi (hC.no t) (hV.no t) hCl
      rw [hv] at q
      exact q
    by_cases h3 : o = 3
    · subst h3
      exact plain_and (wrk.wrkL ρ l) ao2 co vo b c C.length cc vs.length vc W d0 d6 hPW hln
    by_cases h2 : o = 2
    · subst h2
      exact plain_or (wrk.wrkL ρ l) ao2 co vo b c C.length cc vs.length vc W d0 d6 hPW hln
    by_cases h12 : o = 12
    · subst h12
      exact plain_in (wrk.wrkL ρ l) ao2 co vo b c C.length cc vs.length vc W d0 d6 hPW hln hc har.2
    by_cases h22 : o = 22
    · subst h22
      exact plain_choice (wrk.wrkL ρ l) ao2 co vo b c C.length cc vs.length vc W d0 d6 hPW hln hc har.2
    by_cases h29 : o = 29
    · subst h29
      exact plain_coalesce (wrk.wrkL ρ l) ao2 co vo b c C.length cc vs.length vc W d0 d6 hPW hln
    have e : wkC ρ o v nm (wrk.wrkL ρ l) = if (allV (wrk.wrkL ρ l)).2 ≠ 0 then (zV, (allV (wrk.wrkL ρ l)).2) else hldV o (allV (wrk.wrkL ρ l)).1 := by
      unfold wkC
      rw [if_neg h0, if_neg h1, if_neg h3, if_neg h2, if_neg h12, if_neg h22, if_neg h29]
    rw [e]
    exact plain_rest o ⟨by omega, by simp; omega⟩ (wrk.wrkL ρ l) ao2 co vo b c C.length cc vs.length vc W d0 d6 hPW hln har hgP
end Go.Proofs.YtmaekkhmiafnmaaGreatDoor
namespace Go.Proofs.YtmaekkhmiafnmaaGreatDoor
open Go.RowKit Go Go.Lib
abbrev strc (l : List ByteArray) : List Value := l.map fun s => .string s
theorem strc_at {w : World} {ao : Option Addr} {l : List ByteArray} (h : SL w ao (strc l)) {k : Nat} (hk : k < l.length) : ∃ g o, ao = some ⟨g, o, none⟩ ∧ w.cell? ⟨g, o + k, none⟩ = some (.string l[k]) := by
  have hne : strc l ≠ [] := by
    cases l with
    | nil => simp at hk
    | cons a l => intro e; simp [strc] at e
  obtain ⟨g, o, e, ha⟩ := h hne
  exact ⟨g, o, e, ha k _ (by rw [List.getElem?_map, List.getElem?_eq_getElem hk]; rfl)⟩
theorem sidx_any (s : ByteArray) (l : List ByteArray) (ao : Option Addr) (cp : Nat) (w : World) (h : SL w ao (strc l)) (hl : l.length ≤ 1000000000) :
    Calls Tryz.prog 67 #[.slice ao l.length cp, .string s] w fun x w' => (∃ i : Int, x = .returned (.int .i64 i) ∧ (0 ≤ i ↔ l.any (fun y => decide (y = s)) = true)) ∧ w' = w := by
  have HS : Hid _ := h
  obtain ⟨r, hr⟩ : ∃ r, r = l.any (fun y => decide (y = s)) := ⟨_, rfl⟩
  have HR : Hid (r = l.any (fun y => decide (y = s))) := hr
  rw [← hr]
  obtain ⟨n, hn⟩ : ∃ n, n = l.length := ⟨_, rfl⟩
  have Hn : Hid _ := hn
  rw [← hn] at hl ⊢
  clear h hn hr
  go_enter Tryz.func67, Tryz.ntmps67
  go_wp2
  go_loopw [8] (fun iv wr => ∃ k : Nat, iv = .int .i64 k ∧ k ≤ n ∧ wr = w ∧ Hid (∀ j (hj : j < l.length), j < k → ¬ l[j] = s)) (fun iv _ => n - (RowKit.intOf iv).toNat)
  case atStart => exact ⟨0, rfl, by omega, rfl, fun _ _ h => by omega⟩
  case round =>
    obtain ⟨k, rfl, hk, rfl, HK⟩ := hrel
    by_cases hlt : k < n
    · have hltI : (k : Int) < (n : Int) := by omega
      have hkl : k < l.length := by rw [← Hn.out]; exact hlt
      obtain ⟨g, o, rfl, c0⟩ := strc_at HS.out hkl
      obtain ⟨p, hp⟩ : ∃ p, p = l[k] := ⟨_, rfl⟩
      rw [← hp] at c0
      have Hp : Hid (p = l[k]) := hp
      clear hp
      by_cases hb : p = s
      · have HE : Hid (r = true) := (show r = true from by
          rw [HR.out, List.any_eq_true]
          exact ⟨l[k], List.getElem_mem hkl, by rw [← Hp.out, decide_eq_true hb]⟩)
        subst hb
        go_wp2_with fail
        go_ret
        exact ⟨⟨k, rfl, by simp [HE.out]⟩, rfl⟩
      · have hn2 := str_ne hb
        have hn3 := str_ne (fun h : s = p => hb h.symm)
        have HE : Hid (∀ j (hj : j < l.length), j < k + 1 → ¬ l[j] = s) := fun j hj hjk => by
          rcases Nat.lt_or_ge j k with h1 | h1
          · exact HK.out j hj h1
          · obtain rfl : j = k := by omega
            rw [← Hp.out]; exact hb
        clear hb
        go_wp2_with fail
        go_roundw
        case rel => exact ⟨k + 1, by first | trivial | rfl, by omega, by first | trivial | rfl, HE⟩
        case measure => simp [RowKit.intOf]; omega
    · have hltI : ¬ (k : Int) < (n : Int) := by omega
      have HE : Hid (r = false) := (show r = false from by
        rw [HR.out]
        rw [List.any_eq_false]
        intro y hy
        obtain ⟨j, hj, rfl⟩ := List.getElem_of_mem hy
        simpa using HK.out j hj (by have := Hn.out; omega))
      go_wp2_with fail
      go_ret
      exact ⟨⟨-1, rfl, by simp [HE.out]⟩, rfl⟩
theorem contains_any (s : ByteArray) (l : List ByteArray) (ao : Option Addr) (cp : Nat) (w : World) (h : SL w ao (strc l)) (hl : l.length ≤ 1000000000) :
    Calls Tryz.prog 34 #[.slice ao l.length cp, .string s] w fun x w' => x = .returned (.bool (l.any (fun y => decide (y = s)))) ∧ w' = w := by
  have q := sidx_any s l ao cp w h hl
  obtain ⟨r, hr⟩ : ∃ r, r = l.any (fun y => decide (y = s)) := ⟨_, rfl⟩
  rw [← hr] at q ⊢
  obtain ⟨n, hn⟩ : ∃ n, n = l.length := ⟨_, rfl⟩
  rw [← hn] at q ⊢
  clear h hl hr hn
  go_enter Tryz.func34, Tryz.ntmps34
  go_wp2_with fail
  refine q.mono ?_
  rintro y w1 ⟨⟨i, rfl, hi⟩, rfl⟩
  clear q
  have Hi : Hid (r = decide (0 ≤ i)) := (show r = _ from by
    rw [Bool.eq_iff_iff, ← hi]; simp)
  clear hi
  go_wp2_with fail
  go_ret
  exact ⟨by rw [Hi.out]; rfl, rfl⟩
end Go.Proofs.YtmaekkhmiafnmaaGreatDoor
