import Derived.Test.YtmegkmhcfehnkaaGreatDoorVLz
import Derived.Deep.RegionHeld3
/- ValueLiterals: the law. -/
namespace Go.Proofs.YtmegkmhcfehnkaaGreatDoor
open Go.RowKit Go Go.Lib

set_option maxHeartbeats 8000000 in
set_option maxRecDepth 100000 in
theorem literals_law (v : Val) (hi : v.i64) (s : ByteArray) (hs : s.size ≤ 1048576) (w : World) (hg : HE w) (hw : HWd w) (hv : HV w) :
    Calls Tryz.prog 3 #[vA v.k v.n v.s, .string s] w fun x w' => x = .returned (.bool true) ∧ Tch (fun _ => False) w w' := by
  obtain ⟨k, n, S⟩ := v
  have hni : i64v n := hi.2
  obtain ⟨w0, hw0⟩ : ∃ w0, w0 = w.alloc (.cells #[.int .i64 k, .int .i64 n, .string S] 23) := ⟨_, rfl⟩
  have t0 : Tch (fun _ => False) w w0 := by rw [hw0]; exact Tch.alloc _ _ _
  obtain ⟨N, hN⟩ : ∃ N, N = w.heap.size := ⟨_, rfl⟩
  have Hb : Hid (∀ W, Tch (fun _ => False) w0 W → W.cell? ⟨N, 0, none⟩ = some (.int .i64 k) ∧ W.cell? ⟨N, 1, none⟩ = some (.int .i64 n) ∧ W.cell? ⟨N, 2, none⟩ = some (.string S)) := fun W t => by rw [hw0] at t; rw [hN]; exact box_tch t
  obtain ⟨p, hp⟩ : ∃ p, p = prB ⟨k, n, S⟩ := ⟨_, rfl⟩
  have Hpr : Hid (∀ W, Tch (fun _ => False) w W → Calls Tryz.prog 7 #[vA k n S] W fun x w' => x = .returned (.string p) ∧ Tch (fun _ => False) W w') := fun W t => by rw [hp]; exact print_any ⟨k, n, S⟩ hni W (hw.no t) (hv.no t)
  have Hrp : Hid (∀ W, Calls Tryz.prog 8 #[vA k n S] W fun x w' => x = .returned (.string p) ∧ Tch (fun _ => False) W w') := fun W => by rw [hp]; exact rprint_any ⟨k, n, S⟩ hni W
  have Hpa : Hid (∀ W, Tch (fun _ => False) w W → Calls Tryz.prog 5 #[.string s] W fun x w' => (∃ v e, x = .returned (.tuple #[vA v.k v.n v.s, .int .i64 e]) ∧ PS s v e) ∧ Tch (fun _ => False) W w') := fun W t => parse_any s hs W (hw.no t) (hv.no t)
  have Hra : Hid (∀ W, Calls Tryz.prog 6 #[.string s] W fun x w' => (∃ v e, x = .returned (.tuple #[vA v.k v.n v.s, .int .i64 e]) ∧ PS s v e) ∧ Tch (fun _ => False) W w') := fun W => rparse_any s hs W
  have q0 := known_any w0 (hg.tch t0 (fun h => h)) (hw.no t0)
  have Hw0 : Hid _ := hw0
  have HN : Hid (N = w.heap.size) := hN
  have Ht0 : Hid _ := t0
  clear hw0 hN t0 hp hni hi hg hw hv hs
  go_enter Tryz.func3, Tryz.ntmps3
  go_wp2_with fail
  have hw0 := Hw0.out
  rw [← hw0, ← HN.out]
  clear hw0
  refine q0.mono ?_
  rintro y w1 ⟨rfl, t1⟩
  clear q0
  have Ht1 : Hid (Tch (fun _ => False) w0 w1) := t1
  clear t1
  go_wp2_with fail
  refine (Hpa.out w1 (Ht0.out.trans' Ht1.out)).mono ?_
  rintro y w2 ⟨⟨⟨ak, an, aS⟩, ae, rfl, hA⟩, t2⟩
  obtain ⟨A, hA'⟩ : ∃ A, A = w2.heap.size := ⟨_, rfl⟩
  obtain ⟨w3, hw3⟩ : ∃ w3, w3 = w2.alloc (.cells #[.int .i64 ak, .int .i64 an, .string aS] 23) := ⟨_, rfl⟩
  have Ht3 : Hid (Tch (fun _ => False) w0 w3) := by show Tch _ _ _; rw [hw3]; exact (Ht1.out.trans' t2).allocR _
  have Ha : Hid (∀ W, Tch (fun _ => False) w3 W → W.cell? ⟨A, 0, none⟩ = some (.int .i64 ak) ∧ W.cell? ⟨A, 1, none⟩ = some (.int .i64 an) ∧ W.cell? ⟨A, 2, none⟩ = some (.string aS)) := fun W t => by rw [hw3] at t; rw [hA']; exact box_tch t
  have HPA : Hid (PS s ⟨ak, an, aS⟩ ae) := hA
  have Hw3 : Hid _ := hw3
  have HA' : Hid (A = w2.heap.size) := hA'
  clear hw3 t2 hA hA'
  go_wp2_with fail
  have hw3 := Hw3.out
  rw [← hw3, ← HA'.out]
  clear hw3
  refine (Hra.out w3).mono ?_
  rintro y w4 ⟨⟨⟨bk, bn, bS⟩, be, rfl, hB⟩, t4⟩
  obtain ⟨e1, e2⟩ := HPA.out.one hB
  injection e1 with e3 e4 e5
  subst e3 e4 e5 e2
  obtain ⟨B, hB'⟩ : ∃ B, B = w4.heap.size := ⟨_, rfl⟩
  obtain ⟨w5, hw5⟩ : ∃ w5, w5 = w4.alloc (.cells #[.int .i64 ak, .int .i64 an, .string aS] 23) := ⟨_, rfl⟩
  have Ht45 : Hid (Tch (fun _ => False) w3 w5) := by show Tch _ _ _; rw [hw5]; exact t4.allocR _
  have Ht5 : Hid (Tch (fun _ => False) w0 w5) := Ht3.out.trans' Ht45.out
  have Hbb : Hid (∀ W, Tch (fun _ => False) w5 W → W.cell? ⟨B, 0, none⟩ = some (.int .i64 ak) ∧ W.cell? ⟨B, 1, none⟩ = some (.int .i64 an) ∧ W.cell? ⟨B, 2, none⟩ = some (.string aS)) := fun W t => by rw [hw5] at t; rw [hB']; exact box_tch t
  have HS : Hid (∀ W, Tch (fun _ => False) w5 W → Tch (fun _ => False) w5 W ∧ (W.cell? ⟨N, 0, none⟩ = some (.int .i64 k) ∧ W.cell? ⟨N, 1, none⟩ = some (.int .i64 n) ∧ W.cell? ⟨N, 2, none⟩ = some (.string S)) ∧ (W.cell? ⟨A, 0, none⟩ = some (.int .i64 ak) ∧ W.cell? ⟨A, 1, none⟩ = some (.int .i64 an) ∧ W.cell? ⟨A, 2, none⟩ = some (.string aS)) ∧ (W.cell? ⟨B, 0, none⟩ = some (.int .i64 ak) ∧ W.cell? ⟨B, 1, none⟩ = some (.int .i64 an) ∧ W.cell? ⟨B, 2, none⟩ = some (.string aS))) := fun W t => ⟨t, Hb.out W (Ht5.out.trans' t), Ha.out W (Ht45.out.trans' t), Hbb.out W t⟩
  have Hw5 : Hid _ := hw5
  have HB' : Hid (B = w4.heap.size) := hB'
  clear hw5 t4 hB hB'
  go_wp2_with fail
  have hw5 := Hw5.out
  rw [← hw5, ← HB'.out]
  clear hw5
  obtain ⟨_, ⟨n0, n1, n2⟩, ⟨a0, a1, a2⟩, b0, b1, b2⟩ := HS.out w5 (Tch.refl _ _)
  go_region_held3 (fun W => Tch (fun _ => False) w5 W ∧ (W.cell? ⟨N, 0, none⟩ = some (.int .i64 k) ∧ W.cell? ⟨N, 1, none⟩ = some (.int .i64 n) ∧ W.cell? ⟨N, 2, none⟩ = some (.string S)) ∧ (W.cell? ⟨A, 0, none⟩ = some (.int .i64 ak) ∧ W.cell? ⟨A, 1, none⟩ = some (.int .i64 an) ∧ W.cell? ⟨A, 2, none⟩ = some (.string aS)) ∧ (W.cell? ⟨B, 0, none⟩ = some (.int .i64 ak) ∧ W.cell? ⟨B, 1, none⟩ = some (.int .i64 an) ∧ W.cell? ⟨B, 2, none⟩ = some (.string aS)))
    ((refine HS.out _ ?_; first | assumption | exact (Tch.refl _ _).drew))
    (first
      | (go_at_call 7; refine (Hpr.out _ ((Ht0.out.trans' Ht5.out).trans' (show _ ∧ _ by assumption).1)).mono ?_; rintro y v3 ⟨rfl, t3⟩; have V3 := Tch.trans' (show _ ∧ _ by assumption).1 t3)
      | (go_at_call 8; refine (Hrp.out _).mono ?_; rintro y v4 ⟨rfl, t4⟩; have V4 := Tch.trans' (show _ ∧ _ by assumption).1 t4))
  go_wp2_with fail
  go_ret
  exact ⟨rfl, (Ht0.out.trans' Ht5.out).trans' V4⟩
end Go.Proofs.YtmegkmhcfehnkaaGreatDoor
