import Derived.Test.YtdbaafigmfclcaaTLift
/- mend: each way. -/
namespace Go.Proofs.Ytdbaafigmfclcaa
open Go.RowKit Go

set_option maxHeartbeats 2000000 in
set_option maxRecDepth 100000 in
theorem mend_ok (w : World) (p kg kd mp : Nat) (i : Nat) (q : Nat) (qo : Option Addr) (nq qc : Nat) 
    (_hmp : mp < 100) (d1 : w.cell? ⟨p, 1, none⟩ = some (.slice (some ⟨kg, 0, none⟩) mp kd)) (hpl : i < mp) (k0 : w.cell? ⟨kg, i, none⟩ = some (pv q)) (e0 : w.cell? ⟨q, 0, none⟩ = some (.slice qo nq qc)) (h7 : 7 ≤ nq)
    :
    Calls Try.prog 56 #[pv p, .int .i64 i] w fun x w' => x = .returned (.tuple #[]) ∧ w' = w := by
  have h7' : (7 : Int) ≤ nq := by omega
  have hi1 : (i : Int) < mp := by omega
  go_enter Try.func56, Try.ntmps56
  go_wp2_with fail
  go_end0
  exact ⟨rfl, rfl⟩
set_option maxHeartbeats 2000000 in
set_option maxRecDepth 100000 in
theorem mend_up (w : World) (p kg kd mp : Nat) (j : Nat) (q : Nat) (qo : Option Addr) (nq qc : Nat) (ql : Nat) (lo : Option Addr) (nl lc : Nat)
    (hmp : mp < 100) (d1 : w.cell? ⟨p, 1, none⟩ = some (.slice (some ⟨kg, 0, none⟩) mp kd)) (hpl : (j + 1) < mp) (k0 : w.cell? ⟨kg, (j + 1), none⟩ = some (pv q)) (e0 : w.cell? ⟨q, 0, none⟩ = some (.slice qo nq qc)) (kl : w.cell? ⟨kg, j, none⟩ = some (pv ql)) (el : w.cell? ⟨ql, 0, none⟩ = some (.slice lo nl lc)) (h7 : nq < 7) (hl : 7 < nl)
    (R : World → Prop) (hq : Calls Try.prog 83 #[pv p, .int .i64 j] w fun x w' => x = .returned (.tuple #[]) ∧ R w') :
    Calls Try.prog 56 #[pv p, .int .i64 (j + 1)] w fun x w' => x = .returned (.tuple #[]) ∧ R w' := by
  have h7 : ¬ (7 : Int) ≤ nq := by omega
  have hj1 : (j : Int) + 1 < mp := by omega
  have hj2 : (j : Int) < mp := by omega
  have hj3 : (0 : Int) < (j : Int) + 1 := by omega
  have hjt : ((j : Int) + 1).toNat = j + 1 := by omega
  have hl' : (7 : Int) < nl := by omega
  go_enter Try.func56, Try.ntmps56
  go_wp2_with fail
  refine hq.mono ?_
  rintro x w1 ⟨rfl, h1⟩
  go_wp2_with fail
  go_end0
  exact ⟨rfl, h1⟩
set_option maxHeartbeats 2000000 in
set_option maxRecDepth 100000 in
theorem mend_down0 (w : World) (p kg kd mp : Nat) (q : Nat) (qo : Option Addr) (nq qc : Nat) (qr : Nat) (ro : Option Addr) (nr rc : Nat) (po : Option Addr) (np pc : Nat)
    (hmp : mp < 100) (d1 : w.cell? ⟨p, 1, none⟩ = some (.slice (some ⟨kg, 0, none⟩) mp kd)) (hpl : 0 < mp) (k0 : w.cell? ⟨kg, 0, none⟩ = some (pv q)) (e0 : w.cell? ⟨q, 0, none⟩ = some (.slice qo nq qc)) (d0 : w.cell? ⟨p, 0, none⟩ = some (.slice po np pc)) (kr : w.cell? ⟨kg, 1, none⟩ = some (pv qr)) (er : w.cell? ⟨qr, 0, none⟩ = some (.slice ro nr rc)) (h7 : nq < 7) (hnp : 0 < np) (hnm : np + 1 = mp) (hr : 7 < nr)
    (R : World → Prop) (hq : Calls Try.prog 84 #[pv p, .int .i64 0] w fun x w' => x = .returned (.tuple #[]) ∧ R w') :
    Calls Try.prog 56 #[pv p, .int .i64 0] w fun x w' => x = .returned (.tuple #[]) ∧ R w' := by
  have h7 : ¬ (7 : Int) ≤ nq := by omega
  have hr' : (7 : Int) < nr := by omega
  have hn1 : (0 : Int) < np := by omega
  have hm0 : (0 : Int) < mp := by omega
  have hm1 : (1 : Int) < mp := by omega
  clear hnm
  go_enter Try.func56, Try.ntmps56
  go_wp2_with fail
  refine hq.mono ?_
  rintro x w1 ⟨rfl, h1⟩
  go_wp2_with fail
  go_end0
  exact ⟨rfl, h1⟩
set_option maxHeartbeats 2000000 in
set_option maxRecDepth 100000 in
theorem mend_down1 (w : World) (p kg kd mp : Nat) (j : Nat) (q : Nat) (qo : Option Addr) (nq qc : Nat) (ql : Nat) (lo : Option Addr) (nl lc : Nat) (qr : Nat) (ro : Option Addr) (nr rc : Nat) (po : Option Addr) (np pc : Nat)
    (hmp : mp < 100) (d1 : w.cell? ⟨p, 1, none⟩ = some (.slice (some ⟨kg, 0, none⟩) mp kd)) (_hpl : (j + 1) < mp) (k0 : w.cell? ⟨kg, (j + 1), none⟩ = some (pv q)) (e0 : w.cell? ⟨q, 0, none⟩ = some (.slice qo nq qc)) (d0 : w.cell? ⟨p, 0, none⟩ = some (.slice po np pc)) (kl : w.cell? ⟨kg, j, none⟩ = some (pv ql)) (el : w.cell? ⟨ql, 0, none⟩ = some (.slice lo nl lc)) (kr : w.cell? ⟨kg, j + 1 + 1, none⟩ = some (pv qr)) (er : w.cell? ⟨qr, 0, none⟩ = some (.slice ro nr rc)) (h7 : nq < 7) (hl : nl ≤ 7) (hnp : j + 1 < np) (hnm : np + 1 = mp) (hr : 7 < nr)
    (R : World → Prop) (hq : Calls Try.prog 84 #[pv p, .int .i64 (j + 1)] w fun x w' => x = .returned (.tuple #[]) ∧ R w') :
    Calls Try.prog 56 #[pv p, .int .i64 (j + 1)] w fun x w' => x = .returned (.tuple #[]) ∧ R w' := by
  have h7 : ¬ (7 : Int) ≤ nq := by omega
  have hj1 : (j : Int) + 1 < mp := by omega
  have hj2 : (j : Int) < mp := by omega
  have hj3 : (0 : Int) < (j : Int) + 1 := by omega
  have hjt : ((j : Int) + 1).toNat = j + 1 := by omega
  have hl' : ¬ (7 : Int) < nl := by omega
  have hr' : (7 : Int) < nr := by omega
  have hn1 : (j : Int) + 1 < np := by omega
  have hm1 : (j : Int) + 1 + 1 < mp := by omega
  have hm2 : (0 : Int) ≤ (j : Int) + 1 + 1 := by omega
  have hm3 : ((j : Int) + 1 + 1).toNat = j + 1 + 1 := by omega
  clear hnm
  go_enter Try.func56, Try.ntmps56
  go_wp2_with fail
  refine hq.mono ?_
  rintro x w1 ⟨rfl, h1⟩
  go_wp2_with fail
  go_end0
  exact ⟨rfl, h1⟩
set_option maxHeartbeats 2000000 in
set_option maxRecDepth 100000 in
theorem mend_join1 (w : World) (p kg kd mp : Nat) (j : Nat) (q : Nat) (qo : Option Addr) (nq qc : Nat) (ql : Nat) (lo : Option Addr) (nl lc : Nat) (qr : Nat) (ro : Option Addr) (nr rc : Nat) (po : Option Addr) (np pc : Nat)
    (hmp : mp < 100) (d1 : w.cell? ⟨p, 1, none⟩ = some (.slice (some ⟨kg, 0, none⟩) mp kd)) (_hpl : (j + 1) < mp) (k0 : w.cell? ⟨kg, (j + 1), none⟩ = some (pv q)) (e0 : w.cell? ⟨q, 0, none⟩ = some (.slice qo nq qc)) (d0 : w.cell? ⟨p, 0, none⟩ = some (.slice po np pc)) (kl : w.cell? ⟨kg, j, none⟩ = some (pv ql)) (el : w.cell? ⟨ql, 0, none⟩ = some (.slice lo nl lc)) (kr : w.cell? ⟨kg, j + 1 + 1, none⟩ = some (pv qr)) (er : w.cell? ⟨qr, 0, none⟩ = some (.slice ro nr rc)) (h7 : nq < 7) (hl : nl ≤ 7) (hnp : j + 1 < np) (hnm : np + 1 = mp) (hr : nr ≤ 7)
    (R : World → Prop) (hq : Calls Try.prog 85 #[pv p, .int .i64 j] w fun x w' => x = .returned (.tuple #[]) ∧ R w') :
    Calls Try.prog 56 #[pv p, .int .i64 (j + 1)] w fun x w' => x = .returned (.tuple #[]) ∧ R w' := by
  have h7 : ¬ (7 : Int) ≤ nq := by omega
  have hj1 : (j : Int) + 1 < mp := by omega
  have hj2 : (j : Int) < mp := by omega
  have hj3 : (0 : Int) < (j : Int) + 1 := by omega
  have hjt : ((j : Int) + 1).toNat = j + 1 := by omega
  have hl' : ¬ (7 : Int) < nl := by omega
  have hr' : ¬ (7 : Int) < nr := by omega
  have hn1 : (j : Int) + 1 < np := by omega
  have hm1 : (j : Int) + 1 + 1 < mp := by omega
  have hm2 : (0 : Int) ≤ (j : Int) + 1 + 1 := by omega
  have hm3 : ((j : Int) + 1 + 1).toNat = j + 1 + 1 := by omega
  clear hnm
  go_enter Try.func56, Try.ntmps56
  go_wp2_with fail
  refine hq.mono ?_
  rintro x w1 ⟨rfl, h1⟩
  go_wp2_with fail
  go_end0
  exact ⟨rfl, h1⟩
set_option maxHeartbeats 2000000 in
set_option maxRecDepth 100000 in
theorem mend_join2 (w : World) (p kg kd mp : Nat) (j : Nat) (q : Nat) (qo : Option Addr) (nq qc : Nat) (ql : Nat) (lo : Option Addr) (nl lc : Nat) (po : Option Addr) (np pc : Nat)
    (hmp : mp < 100) (d1 : w.cell? ⟨p, 1, none⟩ = some (.slice (some ⟨kg, 0, none⟩) mp kd)) (hpl : (j + 1) < mp) (k0 : w.cell? ⟨kg, (j + 1), none⟩ = some (pv q)) (e0 : w.cell? ⟨q, 0, none⟩ = some (.slice qo nq qc)) (d0 : w.cell? ⟨p, 0, none⟩ = some (.slice po np pc)) (kl : w.cell? ⟨kg, j, none⟩ = some (pv ql)) (el : w.cell? ⟨ql, 0, none⟩ = some (.slice lo nl lc)) (h7 : nq < 7) (hl : nl ≤ 7) (hnp : np = j + 1)
    (R : World → Prop) (hq : Calls Try.prog 85 #[pv p, .int .i64 j] w fun x w' => x = .returned (.tuple #[]) ∧ R w') :
    Calls Try.prog 56 #[pv p, .int .i64 (j + 1)] w fun x w' => x = .returned (.tuple #[]) ∧ R w' := by
  subst hnp
  have h7 : ¬ (7 : Int) ≤ nq := by omega
  have hj1 : (j : Int) + 1 < mp := by omega
  have hj2 : (j : Int) < mp := by omega
  have hj3 : (0 : Int) < (j : Int) + 1 := by omega
  have hjt : ((j : Int) + 1).toNat = j + 1 := by omega
  have hl' : ¬ (7 : Int) < nl := by omega
  go_enter Try.func56, Try.ntmps56
  go_wp2_with fail
  refine hq.mono ?_
  rintro x w1 ⟨rfl, h1⟩
  go_wp2_with fail
  go_end0
  exact ⟨rfl, h1⟩
set_option maxHeartbeats 2000000 in
set_option maxRecDepth 100000 in
theorem mend_join0 (w : World) (p kg kd mp : Nat) (q : Nat) (qo : Option Addr) (nq qc : Nat) (qr : Nat) (ro : Option Addr) (nr rc : Nat) (po : Option Addr) (np pc : Nat)
    (hmp : mp < 100) (d1 : w.cell? ⟨p, 1, none⟩ = some (.slice (some ⟨kg, 0, none⟩) mp kd)) (hpl : 0 < mp) (k0 : w.cell? ⟨kg, 0, none⟩ = some (pv q)) (e0 : w.cell? ⟨q, 0, none⟩ = some (.slice qo nq qc)) (d0 : w.cell? ⟨p, 0, none⟩ = some (.slice po np pc)) (kr : w.cell? ⟨kg, 1, none⟩ = some (pv qr)) (er : w.cell? ⟨qr, 0, none⟩ = some (.slice ro nr rc)) (h7 : nq < 7) (hnp : 0 < np) (hnm : np + 1 = mp) (hr : nr ≤ 7)
    (R : World → Prop) (hq : Calls Try.prog 85 #[pv p, .int .i64 0] w fun x w' => x = .returned (.tuple #[]) ∧ R w') :
    Calls Try.prog 56 #[pv p, .int .i64 0] w fun x w' => x = .returned (.tuple #[]) ∧ R w' := by
  have h7 : ¬ (7 : Int) ≤ nq := by omega
  have hr' : ¬ (7 : Int) < nr := by omega
  have hn1 : (0 : Int) < np := by omega
  have hm0 : (0 : Int) < mp := by omega
  have hm1 : (1 : Int) < mp := by omega
  clear hnm
  go_enter Try.func56, Try.ntmps56
  go_wp2_with fail
  refine hq.mono ?_
  rintro x w1 ⟨rfl, h1⟩
  go_wp2_with fail
  go_end0
  exact ⟨rfl, h1⟩
end Go.Proofs.Ytdbaafigmfclcaa
