/- CodeWrites over no step, walked. -/
import Derived.Test.YtdicnnlfnfcmeabDoorWrites
namespace Go.Proofs.YtdicnnlfnfcmeabDoor
open Go.RowKit Go.Sort

set_option maxHeartbeats 4000000 in
set_option maxRecDepth 100000 in
theorem writes_zero (ao : Option Addr) (cap : Nat) (w : World) (hg : HE w) :
    Calls Tryd.prog 3 #[.slice ao 0 cap] w fun x w' => x = .returned (.bool true) ∧ Tch (fun _ => False) w w' := by
  have hg0 : 0 < w.heap.size := cell_lt hg
  have HG : Hid (∀ W, Tch (fun i => w.heap.size ≤ i) w W → HE W) := fun W t => hg.tch t (by omega)
  go_enter Tryd.func3, Tryd.ntmps3
  go_wp2_with fail
  refine (known_any _ hg).mono ?_
  rintro x w1 ⟨rfl, t1⟩
  have T1 := no_mono (S := fun i => w.heap.size ≤ i) t1
  have hN := t1.size
  clear t1 hg
  go_wp2_with fail
  refine (knewWriter_any _).mono ?_
  rintro x w2 ⟨rfl, r2, t2, z2, n2⟩
  have T2 := T1.trans' (no_mono t2)
  obtain ⟨N, hNe⟩ : ∃ N, N = w1.heap.size := ⟨_, rfl⟩
  rw [← hNe] at r2 z2 hN n2 ⊢
  clear hNe t2 T1
  go_wp2_with fail
  refine (xnewWriter_any _).mono ?_
  rintro x w3 ⟨rfl, x3, t3, z3⟩
  have T3 := T2.trans' (no_mono t3)
  have r3 := r2.tchR t3 (fun h => h) (fun _ _ h => h)
  have n3 := (rowOf_tch (b := N) t3 (by omega) (fun h => h)).trans n2
  rw [z2] at x3 z3 ⊢
  clear r2 t3 T2 z2 n2
  go_wp2_with fail
  have t4 : Tch (fun _ => False) w3 (w3.alloc (.cells #[.pointer (some ⟨N, 0, none⟩), .pointer (some ⟨N + 1, 0, none⟩)] 29)) := Tch.alloc _ _ _
  have P3 : WPs w3 N (N + 1) 0 := ⟨[], ⟨#[]⟩, 0, ⟨r3, x3, fun _ => rfl, by rw [n3]; simp⟩, Nat.le_refl _⟩
  have P4 := P3.no t4
  have n4 := (rowOf_tch (b := N) t4 (by omega) (fun h => h)).trans n3
  have B4 : Box (w3.alloc (.cells #[.pointer (some ⟨N, 0, none⟩), .pointer (some ⟨N + 1, 0, none⟩)] 29)) (N + 2) N (N + 1) := by
    constructor
    · rw [World.cell?_alloc_at _ _ _ _ (by simp [z3])]; rfl
    · rw [World.cell?_alloc_at _ _ _ _ (by simp [z3])]; rfl
  have T4 := T3.trans' (no_mono t4)
  have z4 : (w3.alloc (.cells #[.pointer (some ⟨N, 0, none⟩), .pointer (some ⟨N + 1, 0, none⟩)] 29)).heap.size = N + 3 := by simp [z3]
  refine (knewWriter_any _).mono ?_
  rintro x w5 ⟨rfl, r5, t5, z5, m5⟩
  rw [z4] at r5 z5 m5 ⊢
  have T5 := T4.trans' (no_mono t5)
  have P5 := P4.no t5
  have n5 := (rowOf_tch (b := N) t5 (by omega) (fun h => h)).trans n4
  have B5 := B4.tch t5 (fun h => h)
  clear r3 x3 z3 T3 t4 P3 P4 B4 T4 t5 z4 n3 n4
  go_wp2_with fail
  refine (xnewWriter_any _).mono ?_
  rintro x w6 ⟨rfl, x6, t6, z6⟩
  rw [z5] at x6 z6 ⊢
  have T6 := T5.trans' (no_mono t6)
  have P6 := P5.no t6
  have n6 := (rowOf_tch (b := N) t6 (by omega) (fun h => h)).trans n5
  have m6 := (rowOf_tch (b := N + 3) t6 (by omega) (fun h => h)).trans m5
  have Q6 : WPs w6 (N + 3) (N + 4) 0 := ⟨[], ⟨#[]⟩, 0, ⟨r5.tchR t6 (fun h => h) (fun _ _ h => h), x6, fun _ => rfl, by rw [m6]; simp⟩, Nat.le_refl _⟩
  have B6 := B5.tch t6 (fun h => h)
  clear r5 x6 z5 T5 P5 B5 t6 n5 m5
  have z6' : w6.heap.size = N + 5 := z6
  have HS : Hid (∀ W, W = w6.alloc (.cells #[.pointer (some ⟨N + 3, 0, none⟩), .pointer (some ⟨N + 4, 0, none⟩)] 29) → TwoW W N 0 ∧ Tch (fun i => w.heap.size ≤ i) w W) := by
    rintro W rfl
    have t7 : Tch (fun _ => False) w6 (w6.alloc (.cells #[.pointer (some ⟨N + 3, 0, none⟩), .pointer (some ⟨N + 4, 0, none⟩)] 29)) := Tch.alloc _ _ _
    have n7 := (rowOf_tch (b := N) t7 (by omega) (fun h => h)).trans n6
    have m7 := (rowOf_tch (b := N + 3) t7 (by omega) (fun h => h)).trans m6
    refine ⟨⟨P6.no t7, Q6.no t7, B6.tch t7 (fun h => h), ⟨?_, ?_⟩, ?_, ?_, ?_, by simp [z6']⟩, T6.trans' (no_mono t7)⟩
    · rw [World.cell?_alloc_at _ _ _ _ (by simp [z6'])]; rfl
    · rw [World.cell?_alloc_at _ _ _ _ (by simp [z6'])]; rfl
    · intro i hi; rw [n7] at hi; cases hi
    · intro i hi; rw [m7] at hi; cases hi
    · intro i hi; rw [n7] at hi; cases hi
  have e0 := B6.1
  have l0 : N + 2 < w6.heap.size := by omega
  have e1 : (w6.alloc (.cells #[.pointer (some ⟨N + 3, 0, none⟩), .pointer (some ⟨N + 4, 0, none⟩)] 29)).cell? ⟨N + 2, 0, none⟩ = some (.pointer (some ⟨N, 0, none⟩)) := by
    rw [World.cell?_alloc_lt _ _ ⟨N + 2, 0, none⟩ l0]; exact e0
  clear P6 Q6 B6 T6 z6 n6 m6
  go_wp2_with fail
  clear e0 l0 e1 z6'
  go_loopw [6] (fun i wr => ∃ k : Nat, i = .int .i64 k ∧ k ≤ 0 ∧ TwoW wr N (k * 4194304) ∧ Tch (fun i => w.heap.size ≤ i) w wr) (fun i _ => 0 - (intOf i).toNat)
  case atStart =>
    obtain ⟨s1, s2⟩ := HS.out _ rfl
    exact ⟨0, rfl, Nat.zero_le _, by rw [Nat.zero_mul]; exact s1, s2⟩
  case round =>
    obtain ⟨k, rfl, hk, hTw, hT⟩ := hrel
    clear HS
    have hz := hTw.lt
    have d0 : wr.cell? ⟨N + 1 + 1, 0, none⟩ = some (.pointer (some ⟨N, 0, none⟩)) := hTw.ba.1
    have d1 : wr.cell? ⟨N + 1 + 1, 1, none⟩ = some (.pointer (some ⟨N + 1, 0, none⟩)) := hTw.ba.2
    have d2 : wr.cell? ⟨N + 5, 0, none⟩ = some (.pointer (some ⟨N + 3, 0, none⟩)) := hTw.bb.1
    have d3 : wr.cell? ⟨N + 5, 1, none⟩ = some (.pointer (some ⟨N + 4, 0, none⟩)) := hTw.bb.2
    obtain rfl : k = 0 := by omega
    obtain ⟨bs, s, e, hP, _⟩ := hTw.pa
    go_wp2_with fail
    refine (wdone_any N bs e _ hP.k (HG.out _ hT)).mono ?_
    rintro x w8 ⟨rfl, t8⟩
    have hP8 := hP.no t8
    have q2 : w8.cell? ⟨N + 1 + 1, 1, none⟩ = some (.pointer (some ⟨N + 1, 0, none⟩)) := (t8.cell (p := ⟨N + 1 + 1, 1, none⟩) (by show N + 1 + 1 < _; omega) (fun h => h)).trans d1
    have T8 := hT.trans' (no_mono t8)
    clear d0 d1 d2 d3 hP hTw t8 hT
    go_wp2_with fail
    refine (xdone_pair hP8).mono ?_
    rintro x w9 ⟨rfl, t9⟩
    have T9 := ge_new (T8.trans' (no_mono t9))
    clear q2 hP8 T8 t9
    go_wp2
    go_ret
    exact ⟨rfl, T9⟩
end Go.Proofs.YtdicnnlfnfcmeabDoor
