/- One step of a Reader and of the document's: texts. -/
import Derived.Test.YtdicnnlfnfcmeabDoorRStep
namespace Go.Proofs.YtdicnnlfnfcmeabDoor
open Go.RowKit

set_option maxHeartbeats 8000000 in
set_option maxRecDepth 100000 in
theorem rstep_5 (br bx : Nat) (S : ByteArray) (a : Nat) (e n : Int) (o : Bool) (s : ByteArray) (l : Value) (w : World) (h : Pair w br bx S a e) (hS : S.size ≤ 281474976710656) (hne : br ≠ bx) (hr0 : br ≠ 0) (hx0 : bx ≠ 0) (hg : HE w) :
    Calls Tryd.prog 13 #[.agg #[.pointer (some ⟨br, 0, none⟩), .pointer (some ⟨bx, 0, none⟩)], .agg #[.bool o, .int .i64 5, .int .i64 n, .string s, l]] w fun x w' => x = .returned (.bool true) ∧ (∃ a' e', Pair w' br bx S a' e') ∧ Tch (fun i => i = br ∨ i = bx) w w' := by
  have hlr : br < w.heap.size := cell_lt h.r.st.c0
  have hlx : bx < w.heap.size := cell_lt h.x.c0
  have hg0 : 0 < w.heap.size := cell_lt hg
  rcases hv : rawR n S a e with ⟨v, a', e'⟩
  have HR : Hid (∀ W, Tch (fun _ => False) w W → Calls Tryd.prog 37 #[.pointer (some ⟨br, 0, none⟩), .int .i64 n] W fun x w' => x = .returned (.string v) ∧ RD w' br S a' e' ∧ Tch (fun i => i = br) W w') := fun W t => by
    have := rraw_any br S a e n W (h.r.tch t (fun h => h)) hS
    rw [hv] at this; exact this
  have HX : Hid (∀ W, Tch (fun i => i = br) w W → Calls Tryd.prog 38 #[.pointer (some ⟨bx, 0, none⟩), .int .i64 n] W fun x w' => x = .returned (.string v) ∧ XS w' bx S a' e' ∧ Tch (fun i => i = bx) W w') := fun W t => by
    have := xraw_any bx S a e n W (h.x.tch t (fun h => hne h.symm)) hS
    rw [hv] at this; exact this
  clear hv
  go_enter Tryd.func13, Tryd.ntmps13
  go_wp2
  go_region_with (first
    | (go_at_call 37; refine (HR.out _ ?_).mono ?_; exact (Tch.allocR (Tch.alloc _ _ _) _).drew; rintro x w1 ⟨rfl, h1, t1⟩; have T1 : Tch (fun i => i = br) w w1 := Tch.trans' (Tch.allocR (Tch.alloc _ _ _) _).drew t1; have p0 := (t1.cell (p := ⟨w.heap.size, 0, none⟩) (by simp; omega) (by simp; omega)).trans (by simp; rfl); have p1 := (t1.cell (p := ⟨w.heap.size, 1, none⟩) (by simp; omega) (by simp; omega)).trans (by simp; rfl); have p2 := (t1.cell (p := ⟨w.heap.size + 1, 2, none⟩) (by simp) (by simp; omega)).trans (by simp; rfl); have z1 : w.heap.size < w1.heap.size := by (have := t1.size; simp at this; omega))
    | (go_at_call 38; refine (HX.out _ ?_).mono ?_; exact T1; rintro x w2 ⟨rfl, h2, t2⟩; have P2 : Pair w2 br bx S a' e' := ⟨h1.tch t2 hne, h2⟩; have T2 : Tch (fun i => i = br ∨ i = bx) w w2 := (T1.mono (fun _ _ => Or.inl)).trans' (t2.mono (fun _ _ => Or.inr)); have G2 : HE w2 := hg.tch T2 (by omega); have q0 := (t2.cell (p := ⟨w.heap.size, 0, none⟩) z1 (by simp; omega)).trans p0; have q1 := (t2.cell (p := ⟨w.heap.size, 1, none⟩) z1 (by simp; omega)).trans p1; have z2 := Nat.lt_of_lt_of_le z1 t2.size; clear p0 p1 z1 T1 t1 t2 h1 h2))
  all_goals go_wp2_with (first
    | (go_at_call 14; refine (rdone_q br S a' e' _ P2.r G2).mono ?_; rintro x w3 ⟨rfl, t3⟩; have P3 := P2.tch t3 (fun h => h) (fun h => h); have u0 := (t3.cell (p := ⟨w.heap.size, 0, none⟩) z2 (fun h => h)).trans q0; have u1 := (t3.cell (p := ⟨w.heap.size, 1, none⟩) z2 (fun h => h)).trans q1; have z3 := Nat.lt_of_lt_of_le z2 t3.size; have T3 := T2.trans' (false_mono t3); clear q0 q1 z2 P2 G2 T2 t3)
    | (go_at_call 15; refine (xdone_any bx S a' e' _ P3.x).mono ?_; rintro x w4 ⟨rfl, t4⟩; have P4 := P3.tch t4 (fun h => h) (fun h => h); have v0 := (t4.cell (p := ⟨w.heap.size, 0, none⟩) z3 (fun h => h)).trans u0; have v1 := (t4.cell (p := ⟨w.heap.size, 1, none⟩) z3 (fun h => h)).trans u1; have T4 := T3.trans' (false_mono t4); clear u0 u1 z3 P3 T3 t4))
  all_goals
    clear HR HX h
    have HP : Hid (∀ n, Pair (w4.drewN n) br bx S a' e') := fun n => P4.tch ((Tch.refl (fun _ => False) w4).drewN n) (fun h => h) (fun h => h)
    clear P4 hg hne hr0 hx0 hlr hlx hg0
    go_quiet ((first | (go_at_call 39; exact Calls.quiet_of_same (left_q br S a' e' _ (HP.out _).r)) | (go_at_call 40; exact Calls.quiet_of (xleft_q bx S a' e' _ (HP.out _).x hS))))
    go_wp2
    go_ret
    exact ⟨rfl, ⟨a', e', HP.out _⟩, T4.drewN _⟩

end Go.Proofs.YtdicnnlfnfcmeabDoor
