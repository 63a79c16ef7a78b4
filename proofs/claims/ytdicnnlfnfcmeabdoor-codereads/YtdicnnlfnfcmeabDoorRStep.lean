/- One step of a Reader and of the document's. -/
import Derived.Test.YtdicnnlfnfcmeabDoorXRead2
import Derived.Deep.RegionWith
namespace Go.Proofs.YtdicnnlfnfcmeabDoor
open Go.RowKit

theorem xleft_q (b : Nat) (S : ByteArray) (a : Nat) (e : Int) (w : World) (h : XS w b S a e) (hS : S.size ≤ 281474976710656) :
    Calls Tryd.prog 40 #[.pointer (some ⟨b, 0, none⟩)] w fun x w' => x = .returned (.int .i64 ((S.size - a : Nat) : Int)) ∧ ∃ m, w' = w.drewN m := by
  have c0 := h.c0; have c1 := h.c1; have hle := h.le
  have HL : Hid (((S.size : Nat) : Int) - a = ((S.size - a : Nat) : Int)) := by show _ = _; omega
  go_enter Tryd.func40, Tryd.ntmps40
  go_wp2
  go_quiet (fail)
  go_wp2
  go_ret
  exact ⟨ret_int HL.out, _, rfl⟩
theorem left_q (b : Nat) (S : ByteArray) (a : Nat) (e : Int) (w : World) (h : RD w b S a e) :
    Calls Tryd.prog 39 #[.pointer (some ⟨b, 0, none⟩)] w fun x w' => x = .returned (.int .i64 ((S.size - a : Nat) : Int)) ∧ w' = w := by
  have := left_any b (S.extract a S.size) a e w h.st
  rw [tail_size] at this; exact this
theorem rdone_q (b : Nat) (S : ByteArray) (a : Nat) (e : Int) (w : World) (h : RD w b S a e) (hg : HE w) :
    Calls Tryd.prog 14 #[.pointer (some ⟨b, 0, none⟩)] w fun x w' => x = .returned (.tuple #[.int .i64 (doneE e (S.size - a)), .int .i64 a]) ∧ Tch (fun _ => False) w w' := by
  have := rdone_any b (S.extract a S.size) a e w h.st hg
  rw [tail_size] at this; exact this

/-- Two Readers of one text, at one place. -/
structure Pair (w : World) (br bx : Nat) (S : ByteArray) (a : Nat) (e : Int) : Prop where
  r : RD w br S a e
  x : XS w bx S a e
theorem Pair.tch {T : Nat → Prop} {w w' : World} {br bx : Nat} {S : ByteArray} {a : Nat} {e : Int} (h : Pair w br bx S a e) (t : Tch T w w') (h1 : ¬ T br) (h2 : ¬ T bx) : Pair w' br bx S a e := ⟨h.r.tch t h1, h.x.tch t h2⟩

theorem false_mono {S : Nat → Prop} {w w' : World} (t : Tch (fun _ => False) w w') : Tch S w w' := t.mono (fun _ _ h => h.elim)

set_option maxHeartbeats 1000000 in
set_option maxRecDepth 100000 in
theorem rstep_1 (br bx : Nat) (S : ByteArray) (a : Nat) (e n : Int) (o : Bool) (s : ByteArray) (l : Value) (w : World) (h : Pair w br bx S a e) (hS : S.size ≤ 281474976710656) (hne : br ≠ bx) (hr0 : br ≠ 0) (hx0 : bx ≠ 0) (hg : HE w) :
    Calls Tryd.prog 13 #[.agg #[.pointer (some ⟨br, 0, none⟩), .pointer (some ⟨bx, 0, none⟩)], .agg #[.bool o, .int .i64 1, .int .i64 n, .string s, l]] w fun x w' => x = .returned (.bool true) ∧ (∃ a' e', Pair w' br bx S a' e') ∧ Tch (fun i => i = br ∨ i = bx) w w' := by
  have hlr : br < w.heap.size := cell_lt h.r.st.c0
  have hlx : bx < w.heap.size := cell_lt h.x.c0
  have hg0 : 0 < w.heap.size := cell_lt hg
  rcases hv : byteR S a e with ⟨v, a', e'⟩
  have HR : Hid (∀ W, Tch (fun _ => False) w W → Calls Tryd.prog 20 #[.pointer (some ⟨br, 0, none⟩)] W fun x w' => x = .returned (.int .i64 (v : Nat)) ∧ RD w' br S a' e' ∧ Tch (fun i => i = br) W w') := fun W t => by
    have := rbyte_any br S a e W (h.r.tch t (fun h => h)) hS
    rw [hv] at this; exact this
  have HX : Hid (∀ W, Tch (fun i => i = br) w W → Calls Tryd.prog 33 #[.pointer (some ⟨bx, 0, none⟩)] W fun x w' => x = .returned (.int .i64 (v : Nat)) ∧ XS w' bx S a' e' ∧ Tch (fun i => i = bx) W w') := fun W t => by
    have := xbyte_any bx S a e W (h.x.tch t (fun h => hne h.symm)) hS
    rw [hv] at this; exact this
  clear hv
  go_enter Tryd.func13, Tryd.ntmps13
  go_wp2
  go_region_with (first
    | (go_at_call 20; refine (HR.out _ ?_).mono ?_; exact (Tch.allocR (Tch.alloc _ _ _) _).drew; rintro x w1 ⟨rfl, h1, t1⟩; have T1 : Tch (fun i => i = br) w w1 := Tch.trans' (Tch.allocR (Tch.alloc _ _ _) _).drew t1; have p0 := (t1.cell (p := ⟨w.heap.size, 0, none⟩) (by simp; omega) (by simp; omega)).trans (by simp; rfl); have p1 := (t1.cell (p := ⟨w.heap.size, 1, none⟩) (by simp; omega) (by simp; omega)).trans (by simp; rfl); have z1 : w.heap.size < w1.heap.size := by (have := t1.size; simp at this; omega))
    | (go_at_call 33; refine (HX.out _ ?_).mono ?_; exact T1; rintro x w2 ⟨rfl, h2, t2⟩; have P2 : Pair w2 br bx S a' e' := ⟨h1.tch t2 hne, h2⟩; have T2 : Tch (fun i => i = br ∨ i = bx) w w2 := (T1.mono (fun _ _ => Or.inl)).trans' (t2.mono (fun _ _ => Or.inr)); have G2 : HE w2 := hg.tch T2 (by omega); have q0 := (t2.cell (p := ⟨w.heap.size, 0, none⟩) z1 (by simp; omega)).trans p0; have q1 := (t2.cell (p := ⟨w.heap.size, 1, none⟩) z1 (by simp; omega)).trans p1; have z2 := Nat.lt_of_lt_of_le z1 t2.size; clear p0 p1 z1 T1 t1 t2 h1 h2))
  all_goals go_wp2_with (first
    | (go_at_call 14; refine (rdone_q br S a' e' _ P2.r G2).mono ?_; rintro x w3 ⟨rfl, t3⟩; have P3 := P2.tch t3 (fun h => h) (fun h => h); have u0 := (t3.cell (p := ⟨w.heap.size, 0, none⟩) z2 (fun h => h)).trans q0; have u1 := (t3.cell (p := ⟨w.heap.size, 1, none⟩) z2 (fun h => h)).trans q1; have z3 := Nat.lt_of_lt_of_le z2 t3.size; have T3 := T2.trans' (false_mono t3); clear q0 q1 z2 P2 G2 T2 t3)
    | (go_at_call 15; refine (xdone_any bx S a' e' _ P3.x).mono ?_; rintro x w4 ⟨rfl, t4⟩; have P4 := P3.tch t4 (fun h => h) (fun h => h); have v0 := (t4.cell (p := ⟨w.heap.size, 0, none⟩) z3 (fun h => h)).trans u0; have v1 := (t4.cell (p := ⟨w.heap.size, 1, none⟩) z3 (fun h => h)).trans u1; have T4 := T3.trans' (false_mono t4); clear u0 u1 z3 P3 T3 t4))
  all_goals
    clear HR HX h
    have HP : Hid (∀ n, Pair (w4.drewN n) br bx S a' e') := fun n => P4.tch ((Tch.refl (fun _ => False) w4).drewN n) (fun h => h) (fun h => h)
    clear P4 hg hne hr0 hx0 hlr hlx hg0
    go_quiet ((first | (go_at_call 39; exact Calls.quiet_of_same (left_q br S a' e' _ (HP.out _).r)) | (go_at_call 40; exact Calls.quiet_of (xleft_q bx S a' e' _ (HP.out _).x hS))))
    go_wp2
    go_ret
    exact ⟨rfl, ⟨a', e', HP.out _⟩, T4.drewN _⟩

set_option maxHeartbeats 1000000 in
set_option maxRecDepth 100000 in
theorem rstep_2 (br bx : Nat) (S : ByteArray) (a : Nat) (e n : Int) (o : Bool) (s : ByteArray) (l : Value) (w : World) (h : Pair w br bx S a e) (hS : S.size ≤ 281474976710656) (hne : br ≠ bx) (hr0 : br ≠ 0) (hx0 : bx ≠ 0) (hg : HE w) :
    Calls Tryd.prog 13 #[.agg #[.pointer (some ⟨br, 0, none⟩), .pointer (some ⟨bx, 0, none⟩)], .agg #[.bool o, .int .i64 2, .int .i64 n, .string s, l]] w fun x w' => x = .returned (.bool true) ∧ (∃ a' e', Pair w' br bx S a' e') ∧ Tch (fun i => i = br ∨ i = bx) w w' := by
  have hlr : br < w.heap.size := cell_lt h.r.st.c0
  have hlx : bx < w.heap.size := cell_lt h.x.c0
  have hg0 : 0 < w.heap.size := cell_lt hg
  rcases hv : numR 9 127 S a e with ⟨v, a', e'⟩
  have HR : Hid (∀ W, Tch (fun _ => False) w W → Calls Tryd.prog 21 #[.pointer (some ⟨br, 0, none⟩)] W fun x w' => x = .returned (.int .i64 (v : Nat)) ∧ RD w' br S a' e' ∧ Tch (fun i => i = br) W w') := fun W t => by
    have := rvar_any br S a e W (h.r.tch t (fun h => h)) hS
    rw [hv] at this; exact this
  have HX : Hid (∀ W, Tch (fun i => i = br) w W → Calls Tryd.prog 34 #[.pointer (some ⟨bx, 0, none⟩)] W fun x w' => x = .returned (.int .i64 (v : Nat)) ∧ XS w' bx S a' e' ∧ Tch (fun i => i = bx) W w') := fun W t => by
    have := xvar_any bx S a e W (h.x.tch t (fun h => hne h.symm)) hS
    rw [hv] at this; exact this
  clear hv
  go_enter Tryd.func13, Tryd.ntmps13
  go_wp2
  go_region_with (first
    | (go_at_call 21; refine (HR.out _ ?_).mono ?_; exact (Tch.allocR (Tch.alloc _ _ _) _).drew; rintro x w1 ⟨rfl, h1, t1⟩; have T1 : Tch (fun i => i = br) w w1 := Tch.trans' (Tch.allocR (Tch.alloc _ _ _) _).drew t1; have p0 := (t1.cell (p := ⟨w.heap.size, 0, none⟩) (by simp; omega) (by simp; omega)).trans (by simp; rfl); have p1 := (t1.cell (p := ⟨w.heap.size, 1, none⟩) (by simp; omega) (by simp; omega)).trans (by simp; rfl); have z1 : w.heap.size < w1.heap.size := by (have := t1.size; simp at this; omega))
    | (go_at_call 34; refine (HX.out _ ?_).mono ?_; exact T1; rintro x w2 ⟨rfl, h2, t2⟩; have P2 : Pair w2 br bx S a' e' := ⟨h1.tch t2 hne, h2⟩; have T2 : Tch (fun i => i = br ∨ i = bx) w w2 := (T1.mono (fun _ _ => Or.inl)).trans' (t2.mono (fun _ _ => Or.inr)); have G2 : HE w2 := hg.tch T2 (by omega); have q0 := (t2.cell (p := ⟨w.heap.size, 0, none⟩) z1 (by simp; omega)).trans p0; have q1 := (t2.cell (p := ⟨w.heap.size, 1, none⟩) z1 (by simp; omega)).trans p1; have z2 := Nat.lt_of_lt_of_le z1 t2.size; clear p0 p1 z1 T1 t1 t2 h1 h2))
  all_goals go_wp2_with (first
    | (go_at_call 14; refine (rdone_q br S a' e' _ P2.r G2).mono ?_; rintro x w3 ⟨rfl, t3⟩; have P3 := P2.tch t3 (fun h => h) (fun h => h); have u0 := (t3.cell (p := ⟨w.heap.size, 0, none⟩) z2 (fun h => h)).trans q0; have u1 := (t3.cell (p := ⟨w.heap.size, 1, none⟩) z2 (fun h => h)).trans q1; have z3 := Nat.lt_of_lt_of_le z2 t3.size; have T3 := T2.trans' (false_mono t3); clear q0 q1 z2 P2 G2 T2 t3)
    | (go_at_call 15; refine (xdone_any bx S a' e' _ P3.x).mono ?_; rintro x w4 ⟨rfl, t4⟩; have P4 := P3.tch t4 (fun h => h) (fun h => h); have v0 := (t4.cell (p := ⟨w.heap.size, 0, none⟩) z3 (fun h => h)).trans u0; have v1 := (t4.cell (p := ⟨w.heap.size, 1, none⟩) z3 (fun h => h)).trans u1; have T4 := T3.trans' (false_mono t4); clear u0 u1 z3 P3 T3 t4))
  all_goals
    clear HR HX h
    have HP : Hid (∀ n, Pair (w4.drewN n) br bx S a' e') := fun n => P4.tch ((Tch.refl (fun _ => False) w4).drewN n) (fun h => h) (fun h => h)
    clear P4 hg hne hr0 hx0 hlr hlx hg0
    go_quiet ((first | (go_at_call 39; exact Calls.quiet_of_same (left_q br S a' e' _ (HP.out _).r)) | (go_at_call 40; exact Calls.quiet_of (xleft_q bx S a' e' _ (HP.out _).x hS))))
    go_wp2
    go_ret
    exact ⟨rfl, ⟨a', e', HP.out _⟩, T4.drewN _⟩

set_option maxHeartbeats 1000000 in
set_option maxRecDepth 100000 in
theorem rstep_3 (br bx : Nat) (S : ByteArray) (a : Nat) (e n : Int) (o : Bool) (s : ByteArray) (l : Value) (w : World) (h : Pair w br bx S a e) (hS : S.size ≤ 281474976710656) (hne : br ≠ bx) (hr0 : br ≠ 0) (hx0 : bx ≠ 0) (hg : HE w) :
    Calls Tryd.prog 13 #[.agg #[.pointer (some ⟨br, 0, none⟩), .pointer (some ⟨bx, 0, none⟩)], .agg #[.bool o, .int .i64 3, .int .i64 n, .string s, l]] w fun x w' => x = .returned (.bool true) ∧ (∃ a' e', Pair w' br bx S a' e') ∧ Tch (fun i => i = br ∨ i = bx) w w' := by
  have hlr : br < w.heap.size := cell_lt h.r.st.c0
  have hlx : bx < w.heap.size := cell_lt h.x.c0
  have hg0 : 0 < w.heap.size := cell_lt hg
  rcases hv : numR 10 1 S a e with ⟨v, a', e'⟩
  have HR : Hid (∀ W, Tch (fun _ => False) w W → Calls Tryd.prog 22 #[.pointer (some ⟨br, 0, none⟩)] W fun x w' => x = .returned (.int .i64 (unf v)) ∧ RD w' br S a' e' ∧ Tch (fun i => i = br) W w') := fun W t => by
    have := rint_any br S a e W (h.r.tch t (fun h => h)) hS
    rw [hv] at this; exact this
  have HX : Hid (∀ W, Tch (fun i => i = br) w W → Calls Tryd.prog 35 #[.pointer (some ⟨bx, 0, none⟩)] W fun x w' => x = .returned (.int .i64 (unf v)) ∧ XS w' bx S a' e' ∧ Tch (fun i => i = bx) W w') := fun W t => by
    have := xint_any bx S a e W (h.x.tch t (fun h => hne h.symm)) hS
    rw [hv] at this; exact this
  clear hv
  go_enter Tryd.func13, Tryd.ntmps13
  go_wp2
  go_region_with (first
    | (go_at_call 22; refine (HR.out _ ?_).mono ?_; exact (Tch.allocR (Tch.alloc _ _ _) _).drew; rintro x w1 ⟨rfl, h1, t1⟩; have T1 : Tch (fun i => i = br) w w1 := Tch.trans' (Tch.allocR (Tch.alloc _ _ _) _).drew t1; have p0 := (t1.cell (p := ⟨w.heap.size, 0, none⟩) (by simp; omega) (by simp; omega)).trans (by simp; rfl); have p1 := (t1.cell (p := ⟨w.heap.size, 1, none⟩) (by simp; omega) (by simp; omega)).trans (by simp; rfl); have z1 : w.heap.size < w1.heap.size := by (have := t1.size; simp at this; omega))
    | (go_at_call 35; refine (HX.out _ ?_).mono ?_; exact T1; rintro x w2 ⟨rfl, h2, t2⟩; have P2 : Pair w2 br bx S a' e' := ⟨h1.tch t2 hne, h2⟩; have T2 : Tch (fun i => i = br ∨ i = bx) w w2 := (T1.mono (fun _ _ => Or.inl)).trans' (t2.mono (fun _ _ => Or.inr)); have G2 : HE w2 := hg.tch T2 (by omega); have q0 := (t2.cell (p := ⟨w.heap.size, 0, none⟩) z1 (by simp; omega)).trans p0; have q1 := (t2.cell (p := ⟨w.heap.size, 1, none⟩) z1 (by simp; omega)).trans p1; have z2 := Nat.lt_of_lt_of_le z1 t2.size; clear p0 p1 z1 T1 t1 t2 h1 h2))
  all_goals go_wp2_with (first
    | (go_at_call 14; refine (rdone_q br S a' e' _ P2.r G2).mono ?_; rintro x w3 ⟨rfl, t3⟩; have P3 := P2.tch t3 (fun h => h) (fun h => h); have u0 := (t3.cell (p := ⟨w.heap.size, 0, none⟩) z2 (fun h => h)).trans q0; have u1 := (t3.cell (p := ⟨w.heap.size, 1, none⟩) z2 (fun h => h)).trans q1; have z3 := Nat.lt_of_lt_of_le z2 t3.size; have T3 := T2.trans' (false_mono t3); clear q0 q1 z2 P2 G2 T2 t3)
    | (go_at_call 15; refine (xdone_any bx S a' e' _ P3.x).mono ?_; rintro x w4 ⟨rfl, t4⟩; have P4 := P3.tch t4 (fun h => h) (fun h => h); have v0 := (t4.cell (p := ⟨w.heap.size, 0, none⟩) z3 (fun h => h)).trans u0; have v1 := (t4.cell (p := ⟨w.heap.size, 1, none⟩) z3 (fun h => h)).trans u1; have T4 := T3.trans' (false_mono t4); clear u0 u1 z3 P3 T3 t4))
  all_goals
    clear HR HX h
    have HP : Hid (∀ n, Pair (w4.drewN n) br bx S a' e') := fun n => P4.tch ((Tch.refl (fun _ => False) w4).drewN n) (fun h => h) (fun h => h)
    clear P4 hg hne hr0 hx0 hlr hlx hg0
    go_quiet ((first | (go_at_call 39; exact Calls.quiet_of_same (left_q br S a' e' _ (HP.out _).r)) | (go_at_call 40; exact Calls.quiet_of (xleft_q bx S a' e' _ (HP.out _).x hS))))
    go_wp2
    go_ret
    exact ⟨rfl, ⟨a', e', HP.out _⟩, T4.drewN _⟩

end Go.Proofs.YtdicnnlfnfcmeabDoor
