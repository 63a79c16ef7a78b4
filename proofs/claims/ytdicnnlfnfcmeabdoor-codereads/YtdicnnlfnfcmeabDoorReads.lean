/- CodeReads, walked. -/
import Derived.Test.YtdicnnlfnfcmeabDoorRStep0
import Derived.Test.YtdicnnlfnfcmeabDoorRStepK
import Derived.Test.YtdicnnlfnfcmeabDoorKnown
import Derived.Test.YtdicnnlfnfcmeabDoorLift
namespace Go.Proofs.YtdicnnlfnfcmeabDoor
open Go.RowKit

theorem xnewReader_any (s : ByteArray) (w : World) :
    Calls Tryd.prog 12 #[.string s] w fun x w' => x = .returned (.pointer (some ⟨w.heap.size, 0, none⟩)) ∧ XS w' w.heap.size s 0 0 ∧ Tch (fun _ => False) w w' ∧ w'.heap.size = w.heap.size + 1 := by
  go_enter Tryd.func12, Tryd.ntmps12
  go_wp2
  go_ret
  exact ⟨rfl, ⟨by simp, by simp, by simp, by simp, by simp, Nat.zero_le _⟩, Tch.alloc _ _ _, by simp⟩

theorem rstep_any (br bx : Nat) (S : ByteArray) (a : Nat) (e kd n : Int) (o : Bool) (s : ByteArray) (l : Value) (w : World) (h : Pair w br bx S a e) (hS : S.size ≤ 281474976710656) (hne : br ≠ bx) (hr0 : br ≠ 0) (hx0 : bx ≠ 0) (hg : HE w) :
    Calls Tryd.prog 13 #[.agg #[.pointer (some ⟨br, 0, none⟩), .pointer (some ⟨bx, 0, none⟩)], .agg #[.bool o, .int .i64 kd, .int .i64 n, .string s, l]] w fun x w' => x = .returned (.bool true) ∧ (∃ a' e', Pair w' br bx S a' e') ∧ Tch (fun i => i = br ∨ i = bx) w w' := by
  by_cases k1 : kd = 1
  · subst k1; exact rstep_1 br bx S a e n o s l w h hS hne hr0 hx0 hg
  by_cases k2 : kd = 2
  · subst k2; exact rstep_2 br bx S a e n o s l w h hS hne hr0 hx0 hg
  by_cases k3 : kd = 3
  · subst k3; exact rstep_3 br bx S a e n o s l w h hS hne hr0 hx0 hg
  by_cases k4 : kd = 4
  · subst k4; exact rstep_4 br bx S a e n o s l w h hS hne hr0 hx0 hg
  by_cases k5 : kd = 5
  · subst k5; exact rstep_5 br bx S a e n o s l w h hS hne hr0 hx0 hg
  exact rstep_0 br bx S a e kd n o s l w h hS hg k1 k2 k3 k4 k5

/-- A box that holds two pointers. -/
def Box (w : World) (A p q : Nat) : Prop := w.cell? ⟨A, 0, none⟩ = some (.pointer (some ⟨p, 0, none⟩)) ∧ w.cell? ⟨A, 1, none⟩ = some (.pointer (some ⟨q, 0, none⟩))
theorem Box.tch {S : Nat → Prop} {w w' : World} {A p q : Nat} (h : Box w A p q) (t : Tch S w w') (hA : ¬ S A) : Box w' A p q :=
  ⟨(t.cell (p := ⟨A, 0, none⟩) (cell_lt h.1) hA).trans h.1, (t.cell (p := ⟨A, 1, none⟩) (cell_lt h.2) hA).trans h.2⟩

/-- Where the readers stand. -/
structure Two (w : World) (N : Nat) (one two : ByteArray) : Prop where
  pa : ∃ a e, Pair w N (N + 1) one a e
  pb : ∃ a e, Pair w (N + 3) (N + 4) two a e
  ba : Box w (N + 2) N (N + 1)
  bb : Box w (N + 5) (N + 3) (N + 4)
theorem Two.tch {S : Nat → Prop} {w w' : World} {N : Nat} {one two : ByteArray} (h : Two w N one two) (t : Tch S w w') (hS : ∀ i, N ≤ i → i ≤ N + 5 → ¬ S i) : Two w' N one two := by
  obtain ⟨⟨a, e, h1⟩, ⟨a', e', h2⟩, h3, h4⟩ := h
  exact ⟨⟨a, e, h1.tch t (hS _ (by omega) (by omega)) (hS _ (by omega) (by omega))⟩, ⟨a', e', h2.tch t (hS _ (by omega) (by omega)) (hS _ (by omega) (by omega))⟩, h3.tch t (hS _ (by omega) (by omega)), h4.tch t (hS _ (by omega) (by omega))⟩
theorem Two.stepA {w w' : World} {N : Nat} {one two : ByteArray} (h : Two w N one two) (t : Tch (fun i => i = N ∨ i = N + 1) w w') (hp : ∃ a e, Pair w' N (N + 1) one a e) : Two w' N one two := by
  obtain ⟨_, ⟨a', e', h2⟩, h3, h4⟩ := h
  exact ⟨hp, ⟨a', e', h2.tch t (by omega) (by omega)⟩, h3.tch t (by omega), h4.tch t (by omega)⟩
theorem Two.stepB {w w' : World} {N : Nat} {one two : ByteArray} (h : Two w N one two) (t : Tch (fun i => i = N + 3 ∨ i = N + 4) w w') (hp : ∃ a e, Pair w' (N + 3) (N + 4) two a e) : Two w' N one two := by
  obtain ⟨⟨a', e', h2⟩, _, h3, h4⟩ := h
  exact ⟨⟨a', e', h2.tch t (by omega) (by omega)⟩, hp, h3.tch t (by omega), h4.tch t (by omega)⟩

set_option maxHeartbeats 4000000 in
set_option maxRecDepth 100000 in
theorem reads_any (one two : ByteArray) (b off len cap : Nat) (w : World) (hg : HE w) (h1 : one.size ≤ 281474976710656) (h2 : two.size ≤ 281474976710656) (hlen : len ≤ 9223372036854775807) (hops : Ops w b off len) (hb : b < w.heap.size) :
    Calls Tryd.prog 4 #[.string one, .string two, .slice (some ⟨b, off, none⟩) len cap] w fun x w' => x = .returned (.bool true) ∧ Tch (fun _ => False) w w' := by
  have hg0 : 0 < w.heap.size := cell_lt hg
  have HG : Hid (∀ W, Tch (fun i => w.heap.size ≤ i) w W → HE W) := fun W t => hg.tch t (by omega)
  have HO : Hid (∀ W, Tch (fun i => w.heap.size ≤ i) w W → Ops W b off len) := fun W t => hops.tch t (by omega)
  clear hops
  go_enter Tryd.func4, Tryd.ntmps4
  go_wp2_with fail
  refine (known_any _ hg).mono ?_
  rintro x w1 ⟨rfl, t1⟩
  have T1 := no_mono (S := fun i => w.heap.size ≤ i) t1
  have hN := t1.size
  clear t1 hg
  go_wp2_with fail
  refine (newReader_any _ _).mono ?_
  rintro x w2 ⟨rfl, r2, t2, z2⟩
  have T2 := T1.trans' (no_mono t2)
  obtain ⟨N, hNe⟩ : ∃ N, N = w1.heap.size := ⟨_, rfl⟩
  rw [← hNe] at r2 z2 hN ⊢
  clear hNe t2 T1
  go_wp2_with fail
  refine (xnewReader_any _ _).mono ?_
  rintro x w3 ⟨rfl, x3, t3, z3⟩
  have T3 := T2.trans' (no_mono t3)
  have r3 := r2.tch t3 (fun h => h)
  rw [z2] at x3 z3 ⊢
  clear r2 t3 T2 z2
  go_wp2_with fail
  have t4 : Tch (fun _ => False) w3 (w3.alloc (.cells #[.pointer (some ⟨N, 0, none⟩), .pointer (some ⟨N + 1, 0, none⟩)] 43)) := Tch.alloc _ _ _
  have P4 : ∃ a e, Pair (w3.alloc (.cells #[.pointer (some ⟨N, 0, none⟩), .pointer (some ⟨N + 1, 0, none⟩)] 43)) N (N + 1) one a e := ⟨0, 0, r3.tch t4 (fun h => h), x3.tch t4 (fun h => h)⟩
  have B4 : Box (w3.alloc (.cells #[.pointer (some ⟨N, 0, none⟩), .pointer (some ⟨N + 1, 0, none⟩)] 43)) (N + 2) N (N + 1) := by
    constructor
    · rw [World.cell?_alloc_at _ _ _ _ (by simp [z3])]; rfl
    · rw [World.cell?_alloc_at _ _ _ _ (by simp [z3])]; rfl
  have T4 := T3.trans' (no_mono t4)
  have z4 : (w3.alloc (.cells #[.pointer (some ⟨N, 0, none⟩), .pointer (some ⟨N + 1, 0, none⟩)] 43)).heap.size = N + 3 := by simp [z3]
  refine (newReader_any _ _).mono ?_
  rintro x w5 ⟨rfl, r5, t5, z5⟩
  rw [z4] at r5 z5 ⊢
  have T5 := T4.trans' (no_mono t5)
  have P5 : ∃ a e, Pair w5 N (N + 1) one a e := by obtain ⟨a, e, h⟩ := P4; exact ⟨a, e, h.tch t5 (fun h => h) (fun h => h)⟩
  have B5 := B4.tch t5 (fun h => h)
  clear r3 x3 z3 T3 t4 P4 B4 T4 t5 z4
  go_wp2_with fail
  refine (xnewReader_any _ _).mono ?_
  rintro x w6 ⟨rfl, x6, t6, z6⟩
  rw [z5] at x6 z6 ⊢
  have T6 := T5.trans' (no_mono t6)
  have P6 : ∃ a e, Pair w6 N (N + 1) one a e := by obtain ⟨a, e, h⟩ := P5; exact ⟨a, e, h.tch t6 (fun h => h) (fun h => h)⟩
  have Q6 : ∃ a e, Pair w6 (N + 3) (N + 4) two a e := ⟨0, 0, r5.tch t6 (fun h => h), x6⟩
  have B6 := B5.tch t6 (fun h => h)
  clear r5 x6 z5 T5 P5 B5 t6
  have z6' : w6.heap.size = N + 5 := z6
  have HS : Hid (∀ W, W = w6.alloc (.cells #[.pointer (some ⟨N + 3, 0, none⟩), .pointer (some ⟨N + 4, 0, none⟩)] 43) → Two W N one two ∧ Tch (fun i => w.heap.size ≤ i) w W ∧ N + 5 < W.heap.size) := by
    rintro W rfl
    have t7 : Tch (fun _ => False) w6 (w6.alloc (.cells #[.pointer (some ⟨N + 3, 0, none⟩), .pointer (some ⟨N + 4, 0, none⟩)] 43)) := Tch.alloc _ _ _
    obtain ⟨a, e, h⟩ := P6
    obtain ⟨a', e', h'⟩ := Q6
    refine ⟨⟨⟨a, e, h.tch t7 (fun h => h) (fun h => h)⟩, ⟨a', e', h'.tch t7 (fun h => h) (fun h => h)⟩, B6.tch t7 (fun h => h), ?_, ?_⟩, T6.trans' (no_mono t7), by simp [z6']⟩
    · rw [World.cell?_alloc_at _ _ _ _ (by simp [z6'])]; rfl
    · rw [World.cell?_alloc_at _ _ _ _ (by simp [z6'])]; rfl
  have e0 := B6.1
  have l0 : N + 2 < w6.heap.size := by omega
  have e1 : (w6.alloc (.cells #[.pointer (some ⟨N + 3, 0, none⟩), .pointer (some ⟨N + 4, 0, none⟩)] 43)).cell? ⟨N + 2, 0, none⟩ = some (.pointer (some ⟨N, 0, none⟩)) := by
    rw [World.cell?_alloc_lt _ _ ⟨N + 2, 0, none⟩ l0]; exact e0
  clear P6 Q6 B6 T6 z6
  go_wp2_with fail
  clear e0 l0 e1 z6'
  go_loopw [10] (fun i wr => ∃ k : Nat, i = .int .i64 k ∧ k ≤ len ∧ Two wr N one two ∧ Tch (fun i => w.heap.size ≤ i) w wr ∧ N + 5 < wr.heap.size) (fun i _ => len - (intOf i).toNat)
  case atStart =>
    obtain ⟨s1, s2, s3⟩ := HS.out _ rfl
    exact ⟨0, rfl, Nat.zero_le _, s1, s2, s3⟩
  case round =>
    obtain ⟨k, rfl, hk, hTw, hT, hz⟩ := hrel
    clear HS
    have d0 : wr.cell? ⟨N + 1 + 1, 0, none⟩ = some (.pointer (some ⟨N, 0, none⟩)) := hTw.ba.1
    have d1 : wr.cell? ⟨N + 1 + 1, 1, none⟩ = some (.pointer (some ⟨N + 1, 0, none⟩)) := hTw.ba.2
    have d2 : wr.cell? ⟨N + 5, 0, none⟩ = some (.pointer (some ⟨N + 3, 0, none⟩)) := hTw.bb.1
    have d3 : wr.cell? ⟨N + 5, 1, none⟩ = some (.pointer (some ⟨N + 4, 0, none⟩)) := hTw.bb.2
    by_cases hlt : k < len
    · have hlt' : (k : Int) < len := by omega
      obtain ⟨o, kd, n, s, l, ⟨o0, o1, o2, o3, o4⟩, _⟩ := HO.out wr hT k hlt
      have hbw : b < wr.heap.size := by have := hT.size; omega
      have p0 : ∀ c, (wr.alloc c).cell? ⟨b, off + k * 5, none⟩ = some (.bool o) := fun c => by rw [World.cell?_alloc_lt _ _ ⟨b, off + k * 5, none⟩ hbw]; exact o0
      have p1 : ∀ c, (wr.alloc c).cell? ⟨b, off + k * 5 + 1, none⟩ = some (.int .i64 kd) := fun c => by rw [World.cell?_alloc_lt _ _ ⟨b, off + k * 5 + 1, none⟩ hbw]; exact o1
      have p2 : ∀ c, (wr.alloc c).cell? ⟨b, off + k * 5 + 2, none⟩ = some (.int .i64 n) := fun c => by rw [World.cell?_alloc_lt _ _ ⟨b, off + k * 5 + 2, none⟩ hbw]; exact o2
      have p3 : ∀ c, (wr.alloc c).cell? ⟨b, off + k * 5 + 3, none⟩ = some (.string s) := fun c => by rw [World.cell?_alloc_lt _ _ ⟨b, off + k * 5 + 3, none⟩ hbw]; exact o3
      have p4 : ∀ c, (wr.alloc c).cell? ⟨b, off + k * 5 + 4, none⟩ = some l := fun c => by rw [World.cell?_alloc_lt _ _ ⟨b, off + k * 5 + 4, none⟩ hbw]; exact o4
      clear o0 o1 o2 o3 o4
      cases o
      · go_wp2_with fail
        obtain ⟨a, e, hP⟩ := hTw.pa
        have HSt : Hid (∀ c, Calls Tryd.prog 13 #[.agg #[.pointer (some ⟨N, 0, none⟩), .pointer (some ⟨N + 1, 0, none⟩)], .agg #[.bool false, .int .i64 kd, .int .i64 n, .string s, l]] (wr.alloc c).drew fun x w' => x = .returned (.bool true) ∧ Two w' N one two ∧ Tch (fun i => w.heap.size ≤ i) w w' ∧ N + 5 < w'.heap.size) := fun c => by
          have tA : Tch (fun _ => False) wr (wr.alloc c).drew := (Tch.alloc _ _ _).drew
          refine (rstep_any N (N + 1) one a e kd n false s l _ (hP.tch tA (fun h => h) (fun h => h)) h1 (by omega) (by omega) (by omega) (HG.out _ (hT.trans' (no_mono tA)))).mono ?_
          rintro x w' ⟨hx, hp, ht⟩
          have hz2 := ht.size
          have hz3 := tA.size
          exact ⟨hx, (hTw.tch tA (fun _ _ _ h => h)).stepA ht hp, (hT.trans' (no_mono tA)).trans' (ht.mono (fun i _ hi => by omega)), by omega⟩
        clear hP d0 d1 d2 d3 hTw hz
        go_region_with (go_at_call 13; refine (HSt.out _).mono ?_; rintro x w' ⟨rfl, g1, g2, g3⟩)
        all_goals
          go_wp2
          go_roundw
          case rel => exact ⟨k + 1, by go_num, by omega, g1, g2, g3⟩
          case measure => simp [intOf]; omega
      · go_wp2_with fail
        obtain ⟨a, e, hP⟩ := hTw.pb
        have HSt : Hid (∀ c, Calls Tryd.prog 13 #[.agg #[.pointer (some ⟨N + 3, 0, none⟩), .pointer (some ⟨N + 4, 0, none⟩)], .agg #[.bool true, .int .i64 kd, .int .i64 n, .string s, l]] (wr.alloc c).drew fun x w' => x = .returned (.bool true) ∧ Two w' N one two ∧ Tch (fun i => w.heap.size ≤ i) w w' ∧ N + 5 < w'.heap.size) := fun c => by
          have tA : Tch (fun _ => False) wr (wr.alloc c).drew := (Tch.alloc _ _ _).drew
          refine (rstep_any (N + 3) (N + 4) two a e kd n true s l _ (hP.tch tA (fun h => h) (fun h => h)) h2 (by omega) (by omega) (by omega) (HG.out _ (hT.trans' (no_mono tA)))).mono ?_
          rintro x w' ⟨hx, hp, ht⟩
          have hz2 := ht.size
          have hz3 := tA.size
          exact ⟨hx, (hTw.tch tA (fun _ _ _ h => h)).stepB ht hp, (hT.trans' (no_mono tA)).trans' (ht.mono (fun i _ hi => by omega)), by omega⟩
        clear hP d0 d1 d2 d3 hTw hz
        go_region_with (go_at_call 13; refine (HSt.out _).mono ?_; rintro x w' ⟨rfl, g1, g2, g3⟩)
        all_goals
          go_wp2
          go_roundw
          case rel => exact ⟨k + 1, by go_num, by omega, g1, g2, g3⟩
          case measure => simp [intOf]; omega
    · have hlt' : ¬ (k : Int) < len := by omega
      obtain ⟨a, e, hP⟩ := hTw.pb
      go_wp2_with fail
      refine (rdone_q (N + 3) two a e _ hP.r (HG.out _ hT)).mono ?_
      rintro x w8 ⟨rfl, t8⟩
      have hP8 := hP.tch t8 (fun h => h) (fun h => h)
      have q2 : w8.cell? ⟨N + 5, 1, none⟩ = some (.pointer (some ⟨N + 4, 0, none⟩)) := (t8.cell (p := ⟨N + 5, 1, none⟩) hz (fun h => h)).trans d3
      have T8 := hT.trans' (no_mono t8)
      clear d0 d1 d2 d3 hP hTw t8 hT
      go_wp2_with fail
      refine (xdone_any (N + 4) two a e _ hP8.x).mono ?_
      rintro x w9 ⟨rfl, t9⟩
      have T9 := ge_new (T8.trans' (no_mono t9))
      clear q2 hP8 T8 t9
      go_wp2
      go_ret
      exact ⟨rfl, T9⟩
end Go.Proofs.YtdicnnlfnfcmeabDoor
