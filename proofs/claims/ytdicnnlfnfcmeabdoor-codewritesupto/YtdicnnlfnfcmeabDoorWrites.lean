/- CodeWrites, walked. -/
import Derived.Test.YtdicnnlfnfcmeabDoorWStep1
import Derived.Test.YtdicnnlfnfcmeabDoorLift
namespace Go.Proofs.YtdicnnlfnfcmeabDoor
open Go.RowKit Go.Sort

theorem wstep_any (bw bx : Nat) (bs : List UInt8) (s : ByteArray) (e kd n : Int) (o : Bool) (t : ByteArray) (lv : Value) (l : List Int) (D : Nat) (w : World) (h : WPair w bw bx bs s e) (hne : bw ≠ bx) (hD0 : 0 < D) (hDw : D ≤ bw) (hDx : D ≤ bx) (hg : HE w) (hn1 : -9223372036854775808 ≤ n) (hn2 : n ≤ 9223372036854775807)
    (hil : IL w lv l D) (ht : t.size ≤ 1048576) (hl : l.length ≤ 1048576) (hsz : s.size ≤ 70368744177664) :
    Calls Tryd.prog 8 #[.agg #[.pointer (some ⟨bw, 0, none⟩), .pointer (some ⟨bx, 0, none⟩)], .agg #[.bool o, .int .i64 kd, .int .i64 n, .string t, lv]] w fun x w' => x = .returned (.bool true) ∧ (∃ bs' s' e', WPair w' bw bx bs' s' e' ∧ s'.size ≤ s.size + 4194304) ∧ WX bw bx w w' := by
  have hr0 : rowOf w bw ≠ some 0 := fun hh => by have := row_gt h.k hh; omega
  by_cases k1 : kd = 1
  · subst k1
    rcases hil with ⟨rfl, rfl⟩ | ⟨ad, c, g, of, rfl, had, hc⟩
    · refine (wstep_1nil bw bx bs s e n o t w h hg).mono ?_
      rintro x w' ⟨h1, ⟨bs', s', e', h2, h3⟩, h4⟩
      exact ⟨h1, ⟨bs', s', e', h2, by omega⟩, h4⟩
    · refine (wstep_1row bw bx bs s e n o t l ad g of c w h hne (by omega) (by omega) hg (fun hh => ⟨(had hh).1, by have := (had hh).2; omega, by have := (had hh).2; omega⟩) hc hl (by omega)).mono ?_
      rintro x w' ⟨h1, ⟨bs', s', e', h2, h3⟩, h4⟩
      exact ⟨h1, ⟨bs', s', e', h2, by omega⟩, h4⟩
  by_cases k2 : kd = 2
  · subst k2
    refine (wstep_2 bw bx bs s e n o t lv w h hne (by omega) hr0 (by omega) hg hn1 hn2 (by omega)).mono ?_
    rintro x w' ⟨h1, ⟨bs', s', e', h2, h3⟩, h4⟩
    exact ⟨h1, ⟨bs', s', e', h2, by omega⟩, h4⟩
  by_cases k3 : kd = 3
  · subst k3
    refine (wstep_3 bw bx bs s e n o t lv w h hne (by omega) hr0 (by omega) hg hn1 hn2 (by omega)).mono ?_
    rintro x w' ⟨h1, ⟨bs', s', e', h2, h3⟩, h4⟩
    exact ⟨h1, ⟨bs', s', e', h2, by omega⟩, h4⟩
  by_cases k4 : kd = 4
  · subst k4
    refine (wstep_4 bw bx bs s e n o t lv w h hne (by omega) hr0 (by omega) hg hn1 hn2 (by omega)).mono ?_
    rintro x w' ⟨h1, ⟨bs', s', e', h2, h3⟩, h4⟩
    exact ⟨h1, ⟨bs', s', e', h2, by omega⟩, h4⟩
  by_cases k5 : kd = 5
  · subst k5
    refine (wstep_5 bw bx bs s e n o t lv w h hne (by omega) hr0 (by omega) hg hn1 hn2 (by omega)).mono ?_
    rintro x w' ⟨h1, ⟨bs', s', e', h2, h3⟩, h4⟩
    exact ⟨h1, ⟨bs', s', e', h2, by omega⟩, h4⟩
  refine (wstep_0 bw bx bs s e kd n o t lv w h k1 k2 k3 k4 k5).mono ?_
  rintro x w' ⟨h1, ⟨bs', s', e', h2, h3⟩, h4⟩
  exact ⟨h1, ⟨bs', s', e', h2, by omega⟩, h4⟩

theorem knewWriter_any (w : World) :
    Calls Tryd.prog 6 #[] w fun x w' => x = .returned (.pointer (some ⟨w.heap.size, 0, none⟩)) ∧ WS w' w.heap.size [] 0 ∧ Tch (fun _ => False) w w' ∧ w'.heap.size = w.heap.size + 1 ∧ rowOf w' w.heap.size = none := by
  go_enter Tryd.func6, Tryd.ntmps6
  go_wp2
  go_ret
  refine ⟨rfl, ⟨⟨.slice none 0 0, by simp, rfl, Or.inl ⟨rfl, rfl⟩⟩, by simp [errV_zero], by simp, by simp, fun h => absurd rfl h⟩, Tch.alloc _ _ _, by simp, ?_⟩
  rw [rowOf_of (v := .slice none 0 0) (by simp)]
  rfl

/-- The cells of a list of steps, with the numbers that each holds. -/
def OpsW (w : World) (b off len D : Nat) : Prop := ∀ i, i < len → ∃ (o : Bool) (k n : Int) (s : ByteArray) (lv : Value) (l : List Int),
  (w.cell? ⟨b, off + i * 5, none⟩ = some (.bool o) ∧ w.cell? ⟨b, off + i * 5 + 1, none⟩ = some (.int .i64 k) ∧ w.cell? ⟨b, off + i * 5 + 2, none⟩ = some (.int .i64 n) ∧ w.cell? ⟨b, off + i * 5 + 3, none⟩ = some (.string s) ∧ w.cell? ⟨b, off + i * 5 + 4, none⟩ = some lv) ∧ (-9223372036854775808 ≤ n ∧ n ≤ 9223372036854775807) ∧ IL w lv l D ∧ s.size ≤ 1048576 ∧ l.length ≤ 1048576
theorem OpsW.tch {S : Nat → Prop} {w w' : World} {b off len D : Nat} (h : OpsW w b off len D) (t : Tch S w w') (hS : ¬ S b) (hD : ∀ i, i < D → ¬ S i) : OpsW w' b off len D := by
  intro i hi
  obtain ⟨o, k, n, s, lv, l, ⟨h0, h1, h2, h3, h4⟩, hr, hil, hz⟩ := h i hi
  have hl : b < w.heap.size := cell_lt h0
  exact ⟨o, k, n, s, lv, l, ⟨(t.cell (p := ⟨b, _, none⟩) hl hS).trans h0, (t.cell (p := ⟨b, _, none⟩) hl hS).trans h1, (t.cell (p := ⟨b, _, none⟩) hl hS).trans h2, (t.cell (p := ⟨b, _, none⟩) hl hS).trans h3, (t.cell (p := ⟨b, _, none⟩) hl hS).trans h4⟩, hr, hil.tch t hD, hz⟩

/-- A box that holds two pointers. -/
def Box (w : World) (A p q : Nat) : Prop := w.cell? ⟨A, 0, none⟩ = some (.pointer (some ⟨p, 0, none⟩)) ∧ w.cell? ⟨A, 1, none⟩ = some (.pointer (some ⟨q, 0, none⟩))
theorem Box.tch {S : Nat → Prop} {w w' : World} {A p q : Nat} (h : Box w A p q) (t : Tch S w w') (hA : ¬ S A) : Box w' A p q :=
  ⟨(t.cell (p := ⟨A, 0, none⟩) (cell_lt h.1) hA).trans h.1, (t.cell (p := ⟨A, 1, none⟩) (cell_lt h.2) hA).trans h.2⟩

def WPs (w : World) (bw bx m : Nat) : Prop := ∃ bs s e, WPair w bw bx bs s e ∧ s.size ≤ m
theorem WPs.no {w w' : World} {bw bx m : Nat} (h : WPs w bw bx m) (t : Tch (fun _ => False) w w') : WPs w' bw bx m := by
  obtain ⟨bs, s, e, h1, h2⟩ := h
  exact ⟨bs, s, e, h1.no t, h2⟩
theorem WPs.mono {w : World} {bw bx m m' : Nat} (h : WPs w bw bx m) (hm : m ≤ m') : WPs w bw bx m' := by
  obtain ⟨bs, s, e, h1, h2⟩ := h
  exact ⟨bs, s, e, h1, Nat.le_trans h2 hm⟩

/-- Where the Writers stand. -/
structure TwoW (w : World) (N m : Nat) : Prop where
  pa : WPs w N (N + 1) m
  pb : WPs w (N + 3) (N + 4) m
  ba : Box w (N + 2) N (N + 1)
  bb : Box w (N + 5) (N + 3) (N + 4)
  ra : ∀ i, rowOf w N = some i → N + 5 < i
  rb : ∀ i, rowOf w (N + 3) = some i → N + 5 < i
  sep : ∀ i, rowOf w N = some i → rowOf w (N + 3) ≠ some i
  lt : N + 5 < w.heap.size
theorem TwoW.no {w w' : World} {N m : Nat} (h : TwoW w N m) (t : Tch (fun _ => False) w w') : TwoW w' N m := by
  have hl := h.lt
  have e1 := rowOf_tch (b := N) t (by omega) (fun h => h)
  have e2 := rowOf_tch (b := N + 3) t (by omega) (fun h => h)
  refine ⟨h.pa.no t, h.pb.no t, h.ba.tch t (fun h => h), h.bb.tch t (fun h => h), ?_, ?_, ?_, Nat.lt_of_lt_of_le hl t.size⟩
  · rw [e1]; exact h.ra
  · rw [e2]; exact h.rb
  · rw [e1, e2]; exact h.sep
theorem TwoW.stepA {w w' : World} {N m m' : Nat} (h : TwoW w N m) (t : WX N (N + 1) w w') (hp : WPs w' N (N + 1) m') (hm : m ≤ m') : TwoW w' N m' := by
  have hl := h.lt
  obtain ⟨bs, s, e, h1, h2⟩ := h.pb
  have na : ∀ i, i ≤ N + 5 → i ≠ N → i ≠ N + 1 → ¬ (i = N ∨ i = N + 1 ∨ rowOf w N = some i) := by
    rintro i hi h3 h4 (h5 | h5 | h5)
    · exact h3 h5
    · exact h4 h5
    · have := h.ra i h5; omega
  have e2 := rowOf_tch (b := N + 3) t.tch (by omega) (na _ (by omega) (by omega) (by omega))
  refine ⟨hp, ⟨bs, s, e, h1.tch t.tch (na _ (by omega) (by omega) (by omega)) (na _ (by omega) (by omega) (by omega)) ?_, Nat.le_trans h2 hm⟩, h.ba.tch t.tch (na _ (by omega) (by omega) (by omega)), h.bb.tch t.tch (na _ (by omega) (by omega) (by omega)), ?_, ?_, ?_, Nat.lt_of_lt_of_le hl t.tch.size⟩
  · rintro k hk (h5 | h5 | h5)
    · have := h.rb k hk; omega
    · have := h.rb k hk; omega
    · exact h.sep k h5 hk
  · intro i hi
    rcases t.row i hi with h3 | h3
    · exact h.ra i h3
    · omega
  · rw [e2]; exact h.rb
  · intro i hi hj
    rw [e2] at hj
    have h4 := row_lt h1.k hj
    rcases t.row i hi with h3 | h3
    · exact h.sep i h3 hj
    · omega
theorem TwoW.stepB {w w' : World} {N m m' : Nat} (h : TwoW w N m) (t : WX (N + 3) (N + 4) w w') (hp : WPs w' (N + 3) (N + 4) m') (hm : m ≤ m') : TwoW w' N m' := by
  have hl := h.lt
  obtain ⟨bs, s, e, h1, h2⟩ := h.pa
  have na : ∀ i, i ≤ N + 5 → i ≠ N + 3 → i ≠ N + 4 → ¬ (i = N + 3 ∨ i = N + 4 ∨ rowOf w (N + 3) = some i) := by
    rintro i hi h3 h4 (h5 | h5 | h5)
    · exact h3 h5
    · exact h4 h5
    · have := h.rb i h5; omega
  have e1 := rowOf_tch (b := N) t.tch (by omega) (na _ (by omega) (by omega) (by omega))
  refine ⟨⟨bs, s, e, h1.tch t.tch (na _ (by omega) (by omega) (by omega)) (na _ (by omega) (by omega) (by omega)) ?_, Nat.le_trans h2 hm⟩, hp, h.ba.tch t.tch (na _ (by omega) (by omega) (by omega)), h.bb.tch t.tch (na _ (by omega) (by omega) (by omega)), ?_, ?_, ?_, Nat.lt_of_lt_of_le hl t.tch.size⟩
  · rintro k hk (h5 | h5 | h5)
    · have := h.ra k hk; omega
    · have := h.ra k hk; omega
    · exact h.sep k hk h5
  · rw [e1]; exact h.ra
  · intro i hi
    rcases t.row i hi with h3 | h3
    · exact h.rb i h3
    · omega
  · intro i hi hj
    rw [e1] at hi
    have h4 := row_lt h1.k hi
    rcases t.row i hj with h3 | h3
    · exact h.sep i hi h3
    · omega

set_option maxHeartbeats 4000000 in
set_option maxRecDepth 100000 in
theorem writes_any (b off len cap : Nat) (w : World) (hg : HE w) (hlen : len ≤ 1048576) (hops : OpsW w b off len w.heap.size) (hb : b < w.heap.size) :
    Calls Tryd.prog 3 #[.slice (some ⟨b, off, none⟩) len cap] w fun x w' => x = .returned (.bool true) ∧ Tch (fun _ => False) w w' := by
  have hg0 : 0 < w.heap.size := cell_lt hg
  have HG : Hid (∀ W, Tch (fun i => w.heap.size ≤ i) w W → HE W) := fun W t => hg.tch t (by omega)
  have HO : Hid (∀ W, Tch (fun i => w.heap.size ≤ i) w W → OpsW W b off len w.heap.size) := fun W t => hops.tch t (by omega) (fun i hi => by omega)
  clear hops
  go_enter Tryd.func3, Tryd.ntmps3
  go_wp2_with fail
  refine (known_any _ hg).mono ?_
  rintro x w1 ⟨rfl, t1⟩
  have T1 := no_mono (S := fun i => w.heap.size ≤ i) t1
  have hN := t1.size
  clear t1 hg
  go_wp2_with fail
  refine (knewWriter_any _).mono ?_
  rintro x w2 ⟨rfl, r2, t2, z2, n2⟩
  have T2 := T1.trans' (no_mono t2)
  obtain ⟨N, hNe⟩ : ∃ N, N = w1.heap.size := ⟨_, rfl⟩
  rw [← hNe] at r2 z2 hN n2 ⊢
  clear hNe t2 T1
  go_wp2_with fail
  refine (xnewWriter_any _).mono ?_
  rintro x w3 ⟨rfl, x3, t3, z3⟩
  have T3 := T2.trans' (no_mono t3)
  have r3 := r2.tchR t3 (fun h => h) (fun _ _ h => h)
  have n3 := (rowOf_tch (b := N) t3 (by omega) (fun h => h)).trans n2
  rw [z2] at x3 z3 ⊢
  clear r2 t3 T2 z2 n2
  go_wp2_with fail
  have t4 : Tch (fun _ => False) w3 (w3.alloc (.cells #[.pointer (some ⟨N, 0, none⟩), .pointer (some ⟨N + 1, 0, none⟩)] 29)) := Tch.alloc _ _ _
  have P3 : WPs w3 N (N + 1) 0 := ⟨[], ⟨#[]⟩, 0, ⟨r3, x3, fun _ => rfl, by rw [n3]; simp⟩, Nat.le_refl _⟩
  have P4 := P3.no t4
  have n4 := (rowOf_tch (b := N) t4 (by omega) (fun h => h)).trans n3
  have B4 : Box (w3.alloc (.cells #[.pointer (some ⟨N, 0, none⟩), .pointer (some ⟨N + 1, 0, none⟩)] 29)) (N + 2) N (N + 1) := by
    constructor
    · rw [World.cell?_alloc_at _ _ _ _ (by simp [z3])]; rfl
    · rw [World.cell?_alloc_at _ _ _ _ (by simp [z3])]; rfl
  have T4 := T3.trans' (no_mono t4)
  have z4 : (w3.alloc (.cells #[.pointer (some ⟨N, 0, none⟩), .pointer (some ⟨N + 1, 0, none⟩)] 29)).heap.size = N + 3 := by simp [z3]
  refine (knewWriter_any _).mono ?_
  rintro x w5 ⟨rfl, r5, t5, z5, m5⟩
  rw [z4] at r5 z5 m5 ⊢
  have T5 := T4.trans' (no_mono t5)
  have P5 := P4.no t5
  have n5 := (rowOf_tch (b := N) t5 (by omega) (fun h => h)).trans n4
  have B5 := B4.tch t5 (fun h => h)
  clear r3 x3 z3 T3 t4 P3 P4 B4 T4 t5 z4 n3 n4
  go_wp2_with fail
  refine (xnewWriter_any _).mono ?_
  rintro x w6 ⟨rfl, x6, t6, z6⟩
  rw [z5] at x6 z6 ⊢
  have T6 := T5.trans' (no_mono t6)
  have P6 := P5.no t6
  have n6 := (rowOf_tch (b := N) t6 (by omega) (fun h => h)).trans n5
  have m6 := (rowOf_tch (b := N + 3) t6 (by omega) (fun h => h)).trans m5
  have Q6 : WPs w6 (N + 3) (N + 4) 0 := ⟨[], ⟨#[]⟩, 0, ⟨r5.tchR t6 (fun h => h) (fun _ _ h => h), x6, fun _ => rfl, by rw [m6]; simp⟩, Nat.le_refl _⟩
  have B6 := B5.tch t6 (fun h => h)
  clear r5 x6 z5 T5 P5 B5 t6 n5 m5
  have z6' : w6.heap.size = N + 5 := z6
  have HS : Hid (∀ W, W = w6.alloc (.cells #[.pointer (some ⟨N + 3, 0, none⟩), .pointer (some ⟨N + 4, 0, none⟩)] 29) → TwoW W N 0 ∧ Tch (fun i => w.heap.size ≤ i) w W) := by
    rintro W rfl
    have t7 : Tch (fun _ => False) w6 (w6.alloc (.cells #[.pointer (some ⟨N + 3, 0, none⟩), .pointer (some ⟨N + 4, 0, none⟩)] 29)) := Tch.alloc _ _ _
    have n7 := (rowOf_tch (b := N) t7 (by omega) (fun h => h)).trans n6
    have m7 := (rowOf_tch (b := N + 3) t7 (by omega) (fun h => h)).trans m6
    refine ⟨⟨P6.no t7, Q6.no t7, B6.tch t7 (fun h => h), ⟨?_, ?_⟩, ?_, ?_, ?_, by simp [z6']⟩, T6.trans' (no_mono t7)⟩
    · rw [World.cell?_alloc_at _ _ _ _ (by simp [z6'])]; rfl
    · rw [World.cell?_alloc_at _ _ _ _ (by simp [z6'])]; rfl
    · intro i hi; rw [n7] at hi; cases hi
    · intro i hi; rw [m7] at hi; cases hi
    · intro i hi; rw [n7] at hi; cases hi
  have e0 := B6.1
  have l0 : N + 2 < w6.heap.size := by omega
  have e1 : (w6.alloc (.cells #[.pointer (some ⟨N + 3, 0, none⟩), .pointer (some ⟨N + 4, 0, none⟩)] 29)).cell? ⟨N + 2, 0, none⟩ = some (.pointer (some ⟨N, 0, none⟩)) := by
    rw [World.cell?_alloc_lt _ _ ⟨N + 2, 0, none⟩ l0]; exact e0
  clear P6 Q6 B6 T6 z6 n6 m6
  go_wp2_with fail
  clear e0 l0 e1 z6'
  go_loopw [6] (fun i wr => ∃ k : Nat, i = .int .i64 k ∧ k ≤ len ∧ TwoW wr N (k * 4194304) ∧ Tch (fun i => w.heap.size ≤ i) w wr) (fun i _ => len - (intOf i).toNat)
  case atStart =>
    obtain ⟨s1, s2⟩ := HS.out _ rfl
    exact ⟨0, rfl, Nat.zero_le _, by rw [Nat.zero_mul]; exact s1, s2⟩
  case round =>
    obtain ⟨k, rfl, hk, hTw, hT⟩ := hrel
    clear HS
    have hz := hTw.lt
    have d0 : wr.cell? ⟨N + 1 + 1, 0, none⟩ = some (.pointer (some ⟨N, 0, none⟩)) := hTw.ba.1
    have d1 : wr.cell? ⟨N + 1 + 1, 1, none⟩ = some (.pointer (some ⟨N + 1, 0, none⟩)) := hTw.ba.2
    have d2 : wr.cell? ⟨N + 5, 0, none⟩ = some (.pointer (some ⟨N + 3, 0, none⟩)) := hTw.bb.1
    have d3 : wr.cell? ⟨N + 5, 1, none⟩ = some (.pointer (some ⟨N + 4, 0, none⟩)) := hTw.bb.2
    by_cases hlt : k < len
    · have hlt' : (k : Int) < len := by omega
      obtain ⟨o, kd, n, s, lv, l, ⟨o0, o1, o2, o3, o4⟩, ⟨hn1, hn2⟩, hil, hs, hl⟩ := HO.out wr hT k hlt
      have hbw : b < wr.heap.size := by have := hT.size; omega
      have p0 : ∀ c, (wr.alloc c).cell? ⟨b, off + k * 5, none⟩ = some (.bool o) := fun c => by rw [World.cell?_alloc_lt _ _ ⟨b, off + k * 5, none⟩ hbw]; exact o0
      have p1 : ∀ c, (wr.alloc c).cell? ⟨b, off + k * 5 + 1, none⟩ = some (.int .i64 kd) := fun c => by rw [World.cell?_alloc_lt _ _ ⟨b, off + k * 5 + 1, none⟩ hbw]; exact o1
      have p2 : ∀ c, (wr.alloc c).cell? ⟨b, off + k * 5 + 2, none⟩ = some (.int .i64 n) := fun c => by rw [World.cell?_alloc_lt _ _ ⟨b, off + k * 5 + 2, none⟩ hbw]; exact o2
      have p3 : ∀ c, (wr.alloc c).cell? ⟨b, off + k * 5 + 3, none⟩ = some (.string s) := fun c => by rw [World.cell?_alloc_lt _ _ ⟨b, off + k * 5 + 3, none⟩ hbw]; exact o3
      have p4 : ∀ c, (wr.alloc c).cell? ⟨b, off + k * 5 + 4, none⟩ = some lv := fun c => by rw [World.cell?_alloc_lt _ _ ⟨b, off + k * 5 + 4, none⟩ hbw]; exact o4
      clear o0 o1 o2 o3 o4
      cases o
      · go_wp2_with fail
        have HSt : Hid (∀ c, Calls Tryd.prog 8 #[.agg #[.pointer (some ⟨N, 0, none⟩), .pointer (some ⟨N + 1, 0, none⟩)], .agg #[.bool false, .int .i64 kd, .int .i64 n, .string s, lv]] (wr.alloc c).drew fun x w' => x = .returned (.bool true) ∧ TwoW w' N ((k + 1) * 4194304) ∧ Tch (fun i => w.heap.size ≤ i) w w') := fun c => by
          have tA : Tch (fun _ => False) wr (wr.alloc c).drew := (Tch.alloc _ _ _).drew
          have hTA := hTw.no tA
          obtain ⟨bs, s0, e, hP, hz0⟩ := hTA.pa
          refine (wstep_any (N) (N + 1) bs s0 e kd n false s lv l w.heap.size _ hP (by omega) hg0 (by omega) (by omega) (HG.out _ (hT.trans' (no_mono tA))) hn1 hn2 (hil.tch tA (fun _ _ h => h)) hs hl (by omega)).mono ?_
          rintro x w' ⟨hx, ⟨bs', s', e', hp, hz1⟩, ht⟩
          refine ⟨hx, hTA.stepA ht ⟨bs', s', e', hp, by omega⟩ (by omega), (hT.trans' (no_mono tA)).trans' (ht.tch.mono (fun i _ hi => ?_))⟩
          rcases hi with h5 | h5 | h5
          · omega
          · omega
          · have := hTA.ra i h5; omega
        clear d0 d1 d2 d3 hTw hz hil
        go_region_with (go_at_call 8; refine (HSt.out _).mono ?_; rintro x w' ⟨rfl, g1, g2⟩)
        all_goals
          go_wp2
          go_roundw
          case rel => exact ⟨k + 1, by go_num, by omega, g1, g2⟩
          case measure => simp [intOf]; omega
      · go_wp2_with fail
        have HSt : Hid (∀ c, Calls Tryd.prog 8 #[.agg #[.pointer (some ⟨N + 3, 0, none⟩), .pointer (some ⟨N + 4, 0, none⟩)], .agg #[.bool true, .int .i64 kd, .int .i64 n, .string s, lv]] (wr.alloc c).drew fun x w' => x = .returned (.bool true) ∧ TwoW w' N ((k + 1) * 4194304) ∧ Tch (fun i => w.heap.size ≤ i) w w') := fun c => by
          have tA : Tch (fun _ => False) wr (wr.alloc c).drew := (Tch.alloc _ _ _).drew
          have hTA := hTw.no tA
          obtain ⟨bs, s0, e, hP, hz0⟩ := hTA.pb
          refine (wstep_any (N + 3) (N + 4) bs s0 e kd n true s lv l w.heap.size _ hP (by omega) hg0 (by omega) (by omega) (HG.out _ (hT.trans' (no_mono tA))) hn1 hn2 (hil.tch tA (fun _ _ h => h)) hs hl (by omega)).mono ?_
          rintro x w' ⟨hx, ⟨bs', s', e', hp, hz1⟩, ht⟩
          refine ⟨hx, hTA.stepB ht ⟨bs', s', e', hp, by omega⟩ (by omega), (hT.trans' (no_mono tA)).trans' (ht.tch.mono (fun i _ hi => ?_))⟩
          rcases hi with h5 | h5 | h5
          · omega
          · omega
          · have := hTA.rb i h5; omega
        clear d0 d1 d2 d3 hTw hz hil
        go_region_with (go_at_call 8; refine (HSt.out _).mono ?_; rintro x w' ⟨rfl, g1, g2⟩)
        all_goals
          go_wp2
          go_roundw
          case rel => exact ⟨k + 1, by go_num, by omega, g1, g2⟩
          case measure => simp [intOf]; omega
    · have hlt' : ¬ (k : Int) < len := by omega
      obtain ⟨bs, s, e, hP, _⟩ := hTw.pa
      go_wp2_with fail
      refine (wdone_any N bs e _ hP.k (HG.out _ hT)).mono ?_
      rintro x w8 ⟨rfl, t8⟩
      have hP8 := hP.no t8
      have q2 : w8.cell? ⟨N + 1 + 1, 1, none⟩ = some (.pointer (some ⟨N + 1, 0, none⟩)) := (t8.cell (p := ⟨N + 1 + 1, 1, none⟩) (by show N + 1 + 1 < _; omega) (fun h => h)).trans d1
      have T8 := hT.trans' (no_mono t8)
      clear d0 d1 d2 d3 hP hTw t8 hT
      go_wp2_with fail
      refine (xdone_pair hP8).mono ?_
      rintro x w9 ⟨rfl, t9⟩
      have T9 := ge_new (T8.trans' (no_mono t9))
      clear q2 hP8 T8 t9
      go_wp2
      go_ret
      exact ⟨rfl, T9⟩
end Go.Proofs.YtdicnnlfnfcmeabDoor
