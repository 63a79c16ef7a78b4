/- One step of a Writer and of the document's: bytes; a kind that does nothing. -/
import Derived.Test.YtdicnnlfnfcmeabDoorWStep
namespace Go.Proofs.YtdicnnlfnfcmeabDoor
open Go.RowKit Go.Sort

theorem row_gt {w : World} {b : Nat} {bs : List UInt8} {e : Int} (h : WS w b bs e) {k : Nat} (hk : rowOf w b = some k) : b < k := by
  obtain ⟨v, c0, ho⟩ := h.row
  rw [rowOf_of c0] at hk
  exact (ho.lt k hk).1

/-- What a value of type []int holds. -/
def IL (w : World) (lv : Value) (l : List Int) (D : Nat) : Prop :=
  (lv = .slice none 0 0 ∧ l = []) ∨ ∃ ad c g o, lv = .slice (some ad) l.length c ∧ (l ≠ [] → ad = ⟨g, o, none⟩ ∧ g < D) ∧ ∀ j (hj : j < l.length), w.cell? ⟨g, o + j, none⟩ = some (.int .i64 l[j])
theorem IL.tch {S : Nat → Prop} {w w' : World} {lv : Value} {l : List Int} {D : Nat} (h : IL w lv l D) (t : Tch S w w') (hS : ∀ i, i < D → ¬ S i) : IL w' lv l D := by
  rcases h with h | ⟨ad, c, g, o, h1, h2, h3⟩
  · exact Or.inl h
  · refine Or.inr ⟨ad, c, g, o, h1, h2, fun j hj => (t.cell (p := ⟨g, o + j, none⟩) (cell_lt (h3 j hj)) (hS g (h2 (by rintro rfl; simp at hj)).2)).trans (h3 j hj)⟩

/-- Behind a step, a block that is new to it is written over. -/
theorem WX.over {b x g : Nat} {w w1 w2 : World} (h : WX b x w w1) (t : Tch (fun i => i = g) w1 w2) (hg : w.heap.size ≤ g) (hb : b < w.heap.size) : WX b x w w2 :=
  ⟨h.tch.trans t (fun i hi he => by omega), fun k hk => h.row k (by rw [← rowOf_tch t (Nat.lt_of_lt_of_le hb h.tch.size) (by omega)]; exact hk)⟩

set_option maxHeartbeats 1000000 in
set_option maxRecDepth 100000 in
theorem wstep_0 (bw bx : Nat) (bs : List UInt8) (s : ByteArray) (e kd n : Int) (o : Bool) (t : ByteArray) (l : Value) (w : World) (h : WPair w bw bx bs s e) (k1 : ¬ kd = 1) (k2 : ¬ kd = 2) (k3 : ¬ kd = 3) (k4 : ¬ kd = 4) (k5 : ¬ kd = 5) :
    Calls Tryd.prog 8 #[.agg #[.pointer (some ⟨bw, 0, none⟩), .pointer (some ⟨bx, 0, none⟩)], .agg #[.bool o, .int .i64 kd, .int .i64 n, .string t, l]] w fun x w' => x = .returned (.bool true) ∧ (∃ bs' s' e', WPair w' bw bx bs' s' e' ∧ s'.size ≤ s.size) ∧ WX bw bx w w' := by
  have HP : Hid (WPair w bw bx bs s e) := h
  have hlw := h.k.lt
  clear h
  go_enter Tryd.func8, Tryd.ntmps8
  go_wp2
  go_ret
  have t0 : Tch (fun _ => False) w ((w.alloc (.cells #[.pointer (some ⟨bw, 0, none⟩), .pointer (some ⟨bx, 0, none⟩)] 29)).alloc (.cells #[.bool o, .int .i64 kd, .int .i64 n, .string t, l] 32)) := Tch.allocR (Tch.alloc _ _ _) _
  exact ⟨rfl, ⟨bs, s, e, HP.out.no t0, Nat.le_refl _⟩, WX.of_no t0 hlw⟩

set_option maxHeartbeats 1000000 in
set_option maxRecDepth 100000 in
theorem wstep_1nil (bw bx : Nat) (bs : List UInt8) (s : ByteArray) (e n : Int) (o : Bool) (t : ByteArray) (w : World) (h : WPair w bw bx bs s e) (hg : HE w) :
    Calls Tryd.prog 8 #[.agg #[.pointer (some ⟨bw, 0, none⟩), .pointer (some ⟨bx, 0, none⟩)], .agg #[.bool o, .int .i64 1, .int .i64 n, .string t, .slice none 0 0]] w fun x w' => x = .returned (.bool true) ∧ (∃ bs' s' e', WPair w' bw bx bs' s' e' ∧ s'.size ≤ s.size) ∧ WX bw bx w w' := by
  have hlw := h.k.lt
  have t0 : Tch (fun _ => False) w ((w.alloc (.cells #[.pointer (some ⟨bw, 0, none⟩), .pointer (some ⟨bx, 0, none⟩)] 29)).alloc (.cells #[.bool o, .int .i64 1, .int .i64 n, .string t, .slice none 0 0] 32)) := Tch.allocR (Tch.alloc _ _ _) _
  have S2 : SB ((w.alloc (.cells #[.pointer (some ⟨bw, 0, none⟩), .pointer (some ⟨bx, 0, none⟩)] 29)).alloc (.cells #[.bool o, .int .i64 1, .int .i64 n, .string t, .slice none 0 0] 32)) w.heap.size bw bx 1 n t (.slice none 0 0) := ⟨by simp, by simp, by simp, by simp, by simp, by simp⟩
  have P2 := h.no t0
  have G2 := hg.tch t0 (fun h => h)
  have K2 : WX bw bx w _ := WX.of_no t0 hlw
  have hl2 := P2.k.lt
  clear h hg t0
  go_enter Tryd.func8, Tryd.ntmps8
  go_wp2_with (first
    | (go_at_call 24; refine (lent_nil _).mono ?_; rintro x w1 ⟨rfl, rfl⟩)
    | (go_at_call 16; refine (kbyte_nil _ _).mono ?_; rintro x w1 ⟨rfl, rfl⟩)
    | (go_at_call 25; refine (xwbyte_nil _ _).mono ?_; rintro x w1 ⟨rfl, rfl⟩)
    | (go_at_call 26; refine (asLent_nil _ _).mono ?_; rintro x w1 ⟨rfl, rfl⟩))
  refine (wdone_any bw bs e _ P2.k G2).mono ?_
  rintro x w3 ⟨rfl, t3⟩
  have P3 := P2.no t3
  have S3 := S2.tch t3 (fun h => h) (fun h => h)
  have K3 := K2.trans (WX.of_no t3 hl2)
  have hl3 : bw < w3.heap.size := Nat.lt_of_lt_of_le hlw K3.tch.size
  clear S2 P2 K2 G2 t3 hl2
  have p1 := S3.p1
  go_wp2_with fail
  refine (xdone_pair P3).mono ?_
  rintro x w4 ⟨rfl, t4⟩
  have P4 := P3.no t4
  have K4 := K3.trans (WX.of_no t4 hl3)
  clear p1 S3 P3 K3 t4 hl3
  go_wp2
  go_ret
  exact ⟨rfl, ⟨bs, s, e, P4, Nat.le_refl _⟩, K4⟩

set_option maxHeartbeats 1000000 in
set_option maxRecDepth 100000 in
theorem wstep_1row (bw bx : Nat) (bs : List UInt8) (s : ByteArray) (e n : Int) (o : Bool) (t : ByteArray) (l : List Int) (ad : Addr) (gl of c : Nat) (w : World) (h : WPair w bw bx bs s e) (hne : bw ≠ bx) (hw0 : 0 < bw) (hx0 : 0 < bx) (hg : HE w)
    (had : l ≠ [] → ad = ⟨gl, of, none⟩ ∧ gl < bw ∧ gl < bx) (hcells : ∀ j (hj : j < l.length), w.cell? ⟨gl, of + j, none⟩ = some (.int .i64 l[j])) (hlen : l.length ≤ 1048576) (hsz : s.size + l.length ≤ 140737488355328) :
    Calls Tryd.prog 8 #[.agg #[.pointer (some ⟨bw, 0, none⟩), .pointer (some ⟨bx, 0, none⟩)], .agg #[.bool o, .int .i64 1, .int .i64 n, .string t, .slice (some ad) l.length c]] w fun x w' => x = .returned (.bool true) ∧ (∃ bs' s' e', WPair w' bw bx bs' s' e' ∧ s'.size ≤ s.size + l.length) ∧ WX bw bx w w' := by
  have hlw := h.k.lt
  have hlx := h.ltx
  have hln := h.len
  have hrl : ∀ k, rowOf w bw = some k → k < w.heap.size := fun k hk => row_lt h.k hk
  have hrg : ∀ k, rowOf w bw = some k → bw < k := fun k hk => row_gt h.k hk
  have HZ : ∀ (W : World) (i : Nat), Tch (fun _ => False) w W → i < bw → ¬ (i = bw ∨ rowOf W bw = some i) := by
    intro W i tW hi hh
    rcases hh with h1 | h1
    · omega
    · rw [rowOf_tch tW hlw (fun h => h)] at h1
      have := hrg _ h1
      omega
  obtain ⟨L, hL⟩ : ∃ L, L = bytesL l := ⟨_, rfl⟩
  obtain ⟨C, hC⟩ : ∃ C : Int, C = bytesC l := ⟨_, rfl⟩
  have hLs : L.length = l.length := by rw [hL]; simp [bytesL]
  have hne' : ∀ {j : Nat}, j < l.length → l ≠ [] := fun hj => by rintro rfl; simp at hj
  have had1 : ∀ W, Tch (fun _ => False) w W → ∀ j u, (ics l)[j]? = some u → W.cell? (ad.add j) = some u := fun W tW j u hj => by
    have hjl : j < l.length := by have := (List.getElem?_eq_some_iff.1 hj).1; simpa [ics_length] using this
    obtain ⟨rfl, _⟩ := had (hne' hjl)
    have e1 : ((⟨gl, of, none⟩ : Addr).add j) = ⟨gl, of + j, none⟩ := by simp [Addr.add]
    rw [e1, (tW.cell (p := ⟨gl, of + j, none⟩) (cell_lt (hcells j hjl)) (fun h => h)).trans (hcells j hjl)]
    rw [← hj]
    simp [ics, hjl]
  have HL : Hid (∀ W, Tch (fun _ => False) w W → Calls Tryd.prog 24 #[.slice (some ad) l.length c] W fun x w' => ∃ g cap cur, x = .returned (.slice (some ⟨g, 0, none⟩) l.length cap) ∧ W.heap.size ≤ g ∧ l.length + 4 ≤ cap ∧
      w'.heap[g]? = some (.cells cur 3 (0, 0)) ∧ cur.size = cap ∧ cur.toList.take (l.length + 4) = ics (lentL l) ∧ Tch (fun _ => False) W w') := fun W tW => lent_any l ad c W (had1 W tW) hlen
  have HK : Hid (∀ W g cap, Tch (fun _ => False) w W → w.heap.size ≤ g → (∀ j (hj : j < l.length), W.cell? ⟨g, j, none⟩ = some (.int .i64 l[j])) → Calls Tryd.prog 16 #[.pointer (some ⟨bw, 0, none⟩), .slice (some ⟨g, 0, none⟩) l.length cap] W fun x w' => x = .returned (.tuple #[]) ∧ WS w' bw (upd bs e L C).1 (upd bs e L C).2 ∧ WK bw W w') := fun W g cap tW hgg hc => by
    rw [hL, hC]
    exact kbyte_any bw bs e l g cap W (h.no tW).k (by omega) (by omega) (by rw [rowOf_tch tW hlw (fun h => h)]; intro hh; have := hrl _ hh; omega) hc
  have HX : Hid (∀ W W1, Tch (fun _ => False) w W → WK bw W W1 → Calls Tryd.prog 25 #[.pointer (some ⟨bx, 0, none⟩), .slice (some ad) l.length c] W1 fun x w' => x = .returned (.tuple #[]) ∧ XW w' bx (xs s L C) (failE e C) ∧ Tch (fun i => i = bx) W1 w') := fun W W1 tW t1 => by
    have hW := (h.no tW).xafter hne t1
    rw [hL, hC]
    refine xwbyte_any bx s e l ad gl of c W1 hW (fun hl => (had hl).1) (fun hl => by have := (had hl).2; omega) (by omega) (fun j hj => ?_)
    have hgl := (had (hne' hj)).2
    have c1 := (tW.cell (p := ⟨gl, of + j, none⟩) (cell_lt (hcells j hj)) (fun h => h)).trans (hcells j hj)
    exact (t1.tch.cell (p := ⟨gl, of + j, none⟩) (cell_lt c1) (HZ W gl tW hgl.1)).trans c1
  have HA : Hid (∀ W W1 W2 g cap, Tch (fun _ => False) w W → WK bw W W1 → Tch (fun i => i = bx) W1 W2 → w.heap.size ≤ g → l.length + 4 ≤ cap → (∀ j (hj : j < (lentL l).length), W2.cell? ⟨g, j, none⟩ = some (.int .i64 (lentL l)[j])) → (∀ j, W2.frozen? ⟨g, j, none⟩ = false) →
      Calls Tryd.prog 26 #[.slice (some ⟨g, 0, none⟩) l.length cap, .slice (some ad) l.length c] W2 fun x w' => x = .returned (.bool true) ∧ Tch (fun i => i = g) W2 w') := fun W W1 W2 g cap tW t1 t2 hgg hcap hr hf => by
    refine asLent_any l ad gl of c g cap W2 (fun hl => (had hl).1) (fun hl => by have := (had hl).2; omega) (fun j hj => ?_) hlen hcap hr hf
    have hgl := (had (hne' hj)).2
    have c1 := (tW.cell (p := ⟨gl, of + j, none⟩) (cell_lt (hcells j hj)) (fun h => h)).trans (hcells j hj)
    have c2 := (t1.tch.cell (p := ⟨gl, of + j, none⟩) (cell_lt c1) (HZ W gl tW hgl.1)).trans c1
    exact (t2.cell (p := ⟨gl, of + j, none⟩) (cell_lt c2) (by show ¬ gl = bx; omega)).trans c2
  have hxs := xs_size s L C
  clear hL hC hln had hcells had1 hsz HZ
  go_enter Tryd.func8, Tryd.ntmps8
  go_wp2_with fail
  obtain ⟨lv, hlv⟩ : ∃ lv : Value, lv = .slice (some ad) l.length c := ⟨_, rfl⟩
  have t0 : Tch (fun _ => False) w ((w.alloc (.cells #[.pointer (some ⟨bw, 0, none⟩), .pointer (some ⟨bx, 0, none⟩)] 29)).alloc (.cells #[.bool o, .int .i64 1, .int .i64 n, .string t, .slice (some ad) l.length c] 32)) := Tch.allocR (Tch.alloc _ _ _) _
  have S0 : SB ((w.alloc (.cells #[.pointer (some ⟨bw, 0, none⟩), .pointer (some ⟨bx, 0, none⟩)] 29)).alloc (.cells #[.bool o, .int .i64 1, .int .i64 n, .string t, .slice (some ad) l.length c] 32)) w.heap.size bw bx 1 n t (.slice (some ad) l.length c) := ⟨by simp, by simp, by simp, by simp, by simp, by simp⟩
  refine (HL.out _ t0).mono ?_
  rintro x w1 ⟨g, cap, cur, rfl, hg1, hcap, hrow, hcs, hct, t1⟩
  have hg2 : w.heap.size + 2 ≤ g := by simpa using hg1
  have T1 := t0.trans' t1
  have S1 := S0.tch t1 (fun h => h) (fun h => h)
  have P1 := h.no T1
  have R1 := rowOf_tch T1 hlw (fun h => h)
  have hgl1 : g < w1.heap.size := by
    rcases Nat.lt_or_ge g w1.heap.size with h1 | h1
    · exact h1
    · rw [Array.getElem?_eq_none h1] at hrow; cases hrow
  have HR : Hid (∀ W : World, W.heap[g]? = w1.heap[g]? → (∀ j (hj : j < (lentL l).length), W.cell? ⟨g, j, none⟩ = some (.int .i64 (lentL l)[j])) ∧ (∀ j, W.frozen? ⟨g, j, none⟩ = false)) := fun W hW => by
    rw [hrow] at hW
    refine ⟨fun j hj => ?_, fun j => frozen_of_row W g j cur _ hW⟩
    rw [cell_of_row W g j cur _ _ hW]
    have hj4 : j < l.length + 4 := by simpa [lentL] using hj
    have h5 : (cur.toList.take (l.length + 4))[j]? = some (.int .i64 (lentL l)[j]) := by rw [hct]; simp [ics, hj]
    rw [List.getElem?_take_of_lt hj4] at h5
    simpa using h5
  have HR1 : Hid (∀ j (hj : j < l.length), w1.cell? ⟨g, j, none⟩ = some (.int .i64 l[j])) := fun j hj => by
    have h5 := (HR.out w1 rfl).1 j (by simp [lentL]; omega)
    rw [h5]
    simp [lentL, hj]
  clear hrow hcs hct hg1 t1 S0 t0 HL hlv
  have p0 := S1.p0; have p1 := S1.p1; have q1 := S1.q1; have q4 := S1.q4
  go_wp2_with fail
  refine (HK.out _ g cap T1 (by omega) HR1.out).mono ?_
  rintro x w2 ⟨rfl, h2, k2⟩
  have S2 := S1.wk k2 hlw (fun k hk => hrl k (by rw [← R1]; exact hk))
  have HX2 := HX.out _ _ T1 k2
  have K2 : WX bw bx w w2 := (WX.of_no T1 hlw).trans (WX.of_k k2)
  have HB : Hid (∀ w3, XW w3 bx (xs s L C) (failE e C) → Tch (fun i => i = bx) w2 w3 → WPair w3 bw bx (upd bs e L C).1 (xs s L C) (failE e C)) := fun w3 x3 t3 => P1.both hne h2 k2 x3 t3
  have HR2 : Hid (∀ w3 : World, Tch (fun i => i = bx) w2 w3 → w3.heap[g]? = w1.heap[g]?) := fun w3 t3 => by
    rw [t3.block g (Nat.lt_of_lt_of_le hgl1 k2.tch.size) (by omega)]
    refine k2.tch.block g hgl1 ?_
    rintro (h1 | h1)
    · omega
    · rw [R1] at h1
      have := hrl _ h1
      omega
  have HA2 : Hid (∀ w3, Tch (fun i => i = bx) w2 w3 → Calls Tryd.prog 26 #[.slice (some ⟨g, 0, none⟩) l.length cap, .slice (some ad) l.length c] w3 fun x w' => x = .returned (.bool true) ∧ Tch (fun i => i = g) w3 w') := fun w3 t3 =>
    HA.out w1 w2 w3 g cap T1 k2 t3 (by omega) hcap (HR.out w3 (HR2.out w3 t3)).1 (HR.out w3 (HR2.out w3 t3)).2
  have HN : Hid (∀ w3, Tch (fun i => i = bx) w2 w3 → ∀ k, rowOf w3 bw = some k → ¬ k = g) := fun w3 t3 k hk => by
    rw [rowOf_tch t3 h2.lt hne] at hk
    rcases k2.row k hk with h1 | h1
    · rw [R1] at h1; have := hrl _ h1; omega
    · omega
  have hl2 : bw < w2.heap.size := Nat.lt_of_lt_of_le hlw K2.tch.size
  clear p0 p1 q1 q4 S1 P1 HK HX HA h h2 k2 T1 R1 HR HR1 HR2
  have p0 := S2.p0; have p1 := S2.p1; have q1 := S2.q1; have q4 := S2.q4
  go_wp2_with fail
  refine HX2.mono ?_
  rintro x w3 ⟨rfl, x3, t3⟩
  have P3 := HB.out _ x3 t3
  have S3 := S2.tch t3 (by omega) (by omega)
  have K3 := K2.trans (WX.of_x t3 hl2 hne)
  have HA3 := HA2.out _ t3
  have HN3 := HN.out _ t3
  clear p0 p1 q1 q4 S2 HX2 HB x3 t3 K2 hl2 HA2 HN
  have p0 := S3.p0; have p1 := S3.p1; have q1 := S3.q1; have q4 := S3.q4
  go_wp2_with fail
  refine HA3.mono ?_
  rintro x w4 ⟨rfl, t4⟩
  have P4 := P3.tch t4 (by omega) (by omega) HN3
  have S4 := S3.tch t4 (by omega) (by omega)
  have K4 := K3.over t4 (by omega) hlw
  have G4 : HE w4 := by
    refine hg.tch K4.tch ?_
    rintro (h1 | h1 | h1)
    · omega
    · omega
    · have := hrg _ h1
      omega
  have hl4 : bw < w4.heap.size := Nat.lt_of_lt_of_le hlw K4.tch.size
  clear p0 p1 q1 q4 S3 P3 HA3 HN3 t4 K3
  obtain ⟨bs', hbs⟩ : ∃ b', b' = (upd bs e L C).1 := ⟨_, rfl⟩
  obtain ⟨s', hs'⟩ : ∃ s', s' = xs s L C := ⟨_, rfl⟩
  obtain ⟨e', he'⟩ : ∃ e', e' = failE e C := ⟨_, rfl⟩
  rw [← hbs, ← hs', ← he'] at P4
  rw [← hs'] at hxs
  clear hbs hs' he'
  have p0 := S4.p0; have p1 := S4.p1
  go_wp2_with fail
  refine (wdone_any bw bs' e' _ P4.k G4).mono ?_
  rintro x w5 ⟨rfl, t5⟩
  have P5 := P4.no t5
  have S5 := S4.tch t5 (fun h => h) (fun h => h)
  have K5 := K4.trans (WX.of_no t5 hl4)
  have hl5 : bw < w5.heap.size := Nat.lt_of_lt_of_le hlw K5.tch.size
  clear p0 p1 S4 P4 K4 G4 t5 hl4
  have p1 := S5.p1
  go_wp2_with fail
  refine (xdone_pair P5).mono ?_
  rintro x w6 ⟨rfl, t6⟩
  have P6 := P5.no t6
  have K6 := K5.trans (WX.of_no t6 hl5)
  clear p1 S5 P5 K5 t6 hl5
  go_wp2
  go_ret
  exact ⟨rfl, ⟨bs', s', e', P6, by omega⟩, K6⟩
end Go.Proofs.YtdicnnlfnfcmeabDoor
