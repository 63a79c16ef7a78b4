/- One step of a Writer and of the document's: what holds of both, and the steps of numbers and texts. -/
import Derived.Test.YtdicnnlfnfcmeabDoorKLent2
namespace Go.Proofs.YtdicnnlfnfcmeabDoor
open Go.RowKit Go.Sort

theorem upd_snd (bs : List UInt8) (e : Int) (L : List UInt8) (C : Int) : (upd bs e L C).2 = failE e C := by
  unfold upd failE
  by_cases he : e = 0
  · by_cases hc : C = 0 <;> simp [he, hc]
  · simp [he]
theorem xs_size (s : ByteArray) (L : List UInt8) (C : Int) : (xs s L C).size ≤ s.size + L.length := by
  unfold xs; split
  · rw [ByteArray.size_append, size_list L]; omega
  · omega

theorem row_lt {w : World} {b : Nat} {bs : List UInt8} {e : Int} (h : WS w b bs e) {k : Nat} (hk : rowOf w b = some k) : k < w.heap.size := by
  obtain ⟨v, c0, ho⟩ := h.row
  rw [rowOf_of c0] at hk
  exact (ho.lt k hk).2
/-- A Writer is as it was where neither it nor its row is turned. -/
theorem WS.tchR {S : Nat → Prop} {w w' : World} {b : Nat} {bs : List UInt8} {e : Int} (h : WS w b bs e) (t : Tch S w w') (hb : ¬ S b) (hr : ∀ k, rowOf w b = some k → ¬ S k) : WS w' b bs e := by
  obtain ⟨v, c0, ho⟩ := h.row
  have hl := h.lt
  have hr' : ∀ k, v.ownBlock = some k → ¬ S k := fun k hk => hr k (by rw [rowOf_of c0]; exact hk)
  refine ⟨⟨v, (t.cell (p := ⟨b, 0, none⟩) hl hb).trans c0, ho.1, ?_⟩, (t.cell (p := ⟨b, 1, none⟩) hl hb).trans h.c1, (t.frozen (p := ⟨b, 0, none⟩) hl hb).trans h.f0, (t.frozen (p := ⟨b, 1, none⟩) hl hb).trans h.f1, h.bad⟩
  rcases ho.2 with h2 | ⟨g, cap, cur, hv, hg, hh, r⟩
  · exact Or.inl h2
  · have hlt : g < w.heap.size := by
      rcases Nat.lt_or_ge g w.heap.size with h | h
      · exact h
      · rw [Array.getElem?_eq_none h] at hh; cases hh
    exact Or.inr ⟨g, cap, cur, hv, hg, by rw [t.block g hlt (hr' g (by rw [hv]; rfl))]; exact hh, r⟩

/-- A Writer and the document's, in step. -/
structure WPair (w : World) (bw bx : Nat) (bs : List UInt8) (s : ByteArray) (e : Int) : Prop where
  k : WS w bw bs e
  x : XW w bx s e
  eq : e = 0 → s = ⟨bs.toArray⟩
  sep : rowOf w bw ≠ some bx
theorem WPair.len {w : World} {bw bx : Nat} {bs : List UInt8} {s : ByteArray} {e : Int} (h : WPair w bw bx bs s e) : bs.length ≤ s.size := by
  by_cases he : e = 0
  · rw [h.eq he, size_list bs]; exact Nat.le_refl _
  · rw [h.k.bad he]; exact Nat.zero_le _
theorem WPair.ltx {w : World} {bw bx : Nat} {bs : List UInt8} {s : ByteArray} {e : Int} (h : WPair w bw bx bs s e) : bx < w.heap.size := cell_lt h.x.c0
theorem WPair.tch {S : Nat → Prop} {w w' : World} {bw bx : Nat} {bs : List UInt8} {s : ByteArray} {e : Int} (h : WPair w bw bx bs s e) (t : Tch S w w') (h1 : ¬ S bw) (h2 : ¬ S bx) (h3 : ∀ k, rowOf w bw = some k → ¬ S k) : WPair w' bw bx bs s e :=
  ⟨h.k.tchR t h1 h3, h.x.tch t h2, h.eq, by rw [rowOf_tch t h.k.lt h1]; exact h.sep⟩
theorem WPair.no {w w' : World} {bw bx : Nat} {bs : List UInt8} {s : ByteArray} {e : Int} (h : WPair w bw bx bs s e) (t : Tch (fun _ => False) w w') : WPair w' bw bx bs s e := h.tch t (fun h => h) (fun h => h) (fun _ _ h => h)

/-- What a step of both does to the world. -/
structure WX (b x : Nat) (w w' : World) : Prop where
  tch : Tch (fun i => i = b ∨ i = x ∨ rowOf w b = some i) w w'
  row : ∀ k, rowOf w' b = some k → rowOf w b = some k ∨ w.heap.size ≤ k
theorem WX.of_k {b x : Nat} {w w' : World} (h : WK b w w') : WX b x w w' := ⟨h.tch.mono (fun i _ hi => by rcases hi with h | h; exact Or.inl h; exact Or.inr (Or.inr h)), h.row⟩
theorem WX.of_no {b x : Nat} {w w' : World} (t : Tch (fun _ => False) w w') (hb : b < w.heap.size) : WX b x w w' := WX.of_k (wk_no t hb)
theorem WX.of_x {b x : Nat} {w w' : World} (t : Tch (fun i => i = x) w w') (hb : b < w.heap.size) (hne : b ≠ x) : WX b x w w' :=
  ⟨t.mono (fun _ _ hi => Or.inr (Or.inl hi)), fun k hk => Or.inl (by rw [← rowOf_tch t hb hne]; exact hk)⟩
theorem WX.trans {b x : Nat} {w w1 w2 : World} (h : WX b x w w1) (k : WX b x w1 w2) : WX b x w w2 := by
  refine ⟨h.tch.trans k.tch (fun i hi ht => ?_), fun i hi => ?_⟩
  · rcases ht with ht | ht | ht
    · exact Or.inl ht
    · exact Or.inr (Or.inl ht)
    · rcases h.row i ht with h1 | h1
      · exact Or.inr (Or.inr h1)
      · omega
  · rcases k.row i hi with h1 | h1
    · exact h.row i h1
    · exact Or.inr (Nat.le_trans h.tch.size h1)

/-- Both calls made: they are in step. -/
theorem WPair.both {w w1 w2 : World} {bw bx : Nat} {bs : List UInt8} {s : ByteArray} {e : Int} (h : WPair w bw bx bs s e) (hne : bw ≠ bx) {L : List UInt8} {C : Int} (k1 : WS w1 bw (upd bs e L C).1 (upd bs e L C).2) (t1 : WK bw w w1) (x2 : XW w2 bx (xs s L C) (failE e C)) (t2 : Tch (fun i => i = bx) w1 w2) :
    WPair w2 bw bx (upd bs e L C).1 (xs s L C) (failE e C) := by
  have hs1 : rowOf w1 bw ≠ some bx := fun hh => by
    rcases t1.row bx hh with h1 | h1
    · exact h.sep h1
    · have := h.ltx; omega
  rw [upd_snd] at k1
  refine ⟨k1.tchR t2 hne (fun k hk he => hs1 (he ▸ hk)), x2, fun h0 => ?_, ?_⟩
  · have h1 : e = 0 ∧ C = 0 := by
      unfold failE at h0
      by_cases he : e = 0
      · rw [if_pos he] at h0; exact ⟨he, h0⟩
      · rw [if_neg he] at h0; exact absurd h0 he
    obtain ⟨rfl, rfl⟩ := h1
    rw [xs_ok, h.eq rfl, upd_lay, app_list]
    rfl
  · rw [rowOf_tch t2 k1.lt hne]; exact hs1
theorem WPair.xafter {w w1 : World} {bw bx : Nat} {bs : List UInt8} {s : ByteArray} {e : Int} (h : WPair w bw bx bs s e) (hne : bw ≠ bx) (t1 : WK bw w w1) : XW w1 bx s e :=
  h.x.tch t1.tch (by rintro (h1 | h1); exact hne h1.symm; exact h.sep h1)

theorem xdone_pair {w : World} {bw bx : Nat} {bs : List UInt8} {s : ByteArray} {e : Int} (h : WPair w bw bx bs s e) :
    Calls Tryd.prog 10 #[.pointer (some ⟨bx, 0, none⟩)] w fun x w' => x = .returned (.tuple #[.string ⟨bs.toArray⟩, .int .i64 e]) ∧ Tch (fun _ => False) w w' := by
  have := xwdone_any bx s e w h.x
  have e1 : (if e = 0 then s else ⟨#[]⟩ : ByteArray) = ⟨bs.toArray⟩ := by
    by_cases he : e = 0
    · rw [if_pos he]; exact h.eq he
    · rw [if_neg he, h.k.bad he]
  rw [e1] at this; exact this

/-- The boxes of the step's arguments. -/
structure SB (w : World) (B bw bx : Nat) (kd n : Int) (t : ByteArray) (l : Value) : Prop where
  p0 : w.cell? ⟨B, 0, none⟩ = some (.pointer (some ⟨bw, 0, none⟩))
  p1 : w.cell? ⟨B, 1, none⟩ = some (.pointer (some ⟨bx, 0, none⟩))
  q1 : w.cell? ⟨B + 1, 1, none⟩ = some (.int .i64 kd)
  q2 : w.cell? ⟨B + 1, 2, none⟩ = some (.int .i64 n)
  q3 : w.cell? ⟨B + 1, 3, none⟩ = some (.string t)
  q4 : w.cell? ⟨B + 1, 4, none⟩ = some l
theorem SB.tch {S : Nat → Prop} {w w' : World} {B bw bx : Nat} {kd n : Int} {t : ByteArray} {l : Value} (h : SB w B bw bx kd n t l) (c : Tch S w w') (h1 : ¬ S B) (h2 : ¬ S (B + 1)) : SB w' B bw bx kd n t l :=
  ⟨(c.cell (p := ⟨B, 0, none⟩) (cell_lt h.p0) h1).trans h.p0, (c.cell (p := ⟨B, 1, none⟩) (cell_lt h.p1) h1).trans h.p1, (c.cell (p := ⟨B + 1, 1, none⟩) (cell_lt h.q1) h2).trans h.q1,
    (c.cell (p := ⟨B + 1, 2, none⟩) (cell_lt h.q2) h2).trans h.q2, (c.cell (p := ⟨B + 1, 3, none⟩) (cell_lt h.q3) h2).trans h.q3, (c.cell (p := ⟨B + 1, 4, none⟩) (cell_lt h.q4) h2).trans h.q4⟩
/-- Across a call of the Writer, whose row lies below. -/
theorem SB.wk {w w' : World} {B bw bx : Nat} {kd n : Int} {t : ByteArray} {l : Value} (h : SB w B bw bx kd n t l) (c : WK bw w w') (hb : bw < B) (hr : ∀ k, rowOf w bw = some k → k < B) : SB w' B bw bx kd n t l :=
  h.tch c.tch (by rintro (h1 | h1); omega; have := hr _ h1; omega) (by rintro (h1 | h1); omega; have := hr _ h1; omega)

set_option maxHeartbeats 1000000 in
set_option maxRecDepth 100000 in
theorem wstep_2 (bw bx : Nat) (bs : List UInt8) (s : ByteArray) (e n : Int) (o : Bool) (t : ByteArray) (l : Value) (w : World) (h : WPair w bw bx bs s e) (hne : bw ≠ bx) (hw0 : 0 < bw) (hr0 : rowOf w bw ≠ some 0) (hx0 : 0 < bx) (hg : HE w) (hn1 : -9223372036854775808 ≤ n) (hn2 : n ≤ 9223372036854775807) (hsz : s.size + 10 + t.size ≤ 140737488355328) :
    Calls Tryd.prog 8 #[.agg #[.pointer (some ⟨bw, 0, none⟩), .pointer (some ⟨bx, 0, none⟩)], .agg #[.bool o, .int .i64 2, .int .i64 n, .string t, l]] w fun x w' => x = .returned (.bool true) ∧ (∃ bs' s' e', WPair w' bw bx bs' s' e' ∧ s'.size ≤ s.size + 10 + t.size) ∧ WX bw bx w w' := by
  have _u1 := hn1; have _u2 := hn2
  have hlw := h.k.lt
  have hlx := h.ltx
  have hlen := h.len
  have hrl : ∀ k, rowOf w bw = some k → k < w.heap.size := fun k hk => row_lt h.k hk
  obtain ⟨L, hL⟩ : ∃ L, L = varL n := ⟨_, rfl⟩
  obtain ⟨C, hC⟩ : ∃ C : Int, C = varC n := ⟨_, rfl⟩
  have hLs : L.length ≤ 10 + t.size := by rw [hL]; have := dgf_len 10 n.toNat; unfold varL dg; omega
  have HK : Hid (∀ W, Tch (fun _ => False) w W → Calls Tryd.prog 17 #[.pointer (some ⟨bw, 0, none⟩), .int .i64 n] W fun x w' => x = .returned (.tuple #[]) ∧ WS w' bw (upd bs e L C).1 (upd bs e L C).2 ∧ WK bw W w') := fun W tW => by
    have hW := h.no tW
    rw [hL, hC]; exact kvar_any bw bs e n W hW.k hn2 (by omega)
  have HX : Hid (∀ W W1, Tch (fun _ => False) w W → WK bw W W1 → Calls Tryd.prog 27 #[.pointer (some ⟨bx, 0, none⟩), .int .i64 n] W1 fun x w' => x = .returned (.tuple #[]) ∧ XW w' bx (xs s L C) (failE e C) ∧ Tch (fun i => i = bx) W1 w') := fun W W1 tW t1 => by
    have hW := (h.no tW).xafter hne t1
    rw [hL, hC]; exact xwvar_any bx s e n W1 hW hn2 (by omega)
  have hxs := xs_size s L C
  clear hL hC hlen
  go_enter Tryd.func8, Tryd.ntmps8
  go_wp2_with fail
  have t0 : Tch (fun _ => False) w ((w.alloc (.cells #[.pointer (some ⟨bw, 0, none⟩), .pointer (some ⟨bx, 0, none⟩)] 29)).alloc (.cells #[.bool o, .int .i64 2, .int .i64 n, .string t, l] 32)) := Tch.allocR (Tch.alloc _ _ _) _
  have S0 : SB ((w.alloc (.cells #[.pointer (some ⟨bw, 0, none⟩), .pointer (some ⟨bx, 0, none⟩)] 29)).alloc (.cells #[.bool o, .int .i64 2, .int .i64 n, .string t, l] 32)) w.heap.size bw bx 2 n t l := ⟨by simp, by simp, by simp, by simp, by simp, by simp⟩
  have P0 := h.no t0
  have R0 := rowOf_tch t0 hlw (fun h => h)
  refine (HK.out _ t0).mono ?_
  rintro x w1 ⟨rfl, h1, k1⟩
  have S1 := S0.wk k1 hlw (fun k hk => hrl k (by rw [← R0]; exact hk))
  have HX1 := HX.out _ _ t0 k1
  have K1 : WX bw bx w w1 := (WX.of_no t0 hlw).trans (WX.of_k k1)
  have HB : Hid (∀ w2, XW w2 bx (xs s L C) (failE e C) → Tch (fun i => i = bx) w1 w2 → WPair w2 bw bx (upd bs e L C).1 (xs s L C) (failE e C)) := fun w2 x2 t2 => P0.both hne h1 k1 x2 t2
  have hl1 : bw < w1.heap.size := Nat.lt_of_lt_of_le hlw K1.tch.size
  clear S0 t0 P0 R0 HK HX h h1 k1
  have p0 := S1.p0; have p1 := S1.p1; have q1 := S1.q1; have q2 := S1.q2; have q3 := S1.q3; have q4 := S1.q4
  go_wp2_with fail
  refine HX1.mono ?_
  rintro x w2 ⟨rfl, x2, t2⟩
  have P2 := HB.out _ x2 t2
  have S2 := S1.tch t2 (by omega) (by omega)
  have K2 := K1.trans (WX.of_x t2 hl1 hne)
  have G2 : HE w2 := hg.tch K2.tch (by rintro (h1 | h1 | h1); omega; omega; exact hr0 h1)
  have hl2 : bw < w2.heap.size := Nat.lt_of_lt_of_le hlw K2.tch.size
  clear p0 p1 q1 q2 q3 q4 S1 HX1 HB x2 t2 K1 hl1
  obtain ⟨bs', hbs⟩ : ∃ b', b' = (upd bs e L C).1 := ⟨_, rfl⟩
  obtain ⟨s', hs'⟩ : ∃ s', s' = xs s L C := ⟨_, rfl⟩
  obtain ⟨e', he'⟩ : ∃ e', e' = failE e C := ⟨_, rfl⟩
  rw [← hbs, ← hs', ← he'] at P2
  rw [← hs'] at hxs
  clear hbs hs' he'
  have p0 := S2.p0; have p1 := S2.p1
  go_wp2_with fail
  refine (wdone_any bw bs' e' _ P2.k G2).mono ?_
  rintro x w3 ⟨rfl, t3⟩
  have P3 := P2.no t3
  have S3 := S2.tch t3 (fun h => h) (fun h => h)
  have K3 := K2.trans (WX.of_no t3 hl2)
  have hl3 : bw < w3.heap.size := Nat.lt_of_lt_of_le hlw K3.tch.size
  clear p0 p1 S2 P2 K2 G2 t3 hl2
  have p1 := S3.p1
  go_wp2_with fail
  refine (xdone_pair P3).mono ?_
  rintro x w4 ⟨rfl, t4⟩
  have P4 := P3.no t4
  have K4 := K3.trans (WX.of_no t4 hl3)
  clear p1 S3 P3 K3 t4 hl3
  go_wp2
  go_ret
  exact ⟨rfl, ⟨bs', s', e', P4, by omega⟩, K4⟩
set_option maxHeartbeats 1000000 in
set_option maxRecDepth 100000 in
theorem wstep_3 (bw bx : Nat) (bs : List UInt8) (s : ByteArray) (e n : Int) (o : Bool) (t : ByteArray) (l : Value) (w : World) (h : WPair w bw bx bs s e) (hne : bw ≠ bx) (hw0 : 0 < bw) (hr0 : rowOf w bw ≠ some 0) (hx0 : 0 < bx) (hg : HE w) (hn1 : -9223372036854775808 ≤ n) (hn2 : n ≤ 9223372036854775807) (hsz : s.size + 10 + t.size ≤ 140737488355328) :
    Calls Tryd.prog 8 #[.agg #[.pointer (some ⟨bw, 0, none⟩), .pointer (some ⟨bx, 0, none⟩)], .agg #[.bool o, .int .i64 3, .int .i64 n, .string t, l]] w fun x w' => x = .returned (.bool true) ∧ (∃ bs' s' e', WPair w' bw bx bs' s' e' ∧ s'.size ≤ s.size + 10 + t.size) ∧ WX bw bx w w' := by
  have _u1 := hn1; have _u2 := hn2
  have hlw := h.k.lt
  have hlx := h.ltx
  have hlen := h.len
  have hrl : ∀ k, rowOf w bw = some k → k < w.heap.size := fun k hk => row_lt h.k hk
  obtain ⟨L, hL⟩ : ∃ L, L = dg (fol n) := ⟨_, rfl⟩
  obtain ⟨C, hC⟩ : ∃ C : Int, C = 0 := ⟨_, rfl⟩
  have hLs : L.length ≤ 10 + t.size := by rw [hL]; have := dgf_len 10 (fol n); unfold dg; omega
  have HK : Hid (∀ W, Tch (fun _ => False) w W → Calls Tryd.prog 18 #[.pointer (some ⟨bw, 0, none⟩), .int .i64 n] W fun x w' => x = .returned (.tuple #[]) ∧ WS w' bw (upd bs e L C).1 (upd bs e L C).2 ∧ WK bw W w') := fun W tW => by
    have hW := h.no tW
    rw [hL, hC, upd_lay]; exact kint_any bw bs e n W hW.k hn1 hn2 (by omega)
  have HX : Hid (∀ W W1, Tch (fun _ => False) w W → WK bw W W1 → Calls Tryd.prog 28 #[.pointer (some ⟨bx, 0, none⟩), .int .i64 n] W1 fun x w' => x = .returned (.tuple #[]) ∧ XW w' bx (xs s L C) (failE e C) ∧ Tch (fun i => i = bx) W1 w') := fun W W1 tW t1 => by
    have hW := (h.no tW).xafter hne t1
    rw [hL, hC, xs_ok, failE_zero]; exact xwint_any bx s e n W1 hW hn1 hn2 (by omega)
  have hxs := xs_size s L C
  clear hL hC hlen
  go_enter Tryd.func8, Tryd.ntmps8
  go_wp2_with fail
  have t0 : Tch (fun _ => False) w ((w.alloc (.cells #[.pointer (some ⟨bw, 0, none⟩), .pointer (some ⟨bx, 0, none⟩)] 29)).alloc (.cells #[.bool o, .int .i64 3, .int .i64 n, .string t, l] 32)) := Tch.allocR (Tch.alloc _ _ _) _
  have S0 : SB ((w.alloc (.cells #[.pointer (some ⟨bw, 0, none⟩), .pointer (some ⟨bx, 0, none⟩)] 29)).alloc (.cells #[.bool o, .int .i64 3, .int .i64 n, .string t, l] 32)) w.heap.size bw bx 3 n t l := ⟨by simp, by simp, by simp, by simp, by simp, by simp⟩
  have P0 := h.no t0
  have R0 := rowOf_tch t0 hlw (fun h => h)
  refine (HK.out _ t0).mono ?_
  rintro x w1 ⟨rfl, h1, k1⟩
  have S1 := S0.wk k1 hlw (fun k hk => hrl k (by rw [← R0]; exact hk))
  have HX1 := HX.out _ _ t0 k1
  have K1 : WX bw bx w w1 := (WX.of_no t0 hlw).trans (WX.of_k k1)
  have HB : Hid (∀ w2, XW w2 bx (xs s L C) (failE e C) → Tch (fun i => i = bx) w1 w2 → WPair w2 bw bx (upd bs e L C).1 (xs s L C) (failE e C)) := fun w2 x2 t2 => P0.both hne h1 k1 x2 t2
  have hl1 : bw < w1.heap.size := Nat.lt_of_lt_of_le hlw K1.tch.size
  clear S0 t0 P0 R0 HK HX h h1 k1
  have p0 := S1.p0; have p1 := S1.p1; have q1 := S1.q1; have q2 := S1.q2; have q3 := S1.q3; have q4 := S1.q4
  go_wp2_with fail
  refine HX1.mono ?_
  rintro x w2 ⟨rfl, x2, t2⟩
  have P2 := HB.out _ x2 t2
  have S2 := S1.tch t2 (by omega) (by omega)
  have K2 := K1.trans (WX.of_x t2 hl1 hne)
  have G2 : HE w2 := hg.tch K2.tch (by rintro (h1 | h1 | h1); omega; omega; exact hr0 h1)
  have hl2 : bw < w2.heap.size := Nat.lt_of_lt_of_le hlw K2.tch.size
  clear p0 p1 q1 q2 q3 q4 S1 HX1 HB x2 t2 K1 hl1
  obtain ⟨bs', hbs⟩ : ∃ b', b' = (upd bs e L C).1 := ⟨_, rfl⟩
  obtain ⟨s', hs'⟩ : ∃ s', s' = xs s L C := ⟨_, rfl⟩
  obtain ⟨e', he'⟩ : ∃ e', e' = failE e C := ⟨_, rfl⟩
  rw [← hbs, ← hs', ← he'] at P2
  rw [← hs'] at hxs
  clear hbs hs' he'
  have p0 := S2.p0; have p1 := S2.p1
  go_wp2_with fail
  refine (wdone_any bw bs' e' _ P2.k G2).mono ?_
  rintro x w3 ⟨rfl, t3⟩
  have P3 := P2.no t3
  have S3 := S2.tch t3 (fun h => h) (fun h => h)
  have K3 := K2.trans (WX.of_no t3 hl2)
  have hl3 : bw < w3.heap.size := Nat.lt_of_lt_of_le hlw K3.tch.size
  clear p0 p1 S2 P2 K2 G2 t3 hl2
  have p1 := S3.p1
  go_wp2_with fail
  refine (xdone_pair P3).mono ?_
  rintro x w4 ⟨rfl, t4⟩
  have P4 := P3.no t4
  have K4 := K3.trans (WX.of_no t4 hl3)
  clear p1 S3 P3 K3 t4 hl3
  go_wp2
  go_ret
  exact ⟨rfl, ⟨bs', s', e', P4, by omega⟩, K4⟩
set_option maxHeartbeats 1000000 in
set_option maxRecDepth 100000 in
theorem wstep_4 (bw bx : Nat) (bs : List UInt8) (s : ByteArray) (e n : Int) (o : Bool) (t : ByteArray) (l : Value) (w : World) (h : WPair w bw bx bs s e) (hne : bw ≠ bx) (hw0 : 0 < bw) (hr0 : rowOf w bw ≠ some 0) (hx0 : 0 < bx) (hg : HE w) (hn1 : -9223372036854775808 ≤ n) (hn2 : n ≤ 9223372036854775807) (hsz : s.size + 10 + t.size ≤ 140737488355328) :
    Calls Tryd.prog 8 #[.agg #[.pointer (some ⟨bw, 0, none⟩), .pointer (some ⟨bx, 0, none⟩)], .agg #[.bool o, .int .i64 4, .int .i64 n, .string t, l]] w fun x w' => x = .returned (.bool true) ∧ (∃ bs' s' e', WPair w' bw bx bs' s' e' ∧ s'.size ≤ s.size + 10 + t.size) ∧ WX bw bx w w' := by
  have _u1 := hn1; have _u2 := hn2
  have hlw := h.k.lt
  have hlx := h.ltx
  have hlen := h.len
  have hrl : ∀ k, rowOf w bw = some k → k < w.heap.size := fun k hk => row_lt h.k hk
  obtain ⟨L, hL⟩ : ∃ L, L = textL t := ⟨_, rfl⟩
  obtain ⟨C, hC⟩ : ∃ C : Int, C = textC t n := ⟨_, rfl⟩
  have hLs : L.length ≤ 10 + t.size := by rw [hL]; have := dgf_len 10 t.size; have h2 : t.data.toList.length = t.size := Array.length_toList; unfold textL dg; rw [List.length_append]; omega
  have HK : Hid (∀ W, Tch (fun _ => False) w W → Calls Tryd.prog 19 #[.pointer (some ⟨bw, 0, none⟩), .string t, .int .i64 n] W fun x w' => x = .returned (.tuple #[]) ∧ WS w' bw (upd bs e L C).1 (upd bs e L C).2 ∧ WK bw W w') := fun W tW => by
    have hW := h.no tW
    rw [hL, hC]; exact ktext_any bw bs e t n W hW.k (by omega)
  have HX : Hid (∀ W W1, Tch (fun _ => False) w W → WK bw W W1 → Calls Tryd.prog 29 #[.pointer (some ⟨bx, 0, none⟩), .string t, .int .i64 n] W1 fun x w' => x = .returned (.tuple #[]) ∧ XW w' bx (xs s L C) (failE e C) ∧ Tch (fun i => i = bx) W1 w') := fun W W1 tW t1 => by
    have hW := (h.no tW).xafter hne t1
    rw [hL, hC]; exact xwtext_any bx s e t n W1 hW (by omega)
  have hxs := xs_size s L C
  clear hL hC hlen
  go_enter Tryd.func8, Tryd.ntmps8
  go_wp2_with fail
  have t0 : Tch (fun _ => False) w ((w.alloc (.cells #[.pointer (some ⟨bw, 0, none⟩), .pointer (some ⟨bx, 0, none⟩)] 29)).alloc (.cells #[.bool o, .int .i64 4, .int .i64 n, .string t, l] 32)) := Tch.allocR (Tch.alloc _ _ _) _
  have S0 : SB ((w.alloc (.cells #[.pointer (some ⟨bw, 0, none⟩), .pointer (some ⟨bx, 0, none⟩)] 29)).alloc (.cells #[.bool o, .int .i64 4, .int .i64 n, .string t, l] 32)) w.heap.size bw bx 4 n t l := ⟨by simp, by simp, by simp, by simp, by simp, by simp⟩
  have P0 := h.no t0
  have R0 := rowOf_tch t0 hlw (fun h => h)
  refine (HK.out _ t0).mono ?_
  rintro x w1 ⟨rfl, h1, k1⟩
  have S1 := S0.wk k1 hlw (fun k hk => hrl k (by rw [← R0]; exact hk))
  have HX1 := HX.out _ _ t0 k1
  have K1 : WX bw bx w w1 := (WX.of_no t0 hlw).trans (WX.of_k k1)
  have HB : Hid (∀ w2, XW w2 bx (xs s L C) (failE e C) → Tch (fun i => i = bx) w1 w2 → WPair w2 bw bx (upd bs e L C).1 (xs s L C) (failE e C)) := fun w2 x2 t2 => P0.both hne h1 k1 x2 t2
  have hl1 : bw < w1.heap.size := Nat.lt_of_lt_of_le hlw K1.tch.size
  clear S0 t0 P0 R0 HK HX h h1 k1
  have p0 := S1.p0; have p1 := S1.p1; have q1 := S1.q1; have q2 := S1.q2; have q3 := S1.q3; have q4 := S1.q4
  go_wp2_with fail
  refine HX1.mono ?_
  rintro x w2 ⟨rfl, x2, t2⟩
  have P2 := HB.out _ x2 t2
  have S2 := S1.tch t2 (by omega) (by omega)
  have K2 := K1.trans (WX.of_x t2 hl1 hne)
  have G2 : HE w2 := hg.tch K2.tch (by rintro (h1 | h1 | h1); omega; omega; exact hr0 h1)
  have hl2 : bw < w2.heap.size := Nat.lt_of_lt_of_le hlw K2.tch.size
  clear p0 p1 q1 q2 q3 q4 S1 HX1 HB x2 t2 K1 hl1
  obtain ⟨bs', hbs⟩ : ∃ b', b' = (upd bs e L C).1 := ⟨_, rfl⟩
  obtain ⟨s', hs'⟩ : ∃ s', s' = xs s L C := ⟨_, rfl⟩
  obtain ⟨e', he'⟩ : ∃ e', e' = failE e C := ⟨_, rfl⟩
  rw [← hbs, ← hs', ← he'] at P2
  rw [← hs'] at hxs
  clear hbs hs' he'
  have p0 := S2.p0; have p1 := S2.p1
  go_wp2_with fail
  refine (wdone_any bw bs' e' _ P2.k G2).mono ?_
  rintro x w3 ⟨rfl, t3⟩
  have P3 := P2.no t3
  have S3 := S2.tch t3 (fun h => h) (fun h => h)
  have K3 := K2.trans (WX.of_no t3 hl2)
  have hl3 : bw < w3.heap.size := Nat.lt_of_lt_of_le hlw K3.tch.size
  clear p0 p1 S2 P2 K2 G2 t3 hl2
  have p1 := S3.p1
  go_wp2_with fail
  refine (xdone_pair P3).mono ?_
  rintro x w4 ⟨rfl, t4⟩
  have P4 := P3.no t4
  have K4 := K3.trans (WX.of_no t4 hl3)
  clear p1 S3 P3 K3 t4 hl3
  go_wp2
  go_ret
  exact ⟨rfl, ⟨bs', s', e', P4, by omega⟩, K4⟩
set_option maxHeartbeats 1000000 in
set_option maxRecDepth 100000 in
theorem wstep_5 (bw bx : Nat) (bs : List UInt8) (s : ByteArray) (e n : Int) (o : Bool) (t : ByteArray) (l : Value) (w : World) (h : WPair w bw bx bs s e) (hne : bw ≠ bx) (hw0 : 0 < bw) (hr0 : rowOf w bw ≠ some 0) (hx0 : 0 < bx) (hg : HE w) (hn1 : -9223372036854775808 ≤ n) (hn2 : n ≤ 9223372036854775807) (hsz : s.size + 10 + t.size ≤ 140737488355328) :
    Calls Tryd.prog 8 #[.agg #[.pointer (some ⟨bw, 0, none⟩), .pointer (some ⟨bx, 0, none⟩)], .agg #[.bool o, .int .i64 5, .int .i64 n, .string t, l]] w fun x w' => x = .returned (.bool true) ∧ (∃ bs' s' e', WPair w' bw bx bs' s' e' ∧ s'.size ≤ s.size + 10 + t.size) ∧ WX bw bx w w' := by
  have _u1 := hn1; have _u2 := hn2
  have hlw := h.k.lt
  have hlx := h.ltx
  have hlen := h.len
  have hrl : ∀ k, rowOf w bw = some k → k < w.heap.size := fun k hk => row_lt h.k hk
  obtain ⟨L, hL⟩ : ∃ L, L = t.data.toList := ⟨_, rfl⟩
  obtain ⟨C, hC⟩ : ∃ C : Int, C = 0 := ⟨_, rfl⟩
  have hLs : L.length ≤ 10 + t.size := by rw [hL]; rw [Array.length_toList]; show t.size ≤ _; omega
  have HK : Hid (∀ W, Tch (fun _ => False) w W → Calls Tryd.prog 30 #[.pointer (some ⟨bw, 0, none⟩), .string t] W fun x w' => x = .returned (.tuple #[]) ∧ WS w' bw (upd bs e L C).1 (upd bs e L C).2 ∧ WK bw W w') := fun W tW => by
    have hW := h.no tW
    rw [hL, hC, upd_lay]; exact kraw_any bw bs e t W hW.k (by omega)
  have HX : Hid (∀ W W1, Tch (fun _ => False) w W → WK bw W W1 → Calls Tryd.prog 31 #[.pointer (some ⟨bx, 0, none⟩), .string t] W1 fun x w' => x = .returned (.tuple #[]) ∧ XW w' bx (xs s L C) (failE e C) ∧ Tch (fun i => i = bx) W1 w') := fun W W1 tW t1 => by
    have hW := (h.no tW).xafter hne t1
    rw [hL, hC, xs_ok, failE_zero]; exact xwraw_any bx s e t W1 hW (by omega)
  have hxs := xs_size s L C
  clear hL hC hlen
  go_enter Tryd.func8, Tryd.ntmps8
  go_wp2_with fail
  have t0 : Tch (fun _ => False) w ((w.alloc (.cells #[.pointer (some ⟨bw, 0, none⟩), .pointer (some ⟨bx, 0, none⟩)] 29)).alloc (.cells #[.bool o, .int .i64 5, .int .i64 n, .string t, l] 32)) := Tch.allocR (Tch.alloc _ _ _) _
  have S0 : SB ((w.alloc (.cells #[.pointer (some ⟨bw, 0, none⟩), .pointer (some ⟨bx, 0, none⟩)] 29)).alloc (.cells #[.bool o, .int .i64 5, .int .i64 n, .string t, l] 32)) w.heap.size bw bx 5 n t l := ⟨by simp, by simp, by simp, by simp, by simp, by simp⟩
  have P0 := h.no t0
  have R0 := rowOf_tch t0 hlw (fun h => h)
  refine (HK.out _ t0).mono ?_
  rintro x w1 ⟨rfl, h1, k1⟩
  have S1 := S0.wk k1 hlw (fun k hk => hrl k (by rw [← R0]; exact hk))
  have HX1 := HX.out _ _ t0 k1
  have K1 : WX bw bx w w1 := (WX.of_no t0 hlw).trans (WX.of_k k1)
  have HB : Hid (∀ w2, XW w2 bx (xs s L C) (failE e C) → Tch (fun i => i = bx) w1 w2 → WPair w2 bw bx (upd bs e L C).1 (xs s L C) (failE e C)) := fun w2 x2 t2 => P0.both hne h1 k1 x2 t2
  have hl1 : bw < w1.heap.size := Nat.lt_of_lt_of_le hlw K1.tch.size
  clear S0 t0 P0 R0 HK HX h h1 k1
  have p0 := S1.p0; have p1 := S1.p1; have q1 := S1.q1; have q2 := S1.q2; have q3 := S1.q3; have q4 := S1.q4
  go_wp2_with fail
  refine HX1.mono ?_
  rintro x w2 ⟨rfl, x2, t2⟩
  have P2 := HB.out _ x2 t2
  have S2 := S1.tch t2 (by omega) (by omega)
  have K2 := K1.trans (WX.of_x t2 hl1 hne)
  have G2 : HE w2 := hg.tch K2.tch (by rintro (h1 | h1 | h1); omega; omega; exact hr0 h1)
  have hl2 : bw < w2.heap.size := Nat.lt_of_lt_of_le hlw K2.tch.size
  clear p0 p1 q1 q2 q3 q4 S1 HX1 HB x2 t2 K1 hl1
  obtain ⟨bs', hbs⟩ : ∃ b', b' = (upd bs e L C).1 := ⟨_, rfl⟩
  obtain ⟨s', hs'⟩ : ∃ s', s' = xs s L C := ⟨_, rfl⟩
  obtain ⟨e', he'⟩ : ∃ e', e' = failE e C := ⟨_, rfl⟩
  rw [← hbs, ← hs', ← he'] at P2
  rw [← hs'] at hxs
  clear hbs hs' he'
  have p0 := S2.p0; have p1 := S2.p1
  go_wp2_with fail
  refine (wdone_any bw bs' e' _ P2.k G2).mono ?_
  rintro x w3 ⟨rfl, t3⟩
  have P3 := P2.no t3
  have S3 := S2.tch t3 (fun h => h) (fun h => h)
  have K3 := K2.trans (WX.of_no t3 hl2)
  have hl3 : bw < w3.heap.size := Nat.lt_of_lt_of_le hlw K3.tch.size
  clear p0 p1 S2 P2 K2 G2 t3 hl2
  have p1 := S3.p1
  go_wp2_with fail
  refine (xdone_pair P3).mono ?_
  rintro x w4 ⟨rfl, t4⟩
  have P4 := P3.no t4
  have K4 := K3.trans (WX.of_no t4 hl3)
  clear p1 S3 P3 K3 t4 hl3
  go_wp2
  go_ret
  exact ⟨rfl, ⟨bs', s', e', P4, by omega⟩, K4⟩
end Go.Proofs.YtdicnnlfnfcmeabDoor
