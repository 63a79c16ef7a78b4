/- ValueCompares: the rows of the law. -/
import Derived.Test.YtnjbkkccofjmgaaDoorVLent
import Derived.Test.YtnjbkkccofjmgaaDoorVCmp2
import Derived.Test.YtnjbkkccofjmgaaDoorVLit
namespace Go.Proofs.YtnjbkkccofjmgaaDoor
open Go.RowKit Go.Sort

set_option maxHeartbeats 2000000 in
set_option maxRecDepth 100000 in
theorem rsame_any (xs ys : List Val) (ao bo : Option Addr) (ca cb : Nat) (w : World) (ha : RowOf w ao xs) (hb : RowOf w bo ys) (h1 : xs.length ≤ 9223372036854775807) :
    Calls Tryd.prog 21 #[.slice ao xs.length ca, .slice bo ys.length cb] w fun x w' => EqOut xs ys w x w' := by
  by_cases hl : xs.length = ys.length
  · have HA : Hid (∀ m, RowOf (w.drewN m) ao xs) := fun m => ha.no ((Tch.refl _ w).drewN m)
    have HB : Hid (∀ m, RowOf (w.drewN m) bo ys) := fun m => hb.no ((Tch.refl _ w).drewN m)
    have HL : Hid (xs.length = ys.length) := hl
    obtain ⟨n, hn⟩ : ∃ n, n = xs.length := ⟨_, rfl⟩
    have hn2 : n = ys.length := by omega
    rw [← hn, ← hn2]
    have HN : Hid (n = xs.length ∧ n = ys.length) := ⟨hn, hn2⟩
    rw [← hn] at h1
    clear ha hb hl hn hn2
    go_enter Tryd.func21, Tryd.ntmps21
    go_wp2_with fail
    go_loopw [5] (fun i wr => ∃ (k m : Nat), i = .int .i64 k ∧ k ≤ n ∧ Hid (∀ j (h1 : j < xs.length) (h2 : j < ys.length), j < k → xs[j] = ys[j]) ∧ wr = w.drewN m) (fun i _ => n - (intOf i).toNat)
    case atStart => exact ⟨0, 0, rfl, by omega, fun j _ _ h => by omega, rfl⟩
    case round =>
      obtain ⟨k, m, rfl, hk, HE, hwr⟩ := hrel
      by_cases hlt : (k : Int) < n
      · have hA := HA.out m
        have hB := HB.out m
        rw [← hwr] at hA hB
        have hx : k < xs.length := by have := HN.out.1; omega
        have hy : k < ys.length := by have := HN.out.2; omega
        obtain ⟨ga, oa, rfl, hra⟩ := hA (by intro e; rw [e] at hx; simp at hx)
        obtain ⟨gb, ob, rfl, hrb⟩ := hB (by intro e; rw [e] at hy; simp at hy)
        obtain ⟨a0, a1, a2⟩ := hra k hx
        obtain ⟨b0, b1, b2⟩ := hrb k hy
        have HW : Hid (wr = w.drewN m) := hwr
        obtain ⟨u, hu⟩ : ∃ u, u = xs[k] := ⟨_, rfl⟩
        obtain ⟨v, hv⟩ : ∃ v, v = ys[k] := ⟨_, rfl⟩
        rw [← hu] at a0 a1 a2
        rw [← hv] at b0 b1 b2
        have HU : Hid (u = xs[k] ∧ v = ys[k]) := ⟨hu, hv⟩
        clear hA hB hra hrb hwr hu hv
        obtain ⟨d, hd1, hd⟩ := ne_val u v
        have HD : Hid (d = true ↔ u ≠ v) := hd1
        clear hd1
        cases d with
        | true =>
          go_wp2_with fail
          go_quiet (fail)
          go_wp2
          go_ret
          refine ⟨false, rfl, ⟨fun h => by simp at h, fun h => ?_⟩, m + nq, by rw [HW.out, World.drewN_drewN]⟩
          exact absurd (by rw [HU.out.1, HU.out.2]; subst h; rfl) (HD.out.1 (by trivial))
        | false =>
          have HE2 : Hid (∀ j (h1 : j < xs.length) (h2 : j < ys.length), j < k + 1 → xs[j] = ys[j]) := fun j h1 h2 hj => by
            rcases Nat.lt_or_ge j k with h | h
            · exact HE.out j h1 h2 h
            · obtain rfl : j = k := by omega
              rw [← HU.out.1, ← HU.out.2]
              exact Classical.byContradiction fun hne => by have := HD.out.2 hne; simp at this
          go_wp2_with fail
          go_quiet (fail)
          go_wp2
          go_roundw
          case rel => exact ⟨k + 1, m + nq, by go_num, by omega, HE2, by rw [HW.out, World.drewN_drewN]⟩
          case measure => simp [intOf]; omega
      · have HW : Hid (wr = w.drewN m) := hwr
        clear hwr
        go_wp2
        go_ret
        refine ⟨true, rfl, ⟨fun _ => ?_, fun _ => rfl⟩, m, HW.out⟩
        exact List.ext_getElem HL.out (fun j h1 h2 => HE.out j h1 h2 (by have := HN.out.1; omega))
  · have hl' : ((xs.length : Int) != ys.length) = true := by simp; omega
    clear ha hb
    go_enter Tryd.func21, Tryd.ntmps21
    go_wp2
    go_ret
    exact ⟨false, rfl, ⟨fun h => by simp at h, fun h => absurd (by rw [h]) hl⟩, 0, rfl⟩

theorem rowAt_cells {w : World} {g o : Nat} {l : List Val} (h : RowAt w g o l) : ∀ j u, (rcl l)[j]? = some u → w.cell? ⟨g, o + j, none⟩ = some u := by
  intro j u hu
  have hj : j < l.length * 3 := by rw [← rcl_len]; exact (List.getElem?_eq_some_iff.1 hu).1
  obtain ⟨q, r, rfl, hr⟩ : ∃ q r, j = q * 3 + r ∧ r < 3 := ⟨j / 3, j % 3, by omega, by omega⟩
  have hq : q < l.length := by omega
  obtain ⟨h0, h1, h2⟩ := h q hq
  obtain ⟨g0, g1, g2⟩ := rcl_get l q hq
  obtain rfl | rfl | rfl : r = 0 ∨ r = 1 ∨ r = 2 := by omega
  · rw [Nat.add_zero] at hu ⊢; rw [g0] at hu; cases hu; exact h0
  · rw [g1] at hu; cases hu; rw [← Nat.add_assoc]; exact h1
  · rw [g2] at hu; cases hu; rw [← Nat.add_assoc]; exact h2
theorem rowAt_of {w : World} {g : Nat} {l : List Val} (h : ∀ j u, (rcl l)[j]? = some u → w.cell? ⟨g, j, none⟩ = some u) : RowAt w g 0 l := by
  intro j hj
  obtain ⟨g0, g1, g2⟩ := rcl_get l j hj
  rw [Nat.zero_add]
  exact ⟨h _ _ g0, h _ _ g1, h _ _ g2⟩
theorem RowOf.lt {w : World} {ao : Option Addr} {vs : List Val} (h : RowOf w ao vs) (hv : vs ≠ []) {g o : Nat} (e : ao = some ⟨g, o, none⟩) : g < w.heap.size := by
  obtain ⟨g', o', e', hr⟩ := h hv
  rw [e] at e'
  injection e' with e'
  injection e' with e1 e2
  subst e1
  exact hr.lt hv
theorem RowOf.old2 {S : Nat → Prop} {w w1 w' : World} {ao : Option Addr} {vs : List Val} (h : RowOf w ao vs) (t0 : Tch (fun _ => False) w w1) (t : Tch S w1 w') (hS : ∀ g, g < w.heap.size → ¬ S g) : RowOf w' ao vs := by
  intro hv
  obtain ⟨g, o, ha, hr⟩ := h hv
  have hlt := hr.lt hv
  exact ⟨g, o, ha, (hr.tch t0 (fun _ h => h)).tch t (fun _ => hS g hlt)⟩
/-- What the law has lent. -/
def LX (base : Nat) (W : World) (xo : Option Addr) (cx : Nat) (ro : Option Addr) (c : Nat) (l : List Val) : Prop :=
  (ro = none ∧ xo = none ∧ l = [] ∧ c = 0 ∧ cx = 0) ∨ ∃ ad g, ro = some ad ∧ xo = some ⟨g, 0, none⟩ ∧ base ≤ g ∧ g < W.heap.size ∧ l.length + 4 ≤ cx ∧ RowAt W g 0 (lentV l) ∧ ∀ j, W.frozen? ⟨g, j, none⟩ = false
theorem LX.tch {S : Nat → Prop} {base : Nat} {W W' : World} {xo : Option Addr} {cx : Nat} {ro : Option Addr} {c : Nat} {l : List Val} (h : LX base W xo cx ro c l) (t : Tch S W W') (hS : ∀ i, base ≤ i → ¬ S i) : LX base W' xo cx ro c l := by
  rcases h with h | ⟨ad, g, h1, h2, h3, h4, h5, h6, h7⟩
  · exact Or.inl h
  · exact Or.inr ⟨ad, g, h1, h2, h3, Nat.lt_of_lt_of_le h4 t.size, h5, h6.tch t (fun _ => hS g h3), fun j => by rw [t.frozen (p := ⟨g, j, none⟩) h4 (hS g h3)]; exact h7 j⟩
theorem LX.base {base base' : Nat} {W : World} {xo : Option Addr} {cx : Nat} {ro : Option Addr} {c : Nat} {l : List Val} (h : LX base W xo cx ro c l) (hb : base' ≤ base) : LX base' W xo cx ro c l := by
  rcases h with h | ⟨ad, g, h1, h2, h3, h4⟩
  · exact Or.inl h
  · exact Or.inr ⟨ad, g, h1, h2, Nat.le_trans hb h3, h4⟩
theorem LX.lt {base i : Nat} {W : World} {xo : Option Addr} {cx : Nat} {ro : Option Addr} {c : Nat} {l : List Val} (h : LX base W xo cx ro c l) (e : xo = some ⟨i, 0, none⟩) : i < W.heap.size := by
  rcases h with ⟨_, h, _⟩ | ⟨ad, g, h1, h2, h3, h4, _⟩
  · rw [h] at e; cases e
  · rw [h2] at e; injection e with e; injection e with e; subst e; exact h4
theorem LX.row {base : Nat} {W : World} {xo : Option Addr} {cx : Nat} {ro : Option Addr} {c : Nat} {l : List Val} (h : LX base W xo cx ro c l) : RowOf W xo l := by
  rcases h with ⟨_, _, rfl, _⟩ | ⟨ad, g, h1, h2, h3, h4, h5, h6, h7⟩
  · intro h; exact absurd rfl h
  · intro _
    refine ⟨g, 0, h2, fun j hj => ?_⟩
    have h8 := h6 j (by rw [lentV_len]; omega)
    rw [lentV_lt l j hj] at h8
    exact h8
theorem lent_u (l : List Val) (ro : Option Addr) (c : Nat) (w : World) (hr : RowOf w ro l) (hn : ro = none → l = [] ∧ c = 0) (hlen : l.length * 32 ≤ 140737488351232) :
    Calls Tryd.prog 17 #[.slice ro l.length c] w fun x w' => ∃ xo cx, x = .returned (.slice xo l.length cx) ∧ LX w.heap.size w' xo cx ro c l ∧ Tch (fun _ => False) w w' := by
  cases ro with
  | none =>
    obtain ⟨rfl, rfl⟩ := hn rfl
    refine (rlent_nil w).mono ?_
    rintro x w' ⟨rfl, rfl⟩
    exact ⟨none, 0, rfl, Or.inl ⟨rfl, rfl, rfl, rfl, rfl⟩, Tch.refl _ _⟩
  | some ad =>
    refine (rlent_any l ad c w (fun j u hu => ?_) hlen).mono ?_
    · obtain ⟨g, o, e, h⟩ := hr (by rintro rfl; simp [rcl] at hu)
      injection e with e
      subst e
      have hadd : (⟨g, o, none⟩ : Addr).add j = ⟨g, o + j, none⟩ := by unfold Addr.add; split <;> simp_all
      rw [hadd]
      exact rowAt_cells h j u hu
    · rintro x w' ⟨g, cap, cur, rfl, hg, hcap, hh, hcs, hct, ht⟩
      refine ⟨some ⟨g, 0, none⟩, cap, rfl, Or.inr ⟨ad, g, rfl, rfl, hg, blk_lt hh, hcap, rowAt_of (fun j u hu => ?_), fun j => ?_⟩, ht⟩
      · rw [blk_cell hh, ← Array.getElem?_toList]
        have hj : j < (l.length + 4) * 3 := by rw [← lentV_len, ← rcl_len]; exact (List.getElem?_eq_some_iff.1 hu).1
        rw [← hct, List.getElem?_take_of_lt hj] at hu
        exact hu
      · simp [World.frozen?, hh]
theorem asLent_u (l : List Val) (ro : Option Addr) (c base : Nat) (xo : Option Addr) (cx : Nat) (w : World) (hx : LX base w xo cx ro c l) (hr : RowOf w ro l) (hb : l ≠ [] → ∀ g o, ro = some ⟨g, o, none⟩ → g < base) (hlen : l.length * 32 ≤ 140737488351232) :
    Calls Tryd.prog 19 #[.slice xo l.length cx, .slice ro l.length c] w fun x w' => x = .returned (.bool true) ∧ Tch (fun i => base ≤ i ∧ xo = some ⟨i, 0, none⟩) w w' := by
  rcases hx with ⟨rfl, rfl, rfl, rfl, rfl⟩ | ⟨ad, g, rfl, rfl, h3, h4, h5, h6, h7⟩
  · refine (rasLent_nil _ w).mono ?_
    rintro x w' ⟨rfl, rfl⟩
    exact ⟨rfl, Tch.refl _ _⟩
  · refine (rasLent_any l ad c g cx w hr (fun h gl o e => by have := hb h gl o (by rw [e]); omega) hlen h5 h6 h7).mono ?_
    rintro x w' ⟨rfl, ht⟩
    exact ⟨rfl, ht.mono (fun i _ h => by subst h; exact ⟨h3, rfl⟩)⟩

theorem eq_bool {p : Prop} {b c : Bool} (hb : b = true ↔ p) (hc : c = true ↔ p) : b = c := by
  cases b <;> cases c <;> simp_all
set_option maxHeartbeats 2000000 in
set_option maxRecDepth 100000 in
theorem compares_law (a b : Val) (l m : List Val) (ro so : Option Addr) (c d : Nat) (w : World) (hg : HE w) (hw : HWd w) (ha : a.s.size ≤ 9223372036854775807) (hb : b.s.size ≤ 9223372036854775807)
    (hr : RowOf w ro l) (hs : RowOf w so m) (hrn : ro = none → l = [] ∧ c = 0) (hsn : so = none → m = [] ∧ d = 0) (hl : l.length * 32 ≤ 140737488351232) (hm : m.length * 32 ≤ 140737488351232) :
    Calls Tryd.prog 6 #[vA a.k a.n a.s, vA b.k b.n b.s, .slice ro l.length c, .slice so m.length d] w fun x w' => x = .returned (.bool true) ∧ Tch (fun _ => False) w w' := by
  obtain ⟨w0, hw0⟩ : ∃ w0, w0 = (w.alloc (.cells #[.int .i64 a.k, .int .i64 a.n, .string a.s] 23)).alloc (.cells #[.int .i64 b.k, .int .i64 b.n, .string b.s] 23) := ⟨_, rfl⟩
  obtain ⟨N, hN⟩ : ∃ N, N = w.heap.size := ⟨_, rfl⟩
  have hN0 : N + 2 = w0.heap.size := by rw [hw0, World.size_alloc, World.size_alloc, hN]
  have HBx : Hid (∀ W, Tch (fun i => N + 2 ≤ i) w0 W → (W.cell? ⟨N, 0, none⟩ = some (.int .i64 a.k) ∧ W.cell? ⟨N, 1, none⟩ = some (.int .i64 a.n) ∧ W.cell? ⟨N, 2, none⟩ = some (.string a.s)) ∧ W.cell? ⟨N + 1, 0, none⟩ = some (.int .i64 b.k) ∧ W.cell? ⟨N + 1, 1, none⟩ = some (.int .i64 b.n) ∧ W.cell? ⟨N + 1, 2, none⟩ = some (.string b.s)) := fun W t => by
    have t' : Tch (fun _ => False) w0 w0 := Tch.refl _ _
    have h := box_tch2 (by rw [hw0] at t'; exact t')
    rw [← hw0, ← hN] at h
    obtain ⟨⟨h0, h1, h2⟩, h3, h4, h5⟩ := h
    refine ⟨⟨?_, ?_, ?_⟩, ?_, ?_, ?_⟩
    · rw [t.cell (cell_lt h0) (by show ¬ N + 2 ≤ N; omega)]; exact h0
    · rw [t.cell (cell_lt h1) (by show ¬ N + 2 ≤ N; omega)]; exact h1
    · rw [t.cell (cell_lt h2) (by show ¬ N + 2 ≤ N; omega)]; exact h2
    · rw [t.cell (cell_lt h3) (by show ¬ N + 2 ≤ N + 1; omega)]; exact h3
    · rw [t.cell (cell_lt h4) (by show ¬ N + 2 ≤ N + 1; omega)]; exact h4
    · rw [t.cell (cell_lt h5) (by show ¬ N + 2 ≤ N + 1; omega)]; exact h5
  have T0 : Tch (fun _ => False) w w0 := by rw [hw0]; exact (Tch.alloc _ _ _).allocR _
  have Hr : Hid (∀ W, Tch (fun i => N + 2 ≤ i) w0 W → RowOf W ro l) := fun W t => hr.old2 T0 t (fun g h1 h => by omega)
  have Hs : Hid (∀ W, Tch (fun i => N + 2 ≤ i) w0 W → RowOf W so m) := fun W t => hs.old2 T0 t (fun g h1 h => by omega)
  have HK : Hid (Calls Tryd.prog 8 #[] w0 fun x w' => x = .returned (.bool true) ∧ Tch (fun _ => False) w0 w') := known_any w0 (hg.tch T0 (fun h => h)) (hw.tch T0 (fun h => h))
  have Hrb : Hid (l ≠ [] → ∀ g o, ro = some ⟨g, o, none⟩ → g < N + 2) := fun h g o e => by have := hr.lt h e; omega
  have Hsb : Hid (m ≠ [] → ∀ g o, so = some ⟨g, o, none⟩ → g < N + 2) := fun h g o e => by have := hs.lt h e; omega
  have Hrn : Hid (ro = none → l = [] ∧ c = 0) := hrn
  have Hsn : Hid (so = none → m = [] ∧ d = 0) := hsn
  have Hl : Hid (l.length * 32 ≤ 140737488351232) := hl
  have Hm : Hid (m.length * 32 ≤ 140737488351232) := hm
  have Ha : Hid (a.s.size ≤ 9223372036854775807) := ha
  have Hb : Hid (b.s.size ≤ 9223372036854775807) := hb
  obtain ⟨E, hE⟩ : ∃ E, E = cmpV a b := ⟨_, rfl⟩
  have Hc1 : Hid (∀ W, Calls Tryd.prog 16 #[vA a.k a.n a.s, vA b.k b.n b.s] W fun x w' => x = .returned (.int .i64 E) ∧ Tch (fun _ => False) W w') := fun W => by rw [hE]; exact compare_any a b W
  have Hc2 : Hid (∀ W, Calls Tryd.prog 20 #[vA a.k a.n a.s, vA b.k b.n b.s] W fun x w' => x = .returned (.int .i64 E) ∧ Tch (fun _ => False) W w') := fun W => by rw [hE]; exact rcompare_any a b W Ha.out Hb.out
  clear hg hw hr hs hrn hsn hl hm ha hb hE
  have HN0 : Hid (N + 2 = w0.heap.size) := hN0
  clear hN0
  go_enter Tryd.func6, Tryd.ntmps6
  go_wp2_with fail
  rw [← hw0]
  rw [← hN]
  have HNw : Hid (N = w.heap.size) := hN
  clear hw0 hN
  refine HK.out.mono ?_
  rintro x w1 ⟨rfl, t1⟩
  have T1 : Tch (fun i => N + 2 ≤ i) w0 w1 := no_mono t1
  clear HK t1
  go_wp2_with fail
  refine (lent_u l ro c w1 (Hr.out _ T1) Hrn.out Hl.out).mono ?_
  rintro x w2 ⟨xo, cx, rfl, L1, t2⟩
  have T2 : Tch (fun i => N + 2 ≤ i) w0 w2 := T1.trans' (no_mono t2)
  have L1' : LX (N + 2) w2 xo cx ro c l := L1.base (by have := T1.size; have := HN0.out; omega)
  have B1 : Hid (∀ i, xo = some ⟨i, 0, none⟩ → i < w2.heap.size) := fun i e => L1.lt e
  clear t2 L1
  go_wp2_with fail
  refine (lent_u m so d w2 (Hs.out _ T2) Hsn.out Hm.out).mono ?_
  rintro x w3 ⟨yo, cy, rfl, L2, t3⟩
  have T3 : Tch (fun i => N + 2 ≤ i) w0 w3 := T2.trans' (no_mono t3)
  have L3 : LX (N + 2) w3 xo cx ro c l := L1'.tch t3 (fun _ _ h => h)
  clear t3 L1'
  go_wp2_with fail
  refine (same_any l m xo yo cx cy w3 L3.row L2.row (by have := Hl.out; omega)).mono ?_
  rintro x w4 ⟨z, rfl, hz, q4, rfl⟩
  have HZ : Hid (z = true ↔ l = m) := hz
  have t4 : Tch (fun _ => False) w3 (w3.drewN q4) := (Tch.refl _ _).drewN q4
  obtain ⟨w4, hw4⟩ : ∃ w4, w4 = w3.drewN q4 := ⟨_, rfl⟩
  rw [← hw4] at t4 ⊢
  have T4 : Tch (fun i => N + 2 ≤ i) w0 w4 := T3.trans' (no_mono t4)
  have L4 : LX (N + 2) w4 xo cx ro c l := L3.tch t4 (fun _ _ h => h)
  have L5 : LX w2.heap.size w4 yo cy so d m := L2.tch t4 (fun _ _ h => h)
  clear hz hw4 t4 L3 L2
  go_wp2_with fail
  refine (asLent_u l ro c (N + 2) xo cx w4 L4 (Hr.out _ T4) Hrb.out Hl.out).mono ?_
  rintro x w5 ⟨rfl, t5⟩
  have T5 : Tch (fun i => N + 2 ≤ i) w0 w5 := T4.trans' (t5.mono (fun i _ h => h.1))
  have L6 : LX w2.heap.size w5 yo cy so d m := L5.tch t5 (fun i hi h => by have := B1.out i h.2; omega)
  clear t5 L5 L4 B1
  go_wp2_with fail
  refine (asLent_u m so d w2.heap.size yo cy w5 L6 (Hs.out _ T5) (fun h g o e => by have := Hsb.out h g o e; have := T2.size; have := HN0.out; omega) Hm.out).mono ?_
  rintro x w6 ⟨rfl, t6⟩
  have T6 : Tch (fun i => N + 2 ≤ i) w0 w6 := T5.trans' (t6.mono (fun i _ h => by have := T2.size; have := HN0.out; omega))
  clear t6 L6 T1 T2 T3 T4 T5
  have Hq1 : Hid (∀ W, Tch (fun i => N + 2 ≤ i) w0 W → Calls Tryd.prog 21 #[.slice ro l.length c, .slice so m.length d] W fun x w' => x = .returned (.bool z) ∧ Tch (fun _ => False) W w') := fun W t => by
    refine (rsame_any l m ro so c d W (Hr.out W t) (Hs.out W t) (by have := Hl.out; omega)).mono ?_
    rintro x w' ⟨b, rfl, hb, q, rfl⟩
    exact ⟨by rw [eq_bool hb HZ.out], (Tch.refl _ _).drewN q⟩
  have Hq2 : Hid (∀ W, Tch (fun i => N + 2 ≤ i) w0 W → Calls Tryd.prog 18 #[.slice ro l.length c, .slice ro l.length c] W fun x w' => x = .returned (.bool true) ∧ Tch (fun _ => False) W w') := fun W t => by
    refine (same_any l l ro ro c c W (Hr.out W t) (Hr.out W t) (by have := Hl.out; omega)).mono ?_
    rintro x w' ⟨b, rfl, hb, q, rfl⟩
    exact ⟨by rw [hb.2 rfl], (Tch.refl _ _).drewN q⟩
  clear Hr Hs Hrb Hsb Hrn Hsn Ha Hb
  go_wp2_with fail
  have HS : Hid (∀ W, Tch (fun i => N + 2 ≤ i) w0 W → Tch (fun i => N + 2 ≤ i) w0 W ∧ W.cell? ⟨N, 0, none⟩ = some (.int .i64 a.k) ∧ W.cell? ⟨N, 1, none⟩ = some (.int .i64 a.n) ∧ W.cell? ⟨N, 2, none⟩ = some (.string a.s) ∧ W.cell? ⟨N + 1, 0, none⟩ = some (.int .i64 b.k) ∧ W.cell? ⟨N + 1, 1, none⟩ = some (.int .i64 b.n) ∧ W.cell? ⟨N + 1, 2, none⟩ = some (.string b.s)) := fun W t => by
    obtain ⟨⟨h0, h1, h2⟩, h3, h4, h5⟩ := HBx.out W t
    exact ⟨t, h0, h1, h2, h3, h4, h5⟩
  go_region_held3 (fun W => Tch (fun i => N + 2 ≤ i) w0 W ∧ W.cell? ⟨N, 0, none⟩ = some (.int .i64 a.k) ∧ W.cell? ⟨N, 1, none⟩ = some (.int .i64 a.n) ∧ W.cell? ⟨N, 2, none⟩ = some (.string a.s) ∧ W.cell? ⟨N + 1, 0, none⟩ = some (.int .i64 b.k) ∧ W.cell? ⟨N + 1, 1, none⟩ = some (.int .i64 b.n) ∧ W.cell? ⟨N + 1, 2, none⟩ = some (.string b.s))
    ((refine HS.out _ ?_; first | assumption | exact Tch.drew T6))
    (first
      | (go_at_call 16; refine (Hc1.out _).mono ?_; rintro x v1 ⟨rfl, t1⟩; have V1 := Tch.trans' (show _ ∧ _ by assumption).1 (no_mono t1))
      | (go_at_call 20; refine (Hc2.out _).mono ?_; rintro x v2 ⟨rfl, t2⟩; have V2 := Tch.trans' V1 (no_mono t2))
      | (go_at_call 21; refine (Hq1.out _ V2).mono ?_; rintro x v3 ⟨rfl, t3⟩; have V3 := Tch.trans' V2 (no_mono t3))
      | (go_at_call 18; refine (Hq2.out _ V3).mono ?_; rintro x v4 ⟨rfl, t4⟩; have V4 := Tch.trans' V3 (no_mono t4)))
  go_wp2_with fail
  go_ret
  exact ⟨rfl, T0.trans V4 (fun i hi h => by have := HNw.out; omega)⟩
end Go.Proofs.YtnjbkkccofjmgaaDoor
