import Derived.Test.YtolamjipigfocaaCSt0
/- puts: a Put of both. -/
namespace Go.Proofs.Ytolamjipigfocaa
open Go.RowKit Go

/-- What puts leaves. -/
def PuOut (w : World) (o : Nat → Nat) (k cb rb : Nat) (R : Res) (w' : World) : Prop := ∃ o', CF w' o' k cb R.L R.g ∧ RF w' o' (k + 1) rb R.L R.g ∧ Ev (fun j => j = 4 ∨ j = k ∨ j = k + 1) w o w' o'
theorem lent_sl {w : World} {A : Nat} {l : List Col} (h : w.heap[A]? = some (.cells (ccl (lentC l)).toArray 43 (0, 0))) : SL w (some ⟨A, 0, none⟩) (ccl l) := fun _ => ⟨A, 0, rfl, by
  have h1 : At w A 0 (ccl (lentC l)) := blk_at h
  unfold lentC at h1
  rw [show ccl (l ++ _) = ccl l ++ _ from f3_append _ _ _ l _] at h1
  exact h1.left⟩
/-- A list that nobody turns. -/
def SLb (w : World) (o : Nat → Nat) (ao : Option Addr) (cs : List Value) : Prop := SL w ao cs ∧ (cs ≠ [] → ∀ g o', ao = some ⟨g, o', none⟩ → o g = 0 ∨ o g = 15)
theorem SLb.ev {K : Nat → Prop} {w w' : World} {o o' : Nat → Nat} {ao : Option Addr} {cs : List Value} (h : SLb w o ao cs) (e : Ev K w o w' o') (h0 : ¬ K 0) (h15 : ¬ K 15) : SLb w' o' ao cs := by
  have key : cs ≠ [] → ∀ g o2, ao = some ⟨g, o2, none⟩ → ¬ K (o g) := fun hc g o2 eg => by
    rcases h.2 hc g o2 eg with h1 | h1 <;> (rw [h1]; assumption)
  refine ⟨fun hc => ?_, fun hc g o2 eg => ?_⟩
  · obtain ⟨g, o2, eg, ha⟩ := h.1 hc
    exact ⟨g, o2, eg, ha.tch e.tch (fun _ => key hc g o2 eg)⟩
  · obtain ⟨g', o2', eg', ha⟩ := h.1 hc
    rw [eg'] at eg; injection eg with eg; injection eg with e1 e2; subst e1
    rw [e.old g' (ha.lt hc) (key hc g' o2' eg')]
    exact h.2 hc g' o2' eg'
set_option maxHeartbeats 4000000 in
set_option maxRecDepth 100000 in
theorem puts_any (w : World) (o : Nat → Nat) (k cb rb : Nat) (L : List Tbl) (gv : Int) (t : Tbl) (ao : Option Addr) (c : Nat) (cf : CF w o k cb L gv) (rf : RF w o (k + 1) rb L gv) (gi : GI L gv) (hk : 20 ≤ k) (hs : SLb w o ao (ccl t.cols)) (hno : ao = none → t.cols = [] ∧ c = 0) (hlen : t.cols.length ≤ 1048576) :
    Calls Try.prog 26 #[.agg #[.pointer (some ⟨cb, 0, none⟩), .pointer (some ⟨rb, 0, none⟩)], tA t.id t.ver t.nm (.slice ao t.cols.length c) t.key] w fun x w' => x = .returned (.bool true) ∧ PuOut w o k cb rb (putR L gv t) w' := by
  obtain ⟨m, hm⟩ : ∃ m, m = t.cols.length := ⟨_, rfl⟩
  obtain ⟨N, hN⟩ : ∃ N, N = w.heap.size := ⟨_, rfl⟩
  obtain ⟨R, hR⟩ : ∃ R, R = putR L gv t := ⟨_, rfl⟩
  obtain ⟨w0, hw0⟩ : ∃ w0, w0 = ((w.alloc (.cells #[.pointer (some ⟨cb, 0, none⟩), .pointer (some ⟨rb, 0, none⟩)] 28)).alloc (.cells #[.int .i64 t.id, .int .i64 t.ver, .string t.nm, .slice ao m c, .int .i64 t.key] 36)).alloc (.cells #[.int .i64 t.id, .int .i64 t.ver, .string t.nm, .slice ao m c, .int .i64 t.key] 36) := ⟨_, rfl⟩
  have t0 : Tch (fun _ => False) w w0 := by rw [hw0]; exact ((Tch.alloc _ _ _).allocR _).allocR _
  have hz0 : w0.heap.size = N + 3 := by rw [hw0, World.size_alloc, World.size_alloc, World.size_alloc, hN]
  have hx1 : w0.heap[N]? = some (.cells #[.pointer (some ⟨cb, 0, none⟩), .pointer (some ⟨rb, 0, none⟩)] 28 (0, 0)) := by
    rw [hw0, hN]
    exact ((Tch.alloc (fun _ => False) _ _).block _ (by simp; omega) (fun h => h)).trans (((Tch.alloc (fun _ => False) _ _).block _ (by simp) (fun h => h)).trans (alloc_new _ _))
  have hx2 : w0.heap[N + 1]? = some (.cells #[.int .i64 t.id, .int .i64 t.ver, .string t.nm, .slice ao m c, .int .i64 t.key] 36 (0, 0)) := by
    rw [hw0, hN, ← World.size_alloc]
    exact ((Tch.alloc (fun _ => False) _ _).block _ (by simp) (fun h => h)).trans (alloc_new _ _)
  have hx3 : w0.heap[N + 2]? = some (.cells #[.int .i64 t.id, .int .i64 t.ver, .string t.nm, .slice ao m c, .int .i64 t.key] 36 (0, 0)) := by
    have h1 := alloc_new ((w.alloc (.cells #[.pointer (some ⟨cb, 0, none⟩), .pointer (some ⟨rb, 0, none⟩)] 28)).alloc (.cells #[.int .i64 t.id, .int .i64 t.ver, .string t.nm, .slice ao m c, .int .i64 t.key] 36)) (.cells #[.int .i64 t.id, .int .i64 t.ver, .string t.nm, .slice ao m c, .int .i64 t.key] 36)
    rw [World.size_alloc, World.size_alloc, ← hN] at h1
    rw [hw0]; exact h1
  obtain ⟨o0, ho0⟩ : ∃ o0, o0 = ext w o 4 := ⟨_, rfl⟩
  have e0 : Ev (fun j => j = 4) w o w0 o0 := by rw [ho0]; exact Ev.quiet 4 t0
  have hl0 : ∀ i, N ≤ i → o0 i = 4 := fun i hi => by rw [ho0]; exact if_neg (by omega)
  have hs0 := hs.ev e0 (by omega) (by omega)
  have q1 : Calls Try.prog 16 #[.slice ao m c] w0 fun x w' => x = .returned (.slice (some ⟨N + 3, 0, none⟩) ((m + 2 : Nat)) (m + 2)) ∧ w'.heap[N + 3]? = some (.cells (ccl (lentC t.cols)).toArray 43 (0, 0)) ∧ Tch (fun _ => False) w0 w' := by
    have h1 := lent_any t.cols ao c w0 hs0.1 (fun e => (hno e).2) (by omega)
    rw [hz0, ← hm] at h1
    exact h1
  -- behind lent
  obtain ⟨Q1, hQ1⟩ : ∃ Q1 : World → Prop, Q1 = fun W => ∃ o1, W.heap[N]? = some (.cells #[.pointer (some ⟨cb, 0, none⟩), .pointer (some ⟨rb, 0, none⟩)] 28 (0, 0)) ∧ W.heap[N + 1]? = some (.cells #[.int .i64 t.id, .int .i64 t.ver, .string t.nm, .slice ao m c, .int .i64 t.key] 36 (0, 0)) ∧ W.heap[N + 2]? = some (.cells #[.int .i64 t.id, .int .i64 t.ver, .string t.nm, .slice (some ⟨N + 3, 0, none⟩) m (m + 2), .int .i64 t.key] 36 (0, 0)) ∧ W.heap[N + 3]? = some (.cells (ccl (lentC t.cols)).toArray 43 (0, 0)) ∧ (∀ i, N ≤ i → i < N + 4 → o1 i = 4) ∧ SLb W o1 ao (ccl t.cols) ∧ CF W o1 k cb L gv ∧ RF W o1 (k + 1) rb L gv ∧ Ev (fun j => j = 4 ∨ j = k ∨ j = k + 1) w o W o1 := ⟨_, rfl⟩
  have H1 : Hid (∀ w1, w1.heap[N + 3]? = some (.cells (ccl (lentC t.cols)).toArray 43 (0, 0)) → Tch (fun _ => False) w0 w1 → Q1 (w1.setCell ⟨N + 2, 3, none⟩ (.slice (some ⟨N + 3, 0, none⟩) m (m + 2)))) := fun w1 hA t1 => by
    rw [hQ1]
    have e1 := Ev.quiet (o := o0) 4 t1
    obtain ⟨o1, ho1⟩ : ∃ o1, o1 = ext w0 o0 4 := ⟨_, rfl⟩
    rw [← ho1] at e1
    have hl1 : ∀ i, N ≤ i → o1 i = 4 := fun i hi => by
      rw [ho1]; show ext w0 o0 4 i = 4
      unfold ext
      split
      · exact hl0 i hi
      · rfl
    have b3 : w1.heap[N + 2]? = some (.cells #[.int .i64 t.id, .int .i64 t.ver, .string t.nm, .slice ao m c, .int .i64 t.key] 36 (0, 0)) := by rw [t1.block (N + 2) (by omega) (fun h => h)]; exact hx3
    have tS : Tch (fun i => i = N + 2) w1 (w1.setCell ⟨N + 2, 3, none⟩ (.slice (some ⟨N + 3, 0, none⟩) m (m + 2))) := Tch.setCell _ _ _ _ rfl
    have e2 : Ev (fun j => j = 4) w1 o1 (w1.setCell ⟨N + 2, 3, none⟩ (.slice (some ⟨N + 3, 0, none⟩) m (m + 2))) o1 := ⟨tS.mono (fun i _ hi => hl1 i (by have : i = N + 2 := hi; omega)), fun _ _ _ => rfl, fun _ _ h => h, fun i hi hl => by simp at hl; omega⟩
    have e12 := e1.trans e2
    refine ⟨o1, ?_, ?_, blk_set b3 _, ?_, fun i hi _ => hl1 i hi, hs0.ev e12 (by omega) (by omega), (cf.ev e0 (by omega)).ev e12 (by omega), (rf.ev e0 (by omega)).ev e12 (by omega), (e0.trans e12).mono (fun j hj => Or.inl hj)⟩
    · rw [tS.block N (by have := t1.size; omega) (by omega), t1.block N (by omega) (fun h => h)]; exact hx1
    · rw [tS.block (N + 1) (by have := t1.size; omega) (by omega), t1.block (N + 1) (by omega) (fun h => h)]; exact hx2
    · rw [tS.block (N + 3) (blk_lt hA) (by omega)]; exact hA
  obtain ⟨Q2, hQ2⟩ : ∃ Q2 : World → Prop, Q2 = fun W => ∃ o1, W.heap[N]? = some (.cells #[.pointer (some ⟨cb, 0, none⟩), .pointer (some ⟨rb, 0, none⟩)] 28 (0, 0)) ∧ W.heap[N + 1]? = some (.cells #[.int .i64 t.id, .int .i64 t.ver, .string t.nm, .slice ao m c, .int .i64 t.key] 36 (0, 0)) ∧ W.heap[N + 3]? = some (.cells (ccl (lentC t.cols)).toArray 43 (0, 0)) ∧ (∀ i, N ≤ i → i < N + 4 → o1 i = 4) ∧ SLb W o1 ao (ccl t.cols) ∧ CF W o1 k cb R.L R.g ∧ RF W o1 (k + 1) rb L gv ∧ Ev (fun j => j = 4 ∨ j = k ∨ j = k + 1) w o W o1 := ⟨_, rfl⟩
  have Hp1 : Hid (∀ W, Q1 W → Calls Try.prog 49 #[.pointer (some ⟨cb, 0, none⟩), tA t.id t.ver t.nm (.slice (some ⟨N + 3, 0, none⟩) m (m + 2)) t.key] W fun x W' => x = .returned (.int .i64 R.E) ∧ Q2 W') := fun W hW => by
    rw [hQ1] at hW
    obtain ⟨o1, a1, a2, a3, a4, a5, a6, a7, a8, a9⟩ := hW
    have h9 : ∀ g o2, some (⟨N + 3, 0, none⟩ : Addr) = some ⟨g, o2, none⟩ → t.cols ≠ [] → g ≠ cb := fun g o2 e _ e2 => by
      have e3 : N + 3 = g := by simpa using congrArg (fun z : Option Addr => (z.map (·.block)).getD 0) e
      obtain ⟨P', to', tc', hca⟩ := a7
      have h1 := hca.ob
      rw [← e2, ← e3, a5 (N + 3) (by omega) (by omega)] at h1
      omega
    have h10 := put_x (k := k) a7 gi t (some ⟨N + 3, 0, none⟩) (m + 2) (lent_sl a4) (fun e => by cases e) (by omega) (by omega) h9
    rw [← hm, ← hR] at h10
    refine h10.mono ?_
    rintro x W' ⟨rfl, hc, e⟩
    rw [hQ2]
    have key : ∀ i, N ≤ i → i < N + 4 → i < W.heap.size → ext W o1 k i = 4 := fun i h1 h2 h3 => by
      unfold ext; rw [if_pos h3]; exact a5 i h1 h2
    have hl4 := blk_lt a4
    refine ⟨rfl, ext W o1 k, ?_, ?_, ?_, fun i h1 h2 => key i h1 h2 (by omega), a6.ev e (by omega) (by omega), hc, a8.ev e (by omega), a9.trans (e.mono (fun j hj => Or.inr (Or.inl hj)))⟩
    · rw [e.tch.block N (blk_lt a1) (by rw [a5 N (by omega) (by omega)]; omega)]; exact a1
    · rw [e.tch.block (N + 1) (blk_lt a2) (by rw [a5 (N + 1) (by omega) (by omega)]; omega)]; exact a2
    · rw [e.tch.block (N + 3) hl4 (by rw [a5 (N + 3) (by omega) (by omega)]; omega)]; exact a4
  obtain ⟨Q3, hQ3⟩ : ∃ Q3 : World → Prop, Q3 = fun W => ∃ o1, W.heap[N]? = some (.cells #[.pointer (some ⟨cb, 0, none⟩), .pointer (some ⟨rb, 0, none⟩)] 28 (0, 0)) ∧ W.heap[N + 1]? = some (.cells #[.int .i64 t.id, .int .i64 t.ver, .string t.nm, .slice ao m c, .int .i64 t.key] 36 (0, 0)) ∧ SLb W o1 ao (ccl t.cols) ∧ CF W o1 k cb R.L R.g ∧ RF W o1 (k + 1) rb L gv ∧ Ev (fun j => j = 4 ∨ j = k ∨ j = k + 1) w o W o1 := ⟨_, rfl⟩
  have Hp2 : Hid (∀ W, Q2 W → Calls Try.prog 18 #[.slice (some ⟨N + 3, 0, none⟩) (m + 2) (m + 2), .slice ao m c] W fun x W' => x = .returned (.bool true) ∧ Q3 W') := fun W hW => by
    rw [hQ2] at hW
    obtain ⟨o1, a1, a2, a4, a5, a6, a7, a8, a9⟩ := hW
    have h10 := back_any t.cols ao c (N + 3) W a6.1 a4 (by omega)
    rw [← hm] at h10
    refine h10.mono ?_
    rintro x W' ⟨rfl, t'⟩
    have e : Ev (fun j => j = 4) W o1 W' (ext W o1 4) := Ev.own1 t' (fun i _ hi => by rw [show i = N + 3 from hi]; exact a5 (N + 3) (by omega) (by omega))
    rw [hQ3]
    refine ⟨rfl, _, ?_, ?_, a6.ev e (by omega) (by omega), a7.ev e (by omega), a8.ev e (by omega), a9.trans (e.mono (fun j hj => Or.inl hj))⟩
    · rw [t'.block N (blk_lt a1) (by omega)]; exact a1
    · rw [t'.block (N + 1) (blk_lt a2) (by omega)]; exact a2
  have Hp3 : Hid (∀ W, Q3 W → Calls Try.prog 50 #[.pointer (some ⟨rb, 0, none⟩), tA t.id t.ver t.nm (.slice ao m c) t.key] W fun x W' => x = .returned (.int .i64 R.E) ∧ PuOut w o k cb rb R W') := fun W hW => by
    rw [hQ3] at hW
    obtain ⟨o1, a1, a2, a6, a7, a8, a9⟩ := hW
    have h10 := rput_x (k := k + 1) a8 gi t ao c a6.1 hno
    rw [← hm, ← hR] at h10
    refine h10.mono ?_
    rintro x W' ⟨rfl, hc, e⟩
    exact ⟨rfl, _, a7.ev e (by omega), hc, a9.trans (e.mono (fun j hj => Or.inr (Or.inr hj)))⟩
  have Hc1 : Hid (∀ W, Q1 W → W.cell? ⟨N, 0, none⟩ = some (.pointer (some ⟨cb, 0, none⟩)) ∧ W.cell? ⟨N + 2, 0, none⟩ = some (.int .i64 t.id) ∧ W.cell? ⟨N + 2, 1, none⟩ = some (.int .i64 t.ver) ∧ W.cell? ⟨N + 2, 2, none⟩ = some (.string t.nm) ∧ W.cell? ⟨N + 2, 3, none⟩ = some (.slice (some ⟨N + 3, 0, none⟩) m (m + 2)) ∧ W.cell? ⟨N + 2, 4, none⟩ = some (.int .i64 t.key)) := fun W hW => by
    rw [hQ1] at hW
    obtain ⟨o1, a1, a2, a3, _⟩ := hW
    exact ⟨by rw [blk_cell a1]; rfl, by rw [blk_cell a3]; rfl, by rw [blk_cell a3]; rfl, by rw [blk_cell a3]; rfl, by rw [blk_cell a3]; rfl, by rw [blk_cell a3]; rfl⟩
  have Hc2 : Hid (∀ W, Q2 W → W.cell? ⟨N + 1, 3, none⟩ = some (.slice ao m c)) := fun W hW => by
    rw [hQ2] at hW
    obtain ⟨o1, a1, a2, _⟩ := hW
    rw [blk_cell a2]; rfl
  have Hc3 : Hid (∀ W, Q3 W → W.cell? ⟨N, 1, none⟩ = some (.pointer (some ⟨rb, 0, none⟩)) ∧ W.cell? ⟨N + 1, 0, none⟩ = some (.int .i64 t.id) ∧ W.cell? ⟨N + 1, 1, none⟩ = some (.int .i64 t.ver) ∧ W.cell? ⟨N + 1, 2, none⟩ = some (.string t.nm) ∧ W.cell? ⟨N + 1, 3, none⟩ = some (.slice ao m c) ∧ W.cell? ⟨N + 1, 4, none⟩ = some (.int .i64 t.key)) := fun W hW => by
    rw [hQ3] at hW
    obtain ⟨o1, a1, a2, _⟩ := hW
    exact ⟨by rw [blk_cell a1]; rfl, by rw [blk_cell a2]; rfl, by rw [blk_cell a2]; rfl, by rw [blk_cell a2]; rfl, by rw [blk_cell a2]; rfl, by rw [blk_cell a2]; rfl⟩
  have Hx : Hid (∀ w1, Tch (fun _ => False) w0 w1 → w1.cell? ⟨N + 1, 3, none⟩ = some (.slice ao m c) ∧ w1.cell? ⟨N + 2, 3, none⟩ = some (.slice ao m c) ∧ w1.frozen? ⟨N + 2, 3, none⟩ = false) := fun w1 t1 => by
    have b2 : w1.heap[N + 1]? = some (.cells #[.int .i64 t.id, .int .i64 t.ver, .string t.nm, .slice ao m c, .int .i64 t.key] 36 (0, 0)) := by rw [t1.block (N + 1) (by omega) (fun h => h)]; exact hx2
    have b3 : w1.heap[N + 2]? = some (.cells #[.int .i64 t.id, .int .i64 t.ver, .string t.nm, .slice ao m c, .int .i64 t.key] 36 (0, 0)) := by rw [t1.block (N + 2) (by omega) (fun h => h)]; exact hx3
    exact ⟨by rw [blk_cell b2]; rfl, by rw [blk_cell b3]; rfl, blk_frozen b3 3⟩
  have Hx0 : Hid (w0.cell? ⟨N + 1, 3, none⟩ = some (.slice ao m c)) := (Hx.out w0 (Tch.refl _ _)).1
  have Hw0 : Hid _ := hw0
  have HN : Hid (N = w.heap.size) := hN
  have hmI : (m : Int) ≤ 1048576 := by omega
  have hEE : (R.E == R.E) = true := by simp
  have i3 := Hx0.out
  rw [hw0, hN] at i3
  rw [← hR, ← hm]
  clear cf rf gi hs hno hlen hm hw0 hN t0 hz0 hx1 hx2 hx3 ho0 e0 hl0 hs0 hQ1 hQ2 hQ3 hR
  go_enter Try.func26, Try.ntmps26
  go_wp2_with fail
  have hw0 := Hw0.out
  rw [← hw0]
  rw [← HN.out]
  clear hw0 i3
  refine q1.mono ?_
  rintro x w1 ⟨rfl, hA, t1⟩
  have H2 : Hid (Q1 (w1.setCell ⟨N + 2, 3, none⟩ (.slice (some ⟨N + 3, 0, none⟩) m (m + 2)))) := H1.out w1 hA t1
  obtain ⟨j1, j2, j3⟩ := Hx.out w1 t1
  obtain ⟨wS, hwS⟩ : ∃ wS, wS = w1.setCell ⟨N + 2, 3, none⟩ (.slice (some ⟨N + 3, 0, none⟩) m (m + 2)) := ⟨_, rfl⟩
  rw [← hwS] at H2
  obtain ⟨p0, p1, p2, p3, p4, p5⟩ := Hc1.out wS H2.out
  have q2 := Hp1.out wS H2.out
  have HwS : Hid _ := hwS
  rw [hwS] at p0 p1 p2 p3 p4 p5
  clear q1 hA t1 hwS H1
  go_wp2_with fail
  have hwS := HwS.out
  rw [← hwS]
  clear hwS p0 p1 p2 p3 p4 p5 j1 j2 j3
  refine q2.mono ?_
  rintro x w3 ⟨rfl, hq3⟩
  have H3 : Hid (Q2 w3) := hq3
  have p1 := Hc2.out w3 H3.out
  have q3 := Hp2.out w3 H3.out
  clear q2 hq3
  go_wp2_with fail
  refine q3.mono ?_
  rintro x w4 ⟨rfl, hq4⟩
  have H4 : Hid (Q3 w4) := hq4
  clear q3 hq4 p1
  obtain ⟨p0, p1, p2, p3, p4, p5⟩ := Hc3.out w4 H4.out
  have q4 := Hp3.out w4 H4.out
  go_wp2_with fail
  refine q4.mono ?_
  rintro x w5 ⟨rfl, hq5⟩
  have HF : Hid _ := hq5
  clear q4 hq5 p0 p1 p2 p3 p4 p5
  go_wp2_with fail
  go_ret
  exact ⟨rfl, HF.out⟩
end Go.Proofs.Ytolamjipigfocaa
