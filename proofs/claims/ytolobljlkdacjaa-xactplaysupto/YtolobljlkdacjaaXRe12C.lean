import Derived.Test.YtolobljlkdacjaaXRe7
/- The document's manager: Sees. -/
namespace Go.Proofs.Ytolobljlkdacjaa
open Go.RowKit Go Go.Sort

set_option maxHeartbeats 1000000 in
theorem rsees_none (b : Nat) (ao : Option Addr) (c : Nat) (m : Mg) (L : List Nm) (w : World) (h : NR w b ao c L) (hm : Rel m L) (mn mx : Int) (l : List Int) (lo : Option Addr) (lc : Nat) (hl : l.length ≤ 9223372036854775807) (hI : IR w lo l) (own x : Int) (hf : fnd m.tx x = none) :
    Calls Try.prog 76 #[.pointer (some ⟨b, 0, none⟩), .agg #[.int .i64 mn, .int .i64 mx, .slice lo l.length lc], .int .i64 own, .int .i64 x] w fun y w' => y = .returned (.bool (m.sees mn mx l own x)) ∧ Tch (fun _ => False) w w' := by
  have _u : IR w lo l ∧ l.length ≤ 9223372036854775807 := ⟨hI, hl⟩
  clear _u
  obtain ⟨N, hN⟩ : ∃ N, N = w.heap.size := ⟨_, rfl⟩
  obtain ⟨nl, hnl⟩ : ∃ nl, nl = l.length := ⟨_, rfl⟩
  rw [← hnl] at hl ⊢
  have Hnl : Hid (nl = l.length) := hnl
  obtain ⟨w0, hw0⟩ : ∃ w0, w0 = w.alloc (.cells #[.int .i64 mn, .int .i64 mx, .slice lo nl lc] 36) := ⟨_, rfl⟩
  have t0 : Tch (fun _ => False) w w0 := by rw [hw0]; exact Tch.alloc _ _ _
  have hY0 : w0.heap[N]? = some (.cells #[.int .i64 mn, .int .i64 mx, .slice lo nl lc] 36 (0, 0)) := by rw [hw0, hN]; exact alloc_new _ _
  have Hw0 : Hid _ := hw0
  have HN : Hid (N = w.heap.size) := hN
  have HT0 : Hid (Tch (fun _ => False) w w0) := t0
  have q := rat_any b ao c L x w0 (h.no t0) hm.len
  unfold posZ at q
  rw [hm.no x hf] at q
  simp only [] at q
  have HS : Hid (m.sees mn mx l own x = (decide (1 ≤ x) && decide (x < mn))) := by show _ = _; simp [Mg.sees, hf]
  have d0 : w0.cell? ⟨N, 0, none⟩ = some (.int .i64 mn) := by rw [blk_cell hY0]; rfl
  obtain ⟨r, hr⟩ : ∃ r, r = m.sees mn mx l own x := ⟨_, rfl⟩
  rw [← hr] at HS ⊢
  clear h hm hf hI hw0 hN t0 hY0 hnl hr
  by_cases h1 : 1 ≤ x
  · have HS' : Hid (r = decide (x < mn)) := by show _ = _; rw [HS.out]; simp [h1]
    have h1' : x ≥ 1 := h1
    go_enter Try.func76, Try.ntmps76
    go_wp2_with fail
    have hw0 := Hw0.out
    rw [← hw0, ← HN.out]
    clear hw0
    refine q.mono ?_
    rintro y wy ⟨rfl, hwy⟩
    obtain rfl := hwy.symm
    clear q
    go_wp2_with fail
    go_ret
    exact ⟨by (rw [HS'.out]) <;> rfl, HT0.out⟩
  · have HS' : Hid (r = false) := by show _ = _; rw [HS.out]; simp [h1]
    have h1' : ¬ x ≥ 1 := h1
    go_enter Try.func76, Try.ntmps76
    go_wp2_with fail
    have hw0 := Hw0.out
    rw [← hw0, ← HN.out]
    clear hw0
    refine q.mono ?_
    rintro y wy ⟨rfl, hwy⟩
    obtain rfl := hwy.symm
    clear q
    go_wp2_with fail
    go_ret
    exact ⟨by (rw [HS'.out]) <;> rfl, HT0.out⟩
set_option maxHeartbeats 1000000 in
theorem rsees_same (b : Nat) (ao : Option Addr) (c : Nat) (m : Mg) (L : List Nm) (w : World) (h : NR w b ao c L) (hm : Rel m L) (mn mx : Int) (l : List Int) (lo : Option Addr) (lc : Nat) (hl : l.length ≤ 9223372036854775807) (hI : IR w lo l) (own x : Int) (t : Tx) (i : Int) (hf : fnd m.tx x = some (t, i)) (u : Tx) (io : Int) (ho : fnd m.tx own = some (u, io)) (hux : u.x = t.x) :
    Calls Try.prog 76 #[.pointer (some ⟨b, 0, none⟩), .agg #[.int .i64 mn, .int .i64 mx, .slice lo l.length lc], .int .i64 own, .int .i64 x] w fun y w' => y = .returned (.bool (m.sees mn mx l own x)) ∧ Tch (fun _ => False) w w' := by
  have _u : IR w lo l ∧ l.length ≤ 9223372036854775807 := ⟨hI, hl⟩
  clear _u
  obtain ⟨N, hN⟩ : ∃ N, N = w.heap.size := ⟨_, rfl⟩
  obtain ⟨nl, hnl⟩ : ∃ nl, nl = l.length := ⟨_, rfl⟩
  rw [← hnl] at hl ⊢
  have Hnl : Hid (nl = l.length) := hnl
  obtain ⟨w0, hw0⟩ : ∃ w0, w0 = w.alloc (.cells #[.int .i64 mn, .int .i64 mx, .slice lo nl lc] 36) := ⟨_, rfl⟩
  have t0 : Tch (fun _ => False) w w0 := by rw [hw0]; exact Tch.alloc _ _ _
  have hY0 : w0.heap[N]? = some (.cells #[.int .i64 mn, .int .i64 mx, .slice lo nl lc] 36 (0, 0)) := by rw [hw0, hN]; exact alloc_new _ _
  have Hw0 : Hid _ := hw0
  have HN : Hid (N = w.heap.size) := hN
  have HT0 : Hid (Tch (fun _ => False) w w0) := t0
  obtain ⟨j, a, f1, f2, f3, -⟩ := hm.yes _ _ _ hf
  have q := rat_any b ao c L x w0 (h.no t0) hm.len
  unfold posZ at q
  rw [f1] at q
  simp only [] at q
  have htm := (fnd_mem hf).1
  have hft := hm.wf.fnd_tx htm
  obtain ⟨jt, at', g1, g2, g3, -⟩ := hm.yes _ _ _ hft
  obtain ⟨-, ean, -⟩ := hm.root hft g1 g2
  have q2 := rtop_any b ao c m L w0 (h.no t0) hm x t i hf j f1 jt g1
  have q3 := rat_any b ao c L own w0 (h.no t0) hm.len
  unfold posZ at q3
  obtain ⟨jo, ao', k1, k2, k3, -⟩ := hm.yes _ _ _ ho
  rw [k1] at q3
  simp only [] at q3
  have hum := (fnd_mem ho).1
  obtain ⟨ju, au, l1, l2, l3, -⟩ := hm.yes _ _ _ (hm.wf.fnd_tx hum)
  have q4 := rtop_any b ao c m L w0 (h.no t0) hm own u io ho jo k1 ju l1
  have q5 := rstate_any b ao c m L w0 (h.no t0) hm x
  have e := hm.wf.uniq u hum t htm hux
  subst e
  rw [g1] at l1
  injection l1 with l1
  subst l1
  have HS : Hid (m.sees mn mx l own x = decide (m.state x ≠ 4)) := by show _ = _; simp [Mg.sees, Mg.state, hf, ho, sameTx]
  obtain ⟨r, hr⟩ : ∃ r, r = m.sees mn mx l own x := ⟨_, rfl⟩
  rw [← hr] at HS ⊢
  obtain ⟨s, hs⟩ : ∃ s, s = m.state x := ⟨_, rfl⟩
  rw [← hs] at q5 HS
  have HD : Hid (∀ nq, Tch (fun _ => False) w (w0.drewN nq)) := fun nq => t0.trans' (drewN_tch w0 nq)
  clear h hm hf hI hw0 hN t0 hY0 hnl f1 f2 f3 g1 g2 g3 htm hft ean k1 k2 k3 hum l2 l3 ho hr hs hux
  go_enter Try.func76, Try.ntmps76
  go_wp2_with fail
  have hw0 := Hw0.out
  rw [← hw0, ← HN.out]
  clear hw0
  refine q.mono ?_
  rintro y wy ⟨rfl, hwy⟩
  obtain rfl := hwy.symm
  clear q
  go_wp2_with fail
  refine q2.mono ?_
  rintro y wy ⟨rfl, hwy⟩
  obtain rfl := hwy.symm
  clear q2
  go_wp2_with fail
  refine q3.mono ?_
  rintro y wy ⟨rfl, hwy⟩
  obtain rfl := hwy.symm
  clear q3
  go_wp2_with fail
  refine q4.mono ?_
  rintro y wy ⟨rfl, hwy⟩
  obtain rfl := hwy.symm
  clear q4
  go_wp2_with fail
  refine q5.mono ?_
  rintro y wz ⟨rfl, nq, hwz⟩
  have HDz : Hid (Tch (fun _ => False) w wz) := by rw [hwz]; exact HD.out nq
  clear q5 hwz
  by_cases h4 : s = 4
  · have HS' : Hid (r = false) := by show _ = _; rw [HS.out]; simp [h4]
    subst h4
    go_wp2_with fail
    go_ret
    exact ⟨by (rw [HS'.out]) <;> rfl, HDz.out⟩
  · have HS' : Hid (r = true) := by show _ = _; rw [HS.out]; simp [h4]
    have e4 : ((s : Int) == 4) = false := beq_eq_false_iff_ne.2 (by omega)
    have e4' : ((s : Int) != 4) = true := by rw [bne, e4]; rfl
    go_wp2_with fail
    go_ret
    exact ⟨by (rw [HS'.out]) <;> rfl, HDz.out⟩
end Go.Proofs.Ytolobljlkdacjaa
/- The document's manager: Sees. -/
namespace Go.Proofs.Ytolobljlkdacjaa
open Go.RowKit Go Go.Sort

set_option maxHeartbeats 1000000 in
set_option maxRecDepth 100000 in
theorem rsees_alone (b : Nat) (ao : Option Addr) (c : Nat) (m : Mg) (L : List Nm) (w : World) (h : NR w b ao c L) (hm : Rel m L) (mn mx : Int) (l : List Int) (lo : Option Addr) (lc : Nat) (hl : l.length ≤ 9223372036854775807) (hI : IR w lo l) (own x : Int) (t : Tx) (i : Int) (hf : fnd m.tx x = some (t, i)) (ho : fnd m.tx own = none) :
    Calls Try.prog 76 #[.pointer (some ⟨b, 0, none⟩), .agg #[.int .i64 mn, .int .i64 mx, .slice lo l.length lc], .int .i64 own, .int .i64 x] w fun y w' => y = .returned (.bool (m.sees mn mx l own x)) ∧ Tch (fun _ => False) w w' := by
  obtain ⟨N, hN⟩ : ∃ N, N = w.heap.size := ⟨_, rfl⟩
  obtain ⟨nl, hnl⟩ : ∃ nl, nl = l.length := ⟨_, rfl⟩
  rw [← hnl] at hl ⊢
  have Hnl : Hid (nl = l.length) := hnl
  obtain ⟨w0, hw0⟩ : ∃ w0, w0 = w.alloc (.cells #[.int .i64 mn, .int .i64 mx, .slice lo nl lc] 36) := ⟨_, rfl⟩
  have t0 : Tch (fun _ => False) w w0 := by rw [hw0]; exact Tch.alloc _ _ _
  have hY0 : w0.heap[N]? = some (.cells #[.int .i64 mn, .int .i64 mx, .slice lo nl lc] 36 (0, 0)) := by rw [hw0, hN]; exact alloc_new _ _
  have Hw0 : Hid _ := hw0
  have HN : Hid (N = w.heap.size) := hN
  have HT0 : Hid (Tch (fun _ => False) w w0) := t0
  obtain ⟨j, a, f1, f2, f3, -⟩ := hm.yes _ _ _ hf
  have q := rat_any b ao c L x w0 (h.no t0) hm.len
  unfold posZ at q
  rw [f1] at q
  simp only [] at q
  have htm := (fnd_mem hf).1
  have hft := hm.wf.fnd_tx htm
  obtain ⟨jt, at', g1, g2, g3, -⟩ := hm.yes _ _ _ hft
  obtain ⟨-, ean, -⟩ := hm.root hft g1 g2
  have q2 := rtop_any b ao c m L w0 (h.no t0) hm x t i hf j f1 jt g1
  have q3 := rat_any b ao c L own w0 (h.no t0) hm.len
  unfold posZ at q3
  rw [hm.no own ho] at q3
  simp only [] at q3
  have hsees : m.sees mn mx l own x = (decide (m.state x = 3) && (decide ((t.x : Int) < mx) && !decide ((t.x : Int) ∈ l))) := by simp [Mg.sees, Mg.state, hf, ho, sameTx]
  have q5 : ∀ q, Calls Try.prog 10 #[.pointer (some ⟨b, 0, none⟩), .int .i64 x] (w0.drewN q) fun e w'' => e = .returned (.int .i64 (m.state x)) ∧ ∃ m, w'' = w0.drewN m := fun q => (rstate_any b ao c m L (w0.drewN q) ((h.no t0).dr q) hm x).mono (fun e w' ⟨he, q', hq⟩ => ⟨he, q + q', by rw [hq]; exact World.drewN_drewN _ _ _⟩)
  have HS : Hid (m.sees mn mx l own x = (decide (m.state x = 3) && (decide ((t.x : Int) < mx) && !decide ((t.x : Int) ∈ l)))) := hsees
  clear hsees
  obtain ⟨r, hr⟩ : ∃ r, r = m.sees mn mx l own x := ⟨_, rfl⟩
  rw [← hr] at HS ⊢
  obtain ⟨s, hs⟩ : ∃ s, s = m.state x := ⟨_, rfl⟩
  rw [← hs] at q5 HS
  obtain ⟨n, hn⟩ : ∃ n, n = L.length := ⟨_, rfl⟩
  have hL := hm.len
  rw [← hn] at hL
  have hjt : (jt : Int) < n := by have := (List.getElem?_eq_some_iff.1 g2).1; omega
  obtain ⟨g, rfl, -⟩ := h.el jt at' g2
  obtain ⟨X, hX⟩ : ∃ X : Nat, X = t.x := ⟨_, rfl⟩
  rw [← hX] at HS
  have HC : Hid (∀ nq, (w0.drewN nq).cell? ⟨b, 0, none⟩ = some (.slice (some ⟨g, 0, none⟩) n c) ∧ (w0.drewN nq).cell? ⟨g, jt * 6, none⟩ = some (.int .i64 X) ∧ (w0.drewN nq).cell? ⟨N, 1, none⟩ = some (.int .i64 mx) ∧ (w0.drewN nq).cell? ⟨N, 2, none⟩ = some (.slice lo nl lc) ∧ IR (w0.drewN nq) lo l ∧ Tch (fun _ => False) w (w0.drewN nq)) := fun nq => by
    have tq := drewN_tch w0 nq
    have hh := (h.no t0).dr nq
    have hy := (tq.block N (blk_lt hY0) (fun h => h)).trans hY0
    obtain ⟨g', e, c0, -⟩ := hh.el jt at' g2
    obtain rfl : g = g' := by injection e with e; injection e
    refine ⟨by rw [hn]; exact hh.c0, by rw [c0, ean, hX], by rw [blk_cell hy]; rfl, by rw [blk_cell hy]; rfl, hI.no (t0.trans' tq), t0.trans' tq⟩
  obtain ⟨b0, c0, d1, d2, -, -⟩ := HC.out 0
  change w0.cell? _ = _ at b0
  change w0.cell? _ = _ at c0
  change w0.cell? _ = _ at d1
  change w0.cell? _ = _ at d2
  clear h hm hf hI hw0 hN t0 hY0 hnl f1 f2 f3 g1 g2 g3 htm hft ean ho hr hs hn hX
  go_enter Try.func76, Try.ntmps76
  go_wp2_with fail
  have hw0 := Hw0.out
  rw [← hw0, ← HN.out]
  clear hw0
  refine q.mono ?_
  rintro y wy ⟨rfl, hwy⟩
  obtain rfl := hwy.symm
  clear q
  go_wp2_with fail
  refine q2.mono ?_
  rintro y wy ⟨rfl, hwy⟩
  obtain rfl := hwy.symm
  clear q2
  go_wp2_with fail
  refine q3.mono ?_
  rintro y wy ⟨rfl, hwy⟩
  obtain rfl := hwy.symm
  clear q3
  go_wp2_with fail
  refine wp_region_quiet_lit (by kernel_rfl) (by kernel_rfl) ?_
  by_cases hs3 : s = 3
  · subst hs3
    by_cases hge : (X : Int) < mx
    · have hge' : ¬ (X : Int) ≥ mx := by omega
      have hge2 : ¬ mx ≤ (X : Int) := by omega
      have HS1 : Hid (r = !decide ((X : Int) ∈ l)) := by show _ = _; rw [HS.out]; simp [hge]
      repeat (first | go_big_quiet_step (fail) | go_big_quiet_step ((go_at_call 10; exact q5 _)))
      refine wpQuiet_nil ?_
      rintro w1 ⟨nq, hw1⟩
      obtain ⟨b0', c0', d1', d2', -, -⟩ := HC.out nq
      rw [← hw1] at b0' c0' d1' d2'
      have HW1 : Hid (∃ nq, w1 = w0.drewN nq) := ⟨nq, hw1⟩
      clear hw1 q5 b0 c0 d1 d2
      go_wp2_with fail
      go_loopw [12] (fun v wr => ∃ k : Nat, v = .int .i64 k ∧ k ≤ nl ∧ Hid (∃ nq, wr = w0.drewN nq) ∧ Hid (∀ jj y, jj < k → l[jj]? = some y → y ≠ (X : Int))) (fun v _ => nl - (intOf v).toNat)
      case atStart => exact ⟨0, rfl, by omega, HW1, fun _ _ h => by omega⟩
      case round =>
        obtain ⟨k, rfl, hk, HWr, HK⟩ := hrel
        obtain ⟨nq', hwr⟩ := HWr.out
        obtain ⟨b9, c9, d8, d9, hir, tw⟩ := HC.out nq'
        rw [← hwr] at b9 c9 d9 hir tw d8
        have HTw : Hid _ := tw
        clear b0' c0' d1' d2' tw hwr
        by_cases hlt : (k : Int) < nl
        · have hkl : k < l.length := by have := Hnl.out; omega
          obtain ⟨y, hy⟩ : ∃ y, l[k]? = some y := ⟨_, List.getElem?_eq_getElem hkl⟩
          obtain ⟨gl, ol, rfl, hc⟩ := hir k y hy
          by_cases he : y = (X : Int)
          · have HE : Hid (r = false) := by
              show _ = _
              rw [HS1.out]
              have : (X : Int) ∈ l := by rw [← he]; exact List.mem_of_getElem? hy
              simp [this]
            subst he
            clear hy hir hkl
            go_wp2_with fail
            refine wp_region_quiet_lit (by kernel_rfl) (by kernel_rfl) ?_
            repeat (go_big_quiet_step (fail))
            refine wpQuiet_nil ?_
            rintro w2 ⟨nq2, rfl⟩
            go_wp2_with fail
            go_ret
            exact ⟨by (rw [HE.out]) <;> rfl, HTw.out.trans' (drewN_tch _ _)⟩
          · have hne : (y == (X : Int)) = false := beq_eq_false_iff_ne.2 he
            have HE : Hid (∀ jj y, jj < k + 1 → l[jj]? = some y → y ≠ (X : Int)) := fun jj z hjk hz => by
              rcases Nat.lt_or_ge jj k with h1 | h1
              · exact HK.out jj z h1 hz
              · obtain rfl : jj = k := by omega
                rw [hy] at hz
                injection hz with hz
                rw [← hz]; exact he
            have HW2 : Hid (∀ nq2, ∃ nq, wr.drewN nq2 = w0.drewN nq) := fun nq2 => by
              obtain ⟨a1, e1⟩ := HWr.out
              exact ⟨a1 + nq2, by rw [e1]; exact World.drewN_drewN _ _ _⟩
            clear hy hir hkl he
            go_wp2_with fail
            refine wp_region_quiet_lit (by kernel_rfl) (by kernel_rfl) ?_
            repeat (go_big_quiet_step (fail))
            refine wpQuiet_nil ?_
            rintro w2 ⟨nq2, rfl⟩
            go_wp2_with fail
            go_roundw
            case rel => exact ⟨k + 1, by go_num, by omega, HW2.out nq2, HE⟩
            case measure => simp [intOf]; omega
        · have HE : Hid (r = true) := by
            show _ = _
            rw [HS1.out]
            have : (X : Int) ∉ l := fun hm => by
              obtain ⟨jj, hjj⟩ := List.getElem?_of_mem hm
              exact HK.out jj _ (by have := (List.getElem?_eq_some_iff.1 hjj).1; have := Hnl.out; omega) hjj rfl
            simp [this]
          clear hir
          go_wp2_with fail
          go_ret
          exact ⟨by (rw [HE.out]) <;> rfl, HTw.out⟩
    · have HS1 : Hid (r = false) := by show _ = _; rw [HS.out]; simp [hge]
      have hge' : (X : Int) ≥ mx := by omega
      have hge2 : mx ≤ (X : Int) := by omega
      repeat (first | go_big_quiet_step (fail) | go_big_quiet_step ((go_at_call 10; exact q5 _)))
      refine wpQuiet_nil ?_
      rintro w1 ⟨nq, rfl⟩
      have HTw : Hid _ := (HC.out nq).2.2.2.2.2
      go_wp2_with fail
      go_ret
      exact ⟨by (rw [HS1.out]) <;> rfl, HTw.out⟩
  · have HS1 : Hid (r = false) := by show _ = _; rw [HS.out]; simp [hs3]
    have e3 : ((s : Int) == 3) = false := beq_eq_false_iff_ne.2 (by omega)
    have e3' : ((s : Int) != 3) = true := by rw [bne, e3]; rfl
    repeat (first | go_big_quiet_step (fail) | go_big_quiet_step ((go_at_call 10; exact q5 _)))
    refine wpQuiet_nil ?_
    rintro w1 ⟨nq, rfl⟩
    have HTw : Hid _ := (HC.out nq).2.2.2.2.2
    go_wp2_with fail
    go_ret
    exact ⟨by (rw [HS1.out]) <;> rfl, HTw.out⟩
end Go.Proofs.Ytolobljlkdacjaa
/- The document's manager: Sees. -/
namespace Go.Proofs.Ytolobljlkdacjaa
open Go.RowKit Go Go.Sort

set_option maxHeartbeats 1000000 in
set_option maxRecDepth 100000 in
theorem rsees_other (b : Nat) (ao : Option Addr) (c : Nat) (m : Mg) (L : List Nm) (w : World) (h : NR w b ao c L) (hm : Rel m L) (mn mx : Int) (l : List Int) (lo : Option Addr) (lc : Nat) (hl : l.length ≤ 9223372036854775807) (hI : IR w lo l) (own x : Int) (t : Tx) (i : Int) (hf : fnd m.tx x = some (t, i)) (u : Tx) (io : Int) (ho : fnd m.tx own = some (u, io)) (hux : u.x ≠ t.x) :
    Calls Try.prog 76 #[.pointer (some ⟨b, 0, none⟩), .agg #[.int .i64 mn, .int .i64 mx, .slice lo l.length lc], .int .i64 own, .int .i64 x] w fun y w' => y = .returned (.bool (m.sees mn mx l own x)) ∧ Tch (fun _ => False) w w' := by
  obtain ⟨N, hN⟩ : ∃ N, N = w.heap.size := ⟨_, rfl⟩
  obtain ⟨nl, hnl⟩ : ∃ nl, nl = l.length := ⟨_, rfl⟩
  rw [← hnl] at hl ⊢
  have Hnl : Hid (nl = l.length) := hnl
  obtain ⟨w0, hw0⟩ : ∃ w0, w0 = w.alloc (.cells #[.int .i64 mn, .int .i64 mx, .slice lo nl lc] 36) := ⟨_, rfl⟩
  have t0 : Tch (fun _ => False) w w0 := by rw [hw0]; exact Tch.alloc _ _ _
  have hY0 : w0.heap[N]? = some (.cells #[.int .i64 mn, .int .i64 mx, .slice lo nl lc] 36 (0, 0)) := by rw [hw0, hN]; exact alloc_new _ _
  have Hw0 : Hid _ := hw0
  have HN : Hid (N = w.heap.size) := hN
  have HT0 : Hid (Tch (fun _ => False) w w0) := t0
  obtain ⟨j, a, f1, f2, f3, -⟩ := hm.yes _ _ _ hf
  have q := rat_any b ao c L x w0 (h.no t0) hm.len
  unfold posZ at q
  rw [f1] at q
  simp only [] at q
  have htm := (fnd_mem hf).1
  have hft := hm.wf.fnd_tx htm
  obtain ⟨jt, at', g1, g2, g3, -⟩ := hm.yes _ _ _ hft
  obtain ⟨-, ean, -⟩ := hm.root hft g1 g2
  have q2 := rtop_any b ao c m L w0 (h.no t0) hm x t i hf j f1 jt g1
  have q3 := rat_any b ao c L own w0 (h.no t0) hm.len
  unfold posZ at q3
  obtain ⟨jo, ao', k1, k2, k3, -⟩ := hm.yes _ _ _ ho
  rw [k1] at q3
  simp only [] at q3
  have hum := (fnd_mem ho).1
  obtain ⟨ju, au, l1, l2, l3, -⟩ := hm.yes _ _ _ (hm.wf.fnd_tx hum)
  have q4 := rtop_any b ao c m L w0 (h.no t0) hm own u io ho jo k1 ju l1
  have hsees : m.sees mn mx l own x = (decide (m.state x = 3) && (decide ((t.x : Int) < mx) && !decide ((t.x : Int) ∈ l))) := by simp [Mg.sees, Mg.state, hf, ho, sameTx, hux]
  have hju : ju ≠ jt := fun e => by
    rw [e, g2] at l2
    injection l2 with l2
    subst l2
    omega
  have eju : ((ju : Int) == (jt : Int)) = false := beq_eq_false_iff_ne.2 (by omega)
  have q5 : ∀ q, Calls Try.prog 10 #[.pointer (some ⟨b, 0, none⟩), .int .i64 x] (w0.drewN q) fun e w'' => e = .returned (.int .i64 (m.state x)) ∧ ∃ m, w'' = w0.drewN m := fun q => (rstate_any b ao c m L (w0.drewN q) ((h.no t0).dr q) hm x).mono (fun e w' ⟨he, q', hq⟩ => ⟨he, q + q', by rw [hq]; exact World.drewN_drewN _ _ _⟩)
  have HS : Hid (m.sees mn mx l own x = (decide (m.state x = 3) && (decide ((t.x : Int) < mx) && !decide ((t.x : Int) ∈ l)))) := hsees
  clear hsees
  obtain ⟨r, hr⟩ : ∃ r, r = m.sees mn mx l own x := ⟨_, rfl⟩
  rw [← hr] at HS ⊢
  obtain ⟨s, hs⟩ : ∃ s, s = m.state x := ⟨_, rfl⟩
  rw [← hs] at q5 HS
  obtain ⟨n, hn⟩ : ∃ n, n = L.length := ⟨_, rfl⟩
  have hL := hm.len
  rw [← hn] at hL
  have hjt : (jt : Int) < n := by have := (List.getElem?_eq_some_iff.1 g2).1; omega
  obtain ⟨g, rfl, -⟩ := h.el jt at' g2
  obtain ⟨X, hX⟩ : ∃ X : Nat, X = t.x := ⟨_, rfl⟩
  rw [← hX] at HS
  have HC : Hid (∀ nq, (w0.drewN nq).cell? ⟨b, 0, none⟩ = some (.slice (some ⟨g, 0, none⟩) n c) ∧ (w0.drewN nq).cell? ⟨g, jt * 6, none⟩ = some (.int .i64 X) ∧ (w0.drewN nq).cell? ⟨N, 1, none⟩ = some (.int .i64 mx) ∧ (w0.drewN nq).cell? ⟨N, 2, none⟩ = some (.slice lo nl lc) ∧ IR (w0.drewN nq) lo l ∧ Tch (fun _ => False) w (w0.drewN nq)) := fun nq => by
    have tq := drewN_tch w0 nq
    have hh := (h.no t0).dr nq
    have hy := (tq.block N (blk_lt hY0) (fun h => h)).trans hY0
    obtain ⟨g', e, c0, -⟩ := hh.el jt at' g2
    obtain rfl : g = g' := by injection e with e; injection e
    refine ⟨by rw [hn]; exact hh.c0, by rw [c0, ean, hX], by rw [blk_cell hy]; rfl, by rw [blk_cell hy]; rfl, hI.no (t0.trans' tq), t0.trans' tq⟩
  obtain ⟨b0, c0, d1, d2, -, -⟩ := HC.out 0
  change w0.cell? _ = _ at b0
  change w0.cell? _ = _ at c0
  change w0.cell? _ = _ at d1
  change w0.cell? _ = _ at d2
  clear h hm hf hI hw0 hN t0 hY0 hnl f1 f2 f3 g1 g2 g3 htm hft ean ho k1 k2 k3 hum l1 l2 l3 hux hju hr hs hn hX
  go_enter Try.func76, Try.ntmps76
  go_wp2_with fail
  have hw0 := Hw0.out
  rw [← hw0, ← HN.out]
  clear hw0
  refine q.mono ?_
  rintro y wy ⟨rfl, hwy⟩
  obtain rfl := hwy.symm
  clear q
  go_wp2_with fail
  refine q2.mono ?_
  rintro y wy ⟨rfl, hwy⟩
  obtain rfl := hwy.symm
  clear q2
  go_wp2_with fail
  refine q3.mono ?_
  rintro y wy ⟨rfl, hwy⟩
  obtain rfl := hwy.symm
  clear q3
  go_wp2_with fail
  refine q4.mono ?_
  rintro y wy ⟨rfl, hwy⟩
  obtain rfl := hwy.symm
  clear q4
  go_wp2_with fail
  refine wp_region_quiet_lit (by kernel_rfl) (by kernel_rfl) ?_
  by_cases hs3 : s = 3
  · subst hs3
    by_cases hge : (X : Int) < mx
    · have hge' : ¬ (X : Int) ≥ mx := by omega
      have hge2 : ¬ mx ≤ (X : Int) := by omega
      have HS1 : Hid (r = !decide ((X : Int) ∈ l)) := by show _ = _; rw [HS.out]; simp [hge]
      repeat (first | go_big_quiet_step (fail) | go_big_quiet_step ((go_at_call 10; exact q5 _)))
      refine wpQuiet_nil ?_
      rintro w1 ⟨nq, hw1⟩
      obtain ⟨b0', c0', d1', d2', -, -⟩ := HC.out nq
      rw [← hw1] at b0' c0' d1' d2'
      have HW1 : Hid (∃ nq, w1 = w0.drewN nq) := ⟨nq, hw1⟩
      clear hw1 q5 b0 c0 d1 d2
      go_wp2_with fail
      go_loopw [12] (fun v wr => ∃ k : Nat, v = .int .i64 k ∧ k ≤ nl ∧ Hid (∃ nq, wr = w0.drewN nq) ∧ Hid (∀ jj y, jj < k → l[jj]? = some y → y ≠ (X : Int))) (fun v _ => nl - (intOf v).toNat)
      case atStart => exact ⟨0, rfl, by omega, HW1, fun _ _ h => by omega⟩
      case round =>
        obtain ⟨k, rfl, hk, HWr, HK⟩ := hrel
        obtain ⟨nq', hwr⟩ := HWr.out
        obtain ⟨b9, c9, d8, d9, hir, tw⟩ := HC.out nq'
        rw [← hwr] at b9 c9 d9 hir tw d8
        have HTw : Hid _ := tw
        clear b0' c0' d1' d2' tw hwr
        by_cases hlt : (k : Int) < nl
        · have hkl : k < l.length := by have := Hnl.out; omega
          obtain ⟨y, hy⟩ : ∃ y, l[k]? = some y := ⟨_, List.getElem?_eq_getElem hkl⟩
          obtain ⟨gl, ol, rfl, hc⟩ := hir k y hy
          by_cases he : y = (X : Int)
          · have HE : Hid (r = false) := by
              show _ = _
              rw [HS1.out]
              have : (X : Int) ∈ l := by rw [← he]; exact List.mem_of_getElem? hy
              simp [this]
            subst he
            clear hy hir hkl
            go_wp2_with fail
            refine wp_region_quiet_lit (by kernel_rfl) (by kernel_rfl) ?_
            repeat (go_big_quiet_step (fail))
            refine wpQuiet_nil ?_
            rintro w2 ⟨nq2, rfl⟩
            go_wp2_with fail
            go_ret
            exact ⟨by (rw [HE.out]) <;> rfl, HTw.out.trans' (drewN_tch _ _)⟩
          · have hne : (y == (X : Int)) = false := beq_eq_false_iff_ne.2 he
            have HE : Hid (∀ jj y, jj < k + 1 → l[jj]? = some y → y ≠ (X : Int)) := fun jj z hjk hz => by
              rcases Nat.lt_or_ge jj k with h1 | h1
              · exact HK.out jj z h1 hz
              · obtain rfl : jj = k := by omega
                rw [hy] at hz
                injection hz with hz
                rw [← hz]; exact he
            have HW2 : Hid (∀ nq2, ∃ nq, wr.drewN nq2 = w0.drewN nq) := fun nq2 => by
              obtain ⟨a1, e1⟩ := HWr.out
              exact ⟨a1 + nq2, by rw [e1]; exact World.drewN_drewN _ _ _⟩
            clear hy hir hkl he
            go_wp2_with fail
            refine wp_region_quiet_lit (by kernel_rfl) (by kernel_rfl) ?_
            repeat (go_big_quiet_step (fail))
            refine wpQuiet_nil ?_
            rintro w2 ⟨nq2, rfl⟩
            go_wp2_with fail
            go_roundw
            case rel => exact ⟨k + 1, by go_num, by omega, HW2.out nq2, HE⟩
            case measure => simp [intOf]; omega
        · have HE : Hid (r = true) := by
            show _ = _
            rw [HS1.out]
            have : (X : Int) ∉ l := fun hm => by
              obtain ⟨jj, hjj⟩ := List.getElem?_of_mem hm
              exact HK.out jj _ (by have := (List.getElem?_eq_some_iff.1 hjj).1; have := Hnl.out; omega) hjj rfl
            simp [this]
          clear hir
          go_wp2_with fail
          go_ret
          exact ⟨by (rw [HE.out]) <;> rfl, HTw.out⟩
    · have HS1 : Hid (r = false) := by show _ = _; rw [HS.out]; simp [hge]
      have hge' : (X : Int) ≥ mx := by omega
      have hge2 : mx ≤ (X : Int) := by omega
      repeat (first | go_big_quiet_step (fail) | go_big_quiet_step ((go_at_call 10; exact q5 _)))
      refine wpQuiet_nil ?_
      rintro w1 ⟨nq, rfl⟩
      have HTw : Hid _ := (HC.out nq).2.2.2.2.2
      go_wp2_with fail
      go_ret
      exact ⟨by (rw [HS1.out]) <;> rfl, HTw.out⟩
  · have HS1 : Hid (r = false) := by show _ = _; rw [HS.out]; simp [hs3]
    have e3 : ((s : Int) == 3) = false := beq_eq_false_iff_ne.2 (by omega)
    have e3' : ((s : Int) != 3) = true := by rw [bne, e3]; rfl
    repeat (first | go_big_quiet_step (fail) | go_big_quiet_step ((go_at_call 10; exact q5 _)))
    refine wpQuiet_nil ?_
    rintro w1 ⟨nq, rfl⟩
    have HTw : Hid _ := (HC.out nq).2.2.2.2.2
    go_wp2_with fail
    go_ret
    exact ⟨by (rw [HS1.out]) <;> rfl, HTw.out⟩
end Go.Proofs.Ytolobljlkdacjaa
/- The document's manager: Sees. -/
namespace Go.Proofs.Ytolobljlkdacjaa
open Go.RowKit Go Go.Sort

theorem rsees_any (b : Nat) (ao : Option Addr) (c : Nat) (m : Mg) (L : List Nm) (w : World) (h : NR w b ao c L) (hm : Rel m L) (mn mx : Int) (l : List Int) (lo : Option Addr) (lc : Nat) (hl : l.length ≤ 9223372036854775807) (hI : IR w lo l) (own x : Int) : Calls Try.prog 76 #[.pointer (some ⟨b, 0, none⟩), .agg #[.int .i64 mn, .int .i64 mx, .slice lo l.length lc], .int .i64 own, .int .i64 x] w fun y w' => y = .returned (.bool (m.sees mn mx l own x)) ∧ Tch (fun _ => False) w w' := by
  cases hf : fnd m.tx x with
  | none => exact rsees_none b ao c m L w h hm mn mx l lo lc hl hI own x hf
  | some z =>
    obtain ⟨t, i⟩ := z
    cases ho : fnd m.tx own with
    | none => exact rsees_alone b ao c m L w h hm mn mx l lo lc hl hI own x t i hf ho
    | some y =>
      obtain ⟨u, io⟩ := y
      by_cases hux : u.x = t.x
      · exact rsees_same b ao c m L w h hm mn mx l lo lc hl hI own x t i hf u io ho hux
      · exact rsees_other b ao c m L w h hm mn mx l lo lc hl hI own x t i hf u io ho hux
end Go.Proofs.Ytolobljlkdacjaa
