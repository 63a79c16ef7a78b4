import Derived.Test.YtjambfbibeihiaaGreatSt
/- Steps that only ask; steps that do nothing. -/
namespace Go.Proofs.YtjambfbibeihiaaGreat
set_option maxRecDepth 100000
open Go.RowKit Go.ChangeMaps Go.Sort

/-- The answer, out of its box. -/
theorem res_step {w8 : World} {rb2 : Nat} {a b c : Value} (hb : w8.heap[rb2]? = some (.cells #[a, b, c] 26 (0, 0))) (v : Bool) (tmps : Array Value) (h4 : tmps[6]?.getD undef = .pointer (some ⟨rb2, 0, none⟩)) (h5 : tmps[7]?.getD undef = .bool v) : (results Tryz.f6 tmps).run Tryz.prog w8 = .ok (.tuple #[.agg #[a, b, c], .bool v]) w8 := by
  have g0 : w8.cell? ⟨rb2, 0, none⟩ = some a := by rw [blk_cell hb]; rfl
  have g1 : w8.cell? ⟨rb2, 1, none⟩ = some b := by rw [blk_cell hb]; rfl
  have g2 : w8.cell? ⟨rb2, 2, none⟩ = some c := by rw [blk_cell hb]; rfl
  have hrs : Tryz.f6.results = #[.cell 6 26, .tmp 7] := by kernel_rfl
  simp only [results, hrs]
  go_simp
theorem CW.asked {w : World} {ω : Nat → Nat} {bb T k db rb : Nat} {pc oc : Array Value} {hN wN hF wF : Value} {d : Dsk} {W W' : World} {ω' : Nat → Nat} (h : CW w ω bb T k db rb pc oc hN wN hF wF d d W ω') (ha : Asked W ω' bb T k db rb d W') : ∃ ω'' hN' wN' hF' wF', CW w ω bb (T + 1) k db rb pc oc hN' wN' hF' wF' d d W' ω'' := by
  obtain ⟨ω2, hN2, wN2, hF2, wF2, hb2, hp2, E2⟩ := ha
  obtain ⟨r1, r2, r3, r4⟩ := h.rest E2 (by show ¬ 5 ≤ 0; omega)
  exact ⟨ω2, hN2, wN2, hF2, wF2, h.ev.trans (E2.mono (fun i h => Or.inr (Or.inr (Or.inr h)))), hp2.df, hp2.rf, hb2, r1, r2, r3, r4, h.k0.ev E2 (by show ¬ 5 ≤ 0; omega) h.ev.tch.size⟩
/-- The boxes' cells. -/
theorem CW.cells {w : World} {ω : Nat → Nat} {bb T k db rb : Nat} {c : Int} {oc : Array Value} {hN wN hF wF : Value} {dA dR : Dsk} {W : World} {ω' : Nat → Nat} (h : CW w ω bb T k db rb (pairC db rb c) oc hN wN hF wF dA dR W ω') : (W.cell? ⟨w.heap.size, 0, none⟩ = some (.pointer (some ⟨db, 0, none⟩)) ∧ W.cell? ⟨w.heap.size, 1, none⟩ = some (.pointer (some ⟨rb, 0, none⟩)) ∧ W.cell? ⟨w.heap.size, 2, none⟩ = some (.int .i64 c)) ∧ ((∃ y, W.cell? ⟨w.heap.size + 2, 0, none⟩ = some y) ∧ (∃ y, W.cell? ⟨w.heap.size + 2, 1, none⟩ = some y) ∧ ∃ y, W.cell? ⟨w.heap.size + 2, 2, none⟩ = some y) ∧ ∀ j, W.frozen? ⟨w.heap.size + 2, j, none⟩ = false := by
  obtain ⟨rc, hr, hz⟩ := h.b2
  exact ⟨⟨by rw [blk_cell h.b0]; rfl, by rw [blk_cell h.b0]; rfl, by rw [blk_cell h.b0]; rfl⟩, ⟨⟨rc[0], by rw [blk_cell hr]; exact Array.getElem?_eq_getElem _⟩, ⟨rc[1], by rw [blk_cell hr]; exact Array.getElem?_eq_getElem _⟩, ⟨rc[2], by rw [blk_cell hr]; exact Array.getElem?_eq_getElem _⟩⟩, fun j => blk_frozen hr j⟩

theorem CW.start3 {w : World} {ω : Nat → Nat} {bb T k db rb : Nat} {pc oc : Array Value} {hN wN hF wF : Value} {d : Dsk} (rc : Array Value) (hrc : rc.size = 3) (hp : PR w ω k db rb d) (hb : BO w ω bb T hN wN hF wF) (hk : 1 ≤ k ∧ k ≤ 3) : CW w ω bb T k db rb pc oc hN wN hF wF d d (((w.alloc (.cells pc 26)).alloc (.cells oc 41)).alloc (.cells rc 26)) (ext ω w.heap.size 0) ∧ (((w.alloc (.cells pc 26)).alloc (.cells oc 41)).alloc (.cells rc 26)).heap[w.heap.size + 2]? = some (.cells rc 26 (0, 0)) := by
  have t := box3_no w (.cells pc 26) (.cells oc 41) (.cells rc 26)
  have e : Ev (fun i => i = 0) w ω _ (ext ω w.heap.size 0) := Ev.ofNo 0 rfl t
  have h2 : (((w.alloc (.cells pc 26)).alloc (.cells oc 41)).alloc (.cells rc 26)).heap[w.heap.size + 2]? = some (.cells rc 26 (0, 0)) := by
    have := box_one ((w.alloc (.cells pc 26)).alloc (.cells oc 41)) (.cells rc 26)
    simpa using this
  refine ⟨⟨e.mono (fun i h => Or.inl h), hp.df.ev e (by omega), hp.rf.ev e (by omega), hb.ev e (fun i h1 _ h => by omega), ⟨ext_ge (Nat.le_refl _), ext_ge (by omega), ext_ge (by omega)⟩, ?_, ?_, ⟨rc, h2, hrc⟩, K0.start t⟩, h2⟩
  · exact (heap_alloc_old _ _ (by simp; omega)).trans ((heap_alloc_old _ _ (by simp)).trans (box_one w _))
  · refine (heap_alloc_old _ _ (by simp)).trans ?_
    have := box_one (w.alloc (.cells pc 26)) (.cells oc 41)
    simpa using this
section
variable (bb T k db rb : Nat) (d : Dsk) (c N M : Int) (tw : Bool) (nm S : ByteArray) (lo : Option Addr) (ln lc : Nat) (hN wN hF wF : Value) (ω : Nat → Nat) (w : World)

set_option maxHeartbeats 4000000 in
theorem step_3 (hb : BO w ω bb T hN wN hF wF) (hp : PR w ω k db rb d) (hk : 1 ≤ k ∧ k ≤ 3) (hl : (d.m.length + 1) * 40 ≤ 140737488355328) (hn1 : N ≤ 9223372036854775807) (hm1 : M ≤ 9223372036854775807) :
    Calls Tryz.prog 6 #[pairV db rb c, .pointer (some ⟨bb, 0, none⟩), opV 3 N M tw nm S lo ln lc] w fun x w' => x = .returned (.tuple #[pairV db rb c, .bool true]) ∧ Stepped w ω bb T k d w' db rb := by
  obtain ⟨w0, hw0⟩ : ∃ w0, w0 = ((w.alloc (.cells (pairC db rb c) 26)).alloc (.cells (opC 3 N M tw nm S lo ln lc) 41)).alloc (.cells #[.pointer none, .pointer none, .int .i64 0] 26) := ⟨_, rfl⟩
  have h0 := CW.start (pc := pairC db rb c) (oc := opC 3 N M tw nm S lo ln lc) hp hb hk
  rw [← hw0] at h0
  have hask := asks_read bb T k db rb d c N M tw nm S lo ln lc hN wN hF wF _ w0 h0.bo ⟨h0.df, h0.rf⟩ hk hl hn1 hm1
  have H0 : Hid _ := h0
  clear hb hp h0
  go_enter Tryz.func6, Tryz.ntmps6
  go_wp2_with fail
  rw [← hw0]
  clear hw0
  refine hask.mono ?_
  rintro x w1 ⟨rfl, ha⟩
  obtain ⟨ω2, hN2, wN2, hF2, wF2, h2⟩ := H0.out.asked ha
  obtain ⟨⟨q0, q1, q2⟩, ⟨⟨y0, g0⟩, ⟨y1, g1⟩, ⟨y2, g2⟩⟩, gf⟩ := h2.cells
  have gf0 := gf 0
  have gf1 := gf 1
  have gf2 := gf 2
  have HP : Hid _ := h2.put hk (.pointer (some ⟨db, 0, none⟩)) (.pointer (some ⟨rb, 0, none⟩)) (.int .i64 c)
  clear hask ha H0 h2 gf
  go_wp2
  refine bodyPost_ret (res_step HP.out.2 true _ rfl rfl) rfl ?_
  exact ⟨rfl, _, _, _, _, _, d, HP.out.1.bo, ⟨HP.out.1.df, HP.out.1.rf⟩, ⟨by omega, id⟩, HP.out.1.ev, HP.out.1.k0⟩

set_option maxHeartbeats 4000000 in
theorem step_4 (hb : BO w ω bb T hN wN hF wF) (hp : PR w ω k db rb d) (hk : 1 ≤ k ∧ k ≤ 3) (hl : (d.m.length + 1) * 40 ≤ 140737488355328) :
    Calls Tryz.prog 6 #[pairV db rb c, .pointer (some ⟨bb, 0, none⟩), opV 4 N M tw nm S lo ln lc] w fun x w' => x = .returned (.tuple #[pairV db rb c, .bool true]) ∧ Stepped w ω bb T k d w' db rb := by
  obtain ⟨w0, hw0⟩ : ∃ w0, w0 = ((w.alloc (.cells (pairC db rb c) 26)).alloc (.cells (opC 4 N M tw nm S lo ln lc) 41)).alloc (.cells #[.pointer none, .pointer none, .int .i64 0] 26) := ⟨_, rfl⟩
  have h0 := CW.start (pc := pairC db rb c) (oc := opC 4 N M tw nm S lo ln lc) hp hb hk
  rw [← hw0] at h0
  have hask := asks_size bb T k db rb d c N M tw nm S lo ln lc hN wN hF wF _ w0 h0.bo ⟨h0.df, h0.rf⟩ hk hl
  have H0 : Hid _ := h0
  clear hb hp h0
  go_enter Tryz.func6, Tryz.ntmps6
  go_wp2_with fail
  rw [← hw0]
  clear hw0
  refine hask.mono ?_
  rintro x w1 ⟨rfl, ha⟩
  obtain ⟨ω2, hN2, wN2, hF2, wF2, h2⟩ := H0.out.asked ha
  obtain ⟨⟨q0, q1, q2⟩, ⟨⟨y0, g0⟩, ⟨y1, g1⟩, ⟨y2, g2⟩⟩, gf⟩ := h2.cells
  have gf0 := gf 0
  have gf1 := gf 1
  have gf2 := gf 2
  have HP : Hid _ := h2.put hk (.pointer (some ⟨db, 0, none⟩)) (.pointer (some ⟨rb, 0, none⟩)) (.int .i64 c)
  clear hask ha H0 h2 gf
  go_wp2
  refine bodyPost_ret (res_step HP.out.2 true _ rfl rfl) rfl ?_
  exact ⟨rfl, _, _, _, _, _, d, HP.out.1.bo, ⟨HP.out.1.df, HP.out.1.rf⟩, ⟨by omega, id⟩, HP.out.1.ev, HP.out.1.k0⟩

set_option maxHeartbeats 4000000 in
theorem step_10 (hb : BO w ω bb T hN wN hF wF) (hp : PR w ω k db rb d) (hk : 1 ≤ k ∧ k ≤ 3) (hl : (d.m.length + 1) * 40 ≤ 140737488355328) :
    Calls Tryz.prog 6 #[pairV db rb c, .pointer (some ⟨bb, 0, none⟩), opV 10 N M tw nm S lo ln lc] w fun x w' => x = .returned (.tuple #[pairV db rb c, .bool true]) ∧ Stepped w ω bb T k d w' db rb := by
  obtain ⟨w0, hw0⟩ : ∃ w0, w0 = ((w.alloc (.cells (pairC db rb c) 26)).alloc (.cells (opC 10 N M tw nm S lo ln lc) 41)).alloc (.cells #[.pointer none, .pointer none, .int .i64 0] 26) := ⟨_, rfl⟩
  have h0 := CW.start (pc := pairC db rb c) (oc := opC 10 N M tw nm S lo ln lc) hp hb hk
  rw [← hw0] at h0
  have hask := asks_free bb T k db rb d c N M tw nm S lo ln lc hN wN hF wF _ w0 h0.bo ⟨h0.df, h0.rf⟩ hk hl
  have H0 : Hid _ := h0
  clear hb hp h0
  go_enter Tryz.func6, Tryz.ntmps6
  go_wp2_with fail
  rw [← hw0]
  clear hw0
  refine hask.mono ?_
  rintro x w1 ⟨rfl, ha⟩
  obtain ⟨ω2, hN2, wN2, hF2, wF2, h2⟩ := H0.out.asked ha
  obtain ⟨⟨q0, q1, q2⟩, ⟨⟨y0, g0⟩, ⟨y1, g1⟩, ⟨y2, g2⟩⟩, gf⟩ := h2.cells
  have gf0 := gf 0
  have gf1 := gf 1
  have gf2 := gf 2
  have HP : Hid _ := h2.put hk (.pointer (some ⟨db, 0, none⟩)) (.pointer (some ⟨rb, 0, none⟩)) (.int .i64 c)
  clear hask ha H0 h2 gf
  go_wp2
  refine bodyPost_ret (res_step HP.out.2 true _ rfl rfl) rfl ?_
  exact ⟨rfl, _, _, _, _, _, d, HP.out.1.bo, ⟨HP.out.1.df, HP.out.1.rf⟩, ⟨by omega, id⟩, HP.out.1.ev, HP.out.1.k0⟩

set_option maxHeartbeats 4000000 in
theorem step_13 (hb : BO w ω bb T hN wN hF wF) (hp : PR w ω k db rb d) (hk : 1 ≤ k ∧ k ≤ 3) (hl : (d.m.length + 1) * 40 ≤ 140737488355328) :
    Calls Tryz.prog 6 #[pairV db rb c, .pointer (some ⟨bb, 0, none⟩), opV 13 N M tw nm S lo ln lc] w fun x w' => x = .returned (.tuple #[pairV db rb c, .bool true]) ∧ Stepped w ω bb T k d w' db rb := by
  obtain ⟨w0, hw0⟩ : ∃ w0, w0 = ((w.alloc (.cells (pairC db rb c) 26)).alloc (.cells (opC 13 N M tw nm S lo ln lc) 41)).alloc (.cells #[.pointer none, .pointer none, .int .i64 0] 26) := ⟨_, rfl⟩
  have h0 := CW.start (pc := pairC db rb c) (oc := opC 13 N M tw nm S lo ln lc) hp hb hk
  rw [← hw0] at h0
  have hask := asks_dead bb T k db rb d c N M tw nm S lo ln lc hN wN hF wF _ w0 h0.bo ⟨h0.df, h0.rf⟩ hk hl
  have H0 : Hid _ := h0
  clear hb hp h0
  go_enter Tryz.func6, Tryz.ntmps6
  go_wp2_with fail
  rw [← hw0]
  clear hw0
  refine hask.mono ?_
  rintro x w1 ⟨rfl, ha⟩
  obtain ⟨ω2, hN2, wN2, hF2, wF2, h2⟩ := H0.out.asked ha
  obtain ⟨⟨q0, q1, q2⟩, ⟨⟨y0, g0⟩, ⟨y1, g1⟩, ⟨y2, g2⟩⟩, gf⟩ := h2.cells
  have gf0 := gf 0
  have gf1 := gf 1
  have gf2 := gf 2
  have HP : Hid _ := h2.put hk (.pointer (some ⟨db, 0, none⟩)) (.pointer (some ⟨rb, 0, none⟩)) (.int .i64 c)
  clear hask ha H0 h2 gf
  go_wp2
  refine bodyPost_ret (res_step HP.out.2 true _ rfl rfl) rfl ?_
  exact ⟨rfl, _, _, _, _, _, d, HP.out.1.bo, ⟨HP.out.1.df, HP.out.1.rf⟩, ⟨by omega, id⟩, HP.out.1.ev, HP.out.1.k0⟩

set_option maxHeartbeats 4000000 in
theorem step_14 (hb : BO w ω bb T hN wN hF wF) (hp : PR w ω k db rb d) (hk : 1 ≤ k ∧ k ≤ 3) (hl : (d.m.length + 1) * 40 ≤ 140737488355328) (hs : nm.size ≤ maxLen) :
    Calls Tryz.prog 6 #[pairV db rb c, .pointer (some ⟨bb, 0, none⟩), opV 14 N M tw nm S lo ln lc] w fun x w' => x = .returned (.tuple #[pairV db rb c, .bool true]) ∧ Stepped w ω bb T k d w' db rb := by
  obtain ⟨w0, hw0⟩ : ∃ w0, w0 = ((w.alloc (.cells (pairC db rb c) 26)).alloc (.cells (opC 14 N M tw nm S lo ln lc) 41)).alloc (.cells #[.pointer none, .pointer none, .int .i64 0] 26) := ⟨_, rfl⟩
  have h0 := CW.start (pc := pairC db rb c) (oc := opC 14 N M tw nm S lo ln lc) hp hb hk
  rw [← hw0] at h0
  have hask := asks_pending bb T k db rb d c N M tw nm S lo ln lc hN wN hF wF _ w0 h0.bo ⟨h0.df, h0.rf⟩ hk hl hs
  have H0 : Hid _ := h0
  clear hb hp h0
  go_enter Tryz.func6, Tryz.ntmps6
  go_wp2_with fail
  rw [← hw0]
  clear hw0
  refine hask.mono ?_
  rintro x w1 ⟨rfl, ha⟩
  obtain ⟨ω2, hN2, wN2, hF2, wF2, h2⟩ := H0.out.asked ha
  obtain ⟨⟨q0, q1, q2⟩, ⟨⟨y0, g0⟩, ⟨y1, g1⟩, ⟨y2, g2⟩⟩, gf⟩ := h2.cells
  have gf0 := gf 0
  have gf1 := gf 1
  have gf2 := gf 2
  have HP : Hid _ := h2.put hk (.pointer (some ⟨db, 0, none⟩)) (.pointer (some ⟨rb, 0, none⟩)) (.int .i64 c)
  clear hask ha H0 h2 gf
  go_wp2
  refine bodyPost_ret (res_step HP.out.2 true _ rfl rfl) rfl ?_
  exact ⟨rfl, _, _, _, _, _, d, HP.out.1.bo, ⟨HP.out.1.df, HP.out.1.rf⟩, ⟨by omega, id⟩, HP.out.1.ev, HP.out.1.k0⟩

set_option maxHeartbeats 4000000 in
theorem step_9 (hb : BO w ω bb T hN wN hF wF) (hp : PR w ω k db rb d) (hk : 1 ≤ k ∧ k ≤ 3) (hT : T ≤ 4294967296) (hl : d.m.length + 20 ≤ 1099511627776) :
    Calls Tryz.prog 6 #[pairV db rb c, .pointer (some ⟨bb, 0, none⟩), opV 9 N M tw nm S lo ln lc] w fun x w' => x = .returned (.tuple #[pairV db rb c, .bool true]) ∧ Stepped w ω bb T k d w' db rb := by
  obtain ⟨w0, hw0⟩ : ∃ w0, w0 = ((w.alloc (.cells (pairC db rb c) 26)).alloc (.cells (opC 9 N M tw nm S lo ln lc) 41)).alloc (.cells #[.pointer none, .pointer none, .int .i64 0] 26) := ⟨_, rfl⟩
  have h0 := CW.start (pc := pairC db rb c) (oc := opC 9 N M tw nm S lo ln lc) hp hb hk
  rw [← hw0] at h0
  have hask := asks_list bb T k db rb d c N M tw nm S lo ln lc hN wN hF wF _ w0 h0.bo hT ⟨h0.df, h0.rf⟩ hk hl
  have H0 : Hid _ := h0
  clear hb hp h0
  go_enter Tryz.func6, Tryz.ntmps6
  go_wp2_with fail
  rw [← hw0]
  clear hw0
  refine hask.mono ?_
  rintro x w1 ⟨rfl, ha⟩
  obtain ⟨ω2, hN2, wN2, hF2, wF2, h2⟩ := H0.out.asked ha
  obtain ⟨⟨q0, q1, q2⟩, ⟨⟨y0, g0⟩, ⟨y1, g1⟩, ⟨y2, g2⟩⟩, gf⟩ := h2.cells
  have gf0 := gf 0
  have gf1 := gf 1
  have gf2 := gf 2
  have HP : Hid _ := h2.put hk (.pointer (some ⟨db, 0, none⟩)) (.pointer (some ⟨rb, 0, none⟩)) (.int .i64 c)
  clear hask ha H0 h2 gf
  go_wp2
  refine bodyPost_ret (res_step HP.out.2 true _ rfl rfl) rfl ?_
  exact ⟨rfl, _, _, _, _, _, d, HP.out.1.bo, ⟨HP.out.1.df, HP.out.1.rf⟩, ⟨by omega, id⟩, HP.out.1.ev, HP.out.1.k0⟩

set_option maxHeartbeats 4000000 in
theorem step_17 (hb : BO w ω bb T hN wN hF wF) (hp : PR w ω k db rb d) (hk : 1 ≤ k ∧ k ≤ 3) (hT : T ≤ 4294967296) (hl : d.m.length + 20 ≤ 1099511627776) :
    Calls Tryz.prog 6 #[pairV db rb c, .pointer (some ⟨bb, 0, none⟩), opV 17 N M tw nm S lo ln lc] w fun x w' => x = .returned (.tuple #[pairV db rb c, .bool true]) ∧ Stepped w ω bb T k d w' db rb := by
  obtain ⟨w0, hw0⟩ : ∃ w0, w0 = ((w.alloc (.cells (pairC db rb c) 26)).alloc (.cells (opC 17 N M tw nm S lo ln lc) 41)).alloc (.cells #[.pointer none, .pointer none, .int .i64 0] 26) := ⟨_, rfl⟩
  have h0 := CW.start (pc := pairC db rb c) (oc := opC 17 N M tw nm S lo ln lc) hp hb hk
  rw [← hw0] at h0
  have hask := asks_files bb T k db rb d c N M tw nm S lo ln lc hN wN hF wF _ w0 h0.bo hT ⟨h0.df, h0.rf⟩ hk hl
  have H0 : Hid _ := h0
  clear hb hp h0
  go_enter Tryz.func6, Tryz.ntmps6
  go_wp2_with fail
  rw [← hw0]
  clear hw0
  refine hask.mono ?_
  rintro x w1 ⟨rfl, ha⟩
  obtain ⟨ω2, hN2, wN2, hF2, wF2, h2⟩ := H0.out.asked ha
  obtain ⟨⟨q0, q1, q2⟩, ⟨⟨y0, g0⟩, ⟨y1, g1⟩, ⟨y2, g2⟩⟩, gf⟩ := h2.cells
  have gf0 := gf 0
  have gf1 := gf 1
  have gf2 := gf 2
  have HP : Hid _ := h2.put hk (.pointer (some ⟨db, 0, none⟩)) (.pointer (some ⟨rb, 0, none⟩)) (.int .i64 c)
  clear hask ha H0 h2 gf
  go_wp2
  refine bodyPost_ret (res_step HP.out.2 true _ rfl rfl) rfl ?_
  exact ⟨rfl, _, _, _, _, _, d, HP.out.1.bo, ⟨HP.out.1.df, HP.out.1.rf⟩, ⟨by omega, id⟩, HP.out.1.ev, HP.out.1.k0⟩

set_option maxHeartbeats 4000000 in
theorem step_none (kd : Int) (hb : BO w ω bb T hN wN hF wF) (hp : PR w ω k db rb d) (hk : 1 ≤ k ∧ k ≤ 3) (hkd : ¬ (1 ≤ kd ∧ kd ≤ 19)) :
    Calls Tryz.prog 6 #[pairV db rb c, .pointer (some ⟨bb, 0, none⟩), opV kd N M tw nm S lo ln lc] w fun x w' => x = .returned (.tuple #[pairV db rb c, .bool true]) ∧ Stepped w ω bb T k d w' db rb := by
  have HP : Hid _ := CW.start3 (pc := pairC db rb c) (oc := opC kd N M tw nm S lo ln lc) (pairC db rb c) rfl hp hb hk
  have e1 : ¬ kd = 1 := by omega
  have e2 : ¬ kd = 2 := by omega
  have e5 : ¬ kd = 5 := by omega
  have e6 : ¬ kd = 6 := by omega
  have e7 : ¬ kd = 7 := by omega
  have e8 : ¬ kd = 8 := by omega
  have e11 : ¬ kd = 11 := by omega
  have e12 : ¬ kd = 12 := by omega
  have e15 : ¬ kd = 15 := by omega
  have e16 : ¬ kd = 16 := by omega
  have e18 : ¬ kd = 18 := by omega
  have e3 : ¬ kd = 3 := by omega
  have e4 : ¬ kd = 4 := by omega
  have e9 : ¬ kd = 9 := by omega
  have e10 : ¬ kd = 10 := by omega
  have e13 : ¬ kd = 13 := by omega
  have e14 : ¬ kd = 14 := by omega
  have e17 : ¬ kd = 17 := by omega
  have e19 : ¬ kd = 19 := by omega
  clear hb hp hkd
  go_enter Tryz.func6, Tryz.ntmps6
  go_wp2
  refine bodyPost_ret (res_step HP.out.2 true _ rfl rfl) rfl ?_
  exact ⟨rfl, _, _, _, _, _, d, HP.out.1.bo.up, ⟨HP.out.1.df, HP.out.1.rf⟩, ⟨by omega, id⟩, HP.out.1.ev, HP.out.1.k0⟩
end
end Go.Proofs.YtjambfbibeihiaaGreat
