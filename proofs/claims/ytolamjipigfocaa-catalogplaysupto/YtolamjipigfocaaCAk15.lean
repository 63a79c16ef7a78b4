import Derived.Test.YtolamjipigfocaaCSt0
/- A step of a pair: Next. -/
namespace Go.Proofs.Ytolamjipigfocaa
open Go.RowKit Go

set_option maxHeartbeats 2000000 in
set_option maxRecDepth 100000 in
theorem ask_7 (w : World) (o : Nat → Nat) (Z : Nat → Prop) (b n k cb rb : Nat) (L : List Tbl) (gv : Int) (p : Opv) (be : BE w o b n) (pr : PR w o k cb rb L gv) (az : AZ Z w o) (ok : p.ok Z w) (hk : 20 ≤ k) (hn : n ≤ 80000000) (hkd : p.kd = 7) :
    Calls Try.prog 13 #[.agg #[.pointer (some ⟨cb, 0, none⟩), .pointer (some ⟨rb, 0, none⟩)], .pointer (some ⟨b, 0, none⟩), .agg #[.int .i64 p.kd, .int .i64 p.on, .int .i64 p.N, .string p.nm, .slice p.ca p.cols.length p.cc, .int .i64 p.T.id, .int .i64 p.T.ver, .string p.T.nm, .slice p.ta p.T.cols.length p.tc, .int .i64 p.T.key, .slice p.lo p.l.length p.lc, .slice p.ro p.vs.length p.rc]] w fun x w' => x = .returned (.bool true) ∧ StOut w o b n k cb rb w' := by
  obtain ⟨N, hN⟩ : ∃ N, N = w.heap.size := ⟨_, rfl⟩
  obtain ⟨w0, hw0⟩ : ∃ w0, w0 = (w.alloc (.cells #[.pointer (some ⟨cb, 0, none⟩), .pointer (some ⟨rb, 0, none⟩)] 28)).alloc (.cells #[.int .i64 p.kd, .int .i64 p.on, .int .i64 p.N, .string p.nm, .slice p.ca p.cols.length p.cc, .int .i64 p.T.id, .int .i64 p.T.ver, .string p.T.nm, .slice p.ta p.T.cols.length p.tc, .int .i64 p.T.key, .slice p.lo p.l.length p.lc, .slice p.ro p.vs.length p.rc] 45) := ⟨_, rfl⟩
  have HP0 : Hid (∃ o', PQ w o Z b n k cb rb N p w0 o' L gv L gv) := ⟨_, by rw [hN]; exact PQ.begin be pr az ok hk w0 hw0⟩
  have Hgi : Hid (GI L gv) := pr.gi
  have _un := hn
  clear _un
  have HFn : Hid (∀ q, StOut w o b n k cb rb (w0.drewN q)) := fun nq => by
    obtain ⟨o', q⟩ := HP0.out
    exact (q.quiet ((Tch.refl _ _).drewN nq) hk 4 (by omega)).out Hgi.out (by omega)
  have Hn1 : Hid (∀ nq : Nat, Calls Try.prog 15 #[.pointer (some ⟨cb, 0, none⟩)] (w0.drewN nq) fun x w' => x = .returned (.int .i64 (gv + 1)) ∧ w' = w0.drewN nq) := fun nq => by
    obtain ⟨o', q⟩ := HP0.out
    exact next_x (q.cf.ev (K := fun _ => False) (Ev.drew w0 o' nq) id) Hgi.out
  have Hn2 : Hid (∀ nq : Nat, Calls Try.prog 11 #[.pointer (some ⟨rb, 0, none⟩)] (w0.drewN nq) fun x w' => x = .returned (.int .i64 (gv + 1)) ∧ w' = w0.drewN nq) := fun nq => by
    obtain ⟨o', q⟩ := HP0.out
    exact rnext_x (q.rf.ev (K := fun _ => False) (Ev.drew w0 o' nq) id)
  have hgg : ((gv + 1) == (gv + 1)) = true := by simp
  have Hc : Hid (∀ W, (∃ o', PQ w o Z b n k cb rb N p W o' L gv L gv) → W.cell? ⟨N, 0, none⟩ = some (.pointer (some ⟨cb, 0, none⟩)) ∧ W.cell? ⟨N, 1, none⟩ = some (.pointer (some ⟨rb, 0, none⟩)) ∧ W.cell? ⟨N + 1, 0, none⟩ = some (.int .i64 p.kd)) := fun W hW => by
    obtain ⟨o', q⟩ := hW
    exact ⟨q.c0, q.c1, q.op 0 _ rfl⟩
  obtain ⟨c0, c1, o0⟩ := Hc.out w0 HP0.out
  have Hw0 : Hid _ := hw0
  have HN : Hid (N = w.heap.size) := hN
  have kk4 : (p.kd == 4) = false := by rw [hkd]; decide
  have kk5 : (p.kd == 5) = false := by rw [hkd]; decide
  have kk6 : (p.kd == 6) = false := by rw [hkd]; decide
  have kk7 : (p.kd == 7) = true := by rw [hkd]; decide
  have c0' := c0
  have c1' := c1
  rw [hw0, hN] at o0 c0 c1
  clear be pr az ok hw0 hN hkd
  go_enter Try.func13, Try.ntmps13
  go_wp2_with fail
  have hw0 := Hw0.out
  rw [← hw0]
  rw [← HN.out]
  clear hw0 o0 c0 c1
  go_quiet (first | (go_at_call 15; exact Calls.quiet_of_same (Hn1.out _)) | (go_at_call 11; exact Calls.quiet_of_same (Hn2.out _)))
  have hf := HFn.out nq
  have HF : Hid _ := hf
  clear hf
  go_wp2_with fail
  go_ret
  exact ⟨rfl, HF.out⟩
end Go.Proofs.Ytolamjipigfocaa
/- A step of a pair: Right. -/
namespace Go.Proofs.Ytolamjipigfocaa
open Go.RowKit Go

set_option maxHeartbeats 2000000 in
set_option maxRecDepth 100000 in
theorem ask_13 (w : World) (o : Nat → Nat) (Z : Nat → Prop) (b n k cb rb : Nat) (L : List Tbl) (gv : Int) (p : Opv) (be : BE w o b n) (pr : PR w o k cb rb L gv) (az : AZ Z w o) (ok : p.ok Z w) (hk : 20 ≤ k) (hn : n ≤ 80000000) (hkd : p.kd = 13) :
    Calls Try.prog 13 #[.agg #[.pointer (some ⟨cb, 0, none⟩), .pointer (some ⟨rb, 0, none⟩)], .pointer (some ⟨b, 0, none⟩), .agg #[.int .i64 p.kd, .int .i64 p.on, .int .i64 p.N, .string p.nm, .slice p.ca p.cols.length p.cc, .int .i64 p.T.id, .int .i64 p.T.ver, .string p.T.nm, .slice p.ta p.T.cols.length p.tc, .int .i64 p.T.key, .slice p.lo p.l.length p.lc, .slice p.ro p.vs.length p.rc]] w fun x w' => x = .returned (.bool true) ∧ StOut w o b n k cb rb w' := by
  obtain ⟨N, hN⟩ : ∃ N, N = w.heap.size := ⟨_, rfl⟩
  obtain ⟨w0, hw0⟩ : ∃ w0, w0 = (w.alloc (.cells #[.pointer (some ⟨cb, 0, none⟩), .pointer (some ⟨rb, 0, none⟩)] 28)).alloc (.cells #[.int .i64 p.kd, .int .i64 p.on, .int .i64 p.N, .string p.nm, .slice p.ca p.cols.length p.cc, .int .i64 p.T.id, .int .i64 p.T.ver, .string p.T.nm, .slice p.ta p.T.cols.length p.tc, .int .i64 p.T.key, .slice p.lo p.l.length p.lc, .slice p.ro p.vs.length p.rc] 45) := ⟨_, rfl⟩
  have HP0 : Hid (∃ o', PQ w o Z b n k cb rb N p w0 o' L gv L gv) := ⟨_, by rw [hN]; exact PQ.begin be pr az ok hk w0 hw0⟩
  have Hgi : Hid (GI L gv) := pr.gi
  have _un := hn
  clear _un
  have HFn : Hid (∀ W, Tch (fun _ => False) w0 W → StOut w o b n k cb rb W) := fun W tW => by
    obtain ⟨o', q⟩ := HP0.out
    exact (q.quiet tW hk 4 (by omega)).out Hgi.out (by omega)
  have HS : Hid (∀ W, Tch (fun _ => False) w0 W → Tch (fun _ => False) w0 W ∧ (W.cell? ⟨N + 1, 5, none⟩ = some (.int .i64 p.T.id) ∧ W.cell? ⟨N + 1, 6, none⟩ = some (.int .i64 p.T.ver) ∧ W.cell? ⟨N + 1, 7, none⟩ = some (.string p.T.nm) ∧ W.cell? ⟨N + 1, 8, none⟩ = some (.slice p.ta p.T.cols.length p.tc) ∧ W.cell? ⟨N + 1, 9, none⟩ = some (.int .i64 p.T.key))) := fun W tW => by
    obtain ⟨o', q⟩ := HP0.out
    have q := q.quiet tW hk 4 (by omega)
    exact ⟨tW, q.op 5 _ rfl, q.op 6 _ rfl, q.op 7 _ rfl, q.op 8 _ rfl, q.op 9 _ rfl⟩
  obtain ⟨E, hE⟩ : ∃ E, E = rightE p.T := ⟨_, rfl⟩
  have Hr1 : Hid (∀ W, Tch (fun _ => False) w0 W → Calls Try.prog 35 #[tA p.T.id p.T.ver p.T.nm (.slice p.ta p.T.cols.length p.tc) p.T.key] W fun x w' => x = .returned (.int .i64 E) ∧ Tch (fun _ => False) W w') := fun W tW => by
    obtain ⟨o', q⟩ := HP0.out
    have q := q.quiet tW hk 4 (by omega)
    have hT := q.ok.lT
    rw [hE]
    exact right_any p.T p.ta p.tc W q.ok.hT.sl q.ok.cT (by omega)
  have Hr2 : Hid (∀ W, Tch (fun _ => False) w0 W → Calls Try.prog 36 #[tA p.T.id p.T.ver p.T.nm (.slice p.ta p.T.cols.length p.tc) p.T.key] W fun x w' => x = .returned (.int .i64 E) ∧ Tch (fun _ => False) W w') := fun W tW => by
    obtain ⟨o', q⟩ := HP0.out
    have q := q.quiet tW hk 4 (by omega)
    rw [hE]
    exact rright_any p.T p.ta p.tc W q.ok.hT.sl
  have hEE : (E == E) = true := by simp
  have T0 : Tch (fun _ => False) w0 w0 := Tch.refl _ _
  have Hc : Hid (∀ W, (∃ o', PQ w o Z b n k cb rb N p W o' L gv L gv) → W.cell? ⟨N, 0, none⟩ = some (.pointer (some ⟨cb, 0, none⟩)) ∧ W.cell? ⟨N, 1, none⟩ = some (.pointer (some ⟨rb, 0, none⟩)) ∧ W.cell? ⟨N + 1, 0, none⟩ = some (.int .i64 p.kd) ∧ W.cell? ⟨N + 1, 5, none⟩ = some (.int .i64 p.T.id) ∧ W.cell? ⟨N + 1, 6, none⟩ = some (.int .i64 p.T.ver) ∧ W.cell? ⟨N + 1, 7, none⟩ = some (.string p.T.nm) ∧ W.cell? ⟨N + 1, 8, none⟩ = some (.slice p.ta p.T.cols.length p.tc) ∧ W.cell? ⟨N + 1, 9, none⟩ = some (.int .i64 p.T.key)) := fun W hW => by
    obtain ⟨o', q⟩ := hW
    exact ⟨q.c0, q.c1, q.op 0 _ rfl, q.op 5 _ rfl, q.op 6 _ rfl, q.op 7 _ rfl, q.op 8 _ rfl, q.op 9 _ rfl⟩
  obtain ⟨c0, c1, o0, o5, o6, o7, o8, o9⟩ := Hc.out w0 HP0.out
  have Hw0 : Hid _ := hw0
  have HN : Hid (N = w.heap.size) := hN
  have kk4 : (p.kd == 4) = false := by rw [hkd]; decide
  have kk5 : (p.kd == 5) = false := by rw [hkd]; decide
  have kk6 : (p.kd == 6) = false := by rw [hkd]; decide
  have kk7 : (p.kd == 7) = false := by rw [hkd]; decide
  have kk13 : (p.kd == 13) = true := by rw [hkd]; decide
  rw [hw0, hN] at c0 c1 o0 o5 o6 o7 o8 o9
  clear be pr az ok hw0 hN hkd hE
  go_enter Try.func13, Try.ntmps13
  go_wp2_with fail
  have hw0 := Hw0.out
  rw [← hw0]
  rw [← HN.out]
  clear hw0 c0 c1 o0 o5 o6 o7 o8 o9
  obtain ⟨_, o5, o6, o7, o8, o9⟩ := HS.out w0 T0
  go_region_held3 (fun W => Tch (fun _ => False) w0 W ∧ (W.cell? ⟨N + 1, 5, none⟩ = some (.int .i64 p.T.id) ∧ W.cell? ⟨N + 1, 6, none⟩ = some (.int .i64 p.T.ver) ∧ W.cell? ⟨N + 1, 7, none⟩ = some (.string p.T.nm) ∧ W.cell? ⟨N + 1, 8, none⟩ = some (.slice p.ta p.T.cols.length p.tc) ∧ W.cell? ⟨N + 1, 9, none⟩ = some (.int .i64 p.T.key)))
    ((refine HS.out _ ?_; first | assumption | exact Tch.drew T0))
    (first
      | (go_at_call 35; refine (Hr1.out _ (show _ ∧ _ by assumption).1).mono ?_; rintro y v1 ⟨rfl, s1⟩; have V1 := Tch.trans' (show _ ∧ _ by assumption).1 s1)
      | (go_at_call 36; refine (Hr2.out _ V1).mono ?_; rintro y v2 ⟨rfl, s2⟩; have V2 := Tch.trans' V1 s2))
  have hf := HFn.out v2 V2
  have HF : Hid _ := hf
  clear hf
  go_wp2_with fail
  go_ret
  exact ⟨rfl, HF.out⟩
end Go.Proofs.Ytolamjipigfocaa
/- A step of a pair: Fit. -/
namespace Go.Proofs.Ytolamjipigfocaa
open Go.RowKit Go

set_option maxHeartbeats 2000000 in
set_option maxRecDepth 100000 in
theorem ask_14 (w : World) (o : Nat → Nat) (Z : Nat → Prop) (b n k cb rb : Nat) (L : List Tbl) (gv : Int) (p : Opv) (be : BE w o b n) (pr : PR w o k cb rb L gv) (az : AZ Z w o) (ok : p.ok Z w) (hk : 20 ≤ k) (hn : n ≤ 80000000) (hkd : p.kd = 14) :
    Calls Try.prog 13 #[.agg #[.pointer (some ⟨cb, 0, none⟩), .pointer (some ⟨rb, 0, none⟩)], .pointer (some ⟨b, 0, none⟩), .agg #[.int .i64 p.kd, .int .i64 p.on, .int .i64 p.N, .string p.nm, .slice p.ca p.cols.length p.cc, .int .i64 p.T.id, .int .i64 p.T.ver, .string p.T.nm, .slice p.ta p.T.cols.length p.tc, .int .i64 p.T.key, .slice p.lo p.l.length p.lc, .slice p.ro p.vs.length p.rc]] w fun x w' => x = .returned (.bool true) ∧ StOut w o b n k cb rb w' := by
  obtain ⟨N, hN⟩ : ∃ N, N = w.heap.size := ⟨_, rfl⟩
  obtain ⟨w0, hw0⟩ : ∃ w0, w0 = (w.alloc (.cells #[.pointer (some ⟨cb, 0, none⟩), .pointer (some ⟨rb, 0, none⟩)] 28)).alloc (.cells #[.int .i64 p.kd, .int .i64 p.on, .int .i64 p.N, .string p.nm, .slice p.ca p.cols.length p.cc, .int .i64 p.T.id, .int .i64 p.T.ver, .string p.T.nm, .slice p.ta p.T.cols.length p.tc, .int .i64 p.T.key, .slice p.lo p.l.length p.lc, .slice p.ro p.vs.length p.rc] 45) := ⟨_, rfl⟩
  have HP0 : Hid (∃ o', PQ w o Z b n k cb rb N p w0 o' L gv L gv) := ⟨_, by rw [hN]; exact PQ.begin be pr az ok hk w0 hw0⟩
  have Hgi : Hid (GI L gv) := pr.gi
  have _un := hn
  clear _un
  have q1 : Calls Try.prog 37 #[.pointer (some ⟨b, 0, none⟩), tA p.T.id p.T.ver p.T.nm (.slice p.ta p.T.cols.length p.tc) p.T.key, .slice p.ro p.vs.length p.rc] w0 fun x w' => x = .returned (.bool true) ∧ StOut w o b n k cb rb w' := by
    obtain ⟨o', q⟩ := HP0.out
    have hT := q.ok.lT
    have hV := q.ok.lR
    refine (fits_x w0 o' b n q.be (by omega) p.T p.ta p.tc p.vs p.ro p.rc q.ok.hT.sl (fun e => (q.ok.nT e).2) (by omega) q.ok.hR.sl q.ok.nR (by omega) (fun hc g o2 e => q.az.o0 g (q.ok.hR.lt (f3_nil _ _ _ hc) g o2 e))).mono ?_
    rintro x w' ⟨rfl, o2, hb, e⟩
    exact ⟨rfl, (q.book hb e (fun j hj => by omega) hk).out Hgi.out (by omega)⟩
  have Hc : Hid (∀ W, (∃ o', PQ w o Z b n k cb rb N p W o' L gv L gv) → W.cell? ⟨N, 0, none⟩ = some (.pointer (some ⟨cb, 0, none⟩)) ∧ W.cell? ⟨N, 1, none⟩ = some (.pointer (some ⟨rb, 0, none⟩)) ∧ W.cell? ⟨N + 1, 0, none⟩ = some (.int .i64 p.kd) ∧ W.cell? ⟨N + 1, 5, none⟩ = some (.int .i64 p.T.id) ∧ W.cell? ⟨N + 1, 6, none⟩ = some (.int .i64 p.T.ver) ∧ W.cell? ⟨N + 1, 7, none⟩ = some (.string p.T.nm) ∧ W.cell? ⟨N + 1, 8, none⟩ = some (.slice p.ta p.T.cols.length p.tc) ∧ W.cell? ⟨N + 1, 9, none⟩ = some (.int .i64 p.T.key) ∧ W.cell? ⟨N + 1, 11, none⟩ = some (.slice p.ro p.vs.length p.rc)) := fun W hW => by
    obtain ⟨o', q⟩ := hW
    exact ⟨q.c0, q.c1, q.op 0 _ rfl, q.op 5 _ rfl, q.op 6 _ rfl, q.op 7 _ rfl, q.op 8 _ rfl, q.op 9 _ rfl, q.op 11 _ rfl⟩
  obtain ⟨c0, c1, o0, o5, o6, o7, o8, o9, o11⟩ := Hc.out w0 HP0.out
  have Hw0 : Hid _ := hw0
  have HN : Hid (N = w.heap.size) := hN
  have kk4 : (p.kd == 4) = false := by rw [hkd]; decide
  have kk5 : (p.kd == 5) = false := by rw [hkd]; decide
  have kk6 : (p.kd == 6) = false := by rw [hkd]; decide
  have kk7 : (p.kd == 7) = false := by rw [hkd]; decide
  have kk13 : (p.kd == 13) = false := by rw [hkd]; decide
  have kk14 : (p.kd == 14) = true := by rw [hkd]; decide
  rw [hw0, hN] at c0 c1 o0 o5 o6 o7 o8 o9 o11
  clear be pr az ok hw0 hN hkd
  go_enter Try.func13, Try.ntmps13
  go_wp2_with fail
  have hw0 := Hw0.out
  rw [← hw0]
  rw [← HN.out]
  clear hw0 c0 c1 o0 o5 o6 o7 o8 o9 o11
  refine q1.mono ?_
  rintro x w1 ⟨rfl, hf⟩
  clear q1
  have HF : Hid _ := hf
  clear hf
  go_wp2_with fail
  go_ret
  exact ⟨rfl, HF.out⟩
end Go.Proofs.Ytolamjipigfocaa
/- A step of a pair: Fits. -/
namespace Go.Proofs.Ytolamjipigfocaa
open Go.RowKit Go

set_option maxHeartbeats 2000000 in
set_option maxRecDepth 100000 in
theorem ask_15 (w : World) (o : Nat → Nat) (Z : Nat → Prop) (b n k cb rb : Nat) (L : List Tbl) (gv : Int) (p : Opv) (be : BE w o b n) (pr : PR w o k cb rb L gv) (az : AZ Z w o) (ok : p.ok Z w) (hk : 20 ≤ k) (hn : n ≤ 80000000) (hkd : p.kd = 15) :
    Calls Try.prog 13 #[.agg #[.pointer (some ⟨cb, 0, none⟩), .pointer (some ⟨rb, 0, none⟩)], .pointer (some ⟨b, 0, none⟩), .agg #[.int .i64 p.kd, .int .i64 p.on, .int .i64 p.N, .string p.nm, .slice p.ca p.cols.length p.cc, .int .i64 p.T.id, .int .i64 p.T.ver, .string p.T.nm, .slice p.ta p.T.cols.length p.tc, .int .i64 p.T.key, .slice p.lo p.l.length p.lc, .slice p.ro p.vs.length p.rc]] w fun x w' => x = .returned (.bool true) ∧ StOut w o b n k cb rb w' := by
  obtain ⟨N, hN⟩ : ∃ N, N = w.heap.size := ⟨_, rfl⟩
  obtain ⟨w0, hw0⟩ : ∃ w0, w0 = (w.alloc (.cells #[.pointer (some ⟨cb, 0, none⟩), .pointer (some ⟨rb, 0, none⟩)] 28)).alloc (.cells #[.int .i64 p.kd, .int .i64 p.on, .int .i64 p.N, .string p.nm, .slice p.ca p.cols.length p.cc, .int .i64 p.T.id, .int .i64 p.T.ver, .string p.T.nm, .slice p.ta p.T.cols.length p.tc, .int .i64 p.T.key, .slice p.lo p.l.length p.lc, .slice p.ro p.vs.length p.rc] 45) := ⟨_, rfl⟩
  have HP0 : Hid (∃ o', PQ w o Z b n k cb rb N p w0 o' L gv L gv) := ⟨_, by rw [hN]; exact PQ.begin be pr az ok hk w0 hw0⟩
  have Hgi : Hid (GI L gv) := pr.gi
  have _un := hn
  clear _un
  obtain ⟨R, hR⟩ : ∃ R, R = getR L gv (byNm p.nm) := ⟨_, rfl⟩
  have HRs : Hid (R.L = L ∧ R.g = gv) := by rw [hR]; exact (getR_ok pr.gi _).2
  have Hok : Hid R.ok := by rw [hR]; exact (getR_ok pr.gi _).1
  have Hq0 : Hid (∀ W, (∃ o', PQ w o Z b n k cb rb N p W o' L gv L gv) → Calls Try.prog 25 #[.pointer (some ⟨rb, 0, none⟩), .string p.nm] W fun x W' => ∃ v, x = .returned (.tuple #[tA R.t.id R.t.ver R.t.nm v R.t.key, .int .i64 R.E]) ∧ (∃ ao c, v = .slice ao R.t.cols.length c) ∧ ∃ o', PQ w o Z b n k cb rb N p W' o' L gv L gv ∧ RowC W' o' 15 v R.t.cols) := fun W hW => by
    obtain ⟨o', q⟩ := hW
    refine (rget_x (kv := 15) q.rf Hgi.out (by omega) p.nm).mono ?_
    rintro x W' ⟨o2, v, hx, hc, hrow, e⟩
    rw [← hR] at hx hc hrow
    obtain ⟨ao, c, hv⟩ := hrow.slice
    have hc' : RF W' o2 (k + 1) rb L gv := by have h1 := hc; rw [HRs.out.1, HRs.out.2] at h1; exact h1
    exact ⟨v, hx, ⟨ao, c, hv⟩, _, q.doc hc' e hk (by omega), hrow⟩
  have Hp : Hid (∀ a0 z0 W, (∃ o', PQ w o Z b n k cb rb N p W o' L gv L gv ∧ RowC W o' 15 (.slice a0 R.t.cols.length z0) R.t.cols) → Calls Try.prog 37 #[.pointer (some ⟨b, 0, none⟩), tA R.t.id R.t.ver R.t.nm (.slice a0 R.t.cols.length z0) R.t.key, .slice p.ro p.vs.length p.rc] W fun x w' => x = .returned (.bool true) ∧ StOut w o b n k cb rb w') := fun a0 z0 W hW => by
    obtain ⟨o', q, hrow⟩ := hW
    have h8 := Hok.out.c8
    have hV := q.ok.lR
    refine (fits_x W o' b n q.be (by omega) R.t a0 z0 p.vs p.ro p.rc hrow.sl (fun e => by
      have h1 := hrow.row
      rw [e] at h1
      exact (own_none h1).2.1) (by omega) q.ok.hR.sl q.ok.nR (by omega) (fun hc g o2 e => q.az.o0 g (q.ok.hR.lt (f3_nil _ _ _ hc) g o2 e))).mono ?_
    rintro x w' ⟨rfl, o2, hb, e⟩
    exact ⟨rfl, (q.book hb e (fun j hj => by omega) hk).out Hgi.out (by omega)⟩
  have q0 := Hq0.out w0 HP0.out
  have Hc : Hid (∀ W, (∃ o', PQ w o Z b n k cb rb N p W o' L gv L gv) → W.cell? ⟨N, 0, none⟩ = some (.pointer (some ⟨cb, 0, none⟩)) ∧ W.cell? ⟨N, 1, none⟩ = some (.pointer (some ⟨rb, 0, none⟩)) ∧ W.cell? ⟨N + 1, 0, none⟩ = some (.int .i64 p.kd) ∧ W.cell? ⟨N + 1, 3, none⟩ = some (.string p.nm) ∧ W.cell? ⟨N + 1, 11, none⟩ = some (.slice p.ro p.vs.length p.rc)) := fun W hW => by
    obtain ⟨o', q⟩ := hW
    exact ⟨q.c0, q.c1, q.op 0 _ rfl, q.op 3 _ rfl, q.op 11 _ rfl⟩
  obtain ⟨c0, c1, o0, o3, o11⟩ := Hc.out w0 HP0.out
  have Hw0 : Hid _ := hw0
  have HN : Hid (N = w.heap.size) := hN
  have kk4 : (p.kd == 4) = false := by rw [hkd]; decide
  have kk5 : (p.kd == 5) = false := by rw [hkd]; decide
  have kk6 : (p.kd == 6) = false := by rw [hkd]; decide
  have kk7 : (p.kd == 7) = false := by rw [hkd]; decide
  have kk13 : (p.kd == 13) = false := by rw [hkd]; decide
  have kk14 : (p.kd == 14) = false := by rw [hkd]; decide
  rw [hw0, hN] at c0 c1 o0 o3 o11
  clear be pr az ok hw0 hN hkd hR
  go_enter Try.func13, Try.ntmps13
  go_wp2_with fail
  have hw0 := Hw0.out
  rw [← hw0]
  rw [← HN.out]
  clear hw0 c0 c1 o0 o3 o11
  refine q0.mono ?_
  rintro x w1 ⟨v0, rfl, ⟨a0, z0, hv0⟩, hq0⟩
  subst hv0
  obtain ⟨u1, hu1⟩ : ∃ u1, u1 = w1.alloc (.cells #[.int .i64 R.t.id, .int .i64 R.t.ver, .string R.t.nm, .slice a0 R.t.cols.length z0, .int .i64 R.t.key] 36) := ⟨_, rfl⟩
  have HQ1 : Hid (∃ o', PQ w o Z b n k cb rb N p u1 o' L gv L gv ∧ RowC u1 o' 15 (.slice a0 R.t.cols.length z0) R.t.cols) := by
    obtain ⟨o', q, hr⟩ := hq0
    rw [hu1]
    exact ⟨_, q.quiet (Tch.alloc _ _ _) hk 5 (by omega), hr.ev (Ev.quiet 5 (Tch.alloc _ _ _)) (by omega)⟩
  have q1 := Hp.out a0 z0 u1 HQ1.out
  obtain ⟨c0, c1, o0, o3, o11⟩ := Hc.out u1 (by obtain ⟨o', q, _⟩ := HQ1.out; exact ⟨o', q⟩)
  have Hu1 : Hid _ := hu1
  rw [hu1] at c0 c1 o0 o3 o11
  clear q0 hq0 hu1
  go_wp2_with fail
  have hu1 := Hu1.out
  rw [← hu1]
  clear hu1 c0 c1 o0 o3 o11
  refine q1.mono ?_
  rintro x w5 ⟨rfl, hf⟩
  clear q1
  have HF : Hid _ := hf
  clear hf
  go_wp2_with fail
  go_ret
  exact ⟨rfl, HF.out⟩
end Go.Proofs.Ytolamjipigfocaa
