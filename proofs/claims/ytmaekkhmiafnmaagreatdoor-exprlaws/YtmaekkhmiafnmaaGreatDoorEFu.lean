import Derived.Test.YtmaekkhmiafnmaaGreatDoorEV0
import Derived.Test.YtmaekkhmiafnmaaGreatDoorVN
set_option maxHeartbeats 4000000
set_option maxRecDepth 100000
namespace Go.Proofs.YtmaekkhmiafnmaaGreatDoor
open Go.RowKit Go Go.Lib
def ThreeB (N : Nat) (a b : Val) (W : World) : Prop := (W.cell? ⟨N, 0, none⟩ = some (.int .i64 a.k) ∧ W.cell? ⟨N, 1, none⟩ = some (.int .i64 a.n) ∧ W.cell? ⟨N, 2, none⟩ = some (.string a.s)) ∧ (W.cell? ⟨N + 1, 0, none⟩ = some (.int .i64 b.k) ∧ W.cell? ⟨N + 1, 1, none⟩ = some (.int .i64 b.n) ∧ W.cell? ⟨N + 1, 2, none⟩ = some (.string b.s)) ∧
  (W.cell? ⟨N + 2, 0, none⟩ = some (.int .i64 0) ∧ W.cell? ⟨N + 2, 1, none⟩ = some (.int .i64 0) ∧ W.cell? ⟨N + 2, 2, none⟩ = some (.string ⟨#[]⟩)) ∧ W.frozen? ⟨N + 2, 0, none⟩ = false ∧ W.frozen? ⟨N + 2, 1, none⟩ = false ∧ W.frozen? ⟨N + 2, 2, none⟩ = false
theorem threeB {w W : World} {a b : Val} (t : Tch (fun _ => False) (((w.alloc (.cells #[.int .i64 a.k, .int .i64 a.n, .string a.s] 29)).alloc (.cells #[.int .i64 b.k, .int .i64 b.n, .string b.s] 29)).alloc (.cells #[.int .i64 0, .int .i64 0, .string ⟨#[]⟩] 29)) W) : ThreeB w.heap.size a b W := by
  obtain ⟨w1, hw1⟩ : ∃ w1, w1 = w.alloc (.cells #[.int .i64 a.k, .int .i64 a.n, .string a.s] 29) := ⟨_, rfl⟩
  obtain ⟨w2, hw2⟩ : ∃ w2, w2 = w1.alloc (.cells #[.int .i64 b.k, .int .i64 b.n, .string b.s] 29) := ⟨_, rfl⟩
  have e1 : w1.heap.size = w.heap.size + 1 := by rw [hw1]; simp
  have e2 : w2.heap.size = w.heap.size + 2 := by rw [hw2]; simp [e1]
  rw [← hw1, ← hw2] at t
  have t2 : Tch (fun _ => False) w2 W := (Tch.alloc _ _ _).trans' t
  have t1 : Tch (fun _ => False) w1 W := by
    have h : Tch (fun _ => False) w1 w2 := by rw [hw2]; exact Tch.alloc _ _ _
    exact h.trans' t2
  have b0 := box_tch (by rw [hw1] at t1; exact t1)
  have b1 := box_tch (by rw [hw2] at t2; exact t2)
  have b2 := box_tch t
  rw [e1] at b1
  rw [e2] at b2
  have hl : w.heap.size + 2 < (w2.alloc (.cells #[.int .i64 0, .int .i64 0, .string ⟨#[]⟩] 29)).heap.size := by simp [e2]
  have hz : ∀ i, (w2.alloc (.cells #[.int .i64 0, .int .i64 0, .string ⟨#[]⟩] 29)).frozen? ⟨w.heap.size + 2, i, none⟩ = false := fun i => by rw [← e2]; simp
  exact ⟨b0, b1, b2, (t.frozen (p := ⟨_, _, none⟩) hl (fun h => h)).trans (hz 0), (t.frozen (p := ⟨_, _, none⟩) hl (fun h => h)).trans (hz 1), (t.frozen (p := ⟨_, _, none⟩) hl (fun h => h)).trans (hz 2)⟩
theorem three_new (w : World) (a b : Val) (o : Val) : Tch (fun _ => False) w (((w.alloc (.cells #[.int .i64 a.k, .int .i64 a.n, .string a.s] 29)).alloc (.cells #[.int .i64 b.k, .int .i64 b.n, .string b.s] 29)).alloc (.cells #[.int .i64 o.k, .int .i64 o.n, .string o.s] 29)) := ((Tch.alloc _ _ _).allocR _).allocR _
theorem both_any (a b : Val) (w : World) : Calls Tryz.prog 127 #[vV a, vV b] w fun x w' => x = .returned (vV (bothV a b)) ∧ Tch (fun _ => False) w w' := by
  obtain ⟨q1, hq1⟩ : ∃ q, q = decide (a = tr false) := ⟨_, rfl⟩
  obtain ⟨q2, hq2⟩ : ∃ q, q = decide (b = tr true) := ⟨_, rfl⟩
  obtain ⟨r, hr⟩ : ∃ r, r = bothV a b := ⟨_, rfl⟩
  have Hr : Hid (r = if q1 = true ∨ q2 = true then a else b) := (show _ = _ from by rw [hr, hq1, hq2]; unfold bothV; simp)
  have e1 : ∀ W, (binOp .eql 29 (vV a) (vV (tr false))).run Tryz.prog W = .ok (.bool q1) W := fun W => by rw [hq1]; exact eql_dec a (tr false) W
  have e2 : ∀ W, (binOp .eql 29 (vV b) (vV (tr true))).run Tryz.prog W = .ok (.bool q2) W := fun W => by rw [hq2]; exact eql_dec b (tr true) W
  rw [← hr]
  clear hq1 hq2 hr
  have Hq1 : Hid _ := fun W => truth_any false W
  have Hq2 : Hid _ := fun W => truth_any true W
  obtain ⟨tf, htf⟩ : ∃ tf, tf = tr false := ⟨_, rfl⟩
  obtain ⟨tt, htt⟩ : ∃ tt, tt = tr true := ⟨_, rfl⟩
  rw [← htf] at e1 Hq1
  rw [← htt] at e2 Hq2
  clear htf htt
  cases q1 with
  | true =>
    have HV : Hid (r = a) := (show r = a from by rw [Hr.out]; simp)
    clear Hr Hq2 e2
    go_enter Tryz.func127, Tryz.ntmps127
    go_wp2_with fail
    obtain ⟨w0, hw0⟩ : ∃ w0, w0 = ((w.alloc (.cells #[.int .i64 a.k, .int .i64 a.n, .string a.s] 29)).alloc (.cells #[.int .i64 b.k, .int .i64 b.n, .string b.s] 29)).alloc (.cells #[.int .i64 0, .int .i64 0, .string ⟨#[]⟩] 29) := ⟨_, rfl⟩
    have HB : Hid (∀ W, Tch (fun _ => False) w0 W → ThreeB w.heap.size a b W ∧ Tch (fun _ => False) w W) := fun W t => by
      rw [hw0] at t
      exact ⟨threeB t, (((Tch.alloc _ _ _).allocR _).allocR _).trans' t⟩
    rw [← hw0]
    clear hw0
    obtain ⟨⟨⟨c0, c1, c2⟩, ⟨d0, d1, d2⟩, ⟨x0, x1, x2⟩, f0, f1, f2⟩, _⟩ := HB.out w0 (Tch.refl _ _)
    go_region_with (first
      | (go_at_call 93; refine (Hq1.out _).mono ?_; rintro y v1 ⟨rfl, t1⟩; have V1 := Tch.trans' ((Tch.refl (fun _ => False) w0).drew) t1; obtain ⟨⟨⟨c0, c1, c2⟩, ⟨d0, d1, d2⟩, ⟨x0, x1, x2⟩, f0, f1, f2⟩, _⟩ := HB.out _ V1)
      | fail)
    all_goals
      obtain ⟨k0, k1, k2⟩ := box_set v1 (w.heap.size + 2) _ _ _ (.int .i64 a.k) (.int .i64 a.n) (.string a.s) x0 x1 x2
      have HK : Hid _ := (⟨k0, k1, k2⟩ : _ ∧ _ ∧ _)
      have HT : Hid _ := (HB.out _ V1).2.trans (box_set_tch v1 (w.heap.size + 2) (.int .i64 a.k) (.int .i64 a.n) (.string a.s)) (fun i hi h => by omega)
      clear k0 k1 k2 t1 V1
      go_wp2_with fail
      refine bodyPost_ret (res_v (j := 4) (by kernel_rfl) _ _ (w.heap.size + 2) a ?_ HK.out.1 HK.out.2.1 HK.out.2.2) rfl ⟨by rw [HV.out], HT.out⟩
      rfl
  | false =>
    cases q2 with
    | true =>
      have HV : Hid (r = a) := (show r = a from by rw [Hr.out]; simp)
      clear Hr
      go_enter Tryz.func127, Tryz.ntmps127
      go_wp2_with fail
      obtain ⟨w0, hw0⟩ : ∃ w0, w0 = ((w.alloc (.cells #[.int .i64 a.k, .int .i64 a.n, .string a.s] 29)).alloc (.cells #[.int .i64 b.k, .int .i64 b.n, .string b.s] 29)).alloc (.cells #[.int .i64 0, .int .i64 0, .string ⟨#[]⟩] 29) := ⟨_, rfl⟩
      have HB : Hid (∀ W, Tch (fun _ => False) w0 W → ThreeB w.heap.size a b W ∧ Tch (fun _ => False) w W) := fun W t => by
        rw [hw0] at t
        exact ⟨threeB t, (((Tch.alloc _ _ _).allocR _).allocR _).trans' t⟩
      rw [← hw0]
      clear hw0
      obtain ⟨⟨⟨c0, c1, c2⟩, ⟨d0, d1, d2⟩, ⟨x0, x1, x2⟩, f0, f1, f2⟩, _⟩ := HB.out w0 (Tch.refl _ _)
      go_region_with (first
        | (go_at_call 93; refine (Hq1.out _).mono ?_; rintro y v1 ⟨rfl, t1⟩; have V1 := Tch.trans' ((Tch.refl (fun _ => False) w0).drew) t1; obtain ⟨⟨⟨c0, c1, c2⟩, ⟨d0, d1, d2⟩, ⟨x0, x1, x2⟩, f0, f1, f2⟩, _⟩ := HB.out _ V1)
        | (go_at_call 93; refine (Hq2.out _).mono ?_; rintro y v2 ⟨rfl, t2⟩; have V2 := Tch.trans' V1 t2; obtain ⟨⟨⟨c0, c1, c2⟩, ⟨d0, d1, d2⟩, ⟨x0, x1, x2⟩, f0, f1, f2⟩, _⟩ := HB.out _ V2))
      all_goals
        obtain ⟨k0, k1, k2⟩ := box_set v2 (w.heap.size + 2) _ _ _ (.int .i64 a.k) (.int .i64 a.n) (.string a.s) x0 x1 x2
        have HK : Hid _ := (⟨k0, k1, k2⟩ : _ ∧ _ ∧ _)
        have HT : Hid _ := (HB.out _ V2).2.trans (box_set_tch v2 (w.heap.size + 2) (.int .i64 a.k) (.int .i64 a.n) (.string a.s)) (fun i hi h => by omega)
        clear k0 k1 k2 t1 t2 V2 V1
        go_wp2_with fail
        refine bodyPost_ret (res_v (j := 4) (by kernel_rfl) _ _ (w.heap.size + 2) a ?_ HK.out.1 HK.out.2.1 HK.out.2.2) rfl ⟨by rw [HV.out], HT.out⟩
        rfl
    | false =>
      have HV : Hid (r = b) := (show r = b from by rw [Hr.out]; simp)
      clear Hr
      go_enter Tryz.func127, Tryz.ntmps127
      go_wp2_with fail
      obtain ⟨w0, hw0⟩ : ∃ w0, w0 = ((w.alloc (.cells #[.int .i64 a.k, .int .i64 a.n, .string a.s] 29)).alloc (.cells #[.int .i64 b.k, .int .i64 b.n, .string b.s] 29)).alloc (.cells #[.int .i64 0, .int .i64 0, .string ⟨#[]⟩] 29) := ⟨_, rfl⟩
      have HB : Hid (∀ W, Tch (fun _ => False) w0 W → ThreeB w.heap.size a b W ∧ Tch (fun _ => False) w W) := fun W t => by
        rw [hw0] at t
        exact ⟨threeB t, (((Tch.alloc _ _ _).allocR _).allocR _).trans' t⟩
      rw [← hw0]
      clear hw0
      obtain ⟨⟨⟨c0, c1, c2⟩, ⟨d0, d1, d2⟩, ⟨x0, x1, x2⟩, f0, f1, f2⟩, _⟩ := HB.out w0 (Tch.refl _ _)
      go_region_with (first
        | (go_at_call 93; refine (Hq1.out _).mono ?_; rintro y v1 ⟨rfl, t1⟩; have V1 := Tch.trans' ((Tch.refl (fun _ => False) w0).drew) t1; obtain ⟨⟨⟨c0, c1, c2⟩, ⟨d0, d1, d2⟩, ⟨x0, x1, x2⟩, f0, f1, f2⟩, _⟩ := HB.out _ V1)
        | (go_at_call 93; refine (Hq2.out _).mono ?_; rintro y v2 ⟨rfl, t2⟩; have V2 := Tch.trans' V1 t2; obtain ⟨⟨⟨c0, c1, c2⟩, ⟨d0, d1, d2⟩, ⟨x0, x1, x2⟩, f0, f1, f2⟩, _⟩ := HB.out _ V2))
      all_goals
        obtain ⟨k0, k1, k2⟩ := box_set v2 (w.heap.size + 2) _ _ _ (.int .i64 b.k) (.int .i64 b.n) (.string b.s) x0 x1 x2
        have HK : Hid _ := (⟨k0, k1, k2⟩ : _ ∧ _ ∧ _)
        have HT : Hid _ := (HB.out _ V2).2.trans (box_set_tch v2 (w.heap.size + 2) (.int .i64 b.k) (.int .i64 b.n) (.string b.s)) (fun i hi h => by omega)
        clear k0 k1 k2 t1 t2 V2 V1
        go_wp2_with fail
        refine bodyPost_ret (res_v (j := 4) (by kernel_rfl) _ _ (w.heap.size + 2) b ?_ HK.out.1 HK.out.2.1 HK.out.2.2) rfl ⟨by rw [HV.out], HT.out⟩
        rfl
theorem ordered_any (a b : Val) (w : World) : Calls Tryz.prog 128 #[vV a, vV b] w fun x w' => x = .returned (vV (ordV a b)) ∧ Tch (fun _ => False) w w' := by
  have e1 := fun W => eql_z a W
  have e2 := fun W => eql_z b W
  obtain ⟨r, hr⟩ : ∃ r, r = ordV a b := ⟨_, rfl⟩
  rw [← hr]
  by_cases ha : a = zV
  · rw [decide_eq_true ha] at e1
    have HV : Hid (r = zV) := (show r = zV from by rw [hr]; exact if_pos (Or.inl ha))
    clear ha hr e2
    obtain ⟨b0, b1, b2⟩ := box_v ((w.alloc (.cells #[.int .i64 a.k, .int .i64 a.n, .string a.s] 29)).alloc (.cells #[.int .i64 b.k, .int .i64 b.n, .string b.s] 29)) zV
    have Hb : Hid _ := (⟨b0, b1, b2⟩ : _ ∧ _ ∧ _)
    clear b0 b1 b2
    go_enter Tryz.func128, Tryz.ntmps128
    go_wp2_with fail
    refine bodyPost_ret (res_v (j := 4) (by kernel_rfl) _ _ _ zV ?_ Hb.out.1 Hb.out.2.1 Hb.out.2.2) rfl ⟨by rw [HV.out], three_new w a b zV⟩
    simp
  · rw [decide_eq_false ha] at e1
    by_cases hb : b = zV
    · rw [decide_eq_true hb] at e2
      have HV : Hid (r = zV) := (show r = zV from by rw [hr]; exact if_pos (Or.inr hb))
      clear ha hb hr
      obtain ⟨b0, b1, b2⟩ := box_v ((w.alloc (.cells #[.int .i64 a.k, .int .i64 a.n, .string a.s] 29)).alloc (.cells #[.int .i64 b.k, .int .i64 b.n, .string b.s] 29)) zV
      have Hb : Hid _ := (⟨b0, b1, b2⟩ : _ ∧ _ ∧ _)
      clear b0 b1 b2
      go_enter Tryz.func128, Tryz.ntmps128
      go_wp2_with fail
      refine bodyPost_ret (res_v (j := 4) (by kernel_rfl) _ _ _ zV ?_ Hb.out.1 Hb.out.2.1 Hb.out.2.2) rfl ⟨by rw [HV.out], three_new w a b zV⟩
      simp
    · rw [decide_eq_false hb] at e2
      have HV : Hid (r = tr (decide (cmpV a b ≤ 0))) := (show r = _ from by rw [hr]; exact if_neg (by rintro (h | h) <;> contradiction))
      clear ha hb hr
      obtain ⟨c, hc⟩ : ∃ c, c = cmpV a b := ⟨_, rfl⟩
      rw [← hc] at HV
      have HB : Hid (∀ W, Tch (fun _ => False) (((w.alloc (.cells #[.int .i64 a.k, .int .i64 a.n, .string a.s] 29)).alloc (.cells #[.int .i64 b.k, .int .i64 b.n, .string b.s] 29)).alloc (.cells #[.int .i64 0, .int .i64 0, .string ⟨#[]⟩] 29)) W → ThreeB w.heap.size a b W ∧ Tch (fun _ => False) w W) := fun W t => ⟨threeB t, (((Tch.alloc _ _ _).allocR _).allocR _).trans' t⟩
      have q1 := compare_any a b (((w.alloc (.cells #[.int .i64 a.k, .int .i64 a.n, .string a.s] 29)).alloc (.cells #[.int .i64 b.k, .int .i64 b.n, .string b.s] 29)).alloc (.cells #[.int .i64 0, .int .i64 0, .string ⟨#[]⟩] 29))
      rw [← hc] at q1
      clear hc
      go_enter Tryz.func128, Tryz.ntmps128
      go_wp2_with fail
      refine q1.mono ?_
      rintro y v1 ⟨rfl, t1⟩
      clear q1
      have q2 := truth_any (decide (c ≤ 0)) v1
      have HT1 : Hid _ := t1
      clear t1
      go_wp2_with fail
      refine q2.mono ?_
      rintro y v2 ⟨rfl, t2⟩
      clear q2
      have V2 := HT1.out.trans' t2
      obtain ⟨⟨⟨c0, c1, c2⟩, ⟨d0, d1, d2⟩, ⟨x0, x1, x2⟩, f0, f1, f2⟩, hw⟩ := HB.out _ V2
      obtain ⟨tv, htv⟩ : ∃ tv, tv = tr (decide (c ≤ 0)) := ⟨_, rfl⟩
      rw [← htv] at HV ⊢
      obtain ⟨k0, k1, k2⟩ := box_set v2 (w.heap.size + 2) _ _ _ (.int .i64 tv.k) (.int .i64 tv.n) (.string tv.s) x0 x1 x2
      have HK : Hid _ := (⟨k0, k1, k2⟩ : _ ∧ _ ∧ _)
      have HT : Hid _ := hw.trans (box_set_tch v2 (w.heap.size + 2) (.int .i64 tv.k) (.int .i64 tv.n) (.string tv.s)) (fun i hi h => by omega)
      clear k0 k1 k2 t2 V2 htv hw
      go_wp2_with fail
      refine bodyPost_ret (res_v (j := 4) (by kernel_rfl) _ _ (w.heap.size + 2) tv ?_ HK.out.1 HK.out.2.1 HK.out.2.2) rfl ⟨by rw [HV.out], HT.out⟩
      rfl
theorem compares_any (o : Nat) (c : Int) (w : World) : Calls Tryz.prog 157 #[.int .i64 (o : Nat), .int .i64 c] w fun x w' => x = .returned (.bool (cmps o c)) ∧ w' = w := by
  unfold cmps
  by_cases h5 : o = 5
  · subst h5
    simp only [if_pos]
    go_enter Tryz.func157, Tryz.ntmps157
    go_wp2
    go_ret
    exact ⟨vret_bool (by first | rfl | (rw [Bool.eq_iff_iff]; simp)), rfl⟩
  rw [if_neg h5]
  have i5 : ¬ ((o : Nat) : Int) = 5 := by omega
  by_cases h6 : o = 6
  · subst h6
    simp only [if_pos]
    go_enter Tryz.func157, Tryz.ntmps157
    go_wp2
    go_ret
    exact ⟨vret_bool (by first | rfl | (rw [Bool.eq_iff_iff]; simp)), rfl⟩
  rw [if_neg h6]
  have i6 : ¬ ((o : Nat) : Int) = 6 := by omega
  by_cases h7 : o = 7
  · subst h7
    simp only [if_pos]
    go_enter Tryz.func157, Tryz.ntmps157
    go_wp2
    go_ret
    exact ⟨vret_bool (by first | rfl | (rw [Bool.eq_iff_iff]; simp)), rfl⟩
  rw [if_neg h7]
  have i7 : ¬ ((o : Nat) : Int) = 7 := by omega
  by_cases h8 : o = 8
  · subst h8
    simp only [if_pos]
    go_enter Tryz.func157, Tryz.ntmps157
    go_wp2
    go_ret
    exact ⟨vret_bool (by first | rfl | (rw [Bool.eq_iff_iff]; simp)), rfl⟩
  rw [if_neg h8]
  have i8 : ¬ ((o : Nat) : Int) = 8 := by omega
  by_cases h9 : o = 9
  · subst h9
    simp only [if_pos]
    go_enter Tryz.func157, Tryz.ntmps157
    go_wp2
    go_ret
    exact ⟨vret_bool (by first | rfl | (rw [Bool.eq_iff_iff]; simp)), rfl⟩
  rw [if_neg h9]
  have i9 : ¬ ((o : Nat) : Int) = 9 := by omega
  clear h5 h6 h7 h8 h9
  go_enter Tryz.func157, Tryz.ntmps157
  go_wp2
  go_ret
  exact ⟨vret_bool (by first | rfl | (rw [Bool.eq_iff_iff]; simp)), rfl⟩
end Go.Proofs.YtmaekkhmiafnmaaGreatDoor
namespace Go.Proofs.YtmaekkhmiafnmaaGreatDoor
open Go Go.Lib
def Sub (r ts : List Tk) : Prop := ∀ t ∈ r, t ∈ ts
theorem Sub.refl (ts : List Tk) : Sub ts ts := fun _ h => h
theorem Sub.trans {a b c : List Tk} (h : Sub a b) (k : Sub b c) : Sub a c := fun t ht => k t (h t ht)
theorem Sub.tail (ts : List Tk) : Sub ts.tail ts := fun _ h => List.mem_of_mem_tail h
def SubR (x : Rs) (ts : List Tk) : Prop := ∀ l r, x = .ok l r → Sub r ts
theorem SubR.ok {l : List Ex} {r ts : List Tk} (h : Sub r ts) : SubR (.ok l r) ts := fun l' r' e => by injection e with _ e; subst e; exact h
theorem SubR.no {w : Int} {p : Nat} {ts : List Tk} : SubR (.no w p) ts := fun l r e => by cases e
theorem SubR.out {ts : List Tk} : SubR .out ts := fun l r e => by cases e
theorem SubR.bind {x : Rs} {f : List Ex → List Tk → Rs} {ts us : List Tk} (h : SubR x us) (hu : Sub us ts) (hf : ∀ l r, Sub r ts → SubR (f l r) ts) : SubR (x.bind f) ts := by
  cases x with
  | ok l r => exact hf l r ((h l r rfl).trans hu)
  | no w p => exact SubR.no
  | out => exact SubR.out
theorem SubR.want {us ts : List Tk} {b : ByteArray} {f : List Tk → Rs} (hu : Sub us ts) (hf : ∀ r, Sub r ts → SubR (f r) ts) : SubR (wantT us b f) ts := by
  unfold wantT
  split
  · exact hf _ ((Sub.tail us).trans hu)
  · exact SubR.no
theorem SubR.num {a : List UInt8} {t : Tk} {r ts : List Tk} (h : Sub r ts) : SubR (numT a t r) ts := by
  unfold numT
  split
  · exact SubR.ok h
  · exact SubR.no
theorem cmpR_sub {P : NT → List Tk → Rs} (hP : ∀ nt us, SubR (P nt us) us) (a : List Ex) {r ts : List Tk} (h : Sub r ts) : SubR (cmpR P a r) ts := by
  have ht : Sub r.tail ts := (Sub.tail r).trans h
  have ht2 : Sub r.tail.tail ts := (Sub.tail _).trans ht
  have hn : Sub (if isT r wNot = true then r.tail else r) ts := by split <;> assumption
  have hnt : Sub (if isT r wNot = true then r.tail else r).tail ts := (Sub.tail _).trans hn
  unfold cmpR
  split
  · exact (hP _ _).bind ht (fun l r1 h1 => SubR.ok h1)
  · split
    · split
      · exact SubR.want ht2 (fun r1 h1 => SubR.ok h1)
      · exact SubR.want ht (fun r1 h1 => SubR.ok h1)
    · split
      · exact SubR.want hnt (fun r2 h2 => (hP _ _).bind h2 (fun l r3 h3 => SubR.want h3 (fun r4 h4 => SubR.ok h4)))
      · exact (hP _ _).bind hnt (fun l r2 h2 => SubR.want h2 (fun r3 h3 => (hP _ _).bind h3 (fun c r4 h4 => SubR.ok h4)))
      · exact (hP _ _).bind hnt (fun l r2 h2 => SubR.ok h2)
      · split
        · exact SubR.no
        · exact SubR.ok h
theorem wordR_sub {P : NT → List Tk → Rs} (hP : ∀ nt us, SubR (P nt us) us) (t : Tk) {r ts : List Tk} (h : Sub r ts) : SubR (wordR P t r) ts := by
  unfold wordR
  split
  · exact SubR.ok h
  · split
    · exact SubR.want h (fun r1 h1 l r e => ((hP _ _) l r e).trans h1)
    · split
      · exact SubR.no
      · split
        · split
          · exact SubR.no
          · exact (hP _ _).bind ((Sub.tail r).trans h) (fun l r1 h1 => SubR.want h1 (fun r2 h2 => by split; exact SubR.ok h2; exact SubR.no))
        · exact SubR.ok h
theorem firstR_sub {P : NT → List Tk → Rs} (hP : ∀ nt us, SubR (P nt us) us) : ∀ ts, SubR (firstR P ts) ts
  | [] => SubR.out
  | t :: r => by
    have h : Sub r (t :: r) := fun _ h => List.mem_cons_of_mem _ h
    simp only [firstR]
    split
    · exact SubR.num h
    · split
      · exact SubR.ok h
      · split
        · exact wordR_sub hP t h
        · split
          · exact (hP _ _).bind h (fun l r1 h1 => SubR.want h1 (fun r2 h2 => SubR.ok h2))
          · exact SubR.no
theorem minusR_sub {P : NT → List Tk → Rs} (hP : ∀ nt us, SubR (P nt us) us) (ts : List Tk) : SubR (minusR P ts) ts := by
  have ht := Sub.tail ts
  unfold minusR
  split
  · split
    · exact SubR.out
    · rename_i t r hr
      rw [hr] at ht
      have h : Sub r ts := fun x hx => ht x (List.mem_cons_of_mem _ hx)
      split
      · exact SubR.num h
      · exact (hP _ _).bind (by rw [hr]; exact ht) (fun l r1 h1 => SubR.ok h1)
  · exact hP _ _
theorem rd_sub : ∀ (n : Nat) (nt : NT) (ts : List Tk), SubR (rd n nt ts) ts
  | 0, _, _ => SubR.out
  | n + 1, .line k, ts => by
    have ih := rd_sub n
    unfold rd
    split
    · split
      · exact (ih _ _).bind (Sub.tail ts) (fun l r h => SubR.ok h)
      · exact ih _ _
    · split
      · exact (ih _ _).bind (Sub.refl ts) (fun l r h => cmpR_sub ih l h)
      · split
        · exact minusR_sub ih ts
        · split
          · exact firstR_sub ih ts
          · exact (ih _ _).bind (Sub.refl ts) (fun l r h l' r' e => ((ih _ _) l' r' e).trans h)
  | n + 1, .more k e, ts => by
    have ih := rd_sub n
    unfold rd
    split
    · exact (ih _ _).bind (Sub.tail ts) (fun l r h l' r' e => ((ih _ _) l' r' e).trans h)
    · exact SubR.ok (Sub.refl ts)
  | n + 1, .list acc, ts => by
    have ih := rd_sub n
    unfold rd
    refine (ih _ _).bind (Sub.refl ts) (fun l r h => ?_)
    split
    · exact fun l' r' e => ((ih _ _) l' r' e).trans ((Sub.tail r).trans h)
    · exact SubR.ok h
  | n + 1, .whens acc, ts => by
    have ih := rd_sub n
    unfold rd
    refine (ih _ _).bind (Sub.refl ts) (fun a r h => SubR.want h (fun r1 h1 => (ih _ _).bind h1 (fun b r2 h2 => ?_)))
    split
    · exact fun l' r' e => ((ih _ _) l' r' e).trans ((Sub.tail r2).trans h2)
    · split
      · exact (ih _ _).bind ((Sub.tail r2).trans h2) (fun c r3 h3 => SubR.want h3 (fun r4 h4 => SubR.ok h4))
      · exact SubR.want h2 (fun r3 h3 => SubR.ok h3)
end Go.Proofs.YtmaekkhmiafnmaaGreatDoor
namespace Go.Proofs.YtmaekkhmiafnmaaGreatDoor
open Go Go.Lib
def Ends : List Tk → Prop
  | [] => False
  | t :: r => (t.b = ⟨#[]⟩ ∧ 4 ≤ t.k ∧ r = []) ∨ (t.k ≤ 3 ∧ Ends r)
theorem Ends.ne {ts : List Tk} (h : Ends ts) : ∃ t r, ts = t :: r := by
  cases ts with
  | nil => exact h.elim
  | cons t r => exact ⟨t, r, rfl⟩
theorem Ends.next {t : Tk} {r : List Tk} (h : Ends (t :: r)) (hk : t.k ≤ 3) : Ends r := by
  rcases h with ⟨_, h4, _⟩ | ⟨_, h⟩
  · omega
  · exact h
theorem Ends.word {t : Tk} {r : List Tk} (h : Ends (t :: r)) {b : ByteArray} (hb : t.b = b) (h0 : b ≠ ⟨#[]⟩) : Ends r := by
  rcases h with ⟨h1, _, _⟩ | ⟨_, h⟩
  · exact absurd (hb.symm.trans h1) h0
  · exact h
theorem Ends.tk {ts : List Tk} (h : Ends ts) {b : ByteArray} (hb : isT ts b = true) (h0 : b ≠ ⟨#[]⟩) : Ends ts.tail ∧ ts.tail.length + 1 = ts.length := by
  obtain ⟨t, r, rfl⟩ := h.ne
  exact ⟨h.word (by simpa [Go.Proofs.YtmaekkhmiafnmaaGreatDoor.isT] using hb) h0, rfl⟩
def Nu (x : Rs) (m : Nat) : Prop := x ≠ .out ∧ ∀ l r, x = .ok l r → Ends r ∧ r.length ≤ m
theorem Nu.no {w : Int} {p m : Nat} : Nu (.no w p) m := ⟨fun e => (by cases e), fun l r e => (by cases e)⟩
theorem Nu.ok {l : List Ex} {r : List Tk} {m : Nat} (h : Ends r) (hm : r.length ≤ m) : Nu (.ok l r) m := ⟨fun e => (by cases e), fun l' r' e => (by injection e with _ e; subst e; exact ⟨h, hm⟩)⟩
theorem Nu.mono {x : Rs} {m n : Nat} (h : Nu x m) (hm : m ≤ n) : Nu x n := ⟨h.1, fun l r e => ⟨(h.2 l r e).1, Nat.le_trans (h.2 l r e).2 hm⟩⟩
theorem Nu.bind {x : Rs} {f : List Ex → List Tk → Rs} {m n : Nat} (h : Nu x m) (hf : ∀ l r, Ends r → r.length ≤ m → Nu (f l r) n) : Nu (x.bind f) n := by
  cases x with
  | ok l r => exact hf l r (h.2 l r rfl).1 (h.2 l r rfl).2
  | no w p => exact Nu.no
  | out => exact absurd rfl h.1
theorem Nu.want {ts : List Tk} {b : ByteArray} {f : List Tk → Rs} {n : Nat} (h : Ends ts) (h0 : b ≠ ⟨#[]⟩) (hf : ∀ r, Ends r → r.length + 1 = ts.length → Nu (f r) n) : Nu (wantT ts b f) n := by
  unfold wantT
  split
  · rename_i hb
    exact hf _ (h.tk hb h0).1 (h.tk hb h0).2
  · exact Nu.no
theorem Nu.num {a : List UInt8} {t : Tk} {r : List Tk} {n : Nat} (h : Ends r) (hn : r.length ≤ n) : Nu (numT a t r) n := by
  unfold numT
  split
  · exact Nu.ok h hn
  · exact Nu.no
theorem opIn_isT {os : List Nat} {ts : List Tk} {o : Nat} (h : opIn os ts = some o) : o ∈ os ∧ isT ts (wd o) = true := by
  unfold opIn at h
  exact ⟨List.mem_of_find?_eq_some h, (by have h1 := List.find?_some h; exact h1)⟩
theorem cmpR_nu {P : NT → List Tk → Rs} {q : Nat} (h5 : ∀ ts, Ends ts → ts.length + 1 ≤ q → Nu (P (.line 5) ts) (ts.length - 1)) (hl : ∀ ts, Ends ts → ts.length + 1 ≤ q → Nu (P (.list []) ts) (ts.length - 1)) (a : List Ex) {r : List Tk} (h : Ends r) (hq : r.length ≤ q) : Nu (cmpR P a r) r.length := by
  have hne : ∀ o ∈ [5, 6, 7, 8, 9, 10, 12, 13, 14], wd o ≠ ⟨#[]⟩ := by decide
  have hn : Ends (if isT r wNot = true then r.tail else r) ∧ (if isT r wNot = true then r.tail else r).length ≤ r.length := by
    split
    · rename_i hb
      have := h.tk hb (by decide)
      exact ⟨this.1, by omega⟩
    · exact ⟨h, Nat.le_refl _⟩
  have hk : ∀ o, opIn [12, 13, 14] (if isT r wNot = true then r.tail else r) = some o → Ends (if isT r wNot = true then r.tail else r).tail ∧ (if isT r wNot = true then r.tail else r).tail.length + 1 ≤ r.length := fun o ho => by
    obtain ⟨h1, h2⟩ := opIn_isT ho
    have h3 := hn.1.tk h2 (hne o (by revert h1; simp; omega))
    have := hn.2
    exact ⟨h3.1, by omega⟩
  unfold cmpR
  split
  · rename_i o ho
    obtain ⟨h1, h2⟩ := opIn_isT ho
    obtain ⟨h3, h4⟩ := h.tk h2 (hne o (by revert h1; simp; omega))
    exact (h5 _ h3 (by omega)).bind fun l r1 e1 l1 => Nu.ok e1 (by omega)
  · split
    · rename_i hi
      obtain ⟨h3, h4⟩ := h.tk hi (by decide)
      split
      · rename_i hn2
        obtain ⟨h5', h6⟩ := h3.tk hn2 (by decide)
        exact Nu.want h5' (by decide) fun r1 e1 l1 => Nu.ok e1 (by omega)
      · exact Nu.want h3 (by decide) fun r1 e1 l1 => Nu.ok e1 (by omega)
    · split
      · rename_i ho
        obtain ⟨h3, h4⟩ := hk _ ho
        exact Nu.want h3 (by decide) fun r2 e2 l2 => (hl _ e2 (by omega)).bind fun l r3 e3 l3 => Nu.want e3 (by decide) fun r4 e4 l4 => Nu.ok e4 (by omega)
      · rename_i ho
        obtain ⟨h3, h4⟩ := hk _ ho
        exact (h5 _ h3 (by omega)).bind fun l r2 e2 l2 => Nu.want e2 (by decide) fun r3 e3 l3 => (h5 _ e3 (by omega)).bind fun c r4 e4 l4 => Nu.ok e4 (by omega)
      · rename_i ho
        obtain ⟨h3, h4⟩ := hk _ ho
        exact (h5 _ h3 (by omega)).bind fun l r2 e2 l2 => Nu.ok e2 (by omega)
      · split
        · exact Nu.no
        · exact Nu.ok h (Nat.le_refl _)
theorem firstR_nu {P : NT → List Tk → Rs} {q : Nat} (h1 : ∀ ts, Ends ts → ts.length + 1 ≤ q → Nu (P (.line 1) ts) (ts.length - 1)) (hl : ∀ ts, Ends ts → ts.length + 1 ≤ q → Nu (P (.list []) ts) (ts.length - 1))
    (hw : ∀ ts, Ends ts → ts.length + 1 ≤ q → Nu (P (.whens []) ts) (ts.length - 1)) {ts : List Tk} (h : Ends ts) (hq : ts.length ≤ q) : Nu (firstR P ts) (ts.length - 1) := by
  obtain ⟨t, r, rfl⟩ := h.ne
  have hL : (t :: r).length = r.length + 1 := rfl
  simp only [firstR, hL, Nat.add_sub_cancel] at hq ⊢
  split
  · exact Nu.num (h.next (by omega)) (Nat.le_refl _)
  · split
    · exact Nu.ok (h.next (by omega)) (Nat.le_refl _)
    · split
      · have hr := h.next (by omega)
        unfold wordR
        split
        · exact Nu.ok hr (Nat.le_refl _)
        · split
          · exact Nu.want hr (by decide) fun r1 e1 l1 => (hw _ e1 (by omega)).mono (by omega)
          · split
            · exact Nu.no
            · split
              · rename_i ho
                obtain ⟨h3, h4⟩ := hr.tk ho (by decide)
                split
                · exact Nu.no
                · exact (hl _ h3 (by omega)).bind fun l r1 e1 l1 => Nu.want e1 (by decide) fun r2 e2 l2 => by
                    split
                    · exact Nu.ok e2 (by omega)
                    · exact Nu.no
              · exact Nu.ok hr (Nat.le_refl _)
      · split
        · rename_i hb
          have hr := h.word hb (by decide)
          exact (h1 _ hr (by omega)).bind fun e r1 e1 l1 => Nu.want e1 (by decide) fun r2 e2 l2 => Nu.ok e2 (by omega)
        · exact Nu.no
def need : NT → Nat → Nat
  | .line k, m => 12 * m - k
  | .more _ _, m => 12 * m
  | .list _, m => 12 * m
  | .whens _, m => 12 * m
def lim : NT → Nat → Nat
  | .more _ _, m => m
  | _, m => m - 1
def ntOk : NT → Prop
  | .line k => 1 ≤ k ∧ k ≤ 9
  | .more k _ => k ∈ [1, 2, 5, 6, 7]
  | _ => True
theorem rd_nu : ∀ (n : Nat) (nt : NT) (ts : List Tk), ntOk nt → Ends ts → need nt ts.length ≤ n → Nu (rd n nt ts) (lim nt ts.length)
  | 0, nt, ts, ho, h, hn => by
    obtain ⟨t, r, rfl⟩ := h.ne
    have hL : (t :: r).length = r.length + 1 := rfl
    cases nt <;> simp only [need, ntOk, hL] at hn ho <;> omega
  | n + 1, .line k, ts, ho, h, hn => by
    have ih := rd_nu n
    obtain ⟨ho1, ho2⟩ := ho
    have hpos : 1 ≤ ts.length := by obtain ⟨t, r, rfl⟩ := h.ne; simp
    have hn : 12 * ts.length - k ≤ n + 1 := hn
    show Nu _ (ts.length - 1)
    unfold rd
    split
    · rename_i h3
      subst h3
      split
      · rename_i hb
        obtain ⟨h1, h2⟩ := h.tk hb (by decide)
        exact (ih (.line 3) _ ⟨by omega, by omega⟩ h1 (by show 12 * _ - 3 ≤ n; omega)).bind fun l r e1 l1 => Nu.ok e1 (by have l1 : r.length ≤ ts.tail.length - 1 := l1; omega)
      · exact ih (.line 4) ts ⟨by omega, by omega⟩ h (by show 12 * _ - 4 ≤ n; omega)
    · split
      · rename_i h3 h4
        subst h4
        refine (ih (.line 5) ts ⟨by omega, by omega⟩ h (by show 12 * _ - 5 ≤ n; omega)).bind fun l r e1 l1 => ?_
        have l1 : r.length ≤ ts.length - 1 := l1
        exact (cmpR_nu (q := ts.length - 1) (fun us hu hl => ih (.line 5) us ⟨by omega, by omega⟩ hu (by show 12 * _ - 5 ≤ n; omega)) (fun us hu hl => ih (.list []) us trivial hu (by show 12 * _ ≤ n; omega)) l e1 l1).mono l1
      · split
        · rename_i h3 h4 h8
          subst h8
          unfold minusR
          split
          · rename_i hb
            obtain ⟨h1, h2⟩ := h.tk hb (by decide)
            split
            · rename_i he
              rw [he] at h1
              exact h1.elim
            · rename_i t r he
              rw [he] at h1 h2 ⊢
              have hL : (t :: r).length = r.length + 1 := rfl
              split
              · exact Nu.num (h1.next (by omega)) (by omega)
              · exact (ih (.line 8) _ ⟨by omega, by omega⟩ h1 (by show 12 * _ - 8 ≤ n; omega)).bind fun l r1 e1 l1 => Nu.ok e1 (by have l1 : r1.length ≤ (t :: r).length - 1 := l1; omega)
          · exact ih (.line 9) ts ⟨by omega, by omega⟩ h (by show 12 * _ - 9 ≤ n; omega)
        · split
          · rename_i h3 h4 h8 h9
            subst h9
            exact firstR_nu (q := ts.length) (fun us hu hl => ih (.line 1) us ⟨by omega, by omega⟩ hu (by show 12 * _ - 1 ≤ n; omega)) (fun us hu hl => ih (.list []) us trivial hu (by show 12 * _ ≤ n; omega)) (fun us hu hl => ih (.whens []) us trivial hu (by show 12 * _ ≤ n; omega)) h (Nat.le_refl _)
          · rename_i h3 h4 h8 h9
            refine (ih (.line (k + 1)) ts ⟨by omega, by omega⟩ h (by show 12 * _ - (k + 1) ≤ n; omega)).bind fun l r e1 l1 => ?_
            have l1 : r.length ≤ ts.length - 1 := l1
            exact (ih (.more k l) r (by show k ∈ [1, 2, 5, 6, 7]; simp; omega) e1 (by show 12 * _ ≤ n; omega)).mono l1
  | n + 1, .more k e, ts, ho, h, hn => by
    have ih := rd_nu n
    have ho : k ∈ [1, 2, 5, 6, 7] := ho
    have hn : 12 * ts.length ≤ n + 1 := hn
    show Nu _ ts.length
    unfold rd
    split
    · rename_i o hop
      obtain ⟨h1, h2⟩ := opIn_isT hop
      have hne : ∀ k ∈ [1, 2, 5, 6, 7], ∀ o ∈ lineOps k, wd o ≠ ⟨#[]⟩ := by decide
      obtain ⟨h3, h4⟩ := h.tk h2 (hne k ho o h1)
      refine (ih (.line (k + 1)) _ (by show 1 ≤ k + 1 ∧ k + 1 ≤ 9; simp at ho; omega) h3 (by show 12 * _ - (k + 1) ≤ n; omega)).bind fun l r e1 l1 => ?_
      have l1 : r.length ≤ ts.tail.length - 1 := l1
      exact (ih (.more k _) r ho e1 (by show 12 * _ ≤ n; omega)).mono (by show r.length ≤ _; omega)
    · exact Nu.ok h (Nat.le_refl _)
  | n + 1, .list acc, ts, ho, h, hn => by
    have ih := rd_nu n
    have hn : 12 * ts.length ≤ n + 1 := hn
    show Nu _ (ts.length - 1)
    have hpos : 1 ≤ ts.length := by obtain ⟨t, r, rfl⟩ := h.ne; simp
    unfold rd
    refine (ih (.line 1) ts ⟨by omega, by omega⟩ h (by show 12 * _ - 1 ≤ n; omega)).bind fun l r e1 l1 => ?_
    have l1 : r.length ≤ ts.length - 1 := l1
    split
    · rename_i hb
      obtain ⟨h3, h4⟩ := e1.tk hb (by decide)
      exact (ih (.list _) _ trivial h3 (by show 12 * _ ≤ n; omega)).mono (by show r.tail.length - 1 ≤ _; omega)
    · exact Nu.ok e1 l1
  | n + 1, .whens acc, ts, ho, h, hn => by
    have ih := rd_nu n
    have hn : 12 * ts.length ≤ n + 1 := hn
    show Nu _ (ts.length - 1)
    have hpos : 1 ≤ ts.length := by obtain ⟨t, r, rfl⟩ := h.ne; simp
    have i1 : ∀ us, Ends us → us.length ≤ ts.length → Nu (rd n (.line 1) us) (us.length - 1) := fun us hu hl => ih (.line 1) us ⟨by omega, by omega⟩ hu (by show 12 * _ - 1 ≤ n; obtain ⟨t, r, rfl⟩ := hu.ne; simp at hl ⊢; omega)
    unfold rd
    refine (i1 ts h (Nat.le_refl _)).bind fun a r e1 l1 => Nu.want e1 (by decide) fun r1 e2 l2 => (i1 r1 e2 (by omega)).bind fun b r2 e3 l3 => ?_
    split
    · rename_i hb
      obtain ⟨h3, h4⟩ := e3.tk hb (by decide)
      exact (ih (.whens _) _ trivial h3 (by show 12 * _ ≤ n; omega)).mono (by show r2.tail.length - 1 ≤ _; omega)
    · split
      · rename_i hb
        obtain ⟨h3, h4⟩ := e3.tk hb (by decide)
        exact (i1 _ h3 (by omega)).bind fun c r3 e5 l5 => Nu.want e5 (by decide) fun r4 e6 l6 => Nu.ok e6 (by omega)
      · exact Nu.want e3 (by decide) fun r3 e5 l5 => Nu.ok e5 (by omega)
def tkOk (t : Tk) : Prop := t.b.size ≤ 400 ∧ (t.k = 1 → t.b.data.toList.head? = some 39 ∧ okT t.b.data.toList = true) ∧ (4 ≤ t.k → t.b = ⟨#[]⟩)
theorem begL_kind (c : UInt8) (l : List UInt8) : (begL c l).1 ≤ 3 ∨ (begL c l).1 = 5 := by
  unfold begL
  repeat' split
  all_goals simp
theorem toks_ok : ∀ (n p : Nat) (l : List UInt8), l.length ≤ 400 → ∀ t ∈ toks n p l, tkOk t
  | 0, _, _, _, t, ht => by simp [toks] at ht
  | n + 1, p, [], _, t, ht => by
    simp only [toks, List.mem_singleton] at ht
    subst ht
    exact ⟨by simp [ByteArray.size], fun h => by simp at h, fun _ => rfl⟩
  | n + 1, p, c :: r, hl, t, ht => by
    rw [toks] at ht
    split at ht
    · exact toks_ok n (p + 1) r (by simp at hl; omega) t ht
    · split at ht
      · simp only [List.mem_singleton] at ht
        subst ht
        exact ⟨by simp [ByteArray.size], fun h => by simp at h, fun _ => rfl⟩
      · rename_i h5
        rcases List.mem_cons.1 ht with rfl | ht
        · refine ⟨by simp [ByteArray.size]; simp at hl; omega, fun h1 => ?_, fun h4 => ?_⟩
          · simp only at h1 ⊢
            unfold begL at h1 ⊢
            split at h1
            · simp at h1
            · rename_i a1
              rw [if_neg a1]
              split at h1
              · simp at h1
              · rename_i a2
                rw [if_neg a2]
                split at h1
                · simp only at h1; split at h1 <;> simp at h1
                · rename_i a3
                  rw [if_neg a3]
                  split at h1
                  · rename_i a4
                    rw [if_pos a4]
                    simp only at h1 ⊢
                    split at h1
                    · rename_i a5
                      have hq : ∃ n, quoL false (c :: r) = n + 1 := by unfold quoL; rw [if_pos a4]; exact ⟨_, rfl⟩
                      obtain ⟨m, hm⟩ := hq
                      rw [hm] at a5 ⊢
                      refine ⟨?_, a5⟩
                      rw [List.take_succ_cons]
                      simp
                      exact UInt8.toNat_inj.1 a4
                    · simp at h1
                  · split at h1
                    · simp at h1
                    · split at h1 <;> simp at h1
          · have := begL_kind c (c :: r)
            simp only at h4
            omega
        · exact toks_ok n _ _ (by simp at hl ⊢; omega) t ht
theorem toks_len : ∀ (n p : Nat) (l : List UInt8), (toks n p l).length ≤ n
  | 0, _, _ => by simp [toks]
  | n + 1, p, [] => by simp [toks]
  | n + 1, p, c :: r => by
    rw [toks]
    split
    · have := toks_len n (p + 1) r; omega
    · split
      · simp
      · have := toks_len n (p + (begL c (c :: r)).2) ((c :: r).drop (begL c (c :: r)).2)
        simp; omega
end Go.Proofs.YtmaekkhmiafnmaaGreatDoor
