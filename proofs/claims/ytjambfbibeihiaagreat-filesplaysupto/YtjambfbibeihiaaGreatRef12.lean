import Derived.Test.YtjambfbibeihiaaGreatRef8
/- The document's disk: Sync, Truncate. -/
namespace Go.Proofs.YtjambfbibeihiaaGreat
set_option maxRecDepth 100000
open Go.RowKit Go.ChangeMaps Go.Sort

section
variable {w : World} {rb : Nat} {d : Dsk} {v : Value} {acts : Int}
/-- Which Sync fails is stored. -/
theorem RW.setFail (h : RW w rb d v acts) (hne : ∀ g, v.ownBlock = some g → g ≠ rb) (k : Nat) : RW (w.setCell ⟨rb, 3, none⟩ (.int .i64 k)) rb { d with fail := k } v acts := by
  refine h.own1 (Tch.setCell (fun i => i = rb) w ⟨rb, 3, none⟩ (.int .i64 k) rfl) hne ?_ rfl
  rw [blk_set h.blk]; simp
end
section
variable (rb : Nat) (d : Dsk) (F : Nat → Prop) (w : World)

set_option maxHeartbeats 4000000 in
theorem rsync_f (nm : ByteArray) (h : RF w rb d F) (hB : Bd d) :
    Calls Tryz.prog 17 #[.pointer (some ⟨rb, 0, none⟩), .string nm] w fun x w' => x = .returned (.int .i64 (d.sync nm.data.toList).1) ∧ RF w' rb (d.sync nm.data.toList).2 F ∧ Kept F w w' := by
  have hF := h
  obtain ⟨v, acts, h, h1, h2, h3⟩ := h
  have hlen := hB.len
  have hask := rasked_any rb d v acts nm w h (by omega)
  have hl := h.lt
  obtain ⟨e, he⟩ : ∃ e, e = d.ask nm.data.toList := ⟨_, rfl⟩
  rw [← he] at hask
  by_cases e0 : e = 0
  · obtain ⟨hr, f, hg⟩ := ask_zero (he.symm.trans e0)
    have hne : ∀ g, v.ownBlock = some g → g ≠ rb := fun g hg => (h2 g hg).2
    have hact := fun W (hW : RW W rb d v acts) => ract_any rb d v acts W hW hne hB.die
    have hask0 : d.ask nm.data.toList = 0 := he.symm.trans e0
    have c3' := fun k => (h.drewN k).c3
    have hfl := hB.fail
    clear he
    subst e0
    by_cases hd : d.die = 1
    · have HX : Hid (d.sync nm.data.toList = (2, d.acted)) := by
        show _ = _
        simp [Dsk.sync, hask0, hd, Dsk.acted]
      simp only [show d.actR = 2 from if_pos hd] at hact
      go_enter Tryz.func17, Tryz.ntmps17
      go_wp2_with fail
      refine hask.mono ?_
      rintro x w1 ⟨⟨i, rfl, _⟩, k, rfl⟩
      clear hask
      have c3 := c3' k
      by_cases hf1 : (d.fail : Int) = 1
      · rw [hf1] at c3
        go_wp2_with fail
        refine (hact _ (h.drewN k)).mono ?_
        rintro x w2 ⟨rfl, a2, hR2, t2⟩
        clear hact
        go_wp2
        go_ret
        rw [HX.out]
        exact ⟨rfl, RF.step hl h1 h2 h3 hR2 (fun g hg => Or.inl hg) ((((Tch.refl _ w).drewN k).mono (fun _ _ h => h)).trans' (t2.mono (fun _ _ h => Or.inl h)))⟩
      · go_wp2_with fail
        refine (hact _ (h.drewN k)).mono ?_
        rintro x w2 ⟨rfl, a2, hR2, t2⟩
        clear hact
        go_wp2
        go_ret
        rw [HX.out]
        exact ⟨rfl, RF.step hl h1 h2 h3 hR2 (fun g hg => Or.inl hg) ((((Tch.refl _ w).drewN k).mono (fun _ _ h => h)).trans' (t2.mono (fun _ _ h => Or.inl h)))⟩
    · simp only [show d.actR = 0 from if_neg hd] at hact
      obtain ⟨g, cp, rfl, hpi, -⟩ := h.at_ hg
      have hgr := (h2 g rfl).2
      by_cases hf1 : d.fail = 1
      · have HX : Hid (d.sync nm.data.toList = (25, { d.acted with fail := 0 })) := by
          show _ = _
          simp [Dsk.sync, hask0, hd, hf1, acted_die hd]
        have HS : Hid (∀ W a, RW W rb d.acted (.slice (some ⟨g, 0, none⟩) d.m.length cp) a → (W.cell? ⟨rb, 3, none⟩ = some (.int .i64 1) ∧ W.frozen? ⟨rb, 3, none⟩ = false) ∧ RW (W.setCell ⟨rb, 3, none⟩ (.int .i64 0)) rb { d.acted with fail := 0 } (.slice (some ⟨g, 0, none⟩) d.m.length cp) a) := fun W a hW => by
          have c3 := hW.c3
          rw [acted_die hd] at c3
          simp only [hf1] at c3
          exact ⟨⟨c3, hW.fz 3⟩, hW.setFail hne 0⟩
        have c3 := c3' 0
        go_enter Tryz.func17, Tryz.ntmps17
        go_wp2_with fail
        refine hask.mono ?_
        rintro x w1 ⟨⟨i, rfl, _⟩, k, rfl⟩
        clear hask c3
        have c3 := c3' k
        rw [hf1] at c3
        have c3 : (w.drewN k).cell? ⟨rb, 3, none⟩ = some (.int .i64 1) := c3
        go_wp2_with fail
        refine (hact _ (h.drewN k)).mono ?_
        rintro x w2 ⟨rfl, a2, hR2, t2⟩
        clear hact c3 c3'
        have T2 : Tch (fun i => i = rb ∨ (Value.slice (some ⟨g, 0, none⟩) d.m.length cp).ownBlock = some i) w w2 := (((Tch.refl (fun i => i = rb ∨ (Value.slice (some ⟨g, 0, none⟩) d.m.length cp).ownBlock = some i) w).drewN k)).trans' (t2.mono (fun _ _ h => Or.inl h))
        obtain ⟨⟨c3, c4⟩, hR3⟩ := HS.out w2 a2 hR2
        have HR3 : Hid _ := hR3
        clear hR3 HS hR2 t2
        go_wp2
        go_ret
        rw [HX.out]
        exact ⟨rfl, RF.step hl h1 h2 h3 HR3.out (fun g hg => Or.inl hg) (T2.setCellR ⟨rb, 3, none⟩ _ (Or.inl rfl))⟩
      · have hf1' : ¬ (d.fail : Int) = 1 := by omega
        have HX : Hid (d.sync nm.data.toList = (0, { d.acted.set nm.data.toList ⟨f.bs, f.bs.length⟩ with fail := d.fail - 1 })) := by
          show _ = _
          simp [Dsk.sync, hask0, hd, hf1, acted_die hd, Dsk.set, file_some hg]
        have hmu := mem_used hg
        have hroom := hB.room
        have hcap := hB.cap
        have HS : Hid (∀ W a, RW W rb { d.acted with fail := d.fail - 1 } (.slice (some ⟨g, 0, none⟩) d.m.length cp) a → (W.cell? ⟨rb, 1, none⟩ = some (.slice (some ⟨g, 0, none⟩) d.m.length cp) ∧ W.cell? ⟨g, posL nm.data.toList d.m * 3 + 1, none⟩ = some (.string ⟨f.bs.toArray⟩) ∧ W.cell? ⟨g, posL nm.data.toList d.m * 3 + 2, none⟩ = some (.int .i64 f.la) ∧ W.frozen? ⟨g, posL nm.data.toList d.m * 3 + 2, none⟩ = false) ∧ RW (W.setCell ⟨g, posL nm.data.toList d.m * 3 + 2, none⟩ (.int .i64 f.bs.length)) rb ({ d.acted.set nm.data.toList ⟨f.bs, f.bs.length⟩ with fail := d.fail - 1 }) (.slice (some ⟨g, 0, none⟩) d.m.length cp) a) := fun W a hW => by
          have hm' : ({ d.acted with fail := d.fail - 1 } : Dsk).m = d.m := acted_m d
          have hW' : RW W rb { d.acted with fail := d.fail - 1 } (.slice (some ⟨g, 0, none⟩) ({ d.acted with fail := d.fail - 1 } : Dsk).m.length cp) a := by rw [hm']; exact hW
          have hg' : getL nm.data.toList ({ d.acted with fail := d.fail - 1 } : Dsk).m = some f := by rw [hm']; exact hg
          obtain ⟨g', cp', e1, _, _, c2, c2', fz⟩ := hW'.at_ hg'
          simp only [Value.slice.injEq, Option.some.injEq, Addr.mk.injEq, and_true, true_and] at e1
          obtain ⟨rfl, rfl⟩ := e1
          have h4 := hW'.set2 hg' hgr f.bs.length
          rw [hm'] at c2 c2' h4
          refine ⟨⟨hW.c1, c2, c2', fz _⟩, ?_⟩
          have e3 : (({ d.acted with fail := d.fail - 1 } : Dsk).set nm.data.toList ⟨f.bs, f.bs.length⟩).m.length = d.m.length := by
            show (setL _ _ d.acted.m).length = _
            rw [length_setL, acted_m]
          rw [e3] at h4
          exact h4
        have HT : Hid (∀ W a, RW W rb d.acted (.slice (some ⟨g, 0, none⟩) d.m.length cp) a → (W.cell? ⟨rb, 3, none⟩ = some (.int .i64 d.fail) ∧ W.frozen? ⟨rb, 3, none⟩ = false) ∧ ((0 : Int) < d.fail → RW (W.setCell ⟨rb, 3, none⟩ (.int .i64 ((d.fail : Int) - 1))) rb { d.acted with fail := d.fail - 1 } (.slice (some ⟨g, 0, none⟩) d.m.length cp) a) ∧ (¬ (0 : Int) < d.fail → RW W rb { d.acted with fail := d.fail - 1 } (.slice (some ⟨g, 0, none⟩) d.m.length cp) a)) := fun W a hW => by
          have c3 := hW.c3
          have hfa : d.acted.fail = d.fail := by rw [acted_die hd]
          rw [hfa] at c3
          refine ⟨⟨c3, hW.fz 3⟩, fun h0 => ?_, fun h0 => ?_⟩
          · have := hW.setFail hne (d.fail - 1)
            rw [show ((d.fail - 1 : Nat) : Int) = (d.fail : Int) - 1 by omega] at this
            exact this
          · have e : d.fail - 1 = d.acted.fail := by rw [hfa]; omega
            rw [e]; exact hW
        obtain ⟨p, hp⟩ : ∃ p, p = posL nm.data.toList d.m := ⟨_, rfl⟩
        rw [← hp] at hask HS hpi
        have hp1 : (p : Int) < d.m.length := by omega
        have hxs : (⟨f.bs.toArray⟩ : ByteArray).size = f.bs.length := by show Array.size _ = _; simp
        generalize (⟨f.bs.toArray⟩ : ByteArray) = xb at *
        clear hp hg
        go_enter Tryz.func17, Tryz.ntmps17
        go_wp2_with fail
        refine hask.mono ?_
        rintro x w1 ⟨⟨i, rfl, hi⟩, k, rfl⟩
        have hi' := hi (by trivial)
        subst hi'
        clear hask hi
        have c3 := c3' k
        go_wp2_with fail
        refine (hact _ (h.drewN k)).mono ?_
        rintro x w2 ⟨rfl, a2, hR2, t2⟩
        clear hact c3 c3'
        have T2 : Tch (fun i => i = rb ∨ (Value.slice (some ⟨g, 0, none⟩) d.m.length cp).ownBlock = some i) w w2 := (((Tch.refl (fun i => i = rb ∨ (Value.slice (some ⟨g, 0, none⟩) d.m.length cp).ownBlock = some i) w).drewN k)).trans' (t2.mono (fun _ _ h => Or.inl h))
        obtain ⟨⟨c3, c4⟩, hR3, hR3'⟩ := HT.out w2 a2 hR2
        clear HT hR2 t2
        by_cases hf0 : (0 : Int) < d.fail
        · have hR4 := hR3 (by omega)
          clear hR3 hR3'
          obtain ⟨⟨c1, c2, c5, c6⟩, hR5⟩ := HS.out _ a2 hR4
          have HR5 : Hid _ := hR5
          clear hR5 hR4 HS
          obtain ⟨w3, hw3⟩ : ∃ w3, w3 = w2.setCell ⟨rb, 3, none⟩ (.int .i64 ((d.fail : Int) - 1)) := ⟨_, rfl⟩
          have T3 := T2.setCellR ⟨rb, 3, none⟩ (.int .i64 ((d.fail : Int) - 1)) (Or.inl rfl)
          rw [← hw3] at c1 c2 c5 c6 HR5 T3
          generalize d.m.length = L at *
          go_wp2_with fail
          rw [← hw3]
          clear hw3 c3 c4
          go_region
          go_wp2
          go_ret
          rw [HX.out]
          exact ⟨rfl, RF.step hl h1 h2 h3 (HR5.out.no ((Tch.refl _ _).drew)) (fun g hg => Or.inl hg) ((T3.setCellR ⟨g, p * 3 + 2, none⟩ _ (Or.inr rfl)).drew)⟩
        · have hR4 := hR3' (by omega)
          clear hR3 hR3'
          obtain ⟨⟨c1, c2, c5, c6⟩, hR5⟩ := HS.out _ a2 hR4
          have HR5 : Hid _ := hR5
          clear hR5 hR4 HS
          generalize d.m.length = L at *
          go_wp2_with fail
          clear c3 c4
          go_region
          go_wp2
          go_ret
          rw [HX.out]
          exact ⟨rfl, RF.step hl h1 h2 h3 (HR5.out.no ((Tch.refl _ _).drew)) (fun g hg => Or.inl hg) ((T2.setCellR ⟨g, p * 3 + 2, none⟩ _ (Or.inr rfl)).drew)⟩
  · have HX : Hid (d.sync nm.data.toList = (e, d)) := by
      show _ = _
      simp only [Dsk.sync, ← he, e0, ne_eq, not_false_eq_true, if_true]
    clear he
    go_enter Tryz.func17, Tryz.ntmps17
    go_wp2_with fail
    refine hask.mono ?_
    rintro x w1 ⟨⟨i, rfl, _⟩, k, rfl⟩
    clear hask
    go_wp2
    go_ret
    exact ⟨by rw [HX.out]; rfl, by rw [HX.out]; exact hF.drewN k, (Tch.refl _ w).drewN k⟩
end
end Go.Proofs.YtjambfbibeihiaaGreat
/- The document's disk: Truncate, Rename. -/
namespace Go.Proofs.YtjambfbibeihiaaGreat
set_option maxRecDepth 100000
open Go.RowKit Go.ChangeMaps Go.Sort

theorem extract_list (s : ByteArray) (n : Nat) : (s.extract 0 n).data.toList = s.data.toList.take n := by
  rw [ByteArray.data_extract, Array.toList_extract]
  simp
theorem setL_twice (n : Nm) (a b : Fl) (m : List (Nm × Fl)) : setL n a (setL n b m) = setL n a m := by
  unfold setL
  rw [List.map_map]
  refine List.map_congr_left (fun p _ => ?_)
  simp only [Function.comp]
  split <;> simp

theorem posL_setL (n : Nm) (a : Fl) : ∀ m : List (Nm × Fl), posL n (setL n a m) = posL n m
  | [] => rfl
  | p :: m => by
    have ih := posL_setL n a m
    have e2 : setL n a (p :: m) = (if p.1 == n then (p.1, a) else p) :: setL n a m := rfl
    have e3 : (if p.1 == n then (p.1, a) else p).1 = p.1 := by split <;> rfl
    unfold posL at ih ⊢
    rw [e2, List.takeWhile_cons, List.takeWhile_cons]
    simp only [e3]
    split
    · simp only [List.length_cons, ih]
    · rfl

section
variable (rb : Nat) (d : Dsk) (F : Nat → Prop) (w : World)

set_option maxHeartbeats 4000000 in
theorem rtrunc_f (nm : ByteArray) (k : Int) (h : RF w rb d F) (hB : Bd d) :
    Calls Tryz.prog 19 #[.pointer (some ⟨rb, 0, none⟩), .string nm, .int .i64 k] w fun x w' => x = .returned (.int .i64 (d.trunc nm.data.toList k).1) ∧ RF w' rb (d.trunc nm.data.toList k).2 F ∧ Kept F w w' := by
  have hF := h
  obtain ⟨v, acts, h, h1, h2, h3⟩ := h
  have hlen := hB.len
  have hask := rasked_any rb d v acts nm w h (by omega)
  have hl := h.lt
  obtain ⟨e, he⟩ : ∃ e, e = d.ask nm.data.toList := ⟨_, rfl⟩
  rw [← he] at hask
  by_cases e0 : e = 0
  · obtain ⟨hr, f, hg⟩ := ask_zero (he.symm.trans e0)
    have hne : ∀ g, v.ownBlock = some g → g ≠ rb := fun g hg => (h2 g hg).2
    have hact := fun W (hW : RW W rb d v acts) => ract_any rb d v acts W hW hne hB.die
    have hask0 : d.ask nm.data.toList = 0 := he.symm.trans e0
    clear he
    subst e0
    obtain ⟨g, cp, rfl, hpi, -, c2, c2', -⟩ := h.at_ hg
    have hgr := (h2 g rfl).2
    have hmu := mem_used hg
    have hroom := hB.room
    have hcap := hB.cap
    have c1 := h.c1
    obtain ⟨p, hp⟩ : ∃ p, p = posL nm.data.toList d.m := ⟨_, rfl⟩
    have hxs : (⟨f.bs.toArray⟩ : ByteArray).size = f.bs.length := by show Array.size _ = _; simp
    have hxl : (⟨f.bs.toArray⟩ : ByteArray).data.toList = f.bs := rfl
    by_cases hbad : k < 0 ∨ (f.bs.length : Int) < k
    · have HX : Hid (d.trunc nm.data.toList k = (24, d)) := by
        show _ = _
        simp only [Dsk.trunc, hask0, ne_eq, not_true_eq_false, if_false, file_some hg, hbad, if_true]
      rw [← hp] at hask hpi c2
      have hp1 : (p : Int) < d.m.length := by omega
      generalize (⟨f.bs.toArray⟩ : ByteArray) = xb at *
      clear hp hg hact
      generalize d.m.length = L at *
      rcases hbad with hb | hb
      · go_enter Tryz.func19, Tryz.ntmps19
        go_wp2_with fail
        refine hask.mono ?_
        rintro x w1 ⟨⟨i, rfl, _⟩, k', rfl⟩
        clear hask
        go_wp2
        go_ret
        exact ⟨by rw [HX.out]; rfl, by rw [HX.out]; exact hF.drewN k', (Tch.refl _ w).drewN k'⟩
      · have hb' : ¬ k < 0 := by omega
        go_enter Tryz.func19, Tryz.ntmps19
        go_wp2_with fail
        refine hask.mono ?_
        rintro x w1 ⟨⟨i, rfl, hi⟩, k', hw1⟩
        have hi' := hi (by trivial)
        subst hi'
        have c1' : w1.cell? ⟨rb, 1, none⟩ = some (.slice (some ⟨g, 0, none⟩) L cp) := by rw [hw1]; exact c1
        have c2'' : w1.cell? ⟨g, p * 3 + 1, none⟩ = some (.string xb) := by rw [hw1]; exact c2
        have HW1 : Hid (w1 = w.drewN k') := hw1
        clear hask hi hw1 c1 c2 c2'
        go_wp2
        go_ret
        exact ⟨by rw [HX.out]; rfl, by rw [HX.out, HW1.out]; exact hF.drewN k', by rw [HW1.out]; exact (Tch.refl _ w).drewN k'⟩
    · obtain ⟨kn, rfl⟩ : ∃ kn : Nat, k = kn := ⟨k.toNat, by omega⟩
      have hk2 : kn ≤ f.bs.length := by omega
      have hcr : d.trunc nm.data.toList kn = d.act fun d => d.set nm.data.toList ⟨(d.file nm.data.toList).bs.take kn, min (d.file nm.data.toList).la kn⟩ := by
        simp only [Dsk.trunc, hask0, ne_eq, not_true_eq_false, if_false, file_some hg, hbad, Int.toNat_natCast]
      have hk3 : ¬ (kn : Int) < 0 := by omega
      have hk4 : ¬ (f.bs.length : Int) < kn := by omega
      clear hbad
      by_cases hd : d.die = 1
      · have HX : Hid (d.trunc nm.data.toList kn = (2, d.acted)) := hcr.trans (act_acted _ hd)
        simp only [show d.actR = 2 from if_pos hd] at hact
        clear hcr
        rw [← hp] at hask hpi c2
        have hp1 : (p : Int) < d.m.length := by omega
        generalize (⟨f.bs.toArray⟩ : ByteArray) = xb at *
        clear hp hg
        generalize d.m.length = L at *
        go_enter Tryz.func19, Tryz.ntmps19
        go_wp2_with fail
        refine hask.mono ?_
        rintro x w1 ⟨⟨i, rfl, hi⟩, k', hw1⟩
        have hi' := hi (by trivial)
        subst hi'
        have c1' : w1.cell? ⟨rb, 1, none⟩ = some (.slice (some ⟨g, 0, none⟩) L cp) := by rw [hw1]; exact c1
        have c2'' : w1.cell? ⟨g, p * 3 + 1, none⟩ = some (.string xb) := by rw [hw1]; exact c2
        have hw1R : RW w1 rb d (.slice (some ⟨g, 0, none⟩) L cp) acts := by rw [hw1]; exact h.drewN k'
        have t1 : Tch (fun i => i = rb ∨ (Value.slice (some ⟨g, 0, none⟩) L cp).ownBlock = some i) w w1 := by rw [hw1]; exact (Tch.refl _ w).drewN k'
        clear hask hi hw1 c1 c2 c2'
        go_wp2_with fail
        refine (hact _ hw1R).mono ?_
        rintro x w2 ⟨rfl, a2, hR2, t2⟩
        clear hact
        go_wp2
        go_ret
        rw [HX.out]
        exact ⟨rfl, RF.step hl h1 h2 h3 hR2 (fun g hg => Or.inl hg) (t1.trans' (t2.mono (fun _ _ h => Or.inl h)))⟩
      · simp only [show d.actR = 0 from if_neg hd] at hact
        have HX : Hid (d.trunc nm.data.toList kn = (0, d.acted.set nm.data.toList ⟨f.bs.take kn, min f.la kn⟩)) := by
          show _ = _
          rw [hcr]
          simp only [Dsk.act, hd, if_false, acted_die hd, Dsk.set, file_some hg]
        have HS : Hid (∀ W a, RW W rb d.acted (.slice (some ⟨g, 0, none⟩) d.m.length cp) a → (W.cell? ⟨rb, 1, none⟩ = some (.slice (some ⟨g, 0, none⟩) d.m.length cp) ∧ W.cell? ⟨g, posL nm.data.toList d.m * 3 + 1, none⟩ = some (.string ⟨f.bs.toArray⟩) ∧ W.frozen? ⟨g, posL nm.data.toList d.m * 3 + 1, none⟩ = false) ∧ RW (W.setCell ⟨g, posL nm.data.toList d.m * 3 + 1, none⟩ (.string ((⟨f.bs.toArray⟩ : ByteArray).extract 0 kn))) rb (d.acted.set nm.data.toList ⟨f.bs.take kn, f.la⟩) (.slice (some ⟨g, 0, none⟩) d.m.length cp) a) := fun W a hW => by
          have hW' : RW W rb d.acted (.slice (some ⟨g, 0, none⟩) d.acted.m.length cp) a := by rw [acted_m]; exact hW
          have hg' : getL nm.data.toList d.acted.m = some f := by rw [acted_m]; exact hg
          obtain ⟨g', cp', e1, _, _, c2, _, fz⟩ := hW'.at_ hg'
          simp only [Value.slice.injEq, Option.some.injEq, Addr.mk.injEq, and_true, true_and] at e1
          obtain ⟨rfl, rfl⟩ := e1
          have h4 := hW'.set1 hg' hgr ((⟨f.bs.toArray⟩ : ByteArray).extract 0 kn)
          rw [acted_m] at c2 h4
          refine ⟨⟨hW.c1, c2, fz _⟩, ?_⟩
          rw [extract_list] at h4
          have e3 : (d.acted.set nm.data.toList ⟨(⟨f.bs.toArray⟩ : ByteArray).data.toList.take kn, f.la⟩).m.length = d.m.length := by
            show (setL _ _ d.acted.m).length = _
            rw [length_setL, acted_m]
          rw [e3] at h4
          exact h4
        have HT : Hid (∀ W a, RW W rb (d.acted.set nm.data.toList ⟨f.bs.take kn, f.la⟩) (.slice (some ⟨g, 0, none⟩) d.m.length cp) a → (W.cell? ⟨rb, 1, none⟩ = some (.slice (some ⟨g, 0, none⟩) d.m.length cp) ∧ W.cell? ⟨g, posL nm.data.toList d.m * 3 + 2, none⟩ = some (.int .i64 f.la) ∧ W.frozen? ⟨g, posL nm.data.toList d.m * 3 + 2, none⟩ = false) ∧ ((kn : Int) < f.la → RW (W.setCell ⟨g, posL nm.data.toList d.m * 3 + 2, none⟩ (.int .i64 kn)) rb (d.acted.set nm.data.toList ⟨f.bs.take kn, min f.la kn⟩) (.slice (some ⟨g, 0, none⟩) d.m.length cp) a) ∧ (¬ (kn : Int) < f.la → RW W rb (d.acted.set nm.data.toList ⟨f.bs.take kn, min f.la kn⟩) (.slice (some ⟨g, 0, none⟩) d.m.length cp) a)) := fun W a hW => by
          have hm' : (d.acted.set nm.data.toList ⟨f.bs.take kn, f.la⟩).m = setL nm.data.toList ⟨f.bs.take kn, f.la⟩ d.m := by show setL _ _ d.acted.m = _; rw [acted_m]
          have hl' : (d.acted.set nm.data.toList ⟨f.bs.take kn, f.la⟩).m.length = d.m.length := by rw [hm', length_setL]
          have hW' : RW W rb (d.acted.set nm.data.toList ⟨f.bs.take kn, f.la⟩) (.slice (some ⟨g, 0, none⟩) (d.acted.set nm.data.toList ⟨f.bs.take kn, f.la⟩).m.length cp) a := by rw [hl']; exact hW
          have hg' : getL nm.data.toList (d.acted.set nm.data.toList ⟨f.bs.take kn, f.la⟩).m = some ⟨f.bs.take kn, f.la⟩ := by rw [hm']; exact getL_setL_same hg
          have hps : posL nm.data.toList (d.acted.set nm.data.toList ⟨f.bs.take kn, f.la⟩).m = posL nm.data.toList d.m := by
            rw [hm']; exact posL_setL _ _ _
          obtain ⟨g', cp', e1, _, _, c2, c2', fz⟩ := hW'.at_ hg'
          simp only [Value.slice.injEq, Option.some.injEq, Addr.mk.injEq, and_true, true_and] at e1
          obtain ⟨rfl, rfl⟩ := e1
          rw [hps] at c2'
          refine ⟨⟨hW.c1, c2', fz _⟩, fun h0 => ?_, fun h0 => ?_⟩
          · have h4 := hW'.set2 hg' hgr kn
            rw [hps] at h4
            have e5 : (d.acted.set nm.data.toList ⟨f.bs.take kn, f.la⟩).set nm.data.toList ⟨f.bs.take kn, kn⟩ = d.acted.set nm.data.toList ⟨f.bs.take kn, min f.la kn⟩ := by
              simp only [Dsk.set, setL_twice]
              rw [show min f.la kn = kn by omega]
            have e6 : (d.acted.set nm.data.toList ⟨f.bs.take kn, min f.la kn⟩).m.length = d.m.length := by
              show (setL _ _ d.acted.m).length = _
              rw [length_setL, acted_m]
            simp only [e5, e6] at h4
            exact h4
          · rw [show min f.la kn = f.la by omega]; exact hW
        rw [← hp] at hask HS HT hpi c2
        have hp1 : (p : Int) < d.m.length := by omega
        generalize (⟨f.bs.toArray⟩ : ByteArray) = xb at *
        clear hp hg hcr hxl
        generalize d.m.length = L at *
        go_enter Tryz.func19, Tryz.ntmps19
        go_wp2_with fail
        refine hask.mono ?_
        rintro x w1 ⟨⟨i, rfl, hi⟩, k', hw1⟩
        have hi' := hi (by trivial)
        subst hi'
        have c1' : w1.cell? ⟨rb, 1, none⟩ = some (.slice (some ⟨g, 0, none⟩) L cp) := by rw [hw1]; exact c1
        have c2'' : w1.cell? ⟨g, p * 3 + 1, none⟩ = some (.string xb) := by rw [hw1]; exact c2
        have hw1R : RW w1 rb d (.slice (some ⟨g, 0, none⟩) L cp) acts := by rw [hw1]; exact h.drewN k'
        have t1 : Tch (fun i => i = rb ∨ (Value.slice (some ⟨g, 0, none⟩) L cp).ownBlock = some i) w w1 := by rw [hw1]; exact (Tch.refl _ w).drewN k'
        clear hask hi hw1 c1 c2 c2'
        go_wp2_with fail
        refine (hact _ hw1R).mono ?_
        rintro x w2 ⟨rfl, a2, hR2, t2⟩
        clear hact hw1R c1' c2''
        have T2 := t1.trans' (t2.mono (T := fun i => i = rb ∨ (Value.slice (some ⟨g, 0, none⟩) L cp).ownBlock = some i) (fun _ _ h => Or.inl h))
        clear t1 t2
        obtain ⟨⟨d1, d2, d3⟩, hR3⟩ := HS.out w2 a2 hR2
        clear HS hR2
        go_wp2_with fail
        go_region
        obtain ⟨w3, hw3⟩ : ∃ w3, w3 = (w2.setCell ⟨g, p * 3 + 1, none⟩ (.string (xb.extract 0 kn))).drew := ⟨_, rfl⟩
        have T3 := (T2.setCellR ⟨g, p * 3 + 1, none⟩ (.string (xb.extract 0 kn)) (Or.inr rfl)).drew
        have hR4 := hR3.no ((Tch.refl _ _).drew)
        rw [← hw3] at T3 hR4 ⊢
        clear hw3 hR3 d1 d2 d3 T2
        obtain ⟨⟨d1, d2, d3⟩, hR5, hR5'⟩ := HT.out w3 a2 hR4
        clear HT hR4
        by_cases hla : (kn : Int) < f.la
        · have HR5 : Hid _ := hR5 (by omega)
          clear hR5 hR5'
          go_wp2
          go_ret
          rw [HX.out]
          exact ⟨rfl, RF.step hl h1 h2 h3 HR5.out (fun g hg => Or.inl hg) (T3.setCellR ⟨g, p * 3 + 2, none⟩ _ (Or.inr rfl))⟩
        · have HR5 : Hid _ := hR5' (by omega)
          clear hR5 hR5'
          go_wp2
          go_ret
          rw [HX.out]
          exact ⟨rfl, RF.step hl h1 h2 h3 HR5.out (fun g hg => Or.inl hg) T3⟩
  · have HX : Hid (d.trunc nm.data.toList k = (e, d)) := by
      show _ = _
      simp only [Dsk.trunc, ← he, e0, ne_eq, not_false_eq_true, if_true]
    clear he
    go_enter Tryz.func19, Tryz.ntmps19
    go_wp2_with fail
    refine hask.mono ?_
    rintro x w1 ⟨⟨i, rfl, _⟩, k, rfl⟩
    clear hask
    go_wp2
    go_ret
    exact ⟨by rw [HX.out]; rfl, by rw [HX.out]; exact hF.drewN k, (Tch.refl _ w).drewN k⟩
end
end Go.Proofs.YtjambfbibeihiaaGreat
/- The document's disk: Rename, Arm, FailSync, Dead, Size, Pending. -/
namespace Go.Proofs.YtjambfbibeihiaaGreat
set_option maxRecDepth 100000
open Go.RowKit Go.ChangeMaps Go.Sort

theorem delL_comm (a b : Nm) (m : List (Nm × Fl)) : delL a (delL b m) = delL b (delL a m) := by
  unfold delL
  rw [List.filter_filter, List.filter_filter]
  congr 1
  funext p
  exact Bool.and_comm _ _
theorem delL_idem (a : Nm) (m : List (Nm × Fl)) : delL a (delL a m) = delL a m := delL_none (getL_delL_same a m)
theorem Up.del {m : List (Nm × Fl)} (h : Up m) (n : Nm) : Up (delL n m) := List.Pairwise.filter _ h
theorem putL_back {n : Nm} {f : Fl} {m : List (Nm × Fl)} (h : Up m) (hg : getL n m = some f) : putL n f (delL n m) = m := by
  refine up_ext ((h.del n).put n f) h (fun x => ?_)
  by_cases e : x = n
  · subst e; rw [getL_putL_same, hg]
  · rw [getL_putL_other e, getL_delL_other e]
theorem putL_del (n : Nm) (f : Fl) (m : List (Nm × Fl)) : putL n f (delL n m) = putL n f m := by rw [putL, delL_idem]; rfl

section
variable (rb : Nat) (d : Dsk) (F : Nat → Prop) (w : World)

set_option maxHeartbeats 4000000 in
theorem rrename_f (nm to : ByteArray) (h : RF w rb d F) (hB : Bd d) :
    Calls Tryz.prog 23 #[.pointer (some ⟨rb, 0, none⟩), .string nm, .string to] w fun x w' => x = .returned (.int .i64 (d.rename nm.data.toList to.data.toList).1) ∧ RF w' rb (d.rename nm.data.toList to.data.toList).2 F ∧ Kept F w w' := by
  have hF := h
  obtain ⟨v, acts, h, h1, h2, h3⟩ := h
  have hlen := hB.len
  have hnd := named_any to w
  have hask := rasked_any rb d v acts nm w h (by omega)
  have hl := h.lt
  cases hto : okN to.data.toList
  · have HX : Hid (d.rename nm.data.toList to.data.toList = (20, d)) := by
      show _ = _
      simp only [Dsk.rename, hto, if_true]
    rw [hto] at hnd
    clear hask
    go_enter Tryz.func23, Tryz.ntmps23
    go_wp2_with fail
    refine hnd.mono ?_
    rintro x w1 ⟨rfl, rfl⟩
    clear hnd
    go_wp2
    go_ret
    exact ⟨by rw [HX.out]; rfl, by rw [HX.out]; exact hF, Tch.refl _ _⟩
  · rw [hto] at hnd
    obtain ⟨e, he⟩ : ∃ e, e = d.ask nm.data.toList := ⟨_, rfl⟩
    rw [← he] at hask
    by_cases e0 : e = 0
    · obtain ⟨hr, f, hg⟩ := ask_zero (he.symm.trans e0)
      have hne : ∀ g, v.ownBlock = some g → g ≠ rb := fun g hg => (h2 g hg).2
      have hact := fun W (hW : RW W rb d v acts) => ract_any rb d v acts W hW hne hB.die
      have hcr : d.rename nm.data.toList to.data.toList = d.act fun d => if nm.data.toList = to.data.toList then d else { d with m := putL to.data.toList (d.file nm.data.toList) (delL nm.data.toList (delL to.data.toList d.m)) } := by
        simp only [Dsk.rename, hto, Bool.true_eq_false, if_false, ← he, e0, ne_eq, not_true_eq_false]
      clear he
      subst e0
      by_cases hd : d.die = 1
      · have HX : Hid (d.rename nm.data.toList to.data.toList = (2, d.acted)) := hcr.trans (act_acted _ hd)
        simp only [show d.actR = 2 from if_pos hd] at hact
        clear hcr
        go_enter Tryz.func23, Tryz.ntmps23
        go_wp2_with fail
        refine hnd.mono ?_
        rintro x w1 ⟨rfl, rfl⟩
        clear hnd
        go_wp2_with fail
        refine hask.mono ?_
        rintro x w1 ⟨⟨i, rfl, _⟩, k, rfl⟩
        clear hask
        go_wp2_with fail
        refine (hact _ (h.drewN k)).mono ?_
        rintro x w2 ⟨rfl, a2, hR2, t2⟩
        clear hact
        go_wp2
        go_ret
        rw [HX.out]
        exact ⟨rfl, RF.step hl h1 h2 h3 hR2 (fun g hg => Or.inl hg) ((((Tch.refl _ _).drewN k).mono (fun _ _ h => h)).trans' (t2.mono (fun _ _ h => Or.inl h)))⟩
      · simp only [show d.actR = 0 from if_neg hd] at hact
        have hup := h.up
        have HX : Hid (d.rename nm.data.toList to.data.toList = (0, { d.acted with m := putL to.data.toList f (delL to.data.toList (delL nm.data.toList d.m)) })) := by
          show _ = _
          rw [hcr]
          simp only [Dsk.act, hd, if_false, acted_die hd, file_some hg]
          by_cases hnt : nm.data.toList = to.data.toList
          · rw [if_pos hnt, ← hnt, putL_del, putL_back hup hg]
          · rw [if_neg hnt, delL_comm]
        clear hcr
        obtain ⟨g, cp, rfl, hpi, -⟩ := h.at_ hg
        have hat := fun W a (hW : RW W rb d.acted (.slice (some ⟨g, 0, none⟩) d.m.length cp) a) => hW.at_ (n := nm.data.toList) (f := f) (by rw [acted_m]; exact hg)
        rw [acted_m] at hat
        have htk := fun W a (hW : RW W rb d.acted (.slice (some ⟨g, 0, none⟩) d.m.length cp) a) => rtake_any rb d.acted _ a nm.data.toList f W hW (by rw [acted_m]; exact hlen) (by rw [acted_m]; exact hg)
        rw [acted_m] at htk
        have hl1 : (delL nm.data.toList d.m).length ≤ d.m.length := length_delL_le _ _
        have hl2 : (delL to.data.toList (delL nm.data.toList d.m)).length ≤ (delL nm.data.toList d.m).length := length_delL_le _ _
        have hfd := fun W v a (hW : RW W rb { d.acted with m := delL nm.data.toList d.m } v a) => rfind_any rb _ v a to W hW (by show (delL nm.data.toList d.m).length ≤ _; omega)
        have hpt := fun W v a (hW : RW W rb { d.acted with m := delL to.data.toList (delL nm.data.toList d.m) } v a) => rput_any rb _ v a to ⟨f.bs.toArray⟩ f.la W hW (by show ((delL to.data.toList (delL nm.data.toList d.m)).length + 1) * 40 ≤ _; omega) (getL_delL_same _ _)
        obtain ⟨p, hp⟩ : ∃ p, p = posL nm.data.toList d.m := ⟨_, rfl⟩
        rw [← hp] at hask hpi hat htk
        have hp1 : (p : Int) < d.m.length := by omega
        cases hgt : getL to.data.toList (delL nm.data.toList d.m) with
        | none =>
          simp only [hgt] at hfd
          have hsame : delL to.data.toList (delL nm.data.toList d.m) = delL nm.data.toList d.m := delL_none hgt
          rw [hsame] at hpt HX
          clear hl2
          have HXL : Hid ((⟨f.bs.toArray⟩ : ByteArray).data.toList = f.bs) := rfl
          generalize (⟨f.bs.toArray⟩ : ByteArray) = xb at *
          generalize (⟨nm.data.toList.toArray⟩ : ByteArray) = xn at *
          clear hp hg hgt hsame
          go_enter Tryz.func23, Tryz.ntmps23
          go_wp2_with fail
          refine hnd.mono ?_
          rintro x wA ⟨rfl, hwA⟩
          have hwA' := hwA.symm
          subst hwA'
          clear hnd hwA
          go_wp2_with fail
          refine hask.mono ?_
          rintro x w1 ⟨⟨i, rfl, hi⟩, k, rfl⟩
          have hi' := hi (by trivial)
          subst hi'
          clear hask hi
          go_wp2_with fail
          refine (hact _ (h.drewN k)).mono ?_
          rintro x w2 ⟨rfl, a2, hR2, t2⟩
          clear hact
          have T2 : Tch (fun i => i = rb ∨ (Value.slice (some ⟨g, 0, none⟩) d.m.length cp).ownBlock = some i) w w2 := (((Tch.refl (fun i => i = rb ∨ (Value.slice (some ⟨g, 0, none⟩) d.m.length cp).ownBlock = some i) w).drewN k)).trans' (t2.mono (fun _ _ h => Or.inl h))
          have hz2 := T2.size
          clear t2
          obtain ⟨g', cp', e1, _, b0, b1, b2, -⟩ := hat w2 a2 hR2
          simp only [Value.slice.injEq, Option.some.injEq, Addr.mk.injEq, and_true, true_and] at e1
          obtain ⟨rfl, rfl⟩ := e1
          have c1 := hR2.c1
          obtain ⟨w3, hw3⟩ : ∃ w3, w3 = w2.alloc (.cells #[.string xn, .string xb, .int .i64 f.la] 84) := ⟨_, rfl⟩
          have t3 : Tch (fun _ => False) w2 w3 := by rw [hw3]; exact Tch.alloc _ _ _
          have hbx : w3.heap[w2.heap.size]? = some (.cells #[.string xn, .string xb, .int .i64 f.la] 84 (0, 0)) := by rw [hw3]; exact box_one w2 _
          have hR3 := hR2.no t3
          go_wp2_with fail
          rw [← hw3]
          clear hw3 c1 b0 b1 b2 hat
          refine (htk w3 a2 hR3).mono ?_
          rintro x w4 ⟨rfl, v4, hR4, hv4, t4⟩
          clear htk
          have hrb : rb < w2.heap.size := hR2.lt
          have hw23 : w2.heap.size < w3.heap.size := blk_lt hbx
          have hb4 := (t4.block _ hw23 (by omega)).trans hbx
          have hz34 := t4.size
          have T4 := (T2.trans' (t3.mono (T := fun i => i = rb ∨ (Value.slice (some ⟨g, 0, none⟩) d.m.length cp).ownBlock = some i) (fun _ _ h => h.elim))).trans' (t4.mono (T := fun i => i = rb ∨ (Value.slice (some ⟨g, 0, none⟩) d.m.length cp).ownBlock = some i) (fun _ _ h => Or.inl h))
          clear t3 t4 hR3 hR2 T2 hbx
          go_wp2_with fail
          refine (hfd w4 v4 a2 hR4).mono ?_
          rintro x w5 ⟨rfl, k5, hw5⟩
          have hR5 : RW w5 rb { d.acted with m := delL nm.data.toList d.m } v4 a2 := by rw [hw5]; exact hR4.drewN k5
          have hb5 : w5.heap[w2.heap.size]? = some (.cells #[.string xn, .string xb, .int .i64 f.la] 84 (0, 0)) := by rw [hw5]; exact hb4
          have T5 : Tch (fun i => i = rb ∨ (Value.slice (some ⟨g, 0, none⟩) d.m.length cp).ownBlock = some i) w w5 := by rw [hw5]; exact T4.drewN k5
          have hz5 : w5.heap.size = w4.heap.size := by rw [hw5]; rfl
          clear hw5 hfd hR4 hb4 T4
          obtain ⟨w6, hw6⟩ : ∃ w6, w6 = w5 := ⟨_, rfl⟩
          rw [← hw6]
          rw [← hw6] at hR5 hb5 T5 hz5
          clear hw6
          have hR6 := hR5
          have hb6 := hb5
          have T6 := T5
          have hv6 : ∀ g, v4.ownBlock = some g → w2.heap.size < g := fun g hg => by have := hv4 g hg; omega
          clear hR5 hb5 T5
          have q0 : w6.cell? ⟨w2.heap.size, 0, none⟩ = some (.string xn) := by rw [blk_cell hb6]; rfl
          have q1 : w6.cell? ⟨w2.heap.size, 1, none⟩ = some (.string xb) := by rw [blk_cell hb6]; rfl
          have q2 : w6.cell? ⟨w2.heap.size, 2, none⟩ = some (.int .i64 f.la) := by rw [blk_cell hb6]; rfl
          have q3 : w6.frozen? ⟨w2.heap.size, 0, none⟩ = false := blk_frozen hb6 0
          obtain ⟨w7, hw7⟩ : ∃ w7, w7 = w6.setCell ⟨w2.heap.size, 0, none⟩ (.string to) := ⟨_, rfl⟩
          have t7 : Tch (fun i => i = w2.heap.size) w6 w7 := by rw [hw7]; exact Tch.setCell _ _ _ _ rfl
          have hb7 : w7.heap[w2.heap.size]? = some (.cells #[.string to, .string xb, .int .i64 f.la] 84 (0, 0)) := by rw [hw7]; exact blk_set hb6 _
          have r0 : w7.cell? ⟨w2.heap.size, 0, none⟩ = some (.string to) := by rw [blk_cell hb7]; rfl
          have r1 : w7.cell? ⟨w2.heap.size, 1, none⟩ = some (.string xb) := by rw [blk_cell hb7]; rfl
          have r2 : w7.cell? ⟨w2.heap.size, 2, none⟩ = some (.int .i64 f.la) := by rw [blk_cell hb7]; rfl
          have hR7 := hR6.tch t7 (by omega) (fun g hg e => by have := hv6 g hg; omega)
          have T7 := T6.trans t7 (fun i hi e => by omega)
          have hz67 := t7.size
          go_wp2_with fail
          rw [← hw7]
          clear hw7 q0 q1 q2 q3 t7 hb6 hb7 hR6 T6
          refine (hpt w7 _ a2 hR7).mono ?_
          rintro x w8 ⟨rfl, v8, hR8, hv8, t8⟩
          rw [HXL.out] at hR8
          clear hpt
          go_wp2
          go_ret
          rw [HX.out]
          exact ⟨rfl, RF.step hl h1 h2 h3 hR8 (fun g hg => Or.inr (by have := hv8 g hg; omega)) (T7.trans' (t8.mono (fun _ _ h => Or.inl h)))⟩
        | some f2 =>
          simp only [hgt] at hfd
          have htk2 := fun W v a (hW : RW W rb { d.acted with m := delL nm.data.toList d.m } v a) => rtake_any rb _ v a to.data.toList f2 W hW (by show ((delL nm.data.toList d.m).length + 1) * 40 ≤ _; omega) hgt
          have HXL : Hid ((⟨f.bs.toArray⟩ : ByteArray).data.toList = f.bs) := rfl
          generalize (⟨f.bs.toArray⟩ : ByteArray) = xb at *
          generalize (⟨nm.data.toList.toArray⟩ : ByteArray) = xn at *
          clear hp hg hgt
          go_enter Tryz.func23, Tryz.ntmps23
          go_wp2_with fail
          refine hnd.mono ?_
          rintro x wA ⟨rfl, hwA⟩
          have hwA' := hwA.symm
          subst hwA'
          clear hnd hwA
          go_wp2_with fail
          refine hask.mono ?_
          rintro x w1 ⟨⟨i, rfl, hi⟩, k, rfl⟩
          have hi' := hi (by trivial)
          subst hi'
          clear hask hi
          go_wp2_with fail
          refine (hact _ (h.drewN k)).mono ?_
          rintro x w2 ⟨rfl, a2, hR2, t2⟩
          clear hact
          have T2 : Tch (fun i => i = rb ∨ (Value.slice (some ⟨g, 0, none⟩) d.m.length cp).ownBlock = some i) w w2 := (((Tch.refl (fun i => i = rb ∨ (Value.slice (some ⟨g, 0, none⟩) d.m.length cp).ownBlock = some i) w).drewN k)).trans' (t2.mono (fun _ _ h => Or.inl h))
          have hz2 := T2.size
          clear t2
          obtain ⟨g', cp', e1, _, b0, b1, b2, -⟩ := hat w2 a2 hR2
          simp only [Value.slice.injEq, Option.some.injEq, Addr.mk.injEq, and_true, true_and] at e1
          obtain ⟨rfl, rfl⟩ := e1
          have c1 := hR2.c1
          obtain ⟨w3, hw3⟩ : ∃ w3, w3 = w2.alloc (.cells #[.string xn, .string xb, .int .i64 f.la] 84) := ⟨_, rfl⟩
          have t3 : Tch (fun _ => False) w2 w3 := by rw [hw3]; exact Tch.alloc _ _ _
          have hbx : w3.heap[w2.heap.size]? = some (.cells #[.string xn, .string xb, .int .i64 f.la] 84 (0, 0)) := by rw [hw3]; exact box_one w2 _
          have hR3 := hR2.no t3
          go_wp2_with fail
          rw [← hw3]
          clear hw3 c1 b0 b1 b2 hat
          refine (htk w3 a2 hR3).mono ?_
          rintro x w4 ⟨rfl, v4, hR4, hv4, t4⟩
          clear htk
          have hrb : rb < w2.heap.size := hR2.lt
          have hw23 : w2.heap.size < w3.heap.size := blk_lt hbx
          have hb4 := (t4.block _ hw23 (by omega)).trans hbx
          have hz34 := t4.size
          have T4 := (T2.trans' (t3.mono (T := fun i => i = rb ∨ (Value.slice (some ⟨g, 0, none⟩) d.m.length cp).ownBlock = some i) (fun _ _ h => h.elim))).trans' (t4.mono (T := fun i => i = rb ∨ (Value.slice (some ⟨g, 0, none⟩) d.m.length cp).ownBlock = some i) (fun _ _ h => Or.inl h))
          clear t3 t4 hR3 hR2 T2 hbx
          go_wp2_with fail
          refine (hfd w4 v4 a2 hR4).mono ?_
          rintro x w5 ⟨rfl, k5, hw5⟩
          have hR5 : RW w5 rb { d.acted with m := delL nm.data.toList d.m } v4 a2 := by rw [hw5]; exact hR4.drewN k5
          have hb5 : w5.heap[w2.heap.size]? = some (.cells #[.string xn, .string xb, .int .i64 f.la] 84 (0, 0)) := by rw [hw5]; exact hb4
          have T5 : Tch (fun i => i = rb ∨ (Value.slice (some ⟨g, 0, none⟩) d.m.length cp).ownBlock = some i) w w5 := by rw [hw5]; exact T4.drewN k5
          have hz5 : w5.heap.size = w4.heap.size := by rw [hw5]; rfl
          clear hw5 hfd hR4 hb4 T4
          go_wp2_with fail
          refine (htk2 w5 v4 a2 hR5).mono ?_
          rintro x w6 ⟨rfl, v6, hR6, hv6', t6⟩
          clear htk2
          have hz56 := t6.size
          have hb6 := (t6.block _ (by omega) (by omega)).trans hb5
          have T6 := T5.trans' (t6.mono (T := fun i => i = rb ∨ (Value.slice (some ⟨g, 0, none⟩) d.m.length cp).ownBlock = some i) (fun _ _ h => Or.inl h))
          have hv6 : ∀ g, v6.ownBlock = some g → w2.heap.size < g := fun g hg => by have := hv6' g hg; omega
          clear hR5 hb5 T5 t6
          have q0 : w6.cell? ⟨w2.heap.size, 0, none⟩ = some (.string xn) := by rw [blk_cell hb6]; rfl
          have q1 : w6.cell? ⟨w2.heap.size, 1, none⟩ = some (.string xb) := by rw [blk_cell hb6]; rfl
          have q2 : w6.cell? ⟨w2.heap.size, 2, none⟩ = some (.int .i64 f.la) := by rw [blk_cell hb6]; rfl
          have q3 : w6.frozen? ⟨w2.heap.size, 0, none⟩ = false := blk_frozen hb6 0
          obtain ⟨w7, hw7⟩ : ∃ w7, w7 = w6.setCell ⟨w2.heap.size, 0, none⟩ (.string to) := ⟨_, rfl⟩
          have t7 : Tch (fun i => i = w2.heap.size) w6 w7 := by rw [hw7]; exact Tch.setCell _ _ _ _ rfl
          have hb7 : w7.heap[w2.heap.size]? = some (.cells #[.string to, .string xb, .int .i64 f.la] 84 (0, 0)) := by rw [hw7]; exact blk_set hb6 _
          have r0 : w7.cell? ⟨w2.heap.size, 0, none⟩ = some (.string to) := by rw [blk_cell hb7]; rfl
          have r1 : w7.cell? ⟨w2.heap.size, 1, none⟩ = some (.string xb) := by rw [blk_cell hb7]; rfl
          have r2 : w7.cell? ⟨w2.heap.size, 2, none⟩ = some (.int .i64 f.la) := by rw [blk_cell hb7]; rfl
          have hR7 := hR6.tch t7 (by omega) (fun g hg e => by have := hv6 g hg; omega)
          have T7 := T6.trans t7 (fun i hi e => by omega)
          have hz67 := t7.size
          go_wp2_with fail
          rw [← hw7]
          clear hw7 q0 q1 q2 q3 t7 hb6 hb7 hR6 T6
          refine (hpt w7 _ a2 hR7).mono ?_
          rintro x w8 ⟨rfl, v8, hR8, hv8, t8⟩
          rw [HXL.out] at hR8
          clear hpt
          go_wp2
          go_ret
          rw [HX.out]
          exact ⟨rfl, RF.step hl h1 h2 h3 hR8 (fun g hg => Or.inr (by have := hv8 g hg; omega)) (T7.trans' (t8.mono (fun _ _ h => Or.inl h)))⟩
    · have HX : Hid (d.rename nm.data.toList to.data.toList = (e, d)) := by
        show _ = _
        simp only [Dsk.rename, hto, Bool.true_eq_false, if_false, ← he, e0, ne_eq, not_false_eq_true, if_true]
      clear he
      go_enter Tryz.func23, Tryz.ntmps23
      go_wp2_with fail
      refine hnd.mono ?_
      rintro x w1 ⟨rfl, rfl⟩
      clear hnd
      go_wp2_with fail
      refine hask.mono ?_
      rintro x w1 ⟨⟨i, rfl, _⟩, k, rfl⟩
      clear hask
      go_wp2
      go_ret
      exact ⟨by rw [HX.out]; rfl, by rw [HX.out]; exact hF.drewN k, (Tch.refl _ _).drewN k⟩
end
end Go.Proofs.YtjambfbibeihiaaGreat
/- The document's disk: Arm, FailSync, Dead, Size, Pending, Read. -/
namespace Go.Proofs.YtjambfbibeihiaaGreat
set_option maxRecDepth 100000
open Go.RowKit Go.ChangeMaps Go.Sort

section
variable {w : World} {rb : Nat} {d : Dsk} {v : Value} {acts : Int}
theorem RW.setDie (h : RW w rb d v acts) (hne : ∀ g, v.ownBlock = some g → g ≠ rb) (k : Nat) : RW (w.setCell ⟨rb, 2, none⟩ (.int .i64 k)) rb { d with die := k } v acts := by
  refine h.own1 (Tch.setCell (fun i => i = rb) w ⟨rb, 2, none⟩ (.int .i64 k) rfl) hne ?_ rfl
  rw [blk_set h.blk]; simp
end
section
variable (rb : Nat) (d : Dsk) (F : Nat → Prop) (w : World)

theorem rdead_f (h : RF w rb d F) : Calls Tryz.prog 69 #[.pointer (some ⟨rb, 0, none⟩)] w fun x w' => x = .returned (.bool d.dead) ∧ w' = w := by
  obtain ⟨v, acts, h, h1, h2, h3⟩ := h
  have c4 := h.c4
  go_enter Tryz.func69, Tryz.ntmps69
  go_wp2
  go_ret
  exact ⟨rfl, rfl⟩

theorem rarm_f (k : Int) (h : RF w rb d F) :
    Calls Tryz.prog 25 #[.pointer (some ⟨rb, 0, none⟩), .int .i64 k] w fun x w' => x = .returned (.int .i64 (d.arm k).1) ∧ RF w' rb (d.arm k).2 F ∧ Kept F w w' := by
  have hF := h
  obtain ⟨v, acts, h, h1, h2, h3⟩ := h
  have hl := h.lt
  have c4 := h.c4
  have c2 := h.c2
  have f2 := h.fz 2
  by_cases hk : k < 0
  · have HX : Hid (d.arm k = (1, d)) := if_pos hk
    go_enter Tryz.func25, Tryz.ntmps25
    go_wp2
    go_ret
    exact ⟨by rw [HX.out]; rfl, by rw [HX.out]; exact hF, Tch.refl _ _⟩
  · cases hd : d.dead
    · obtain ⟨kn, rfl⟩ : ∃ kn : Nat, k = kn := ⟨k.toNat, by omega⟩
      have HX : Hid (d.arm kn = (0, { d with die := kn })) := by show _ = _; simp [Dsk.arm, hd]
      have HR : Hid _ := h.setDie (fun g hg => (h2 g hg).2) kn
      rw [hd] at c4
      clear h
      go_enter Tryz.func25, Tryz.ntmps25
      go_wp2
      go_ret
      rw [HX.out]
      exact ⟨rfl, RF.step hl h1 h2 h3 HR.out (fun g hg => Or.inl hg) (Tch.setCell _ w ⟨rb, 2, none⟩ _ (Or.inl rfl))⟩
    · have HX : Hid (d.arm k = (2, d)) := by show _ = _; simp [Dsk.arm, hd, hk]
      rw [hd] at c4
      go_enter Tryz.func25, Tryz.ntmps25
      go_wp2
      go_ret
      exact ⟨by rw [HX.out]; rfl, by rw [HX.out]; exact hF, Tch.refl _ _⟩

theorem rfailSync_f (k : Int) (h : RF w rb d F) :
    Calls Tryz.prog 27 #[.pointer (some ⟨rb, 0, none⟩), .int .i64 k] w fun x w' => x = .returned (.int .i64 (d.failSync k).1) ∧ RF w' rb (d.failSync k).2 F ∧ Kept F w w' := by
  have hF := h
  obtain ⟨v, acts, h, h1, h2, h3⟩ := h
  have hl := h.lt
  have c4 := h.c4
  have c3 := h.c3
  have f3 := h.fz 3
  by_cases hk : k < 0
  · have HX : Hid (d.failSync k = (1, d)) := if_pos hk
    go_enter Tryz.func27, Tryz.ntmps27
    go_wp2
    go_ret
    exact ⟨by rw [HX.out]; rfl, by rw [HX.out]; exact hF, Tch.refl _ _⟩
  · cases hd : d.dead
    · obtain ⟨kn, rfl⟩ : ∃ kn : Nat, k = kn := ⟨k.toNat, by omega⟩
      have HX : Hid (d.failSync kn = (0, { d with fail := kn })) := by show _ = _; simp [Dsk.failSync, hd]
      have HR : Hid _ := h.setFail (fun g hg => (h2 g hg).2) kn
      rw [hd] at c4
      clear h
      go_enter Tryz.func27, Tryz.ntmps27
      go_wp2
      go_ret
      rw [HX.out]
      exact ⟨rfl, RF.step hl h1 h2 h3 HR.out (fun g hg => Or.inl hg) (Tch.setCell _ w ⟨rb, 3, none⟩ _ (Or.inl rfl))⟩
    · have HX : Hid (d.failSync k = (2, d)) := by show _ = _; simp [Dsk.failSync, hd, hk]
      rw [hd] at c4
      go_enter Tryz.func27, Tryz.ntmps27
      go_wp2
      go_ret
      exact ⟨by rw [HX.out]; rfl, by rw [HX.out]; exact hF, Tch.refl _ _⟩

set_option maxHeartbeats 2000000 in
theorem rsize_f (nm : ByteArray) (h : RF w rb d F) (hB : Bd d) :
    Calls Tryz.prog 36 #[.pointer (some ⟨rb, 0, none⟩), .string nm] w fun x w' => x = .returned (.tuple #[.int .i64 (d.size nm.data.toList).1, .int .i64 (d.size nm.data.toList).2]) ∧ ∃ n, w' = w.drewN n := by
  obtain ⟨v, acts, h, h1, h2, h3⟩ := h
  have hlen := hB.len
  have hask := rasked_any rb d v acts nm w h (by omega)
  obtain ⟨e, he⟩ : ∃ e, e = d.ask nm.data.toList := ⟨_, rfl⟩
  rw [← he] at hask
  by_cases e0 : e = 0
  · obtain ⟨hr, f, hg⟩ := ask_zero (he.symm.trans e0)
    have HX : Hid (d.size nm.data.toList = ((f.bs.length : Int), 0)) := by
      show _ = _
      simp only [Dsk.size, ← he, e0, ne_eq, not_true_eq_false, if_false, file_some hg]
    obtain ⟨g, cp, rfl, hpi, -, c2, -, -⟩ := h.at_ hg
    have c1 := h.c1
    have hxs : (⟨f.bs.toArray⟩ : ByteArray).size = f.bs.length := by show Array.size _ = _; simp
    generalize (⟨f.bs.toArray⟩ : ByteArray) = xb at *
    clear he
    subst e0
    generalize posL nm.data.toList d.m = p at *
    have hp1 : (p : Int) < d.m.length := by omega
    clear h hg
    generalize d.m.length = L at *
    go_enter Tryz.func36, Tryz.ntmps36
    go_wp2_with fail
    refine hask.mono ?_
    rintro x w1 ⟨⟨i, rfl, hi⟩, k, hw1⟩
    have hi' := hi (by trivial)
    subst hi'
    have c1' : w1.cell? ⟨rb, 1, none⟩ = some (.slice (some ⟨g, 0, none⟩) L cp) := by rw [hw1]; exact c1
    have c2' : w1.cell? ⟨g, p * 3 + 1, none⟩ = some (.string xb) := by rw [hw1]; exact c2
    have HW1 : Hid (w1 = w.drewN k) := hw1
    clear hask hi hw1 c1 c2
    go_wp2
    go_ret2
    exact ⟨by rw [HX.out]; rfl, k, HW1.out⟩
  · have HX : Hid (d.size nm.data.toList = (0, e)) := by
      show _ = _
      simp only [Dsk.size, ← he, e0, ne_eq, not_false_eq_true, if_true]
    clear he
    go_enter Tryz.func36, Tryz.ntmps36
    go_wp2_with fail
    refine hask.mono ?_
    rintro x w1 ⟨⟨i, rfl, _⟩, k, hw1⟩
    have HW1 : Hid (w1 = w.drewN k) := hw1
    clear hask hw1
    go_wp2
    go_ret2
    exact ⟨by rw [HX.out]; rfl, k, HW1.out⟩

set_option maxHeartbeats 2000000 in
theorem rpending_f (nm : ByteArray) (h : RF w rb d F) (hB : Bd d) :
    Calls Tryz.prog 29 #[.pointer (some ⟨rb, 0, none⟩), .string nm] w fun x w' => x = .returned (.int .i64 (d.pending nm.data.toList)) ∧ ∃ n, w' = w.drewN n := by
  obtain ⟨v, acts, h, h1, h2, h3⟩ := h
  have hlen := hB.len
  have hfd := rfind_any rb d v acts nm w h (by omega)
  cases hg : getL nm.data.toList d.m with
  | none =>
    have HX : Hid (d.pending nm.data.toList = 0) := by show _ = _; simp [Dsk.pending, Dsk.file, hg]
    rw [hg] at hfd
    go_enter Tryz.func29, Tryz.ntmps29
    go_wp2_with fail
    refine hfd.mono ?_
    rintro x w1 ⟨rfl, k, hw1⟩
    have HW1 : Hid (w1 = w.drewN k) := hw1
    clear hfd hw1
    go_wp2
    go_ret
    exact ⟨by rw [HX.out]; rfl, k, HW1.out⟩
  | some f =>
    have hla := hB.la _ (getL_mem hg)
    have hla' : f.la ≤ f.bs.length := hla
    have hmu := mem_used hg
    have hroom := hB.room
    have hcap := hB.cap
    have HX : Hid ((d.pending nm.data.toList : Int) = (f.bs.length : Int) - f.la) := by
      show _ = _
      unfold Dsk.pending
      rw [file_some hg]
      omega
    obtain ⟨g, cp, rfl, hpi, -, c2, c3, -⟩ := h.at_ hg
    have c1 := h.c1
    have hxs : (⟨f.bs.toArray⟩ : ByteArray).size = f.bs.length := by show Array.size _ = _; simp
    generalize (⟨f.bs.toArray⟩ : ByteArray) = xb at *
    rw [hg] at hfd
    generalize posL nm.data.toList d.m = p at *
    have hp1 : (p : Int) < d.m.length := by omega
    clear h hg
    generalize d.m.length = L at *
    go_enter Tryz.func29, Tryz.ntmps29
    go_wp2_with fail
    refine hfd.mono ?_
    rintro x w1 ⟨rfl, k, hw1⟩
    have c1' : w1.cell? ⟨rb, 1, none⟩ = some (.slice (some ⟨g, 0, none⟩) L cp) := by rw [hw1]; exact c1
    have c2' : w1.cell? ⟨g, p * 3 + 1, none⟩ = some (.string xb) := by rw [hw1]; exact c2
    have c3' : w1.cell? ⟨g, p * 3 + 2, none⟩ = some (.int .i64 f.la) := by rw [hw1]; exact c3
    have HW1 : Hid (w1 = w.drewN k) := hw1
    clear hfd hw1 c1 c2 c3
    go_wp2_with fail
    first | (go_ret; exact ⟨by rw [HX.out]; rfl, k, HW1.out⟩) | skip
    go_quiet (fail)
    go_wp2
    go_ret
    exact ⟨by rw [HX.out]; rfl, k + nq, by rw [HW1.out, World.drewN_drewN]⟩

set_option maxHeartbeats 4000000 in
theorem rread_f (nm : ByteArray) (a n : Int) (h : RF w rb d F) (hB : Bd d) (ha : a ≤ 9223372036854775807) (hn : n ≤ 9223372036854775807) :
    Calls Tryz.prog 38 #[.pointer (some ⟨rb, 0, none⟩), .string nm, .int .i64 a, .int .i64 n] w fun x w' => x = .returned (.tuple #[.string ⟨(d.read nm.data.toList a n).1.toArray⟩, .int .i64 (d.read nm.data.toList a n).2]) ∧ ∃ n, w' = w.drewN n := by
  obtain ⟨v, acts, h, h1, h2, h3⟩ := h
  have hlen := hB.len
  have hask := rasked_any rb d v acts nm w h (by omega)
  obtain ⟨e, he⟩ : ∃ e, e = d.ask nm.data.toList := ⟨_, rfl⟩
  rw [← he] at hask
  by_cases e0 : e = 0
  · obtain ⟨hr, f, hg⟩ := ask_zero (he.symm.trans e0)
    obtain ⟨g, cp, rfl, hpi, -, c2, -, -⟩ := h.at_ hg
    have hmu := mem_used hg
    have hroom := hB.room
    have hcap := hB.cap
    have c1 := h.c1
    have hxs : (⟨f.bs.toArray⟩ : ByteArray).size = f.bs.length := by show Array.size _ = _; simp
    by_cases hbad : a < 0 ∨ n < 0 ∨ (f.bs.length : Int) < a ∨ (f.bs.length : Int) - a < n
    · have HX : Hid (d.read nm.data.toList a n = ([], 24)) := by
        show _ = _
        simp only [Dsk.read, ← he, e0, ne_eq, not_true_eq_false, if_false, file_some hg, hbad, if_true]
      generalize (⟨f.bs.toArray⟩ : ByteArray) = xb at *
      clear he
      subst e0
      generalize posL nm.data.toList d.m = p at *
      have hp1 : (p : Int) < d.m.length := by omega
      clear h hg
      generalize d.m.length = L at *
      by_cases b1 : a < 0
      · go_enter Tryz.func38, Tryz.ntmps38
        go_wp2_with fail
        refine hask.mono ?_
        rintro x w1 ⟨⟨i, rfl, _⟩, k, hw1⟩
        have HW1 : Hid (w1 = w.drewN k) := hw1
        clear hask hw1 c1 c2 hbad
        go_wp2
        go_ret2
        exact ⟨by rw [HX.out]; rfl, k, HW1.out⟩
      · by_cases b2 : n < 0
        · go_enter Tryz.func38, Tryz.ntmps38
          go_wp2_with fail
          refine hask.mono ?_
          rintro x w1 ⟨⟨i, rfl, _⟩, k, hw1⟩
          have HW1 : Hid (w1 = w.drewN k) := hw1
          clear hask hw1 c1 c2 hbad
          go_wp2
          go_ret2
          exact ⟨by rw [HX.out]; rfl, k, HW1.out⟩
        · by_cases b3 : (f.bs.length : Int) < a
          · go_enter Tryz.func38, Tryz.ntmps38
            go_wp2_with fail
            refine hask.mono ?_
            rintro x w1 ⟨⟨i, rfl, hi⟩, k, hw1⟩
            have hi' := hi (by trivial)
            subst hi'
            have c1' : w1.cell? ⟨rb, 1, none⟩ = some (.slice (some ⟨g, 0, none⟩) L cp) := by rw [hw1]; exact c1
            have c2' : w1.cell? ⟨g, p * 3 + 1, none⟩ = some (.string xb) := by rw [hw1]; exact c2
            have HW1 : Hid (w1 = w.drewN k) := hw1
            clear hask hi hw1 c1 c2 hbad
            go_wp2
            go_ret2
            exact ⟨by rw [HX.out]; rfl, k, HW1.out⟩
          · have b4 : (f.bs.length : Int) - a < n := by omega
            go_enter Tryz.func38, Tryz.ntmps38
            go_wp2_with fail
            refine hask.mono ?_
            rintro x w1 ⟨⟨i, rfl, hi⟩, k, hw1⟩
            have hi' := hi (by trivial)
            subst hi'
            have c1' : w1.cell? ⟨rb, 1, none⟩ = some (.slice (some ⟨g, 0, none⟩) L cp) := by rw [hw1]; exact c1
            have c2' : w1.cell? ⟨g, p * 3 + 1, none⟩ = some (.string xb) := by rw [hw1]; exact c2
            have HW1 : Hid (w1 = w.drewN k) := hw1
            clear hask hi hw1 c1 c2 hbad
            go_wp2
            go_ret2
            exact ⟨by rw [HX.out]; rfl, k, HW1.out⟩
    · have HX : Hid (d.read nm.data.toList a n = ((f.bs.drop a.toNat).take n.toNat, 0)) := by
        show _ = _
        simp only [Dsk.read, ← he, e0, ne_eq, not_true_eq_false, if_false, file_some hg, hbad]
      obtain ⟨an, rfl⟩ : ∃ an : Nat, a = an := ⟨a.toNat, by omega⟩
      obtain ⟨nn, rfl⟩ : ∃ nn : Nat, n = nn := ⟨n.toNat, by omega⟩
      have HE : Hid ((⟨f.bs.toArray⟩ : ByteArray).extract an (an + nn) = ⟨((f.bs.drop an).take nn).toArray⟩) := by
        show _ = _
        apply ByteArray.ext
        rw [ByteArray.data_extract]
        apply Array.ext'
        rw [Array.toList_extract]
        simp
      have b1 : ¬ (an : Int) < 0 := by omega
      have b2 : ¬ (nn : Int) < 0 := by omega
      have b3 : ¬ (f.bs.length : Int) < an := by omega
      have b4 : ¬ (f.bs.length : Int) - an < nn := by omega
      have b5 : (an : Int) + nn ≤ f.bs.length := by omega
      have b6 : an + nn ≤ f.bs.length := by omega
      generalize (⟨f.bs.toArray⟩ : ByteArray) = xb at *
      clear he hbad
      subst e0
      generalize posL nm.data.toList d.m = p at *
      have hp1 : (p : Int) < d.m.length := by omega
      clear h hg
      generalize d.m.length = L at *
      go_enter Tryz.func38, Tryz.ntmps38
      go_wp2_with fail
      refine hask.mono ?_
      rintro x w1 ⟨⟨i, rfl, hi⟩, k, hw1⟩
      have hi' := hi (by trivial)
      subst hi'
      have c1' : w1.cell? ⟨rb, 1, none⟩ = some (.slice (some ⟨g, 0, none⟩) L cp) := by rw [hw1]; exact c1
      have c2' : w1.cell? ⟨g, p * 3 + 1, none⟩ = some (.string xb) := by rw [hw1]; exact c2
      have HW1 : Hid (w1 = w.drewN k) := hw1
      clear hask hi hw1 c1 c2
      go_wp2
      go_ret2
      exact ⟨by rw [HX.out]; first | rfl | (rw [show ((an : Int)).toNat = an from rfl, show ((nn : Int)).toNat = nn from rfl, ← HE.out]; rfl), k, HW1.out⟩
  · have HX : Hid (d.read nm.data.toList a n = ([], e)) := by
      show _ = _
      simp only [Dsk.read, ← he, e0, ne_eq, not_false_eq_true, if_true]
    clear he
    go_enter Tryz.func38, Tryz.ntmps38
    go_wp2_with fail
    refine hask.mono ?_
    rintro x w1 ⟨⟨i, rfl, _⟩, k, hw1⟩
    have HW1 : Hid (w1 = w.drewN k) := hw1
    clear hask hw1
    go_wp2
    go_ret2
    exact ⟨by rw [HX.out]; rfl, k, HW1.out⟩
end
end Go.Proofs.YtjambfbibeihiaaGreat
