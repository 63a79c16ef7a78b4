import Derived.Test.YtjambfbibeihiaaGreatRef13
/- The document's disk: Crash. -/
namespace Go.Proofs.YtjambfbibeihiaaGreat
set_option maxRecDepth 100000
open Go.RowKit Go.ChangeMaps Go.Sort

theorem bne_of {a b : ByteArray} (h : ¬ a.data.toList = b.data.toList) : (a.toList == b.toList) = false := by
  rw [Lib.toList_data, Lib.toList_data, beq_eq_false_iff_ne]; exact h
theorem beq_of {a b : ByteArray} (h : a.data.toList = b.data.toList) : a = b := ByteArray.ext (Array.ext' h)
theorem pending_some {d : Dsk} {n : Nm} {f : Fl} (h : getL n d.m = some f) (hl : f.la ≤ f.bs.length) : (d.pending n : Int) = (f.bs.length : Int) - f.la := by
  unfold Dsk.pending; rw [file_some h]; omega

set_option maxHeartbeats 8000000 in
theorem rcrash_f (rb : Nat) (d : Dsk) (F : Nat → Prop) (ao : Option Addr) (n cap : Nat) (nm : Nat → ByteArray) (by' : Nat → Int) (w : World) (h : RF w rb d F) (hB : Bd d) (hL : KLs w ao n nm by') (hn : n ≤ 9223372036854775807) (hLF : ∀ a, 0 < n → ao = some a → F a.block) :
    Calls Tryz.prog 64 #[.pointer (some ⟨rb, 0, none⟩), .slice ao n cap] w fun x w' => ((∃ e, KeepsBad d n nm by' e ∧ x = .returned (.int .i64 e) ∧ RF w' rb d F) ∨ (∀ i, i < n → KeepAt d nm by' i) ∧ x = .returned (.int .i64 0) ∧ RF w' rb (d.torn (kept nm by' n)) F) ∧ Kept F w w' := by
  have HF : Hid (RF w rb d F) := h
  obtain ⟨v, acts, h, h1, h2, h3⟩ := h
  have hl := h.lt
  have HBd : Hid (Bd d) := hB
  obtain ⟨ro, cp, rfl⟩ := rowN_of h.own
  have hlen := hB.len
  have hnI : (n : Int) ≤ 9223372036854775807 := by omega
  have HK : Hid (∀ W, Tch (fun i => i = rb ∨ (Value.slice ro d.m.length cp).ownBlock = some i) w W → ∀ i, i < n → ∃ b off, ao = some ⟨b, off, none⟩ ∧ (W.cell? ⟨b, off + i * 2, none⟩ = some (.string (nm i)) ∧ W.cell? ⟨b, off + i * 2 + 1, none⟩ = some (.int .i64 (by' i))) ∧ -9223372036854775808 ≤ by' i ∧ by' i ≤ 9223372036854775807) := fun W t i hi => by
    obtain ⟨b, off, e, ⟨k1, k2⟩, k3⟩ := hL i hi
    have hFb : F b := hLF _ (by omega) e
    have hns : ¬ (b = rb ∨ (Value.slice ro d.m.length cp).ownBlock = some b) := by
      rintro (rfl | hb)
      · exact h1 hFb
      · exact (h2 b hb).1 hFb
    exact ⟨b, off, e, ⟨(t.cell (p := ⟨b, _, none⟩) (cell_lt k1) hns).trans k1, (t.cell (p := ⟨b, _, none⟩) (cell_lt k2) hns).trans k2⟩, k3⟩
  have HRW : Hid (∀ m, RW (w.drewN m) rb d (.slice ro d.m.length cp) acts) := fun m => h.drewN m
  have HEND : Hid (∀ e m, KeepsBad d n nm by' e → ((∃ e', KeepsBad d n nm by' e' ∧ (Ending.returned (.int .i64 e)) = .returned (.int .i64 e') ∧ RF (w.drewN m) rb d F) ∨ (∀ i, i < n → KeepAt d nm by' i) ∧ (Ending.returned (.int .i64 e)) = .returned (.int .i64 0) ∧ RF (w.drewN m) rb (d.torn (kept nm by' n)) F) ∧ Kept F w (w.drewN m)) := fun e m hb => ⟨Or.inl ⟨e, hb, rfl, HF.out.drewN m⟩, (Tch.refl _ w).drewN m⟩
  clear hL hLF h
  go_enter Tryz.func64, Tryz.ntmps64
  go_wp2_with fail
  go_loopw [5] (fun i wr => ∃ k m : Nat, i = .int .i64 k ∧ k ≤ n ∧ wr = w.drewN m ∧ Hid (∀ i, i < k → KeepAt d nm by' i)) (fun i _ => n - (intOf i).toNat)
  case atStart => exact ⟨0, 0, rfl, by omega, rfl, fun _ h => by omega⟩
  case round =>
    obtain ⟨k, m, rfl, hk, hwr, hall⟩ := hrel
    by_cases hlt : (k : Int) < n
    · obtain ⟨b, off, rfl, ⟨k1, k2⟩, k3, k4⟩ := HK.out wr (by rw [hwr]; exact (Tch.refl _ w).drewN m) k (by omega)
      have hR := HRW.out m
      rw [← hwr] at hR
      have HW : Hid (wr = w.drewN m) := hwr
      have hnd := named_any (nm k) wr
      cases hok : okN (nm k).data.toList
      · rw [hok] at hnd
        have HB1 : Hid (KeepsBad d n nm by' 20) := ⟨k, by omega, hall.out, Or.inl ⟨hok, rfl⟩⟩
        clear hok hwr
        go_wp2_with fail
        refine hnd.mono ?_
        rintro x w1 ⟨rfl, rfl⟩
        clear hnd
        go_wp2
        go_ret
        have := HEND.out 20 m HB1.out
        rw [← HW.out] at this
        exact this
      · rw [hok] at hnd
        have hfd := rfind_any rb d _ acts (nm k) wr hR (by omega)
        cases hg : getL (nm k).data.toList d.m with
        | none =>
          rw [hg] at hfd
          have HB1 : Hid (KeepsBad d n nm by' 21) := ⟨k, by omega, hall.out, Or.inr ⟨hok, Or.inl ⟨hg, rfl⟩⟩⟩
          clear hok hwr hg
          go_wp2_with fail
          refine hnd.mono ?_
          rintro x wA ⟨rfl, hwA⟩
          have hwA' := hwA.symm
          subst hwA'
          clear hnd hwA
          go_wp2_with fail
          refine hfd.mono ?_
          rintro x w1 ⟨rfl, m1, hw1⟩
          have HW1 : Hid (w1 = w.drewN (m + m1)) := by show _ = _; rw [hw1, HW.out, World.drewN_drewN]
          clear hfd hw1
          go_wp2
          go_ret
          have := HEND.out 21 (m + m1) HB1.out
          rw [← HW1.out] at this
          exact this
        | some f =>
          rw [hg] at hfd
          have HG : Hid (getL (nm k).data.toList d.m = some f) := hg
          have HO : Hid (okN (nm k).data.toList = true) := hok
          clear hok hwr hg
          go_wp2_with fail
          refine hnd.mono ?_
          rintro x wA ⟨rfl, hwA⟩
          have hwA' := hwA.symm
          subst hwA'
          clear hnd hwA
          go_wp2_with fail
          refine hfd.mono ?_
          rintro x w1 ⟨rfl, m1, hw1⟩
          have HW1 : Hid (w1 = w.drewN (m + m1)) := by show _ = _; rw [hw1, HW.out, World.drewN_drewN]
          clear hfd hw1 k1 k2 HW hR
          go_wp2_with fail
          go_loopw [9, 10] (fun t q wr => ∃ j m2 : Nat, q = .int .i64 j ∧ j ≤ k ∧ t = .bool (hsK nm j (nm k).data.toList) ∧ wr = w.drewN m2) (fun _ q _ => k - (intOf q).toNat)
          case atStart => exact ⟨0, m + m1, rfl, by omega, rfl, HW1.out⟩
          case round =>
            obtain ⟨j, m2, rfl, hj, rfl, hwr2⟩ := hrel
            obtain ⟨b', off', e', ⟨k1, k2⟩, -⟩ := HK.out wr (by rw [hwr2]; exact (Tch.refl _ w).drewN m2) k (by omega)
            cases e'
            have HW2 : Hid (wr = w.drewN m2) := hwr2
            by_cases hjk : (j : Int) < k
            · obtain ⟨b', off', e', ⟨j1, j2⟩, -⟩ := HK.out wr (by rw [hwr2]; exact (Tch.refl _ w).drewN m2) j (by omega)
              cases e'
              clear hwr2
              have hjn : (j : Int) < n := by omega
              have hkn : (k : Int) < n := by omega
              cases hh : hsK nm j (nm k).data.toList
              · by_cases hjk' : (nm j).data.toList = (nm k).data.toList
                · have HT : Hid (hsK nm (j + 1) (nm k).data.toList = true) := by show _ = _; rw [hsK, if_pos hjk'.symm]
                  rw [beq_of hjk'] at j1
                  clear hh hjk'
                  go_wp2_with fail
                  go_quiet (fail)
                  go_wp2
                  go_roundw
                  case rel => exact ⟨j + 1, m2 + nq, by go_num, by omega, by rw [HT.out], by rw [HW2.out, World.drewN_drewN]⟩
                  case measure => simp [intOf]; omega
                · have HT : Hid (hsK nm (j + 1) (nm k).data.toList = false) := by show _ = _; rw [hsK, if_neg (fun e => hjk' e.symm)]; exact hh
                  have hneb := bne_of hjk'
                  clear hh hjk'
                  go_wp2_with fail
                  go_quiet (fail)
                  go_wp2
                  go_roundw
                  case rel => exact ⟨j + 1, m2 + nq, by go_num, by omega, by rw [HT.out], by rw [HW2.out, World.drewN_drewN]⟩
                  case measure => simp [intOf]; omega
              · have HT : Hid (hsK nm (j + 1) (nm k).data.toList = true) := by show _ = _; rw [hsK, hh, ite_self]
                clear hh
                go_wp2_with fail
                go_quiet (fail)
                go_wp2
                go_roundw
                case rel => exact ⟨j + 1, m2 + nq, by go_num, by omega, by rw [HT.out], by rw [HW2.out, World.drewN_drewN]⟩
                case measure => simp [intOf]; omega
            · obtain rfl : j = k := by omega
              have hla : f.la ≤ f.bs.length := HBd.out.la _ (getL_mem HG.out)
              have hps := pending_some HG.out hla
              have HP : Hid (∀ q, RF (wr.drewN q) rb d F) := fun q => by rw [hwr2]; exact (HF.out.drewN m2).drewN q
              clear hwr2
              cases hh : hsK nm j (nm j).data.toList
              · by_cases hneg : by' j < 0
                · have HB1 : Hid (KeepsBad d n nm by' 26) := ⟨j, by omega, hall.out, Or.inr ⟨HO.out, Or.inr ⟨f, HG.out, Or.inr (Or.inl hneg), rfl⟩⟩⟩
                  clear hh
                  go_wp2_with fail
                  go_quiet (fail)
                  go_wp2
                  go_ret
                  have := HEND.out 26 (m2 + nq) HB1.out
                  rw [← World.drewN_drewN, ← HW2.out] at this
                  exact this
                · by_cases hpe : (f.bs.length : Int) - f.la < by' j
                  · have HB1 : Hid (KeepsBad d n nm by' 26) := ⟨j, by omega, hall.out, Or.inr ⟨HO.out, Or.inr ⟨f, HG.out, Or.inr (Or.inr hpe), rfl⟩⟩⟩
                    have HPC : Hid (∀ q, _) := fun q => rpending_f rb d F (wr.drewN q) (nm j) (HP.out q) HBd.out
                    rw [← hps] at hpe
                    generalize (d.pending (nm j).data.toList : Int) = P at *
                    clear hh
                    go_wp2_with fail
                    go_quiet ((go_at_call 29; exact Calls.quiet_of (HPC.out _)))
                    go_wp2
                    go_ret
                    have := HEND.out 26 (m2 + nq) HB1.out
                    rw [← World.drewN_drewN, ← HW2.out] at this
                    exact this
                  · have HPC : Hid (∀ q, _) := fun q => rpending_f rb d F (wr.drewN q) (nm j) (HP.out q) HBd.out
                    have HALL : Hid (∀ i, i < j + 1 → KeepAt d nm by' i) := fun i hi => by
                      rcases Nat.lt_or_ge i j with h | h
                      · exact hall.out i h
                      · obtain rfl : i = j := by omega
                        exact ⟨HO.out, f, HG.out, hh, by omega, by omega⟩
                    rw [← hps] at hpe
                    generalize (d.pending (nm j).data.toList : Int) = P at *
                    clear hh
                    go_wp2_with fail
                    go_quiet ((go_at_call 29; exact Calls.quiet_of (HPC.out _)))
                    go_wp2
                    go_roundw
                    case rel => exact ⟨j + 1, m2 + nq, by go_num, by omega, by rw [HW2.out, World.drewN_drewN], HALL⟩
                    case measure => simp [intOf]; omega
              · have HB1 : Hid (KeepsBad d n nm by' 26) := ⟨j, by omega, hall.out, Or.inr ⟨HO.out, Or.inr ⟨f, HG.out, Or.inl hh, rfl⟩⟩⟩
                clear hh
                go_wp2_with fail
                go_quiet (fail)
                go_wp2
                go_ret
                have := HEND.out 26 (m2 + nq) HB1.out
                rw [← World.drewN_drewN, ← HW2.out] at this
                exact this
    · obtain rfl : n = k := by omega
      have hup := (HRW.out 0).up
      obtain ⟨kk, hkk⟩ : ∃ kk, kk = kept nm by' n := ⟨_, rfl⟩
      have hR0 := HRW.out m
      rw [← hwr] at hR0
      have hT0 : Tch (fun i => i = rb ∨ (Value.slice ro d.m.length cp).ownBlock = some i) w wr := by rw [hwr]; exact (Tch.refl _ w).drewN m
      have HFIN : Hid (∀ W, RW W rb { d with m := tornTo kk d.m d.m.length } (.slice ro d.m.length cp) acts → Tch (fun i => i = rb ∨ (Value.slice ro d.m.length cp).ownBlock = some i) w W → ((W.cell? ⟨rb, 4, none⟩ = some (.bool d.dead) ∧ W.frozen? ⟨rb, 4, none⟩ = false) ∧ (W.cell? ⟨rb, 2, none⟩ = some (.int .i64 d.die) ∧ W.frozen? ⟨rb, 2, none⟩ = false) ∧ W.cell? ⟨rb, 3, none⟩ = some (.int .i64 d.fail) ∧ W.frozen? ⟨rb, 3, none⟩ = false) ∧ RF (((W.setCell ⟨rb, 4, none⟩ (.bool false)).setCell ⟨rb, 2, none⟩ (.int .i64 0)).setCell ⟨rb, 3, none⟩ (.int .i64 0)) rb (d.torn (kept nm by' n)) F ∧ Kept F w (((W.setCell ⟨rb, 4, none⟩ (.bool false)).setCell ⟨rb, 2, none⟩ (.int .i64 0)).setCell ⟨rb, 3, none⟩ (.int .i64 0))) := fun W hW hT => by
        have hne : ∀ g, (Value.slice ro d.m.length cp).ownBlock = some g → g ≠ rb := fun g hg => (h2 g hg).2
        refine ⟨⟨⟨hW.c4, hW.fz 4⟩, ⟨hW.c2, hW.fz 2⟩, hW.c3, hW.fz 3⟩, ?_⟩
        have t4 := Tch.setCell (fun i => i = rb) W ⟨rb, 4, none⟩ (.bool false) rfl
        have hb4 : (W.setCell ⟨rb, 4, none⟩ (.bool false)).heap[rb]? = some (.cells #[.int .i64 d.cap, .slice ro d.m.length cp, .int .i64 d.die, .int .i64 d.fail, .bool false, .int .i64 acts] 91 (0, 0)) := by rw [blk_set hW.blk]; rfl
        have hR4 : RW (W.setCell ⟨rb, 4, none⟩ (.bool false)) rb { d with m := tornTo kk d.m d.m.length, dead := false } (.slice ro d.m.length cp) acts := hW.own1 t4 hne hb4 rfl
        have hR5 := (hR4.setDie hne 0).setFail hne 0
        have e : ({ d with m := tornTo kk d.m d.m.length, dead := false, die := 0, fail := 0 } : Dsk) = d.torn (kept nm by' n) := by
          unfold Dsk.torn
          rw [tornTo_all, hkk]
        have hR6 : RW (((W.setCell ⟨rb, 4, none⟩ (.bool false)).setCell ⟨rb, 2, none⟩ (.int .i64 0)).setCell ⟨rb, 3, none⟩ (.int .i64 0)) rb (d.torn (kept nm by' n)) (.slice ro d.m.length cp) acts := by rw [← e]; exact hR5
        exact RF.step hl h1 h2 h3 hR6 (fun g hg => Or.inl hg) (((hT.setCellR ⟨rb, 4, none⟩ _ (Or.inl rfl)).setCellR ⟨rb, 2, none⟩ _ (Or.inl rfl)).setCellR ⟨rb, 3, none⟩ _ (Or.inl rfl))
      have HFILE : Hid (∀ W j, ∀ hj : j < d.m.length, RW W rb { d with m := tornTo kk d.m j } (.slice ro d.m.length cp) acts → ∃ g, ro = some ⟨g, 0, none⟩ ∧ ∃ xb xs : ByteArray, ∃ la N : Nat, ((W.cell? ⟨g, j * 3, none⟩ = some (.string xb) ∧ W.cell? ⟨g, j * 3 + 1, none⟩ = some (.string xs) ∧ W.frozen? ⟨g, j * 3 + 1, none⟩ = false) ∧ (W.cell? ⟨g, j * 3 + 2, none⟩ = some (.int .i64 la)) ∧ W.frozen? ⟨g, j * 3 + 2, none⟩ = false) ∧ (∀ q, q ≤ n → 0 ≤ kfK nm by' q xb.data.toList ∧ (la : Int) + kfK nm by' q xb.data.toList ≤ xs.size) ∧ ((la : Int) + kfK nm by' n xb.data.toList = N ∧ xs.size ≤ 1000000000) ∧ ∀ q, RW (((W.drewN q).setCell ⟨g, j * 3 + 1, none⟩ (.string (xs.extract 0 N))).drew.setCell ⟨g, j * 3 + 2, none⟩ (.int .i64 N)) rb { d with m := tornTo kk d.m (j + 1) } (.slice ro d.m.length cp) acts) := fun W j hj hW => by
        have hTl := tornTo_len kk d.m j
        have hW' : RW W rb { d with m := tornTo kk d.m j } (.slice ro ({ d with m := tornTo kk d.m j } : Dsk).m.length cp) acts := by
          show RW W rb _ (.slice ro (tornTo kk d.m j).length cp) acts
          rw [hTl]; exact hW
        have hj' : j < (tornTo kk d.m j).length := by omega
        obtain ⟨g, e, r0, r1, r2⟩ := hW'.row j hj'
        have ea : (tornTo kk d.m j)[j] = d.m[j] := by
          have := tornTo_at kk d.m j hj
          rw [List.getElem?_eq_getElem hj'] at this
          exact Option.some.inj this
        simp only [ea] at r0 r1 r2
        have hgx : getL (d.m[j]).1 d.m = some (d.m[j]).2 := hup.apart.get (List.getElem_mem hj)
        have hla := HBd.out.la _ (List.getElem_mem hj)
        have hmu := mem_used hgx
        have hrm := HBd.out.room
        have hcp := HBd.out.cap
        have hsz : (⟨(d.m[j]).2.bs.toArray⟩ : ByteArray).size = (d.m[j]).2.bs.length := by show Array.size _ = _; simp
        have hq : ∀ q, q ≤ n → 0 ≤ kfK nm by' q (d.m[j]).1 ∧ kfK nm by' q (d.m[j]).1 ≤ ((d.m[j]).2.bs.length : Int) - (d.m[j]).2.la := fun q hq => by
          have := kfK_le (d := d) (nm := nm) (by' := by') (n := q) (fun i hi => hall.out i (by omega)) (d.m[j]).1
          exact ⟨this.1, this.2 _ hgx hla⟩
        have hqn := hq n (Nat.le_refl _)
        have hkx : kk (d.m[j]).1 = (kfK nm by' n (d.m[j]).1).toNat := by rw [hkk]; rfl
        have hgr : g ≠ rb := (h2 g (by rw [e]; rfl)).2
        subst e
        refine ⟨g, rfl, ⟨(d.m[j]).1.toArray⟩, ⟨(d.m[j]).2.bs.toArray⟩, (d.m[j]).2.la, (d.m[j]).2.la + kk (d.m[j]).1, ⟨⟨r0, r1, hW'.own.frozenAt _⟩, r2, hW'.own.frozenAt _⟩, fun q hq' => ?_, ⟨?_, by omega⟩, fun q => ?_⟩
        · have := hq q hq'
          show 0 ≤ kfK nm by' q (d.m[j]).1 ∧ ((d.m[j]).2.la : Int) + kfK nm by' q (d.m[j]).1 ≤ _
          rw [hsz]; omega
        · show ((d.m[j]).2.la : Int) + kfK nm by' n (d.m[j]).1 = _
          omega
        · have hS1 := (hW'.drewN q).seti1 j hj' hgr ((⟨(d.m[j]).2.bs.toArray⟩ : ByteArray).extract 0 ((d.m[j]).2.la + kk (d.m[j]).1))
          simp only [ea, extract_list] at hS1
          obtain ⟨D1, hD1⟩ : ∃ D1 : Dsk, D1 = { d with m := (tornTo kk d.m j).set j ((d.m[j]).1, ⟨(⟨(d.m[j]).2.bs.toArray⟩ : ByteArray).data.toList.take ((d.m[j]).2.la + kk (d.m[j]).1), (d.m[j]).2.la⟩) } := ⟨_, rfl⟩
          have hl1 : D1.m.length = d.m.length := by rw [hD1]; show (List.set _ _ _).length = _; rw [List.length_set, hTl]
          have hS2 : RW (((W.drewN q).setCell ⟨g, j * 3 + 1, none⟩ (.string ((⟨(d.m[j]).2.bs.toArray⟩ : ByteArray).extract 0 ((d.m[j]).2.la + kk (d.m[j]).1)))).drew) rb D1 (.slice (some ⟨g, 0, none⟩) D1.m.length cp) acts := by
            rw [hl1, hD1]
            have := hS1.no ((Tch.refl _ _).drew)
            simp only [hTl] at this
            exact this
          have hj1 : j < D1.m.length := by omega
          have hS3 := hS2.seti2 j hj1 hgr ((d.m[j]).2.la + kk (d.m[j]).1)
          rw [hl1] at hS3
          have ed : ({ D1 with m := D1.m.set j ((D1.m[j]).1, ⟨(D1.m[j]).2.bs, (d.m[j]).2.la + kk (d.m[j]).1⟩) } : Dsk) = { d with m := tornTo kk d.m (j + 1) } := by
            subst hD1
            have eg : ((tornTo kk d.m j).set j ((d.m[j]).1, (⟨(⟨(d.m[j]).2.bs.toArray⟩ : ByteArray).data.toList.take ((d.m[j]).2.la + kk (d.m[j]).1), (d.m[j]).2.la⟩ : Fl)))[j]'hj1 = ((d.m[j]).1, ⟨(⟨(d.m[j]).2.bs.toArray⟩ : ByteArray).data.toList.take ((d.m[j]).2.la + kk (d.m[j]).1), (d.m[j]).2.la⟩) := by
              rw [List.getElem_set_self]
            simp only [eg, List.set_set]
            rw [← tornTo_set kk d.m j hj]
            rfl
          rw [ed] at hS3
          exact hS3
      have HKD : Hid (∀ i, i < n → hsK nm i (nm i).data.toList = false) := fun i hi => by
        obtain ⟨_, _, _, h5, _⟩ := hall.out i hi
        exact h5
      have HNE : Hid (∀ g, ro = some ⟨g, 0, none⟩ → g ≠ rb) := fun g e => (h2 g (by rw [e]; rfl)).2
      have hLI : (d.m.length : Int) ≤ 9223372036854775807 := by omega
      clear hkk hwr HRW HEND
      go_wp2_with fail
      go_loopw [11] (fun i wr => ∃ j : Nat, i = .int .i64 j ∧ j ≤ d.m.length ∧ RW wr rb { d with m := tornTo kk d.m j } (.slice ro d.m.length cp) acts ∧ Tch (fun i => i = rb ∨ (Value.slice ro d.m.length cp).ownBlock = some i) w wr) (fun i _ => d.m.length - (intOf i).toNat)
      case atStart => exact ⟨0, rfl, by omega, by rw [tornTo_zero]; exact hR0, hT0⟩
      case round =>
        obtain ⟨j, rfl, hj, hR, hT⟩ := hrel
        have c1 := hR.c1
        by_cases hjl : (j : Int) < d.m.length
        · obtain ⟨g, hro, xb, xs, la, N, ⟨⟨r0, r1, r1f⟩, r2, r2f⟩, hq, ⟨hN, hxs⟩, hnext⟩ := HFILE.out wr j (by omega) hR
          have hgr : ¬ g = rb := HNE.out g hro
          have hrg : ¬ rb = g := fun e => hgr e.symm
          have HNX : Hid _ := hnext
          have HQ : Hid _ := hq
          have HN : Hid ((la : Int) + kfK nm by' n xb.data.toList = N) := hN
          have hNs : N ≤ xs.size := by have := (HQ.out n (Nat.le_refl _)).2; omega
          clear hnext hq hN hR hR0 hT0 HFILE
          obtain ⟨wo, hwo⟩ : ∃ wo, wo = wr := ⟨_, rfl⟩
          subst hwo
          subst hro
          go_wp2_with fail
          go_loopw [12, 13] (fun s q wr2 => ∃ k2 m2 : Nat, q = .int .i64 k2 ∧ k2 ≤ n ∧ s = .int .i64 ((la : Int) + kfK nm by' k2 xb.data.toList) ∧ wr2 = wo.drewN m2) (fun _ q _ => n - (intOf q).toNat)
          case atStart => exact ⟨0, 0, rfl, by omega, by simp [kfK], rfl⟩
          case round =>
            obtain ⟨k2, m2, hq2, hk2, hs, hwr2⟩ := hrel
            subst hq2
            have d0 : wr.cell? ⟨g, j * 3, none⟩ = some (.string xb) := by rw [hwr2]; exact r0
            have d1 : wr.cell? ⟨rb, 1, none⟩ = some (.slice (some ⟨g, 0, none⟩) d.m.length cp) := by rw [hwr2]; exact c1
            have d2 : wr.cell? ⟨g, j * 3 + 1, none⟩ = some (.string xs) := by rw [hwr2]; exact r1
            have d2f : wr.frozen? ⟨g, j * 3 + 1, none⟩ = false := by rw [hwr2]; exact r1f
            have d3 : wr.cell? ⟨g, j * 3 + 2, none⟩ = some (.int .i64 la) := by rw [hwr2]; exact r2
            have d3f : wr.frozen? ⟨g, j * 3 + 2, none⟩ = false := by rw [hwr2]; exact r2f
            have HW2 : Hid (wr = wo.drewN m2) := hwr2
            have hT2 : Tch (fun i => i = rb ∨ (Value.slice (some ⟨g, 0, none⟩) d.m.length cp).ownBlock = some i) w wr := by rw [hwr2]; exact hT.drewN m2
            clear r0 r1 r1f r2 r2f c1 hwr2
            by_cases hkn : (k2 : Int) < n
            · obtain ⟨b, off, rfl, ⟨k1, k1'⟩, k3, k4⟩ := HK.out wr hT2 k2 (by omega)
              have hq1 := HQ.out k2 (by omega)
              have hq3 := HQ.out (k2 + 1) (by omega)
              by_cases e : (nm k2).data.toList = xb.data.toList
              · have hz : kfK nm by' k2 xb.data.toList = 0 := hsK_kf nm by' _ k2 (by rw [← e]; exact HKD.out k2 (by omega))
                have hy : kfK nm by' (k2 + 1) xb.data.toList = by' k2 := by rw [kfK, if_pos e.symm]
                rw [hy] at hq3
                have HT : Hid ((la : Int) + by' k2 = (la : Int) + kfK nm by' (k2 + 1) xb.data.toList) := by show _ = _; rw [hy]
                have hs' : _ = Value.int .i64 (la : Int) := hs.trans (by rw [hz]; simp)
                subst hs'
                rw [beq_of e] at k1
                clear hs hz hy e hq1
                go_wp2_with fail
                go_quiet (fail)
                go_wp2
                go_roundw
                case rel => exact ⟨k2 + 1, m2 + nq, by go_num, by omega, by rw [← HT.out], by rw [HW2.out, World.drewN_drewN]⟩
                case measure => simp [intOf]; omega
              · have hy : kfK nm by' (k2 + 1) xb.data.toList = kfK nm by' k2 xb.data.toList := by rw [kfK, if_neg (fun h => e h.symm)]
                have HT : Hid ((la : Int) + kfK nm by' k2 xb.data.toList = (la : Int) + kfK nm by' (k2 + 1) xb.data.toList) := by show _ = _; rw [hy]
                have hneb := bne_of e
                subst hs
                clear hy e hq3 hq1
                generalize (la : Int) + kfK nm by' k2 xb.data.toList = SS at *
                go_wp2_with fail
                go_quiet (fail)
                go_wp2
                go_roundw
                case rel => exact ⟨k2 + 1, m2 + nq, by go_num, by omega, by rw [← HT.out], by rw [HW2.out, World.drewN_drewN]⟩
                case measure => simp [intOf]; omega
            · obtain rfl : n = k2 := by omega
              have hs' : _ = Value.int .i64 (N : Int) := hs.trans (by rw [HN.out])
              subst hs'
              clear hs d0
              have hNI : (N : Int) ≤ xs.size := by omega
              go_wp2_with fail
              go_region
              go_wp2
              go_roundw
              case rel => exact ⟨j + 1, by go_num, by omega, by rw [HW2.out]; exact HNX.out m2, ((hT2.setCellR ⟨g, j * 3 + 1, none⟩ _ (Or.inr rfl)).drew).setCellR ⟨g, j * 3 + 2, none⟩ _ (Or.inr rfl)⟩
              case measure => simp [intOf]; omega
        · have hje : j = d.m.length := by omega
          subst hje
          obtain ⟨⟨⟨e4, e4f⟩, ⟨e2, e2f⟩, e3, e3f⟩, hend⟩ := HFIN.out wr hR hT
          have HE : Hid _ := hend
          clear hend hR hR0 hT0 HFILE HFIN
          go_wp2
          go_ret
          exact ⟨Or.inr ⟨hall.out, rfl, HE.out.1⟩, HE.out.2⟩
end Go.Proofs.YtjambfbibeihiaaGreat
