/- end, Commit, Abort. -/
import Derived.Test.YtkokmgoplldcfaaXFin
namespace Go.Proofs.Ytkokmgoplldcfaa
open Go.RowKit Go Go.Sort

theorem on_up {m : Mg} (h : Wf m) : m.on.Pairwise (· < ·) := by
  rw [h.on, List.pairwise_map]
  exact (h.up.filter _).imp (fun h => h)
set_option maxHeartbeats 1000000 in
set_option maxRecDepth 100000 in
theorem end_f (b : Nat) (m : Mg) (w : World) (F : Nat → Prop) (h : MF w b m F) (k : Int) (h1 : -9223372036854775808 ≤ k) (h2 : k ≤ 9223372036854775807) (s : Nat) (hs : 3 ≤ s ∧ s ≤ 4) :
    Calls Try.prog 41 #[.pointer (some ⟨b, 0, none⟩), .int .i64 k, .int .i64 s] w fun x w' => (∃ e : Nat, x = .returned (.int .i64 e)) ∧ TurnOut m b k s (fun t => m.fin t.x s) w F x w' := by
  obtain ⟨σ, mb, bl, h, hF⟩ := h
  have c0 := h.c0
  by_cases hp : ∃ t, fnd m.tx k = some (t, -1)
  · obtain ⟨t, hf⟩ := hp
    have q := turn_some b m σ mb bl w h k h1 h2 s hf
    have hU : ∀ u, fnd m.tx k = some (u, -1) → u = t := fun u hu => by
      rw [hf] at hu
      injection hu with hu
      injection hu with hu
      exact hu.symm
    obtain ⟨_, _, _, hst, hlk, htm⟩ := h.at hf
    have htk : (t.x : Int) = k := by
      obtain ⟨_, ⟨_, e⟩ | ⟨_, _, e, _⟩⟩ := fnd_mem hf
      · exact e
      · omega
    have Hf : Hid (fnd m.tx k = some (t, -1)) := hf
    have HU : Hid _ := hU
    have Hh : Hid (MG w b m σ mb bl) := h
    have HFF : Hid _ := hF
    have Htm : Hid (t ∈ m.tx) := htm
    have Htk : Hid ((t.x : Int) = k) := htk
    clear hf hU hlk htm hst h hF htk
    go_enter Try.func41, Try.ntmps41
    go_wp2_with fail
    refine q.mono ?_
    rintro x w1 ⟨hA, hBB⟩
    clear q
    by_cases hc : s ≤ t.st ∨ 3 ≤ t.st
    · obtain ⟨rfl, T⟩ := hA hc
      have HT : Hid _ := T
      have Hc : Hid _ := hc
      clear hA hBB T c0
      go_wp2
      go_ret
      refine ⟨⟨71, rfl⟩, fun hn => absurd Hf.out (hn t), fun u hu => ?_⟩
      obtain rfl := HU.out u hu
      exact ⟨fun _ => ⟨rfl, HT.out⟩, fun hn => absurd Hc.out hn⟩
    · obtain ⟨rfl, hw⟩ := hBB hc
      obtain ⟨w0, tw0, hw0⟩ := hw
      have hM := Hh.out
      obtain ⟨hX, T⟩ := hM.setS Htm.out (s := s) tw0 hw0
      obtain ⟨ov, hB, hon, hlab⟩ := hM.blk
      have hnb : ∀ z, σ z = some b → z ≠ bl t.x := fun z hz e => by
        rw [e, (hM.xs t Htm.out).lab] at hz
        injection hz with hz
        exact hM.nb t Htm.out hz
      have hB1 := (T.block b hM.bl' (hnb b hM.lb)).trans hB
      have hon1 := own_tch hon T (fun z hz => hnb z (hlab z hz))
      have hxo : t.x ∈ m.on := by
        rw [hM.wf.on]
        exact List.mem_map.2 ⟨t, List.mem_filter.2 ⟨Htm.out, by simp; omega⟩, rfl⟩
      obtain ⟨p, hpx⟩ := List.mem_iff_getElem?.1 hxo
      have hpl := (List.getElem?_eq_some_iff.1 hpx).1
      have hol := on_le hM.wf
      rcases hon1.2 with ⟨_, h0⟩ | ⟨g, cap, cur, rfl, _, hg, hnc, hcm, hcs, htk⟩
      · omega
      rw [Nat.mul_one] at hcs htk
      have hcl : ∀ j n, m.on[j]? = some n → w1.cell? ⟨g, j, none⟩ = some (.int .i64 (n : Nat)) := fun j n hj => by
        have h9 := hon1.cells (g := g) rfl j (.int .i64 (n : Nat)) (by simp [icl, hj])
        rw [add_plain, Nat.zero_add] at h9
        exact h9
      have Q1 := bs_any m.on g cap p k w1 hcl hol (on_up hM.wf) ⟨t.x, hpx, Htk.out⟩
      have Q2 := delete_any g m.on.length cap p cur w1 hg hcs hnc hcm hpl (fun u hu => by rw [htk] at hu; exact icl_one _ u hu)
      have c2 : w1.cell? ⟨b, 2, none⟩ = some (.slice (some ⟨g, 0, none⟩) m.on.length cap) := by rw [blk_cell hB1]; rfl
      obtain ⟨n, hn⟩ : ∃ n, n = m.on.length := ⟨_, rfl⟩
      rw [← hn] at Q1 Q2 c2 hpl hol hnc
      have hgb : g ≠ b := fun e => by rw [e, hB1] at hg; cases hg
      have hB1' : w1.heap[b]? = some (.cells #[.map (some mb), .int .i64 m.nx, .slice (some ⟨g, 0, none⟩) n cap] 66 (0, 0)) := by rw [hn]; exact hB1
      have HEND : Hid (∀ w2, (∃ cur', w2.heap[g]? = some (.cells cur' 3 (0, 0)) ∧ cur'.size = cap ∧ cur'.toList.take (n - 1) = cur.toList.take p ++ (cur.toList.take n).drop (p + 1)) → Tch (fun i => i = g) w1 w2 → MF (w2.setCell ⟨b, 2, none⟩ (.slice (some ⟨g, 0, none⟩) (n - 1) cap)) b (m.fin t.x s) F ∧ Kept F w (w2.setCell ⟨b, 2, none⟩ (.slice (some ⟨g, 0, none⟩) (n - 1) cap))) := fun w2 ⟨cur', hg2, hs2, ht2⟩ t2 => by
        have t3 : Tch (fun i => i = b) w2 (w2.setCell ⟨b, 2, none⟩ (.slice (some ⟨g, 0, none⟩) (n - 1) cap)) := Tch.setCell _ _ _ _ rfl
        have hB2 := (t2.block b (blk_lt hB1') (fun e => hgb e.symm)).trans hB1'
        have hgσ := hlab g rfl
        have TT : Tch (fun i => i = bl t.x ∨ i = g ∨ i = b) w (w2.setCell ⟨b, 2, none⟩ (.slice (some ⟨g, 0, none⟩) (n - 1) cap)) := ((T.mono (fun i _ e => Or.inl e)).trans (t2.mono (fun i _ e => Or.inr (Or.inl e))) (fun _ _ h => h)).trans (t3.mono (fun i _ e => Or.inr (Or.inr e))) (fun _ _ h => h)
        have h23 : Tch (fun i => i = g ∨ i = b) w1 (w2.setCell ⟨b, 2, none⟩ (.slice (some ⟨g, 0, none⟩) (n - 1) cap)) := (t2.mono (fun i _ e => Or.inl e)).trans (t3.mono (fun i _ e => Or.inr e)) (fun _ _ h => h)
        obtain ⟨nn, D, hnn, hD, hkD⟩ := hM.mp
        have hmg : mb ≠ g := fun e => by
          have hD1 := ownsMap_tch hD T (hnb mb hM.lm)
          obtain ⟨es, clock, hh, _⟩ := hD1
          rw [e, hg] at hh
          cases hh
        have hfl : (m.fin t.x s).on.length = n - 1 ∧ icl (m.fin t.x s).on = cur.toList.take p ++ (cur.toList.take n).drop (p + 1) := by
          have e1 : (m.fin t.x s).on = m.on.take p ++ m.on.drop (p + 1) := (del_filter m.on p t.x (on_up hM.wf) hpx).symm
          rw [e1]
          refine ⟨by simp; omega, ?_⟩
          have e2 : cur.toList.take p = (icl m.on).take p := by rw [← htk, List.take_take, Nat.min_eq_left (by omega)]
          have e3 : cur.toList.take n = icl m.on := by rw [hn]; exact htk
          rw [e2, e3]
          simp [icl, List.map_take, List.map_drop]
        have h9 := hM.chg (m' := m.fin t.x s) (σ' := σ) Htm.out (Go.Proofs.Ytkokmgoplldcfaa.setS s) (fun _ => rfl) rfl (hM.wf.fin hs) (fun _ _ => rfl) (fun z hz => Nat.lt_of_lt_of_le (hM.lt z hz) TT.size) TT (fun z _ hz => ?_) ⟨.slice (some ⟨g, 0, none⟩) (n - 1) cap, blk_set hB2 _, ?_, fun z hz => ?_⟩ ⟨nn, D, hnn, ownsMap_tch (ownsMap_tch hD T (hnb mb hM.lm)) h23 (fun e => e.elim hmg hM.mne), fun k' zd => by rw [hkD]; exact congrArg (fun o => atE o zd) (lk_setS bl m.tx t.x s k').symm⟩ (hX.tch h23 (fun z _ hz e => ?_) (fun _ _ h => h))
        · exact MF.stp HFF.out h9.1 h9.2
        · rcases hz with hz | hz | hz
          · rw [hz]; exact Or.inr (hM.xs t Htm.out).lab
          · rw [hz]; exact Or.inl hgσ
          · rw [hz]; exact Or.inl hM.lb
        · rw [hfl.1, hfl.2]
          refine ⟨?_, Or.inr ⟨g, cap, cur', rfl, Nat.zero_le _, (t3.block g (blk_lt hg2) hgb).trans hg2, by omega, hcm, by rw [Nat.mul_one]; exact hs2, by rw [Nat.mul_one]; exact ht2⟩⟩
          rw [← hfl.2, icl_len, hfl.1, Nat.mul_one]
        · have e : g = z := by simpa [Value.ownBlock] using hz
          rw [← e]; exact hgσ
        · rcases hz with hz | hz
          · rw [hz, hgσ] at e
            injection e with e
            exact hM.nb t Htm.out e.symm
          · rw [hz, hM.lb] at e
            injection e with e
            exact hM.nb t Htm.out e.symm
      have HB : Hid (∀ w2, Tch (fun i => i = g) w1 w2 → w2.cell? ⟨b, 2, none⟩ = some (.slice (some ⟨g, 0, none⟩) n cap) ∧ w2.frozen? ⟨b, 2, none⟩ = false) := fun w2 t2 => by
        have hB2 := (t2.block b (blk_lt hB1') (fun e => hgb e.symm)).trans hB1'
        exact ⟨by rw [blk_cell hB2]; rfl, blk_frozen hB2 2⟩
      have Hc : Hid _ := hc
      have hpI : (p : Int) + 1 ≤ 2147483648 := by omega
      clear hA hBB c0 hM hX T hB hon hlab hnb hB1 hon1 hxo hpx hcl hg hcs htk hn hgb hB1' tw0 hw0 hc hnc hcm
      go_wp2_with fail
      refine Q1.mono ?_
      rintro x w2 ⟨rfl, hw2⟩
      obtain rfl := hw2.symm
      clear Q1 hw2
      go_wp2_with fail
      refine Q2.mono ?_
      rintro x w2 ⟨⟨rfl, hcur⟩, t2⟩
      have HFin : Hid _ := HEND.out w2 hcur t2
      obtain ⟨d2, f2⟩ := HB.out w2 t2
      clear Q2 hcur t2 c2
      go_wp2_with fail
      go_ret
      refine ⟨⟨0, rfl⟩, fun hn => absurd Hf.out (hn t), fun u hu => ?_⟩
      obtain rfl := HU.out u hu
      exact ⟨fun hn => absurd hn Hc.out, fun _ => ⟨rfl, HFin.out⟩⟩
  · have q := turn_none b m σ mb bl w h k h1 h2 s (fun t e => hp ⟨t, e⟩)
    have Hp : Hid _ := hp
    clear hp h hF
    go_enter Try.func41, Try.ntmps41
    go_wp2_with fail
    refine q.mono ?_
    rintro x w1 ⟨rfl, T⟩
    have HT : Hid _ := T
    clear q T c0
    go_wp2
    go_ret
    exact ⟨⟨70, rfl⟩, fun _ => ⟨rfl, HT.out⟩, fun t e => absurd ⟨t, e⟩ Hp.out⟩
theorem commit_f (b : Nat) (m : Mg) (w : World) (F : Nat → Prop) (h : MF w b m F) (k : Int) (h1 : -9223372036854775808 ≤ k) (h2 : k ≤ 9223372036854775807) :
    Calls Try.prog 17 #[.pointer (some ⟨b, 0, none⟩), .int .i64 k] w fun x w' => (∃ e : Nat, x = .returned (.int .i64 e)) ∧ TurnOut m b k 3 (fun t => m.fin t.x 3) w F x w' := by
  have q : Calls Try.prog 41 #[.pointer (some ⟨b, 0, none⟩), .int .i64 k, .int .i64 3] w _ := end_f b m w F h k h1 h2 3 (by omega)
  clear h h1 h2
  go_enter Try.func17, Try.ntmps17
  go_wp2_with fail
  refine q.mono ?_
  rintro x w1 ⟨⟨e, rfl⟩, ho⟩
  have HO : Hid _ := ho
  clear q ho
  go_wp2
  go_ret
  exact ⟨⟨e, rfl⟩, HO.out⟩
theorem abort_f (b : Nat) (m : Mg) (w : World) (F : Nat → Prop) (h : MF w b m F) (k : Int) (h1 : -9223372036854775808 ≤ k) (h2 : k ≤ 9223372036854775807) :
    Calls Try.prog 18 #[.pointer (some ⟨b, 0, none⟩), .int .i64 k] w fun x w' => (∃ e : Nat, x = .returned (.int .i64 e)) ∧ TurnOut m b k 4 (fun t => m.fin t.x 4) w F x w' := by
  have q : Calls Try.prog 41 #[.pointer (some ⟨b, 0, none⟩), .int .i64 k, .int .i64 4] w _ := end_f b m w F h k h1 h2 4 (by omega)
  clear h h1 h2
  go_enter Try.func18, Try.ntmps18
  go_wp2_with fail
  refine q.mono ?_
  rintro x w1 ⟨⟨e, rfl⟩, ho⟩
  have HO : Hid _ := ho
  clear q ho
  go_wp2
  go_ret
  exact ⟨⟨e, rfl⟩, HO.out⟩
end Go.Proofs.Ytkokmgoplldcfaa
