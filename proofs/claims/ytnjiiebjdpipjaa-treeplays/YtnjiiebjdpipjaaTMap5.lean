import Derived.Test.YtnjiiebjdpipjaaTMap4A
import Derived.Test.YtnjiiebjdpipjaaTMap4B
/- The document's map: Delete. -/
namespace Go.Proofs.Ytnjiiebjdpipjaa
open Go.RowKit Go

set_option maxHeartbeats 4000000 in
set_option maxRecDepth 100000 in
theorem del_m (W : World) (mb : Nat) (l : List It) (F : List Nat) (k : ByteArray) (h : MW W mb l F) (hb : l.length < 10000000) : Calls Try.prog 45 #[pv mb, .string k] W fun x w' => ∃ l' old th, x = .returned (.tuple #[ev old, .bool th]) ∧ MW w' mb l' F ∧ RemRel k l l' old th ∧ Tch (fun i => i ∈ F) W w' := by
  have q := rank_m W mb l F k h (by omega)
  have q2 := get_m W mb l F k h (by omega)
  obtain ⟨kv, vv, h1, h2, h3, hF, hnn⟩ := h.rows
  have HM : Hid (MW W mb l F) := h
  have HS : Hid (Sorted l) := h.so
  obtain ⟨ko, c1, rfl⟩ := row_slice h2
  obtain ⟨vo, c2, rfl⟩ := row_slice h3
  obtain ⟨n, hn⟩ : ∃ n, n = l.length := ⟨_, rfl⟩
  have Hn : Hid (n = l.length) := hn
  have hnI : (n : Int) < 10000000 := by omega
  rw [← hn] at h1 h2 h3 hF hnn
  have H1 : Hid (W.heap[mb]? = some (.cells #[.slice ko n c1, .slice vo n c2] 51 (0, 0))) := h1
  have H2 : Hid (W.ownsRow 0 9 1 (.slice ko n c1) n (kcl l)) := h2
  have H3 : Hid (W.ownsRow 0 3 1 (.slice vo n c2) n (vcl l)) := h3
  have HF : Hid (F = mb :: (bl (.slice ko n c1) ++ bl (.slice vo n c2))) := hF
  clear h hb h1 h2 h3 hF hn hnn
  go_enter Try.func45, Try.ntmps45
  go_wp2_with fail
  refine q.mono ?_
  clear q
  rintro x w' ⟨⟨r, rfl, hr⟩, rfl⟩
  have Hr : Hid (RankRel k l r) := hr
  clear hr
  go_wp2_with fail
  refine q2.mono ?_
  clear q2
  rintro x w' ⟨⟨old, th, rfl, hg⟩, rfl⟩
  obtain ⟨hrl', hlo, hcase⟩ := rank_cases HS.out Hr.out
  cases th with
  | false =>
    have HR : Hid (RemRel k l l old false) := by
      rcases hg with ⟨e, _⟩ | ⟨_, e, hgap⟩
      · cases e
      · exact .inr ⟨rfl, e, rfl, hgap⟩
    have hold : old = gv0 := by
      rcases hg with ⟨e, _⟩ | ⟨_, e, hgap⟩
      · cases e
      · exact e
    subst hold
    clear hcase hlo hrl' hg
    go_wp2_with fail
    go_ret2
    exact ⟨l, gv0, false, rfl, HM.out, HR.out, Tch.refl _ _⟩
  | true =>
    obtain ⟨v0, hv0, hhi⟩ : ∃ v0, l[r]? = some (k, v0) ∧ ∀ e ∈ l.drop (r + 1), Hi k e := by
      rcases hcase with h | ⟨_, hhi⟩
      · exact h
      · have hg2 : GetRel k l gv0 false := .inr ⟨rfl, rfl, l.take r, l.drop r, (List.take_append_drop _ _).symm, hlo, hhi⟩
        have := (hg.uniq hg2).2
        cases this
    obtain ⟨hrn, hre⟩ := List.getElem?_eq_some_iff.1 hv0
    have hl : l = l.take r ++ (k, v0) :: l.drop (r + 1) := by rw [← hre, ← List.drop_eq_getElem_cons hrn, List.take_append_drop]
    have hov : old = v0 := (hg.uniq (.inl ⟨rfl, l.take r, l.drop (r + 1), hl, hlo, hhi⟩)).1
    subst hov
    have HR : Hid (RemRel k l (l.take r ++ l.drop (r + 1)) old true) := .inl ⟨rfl, l.take r, l.drop (r + 1), hlo, hhi, rfl, hl⟩
    have HSo : Hid (Sorted (l.take r ++ l.drop (r + 1))) := by
      have hs := HS.out
      rw [hl] at hs
      obtain ⟨p1, p2, p3⟩ := List.pairwise_append.1 hs
      exact List.pairwise_append.2 ⟨p1, (List.pairwise_cons.1 p2).2, fun a ha b hb => p3 a ha b (by simp [hb])⟩
    have hrn' : r < n := by have := Hn.out; omega
    have HN : Hid (r + (n - (r + 1)) = (l.take r ++ l.drop (r + 1)).length) := by
      show _ = _
      rw [List.length_append, List.length_take, List.length_drop, ← Hn.out]; omega
    obtain ⟨gk, ck, ek, hnk, hck, -⟩ := own_at H2.out (by omega)
    injection ek with ek1 _ ek2
    subst ek1
    subst ek2
    obtain ⟨gv, cv, ev', hnv, hcv, -⟩ := own_at H3.out (by omega)
    injection ev' with ev1 _ ev2
    subst ev1
    subst ev2
    have HNd : Hid (mb ≠ gk ∧ mb ≠ gv ∧ gk ≠ gv ∧ mb ∈ F ∧ gk ∈ F ∧ gv ∈ F) := by
      have hnod := HM.out.nod
      rw [HF.out] at hnod
      obtain ⟨n1, n2, n3⟩ := nod3 (a := mb) (b := gk) (c := gv) hnod
      exact ⟨n1, n2, n3, by rw [HF.out]; simp, by rw [HF.out]; simp [bl, Value.ownBlock], by rw [HF.out]; simp [bl, Value.ownBlock]⟩
    obtain ⟨i0, hi, hz0, hz1, hz2⟩ := info_parts info_strm
    obtain ⟨i1, hi', hz0', hz1', hz2'⟩ := info_parts info_intm
    obtain ⟨Ak, hAk, hDk⟩ := del_row (P := Try.prog) 35 9 i0 Try.underlying35 hi hz1 H2.out (kcl_one l) hrn'
    rw [← List.map_take, ← List.map_drop, ← List.map_append] at hDk
    have HDk : Hid _ := hDk
    clear hDk
    have hi1 : (0 : Int) ≤ (r : Int) + 1 := by omega
    have hi2 : (r : Int) + 1 ≤ n := by omega
    have hi3 : ((r : Int) + 1).toNat = r + 1 := by omega
    have hi4 : (r : Int) ≤ c1 := by omega
    have hpw : IntKind.i64.wrap ((r : Int) + 1) = (r : Int) + 1 := by rw [IntKind.wrap_i64]; omega
    have hi5 : (r : Int) ≤ c2 := by omega
    have z0 : w'.cell? ⟨mb, 0, none⟩ = some (.slice (some ⟨gk, 0, none⟩) n c1) := by rw [blk_cell H1.out]; rfl
    have zf := blk_frozen H1.out 0
    have Hne0 : Hid (mb ≠ gk) := HNd.out.1
    have Hrn : Hid (r < n) := hrn'
    clear hcase hlo hrl' hhi hl hre hrn hv0 hg hnk hck hnv hcv hrn' HS Hr
    go_wp2_with fail
    refine del_reg0 w' mb gk n r c1 Ak _ old z0 zf Hne0 hAk HDk hi1 hi2 hi3 hi4 hpw ⟨rfl, rfl, rfl, rfl⟩ _ ?_
    intro T1 w1 hf1 g1 g2
    have HB0 : Hid (w1.ownsRow 0 9 1 (.slice (some ⟨gk, 0, none⟩) (r + (n - (r + 1))) c1) (r + (n - (r + 1))) (kcl (l.take r ++ l.drop (r + 1))) ∧ Tch (fun i => i = gk) w' w1) := ⟨g1, g2⟩
    clear g1 g2
    have hb1 : w1.heap[mb]? = some (.cells #[.slice (some ⟨gk, 0, none⟩) n c1, .slice (some ⟨gv, 0, none⟩) n c2] 51 (0, 0)) := (HB0.out.2.block _ (blk_lt H1.out) (fun e => HNd.out.1 e)).trans H1.out
    obtain ⟨w2, hw2⟩ : ∃ w2, w2 = w1.setCell ⟨mb, 0, none⟩ (.slice (some ⟨gk, 0, none⟩) (r + (n - (r + 1))) c1) := ⟨_, rfl⟩
    have hb2 : w2.heap[mb]? = some (.cells #[.slice (some ⟨gk, 0, none⟩) (r + (n - (r + 1))) c1, .slice (some ⟨gv, 0, none⟩) n c2] 51 (0, 0)) := by rw [hw2]; exact blk_set hb1 _
    have t12 : Tch (fun i => i = mb) w1 w2 := by rw [hw2]; exact Tch.setCell _ _ _ _ rfl
    have HT2 : Hid (Tch (fun i => i = mb ∨ i = gk) w' w2) := (HB0.out.2.mono (fun _ _ h => .inr h)).trans' (t12.mono (fun _ _ h => .inl h))
    have HO2 : Hid (w2.ownsRow 0 9 1 (.slice (some ⟨gk, 0, none⟩) (r + (n - (r + 1))) c1) (r + (n - (r + 1))) (kcl (l.take r ++ l.drop (r + 1)))) := own_tch HB0.out.1 t12 (fun g hg e => by
      injection hg with hg
      have : gk = g := hg
      exact HNd.out.1 (by rw [this]; exact e.symm))
    have HV2 : Hid (w2.ownsRow 0 3 1 (.slice (some ⟨gv, 0, none⟩) n c2) n (vcl l)) := own_tch H3.out HT2.out (fun g hg e => by
      injection hg with hg
      have hg' : gv = g := hg
      rcases e with e | e
      · exact HNd.out.2.1 (by rw [hg']; exact e.symm)
      · exact HNd.out.2.2.1 (by rw [hg']; exact e.symm))
    obtain ⟨Av, hAv, hDv⟩ := del_row (P := Try.prog) 49 3 i1 Try.underlying49 hi' hz1' HV2.out (vcl_one l) Hrn.out
    rw [← List.map_take, ← List.map_drop, ← List.map_append] at hDv
    have HDv : Hid _ := hDv
    have HB2 : Hid (w2.heap[mb]? = some (.cells #[.slice (some ⟨gk, 0, none⟩) (r + (n - (r + 1))) c1, .slice (some ⟨gv, 0, none⟩) n c2] 51 (0, 0))) := hb2
    have Hw2 : Hid _ := hw2
    have Hne1 : Hid (mb ≠ gv) := HNd.out.2.1
    have z1 : w2.cell? ⟨mb, 1, none⟩ = some (.slice (some ⟨gv, 0, none⟩) n c2) := by rw [blk_cell hb2]; rfl
    have zf1 := blk_frozen hb2 1
    clear hDv hb1 t12 HB0 HDk hAk z0 zf hb2
    rw [← hw2]
    clear hw2 Hw2
    refine hf1.use (P := fun T => (Exit.then _ _) .normal { tmps := T, defers := [] } w2) ?_
    clear hf1 T1
    intro u
    go_wp2_with fail
    refine del_reg1 w2 mb gv n r c2 Av _ old z1 zf1 Hne1 hAv HDv hi1 hi2 hi3 hi5 hpw ⟨rfl, rfl, rfl, rfl⟩ _ ?_
    intro T3 w3 hf3 g1 g2
    have HB1 : Hid (w3.ownsRow 0 3 1 (.slice (some ⟨gv, 0, none⟩) (r + (n - (r + 1))) c2) (r + (n - (r + 1))) (vcl (l.take r ++ l.drop (r + 1))) ∧ Tch (fun i => i = gv) w2 w3) := ⟨g1, g2⟩
    clear g1 g2
    have hb3 : w3.heap[mb]? = some (.cells #[.slice (some ⟨gk, 0, none⟩) (r + (n - (r + 1))) c1, .slice (some ⟨gv, 0, none⟩) n c2] 51 (0, 0)) := (HB1.out.2.block _ (blk_lt HB2.out) (fun e => HNd.out.2.1 e)).trans HB2.out
    have t34 : Tch (fun i => i = mb) w3 (w3.setCell ⟨mb, 1, none⟩ (.slice (some ⟨gv, 0, none⟩) (r + (n - (r + 1))) c2)) := Tch.setCell _ _ _ _ rfl
    have HE : Hid (MW (w3.setCell ⟨mb, 1, none⟩ (.slice (some ⟨gv, 0, none⟩) (r + (n - (r + 1))) c2)) mb (l.take r ++ l.drop (r + 1)) F ∧ Tch (fun i => i ∈ F) w' (w3.setCell ⟨mb, 1, none⟩ (.slice (some ⟨gv, 0, none⟩) (r + (n - (r + 1))) c2))) := by
      refine ⟨⟨HSo.out, HM.out.nod, _, _, blk_set hb3 _, ?_, ?_, HF.out, ?_⟩, ((HT2.out.mono (fun i _ h => h.elim (fun e => by rw [e]; exact HNd.out.2.2.2.1) (fun e => by rw [e]; exact HNd.out.2.2.2.2.1))).trans' (HB1.out.2.mono (fun i _ e => by rw [e]; exact HNd.out.2.2.2.2.2))).trans' (t34.mono (fun i _ e => by rw [e]; exact HNd.out.2.2.2.1))⟩
      · rw [← HN.out]
        exact own_tch (own_tch HO2.out HB1.out.2 (fun g hg e => by
          injection hg with hg
          have : gk = g := hg
          exact HNd.out.2.2.1 (by rw [this]; exact e))) t34 (fun g hg e => by
          injection hg with hg
          have : gk = g := hg
          exact HNd.out.1 (by rw [this]; exact e.symm))
      · rw [← HN.out]
        exact own_tch HB1.out.1 t34 (fun g hg e => by
          injection hg with hg
          have : gv = g := hg
          exact HNd.out.2.1 (by rw [this]; exact e.symm))
      · constructor
        · intro e; cases e
        · intro e; cases e
    clear t34 hb3 z1 hAv HDv zf1
    refine hf3.use (P := fun T => (Exit.then _ _) .normal { tmps := T, defers := [] } _) ?_
    clear hf3 T3 u
    intro u
    go_wp2_with fail
    go_ret2
    exact ⟨_, old, true, rfl, HE.out.1, HR.out, HE.out.2⟩
end Go.Proofs.Ytnjiiebjdpipjaa
