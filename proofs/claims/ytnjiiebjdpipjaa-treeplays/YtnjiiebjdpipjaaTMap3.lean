import Derived.Test.YtnjiiebjdpipjaaTMap2
/- The document's map: Put. -/
namespace Go.Proofs.Ytnjiiebjdpipjaa
open Go.RowKit Go

set_option maxHeartbeats 1000000 in
set_option maxRecDepth 100000 in
theorem put_m (W : World) (mb : Nat) (l : List It) (F : List Nat) (k : ByteArray) (v : GV) (h : MW W mb l F) (hb : l.length < 10000000) : Calls Try.prog 44 #[pv mb, .string k, ev v] W fun x w' => ∃ l' F' old th, x = .returned (.tuple #[ev old, .bool th]) ∧ MW w' mb l' F' ∧ PutRel k v l l' old th ∧ Fits W.heap.size F F' ∧ Tch (fun i => i ∈ F) W w' := by
  have q := rank_m W mb l F k h (by omega)
  have q2 := get_m W mb l F k h (by omega)
  obtain ⟨kv, vv, h1, h2, h3, hF, hnn⟩ := h.rows
  have HM : Hid (MW W mb l F) := h
  have HS : Hid (Sorted l) := h.so
  obtain ⟨ko, c1, rfl⟩ := row_slice h2
  obtain ⟨vo, c2, rfl⟩ := row_slice h3
  have y0 : W.cell? ⟨mb, 0, none⟩ = some (.slice ko l.length c1) := by rw [blk_cell h1]; rfl
  have y1 : W.cell? ⟨mb, 1, none⟩ = some (.slice vo l.length c2) := by rw [blk_cell h1]; rfl
  obtain ⟨n, hn⟩ : ∃ n, n = l.length := ⟨_, rfl⟩
  have Hn : Hid (n = l.length) := hn
  have hnI : (n : Int) < 10000000 := by omega
  rw [← hn] at y0 y1 h1 h2 h3 hF hnn
  have H1 : Hid (W.heap[mb]? = some (.cells #[.slice ko n c1, .slice vo n c2] 51 (0, 0))) := h1
  have H2 : Hid (W.ownsRow 0 9 1 (.slice ko n c1) n (kcl l)) := h2
  have H3 : Hid (W.ownsRow 0 3 1 (.slice vo n c2) n (vcl l)) := h3
  have HF : Hid (F = mb :: (bl (.slice ko n c1) ++ bl (.slice vo n c2))) := hF
  have Hnn : Hid (Value.slice ko n c1 = .slice none 0 0 ↔ Value.slice vo n c2 = .slice none 0 0) := hnn
  clear h hb h1 h2 h3 hF hn hnn
  go_enter Try.func44, Try.ntmps44
  go_wp2_with fail
  refine q.mono ?_
  clear q
  rintro x w' ⟨⟨r, rfl, hr⟩, rfl⟩
  have hrl : (r : Int) ≤ n := by have := hr.parts.1; have := Hn.out; omega
  have Hr : Hid (RankRel k l r) := hr
  clear hr
  go_wp2_with fail
  refine q2.mono ?_
  clear q2
  rintro x w' ⟨⟨old, th, rfl, hg⟩, rfl⟩
  obtain ⟨hrl', hlo, hcase⟩ := rank_cases HS.out Hr.out
  cases th with
  | true =>
    obtain ⟨v0, hv0, hhi⟩ : ∃ v0, l[r]? = some (k, v0) ∧ ∀ e ∈ l.drop (r + 1), Hi k e := by
      rcases hcase with h | ⟨_, hhi⟩
      · exact h
      · have hg2 : GetRel k l gv0 false := .inr ⟨rfl, rfl, l.take r, l.drop r, (List.take_append_drop _ _).symm, hlo, hhi⟩
        have := (hg.uniq hg2).2
        cases this
    obtain ⟨hrn, hre⟩ := List.getElem?_eq_some_iff.1 hv0
    have hl : l = l.take r ++ (k, v0) :: l.drop (r + 1) := by rw [← hre, ← List.drop_eq_getElem_cons hrn, List.take_append_drop]
    have hov : old = v0 := (hg.uniq (.inl ⟨rfl, l.take r, l.drop (r + 1), hl, hlo, hhi⟩)).1
    subst hov
    obtain ⟨gv, gc, e, _, _, _, hA, hfz⟩ := own_at H3.out (by have := Hn.out; omega)
    injection e with e1 _ e2
    subst e1
    subst e2
    have z0 : w'.cell? ⟨gv, r, none⟩ = some (.int .i64 old) := by
      have := hA r (.int .i64 old) (by rw [List.getElem?_map, hv0]; rfl)
      rwa [Nat.zero_add] at this
    have z1 := hfz r
    have hrI : (r : Int) < n := by have := Hn.out; omega
    have HR : Hid (MW (w'.setCell ⟨gv, r, none⟩ (.int .i64 v)) mb (l.take r ++ (k, v) :: l.drop (r + 1)) F ∧ PutRel k v l (l.take r ++ (k, v) :: l.drop (r + 1)) old true ∧ Tch (fun i => i ∈ F) w' (w'.setCell ⟨gv, r, none⟩ (.int .i64 v))) := by
      have hgF : gv ∈ F := by rw [HF.out]; simp [bl, Value.ownBlock]
      have hgm : gv ≠ mb := fun e => by
        have := HM.out.nod mb
        rw [HF.out, e] at this
        simp [bl, Value.ownBlock] at this
      have hlen : (l.take r ++ (k, v) :: l.drop (r + 1)).length = n := by
        have h9 := congrArg List.length hl
        simp only [List.length_append, List.length_cons] at h9 ⊢
        rw [Hn.out]; omega
      have t9 : Tch (fun i => i = gv) w' (w'.setCell ⟨gv, r, none⟩ (.int .i64 v)) := Tch.setCell _ _ _ _ rfl
      have ek : kcl (l.take r ++ (k, v) :: l.drop (r + 1)) = kcl l := by
        conv => rhs; rw [hl]
        simp [kcl]
      have ev' : vcl (l.take r ++ (k, v) :: l.drop (r + 1)) = (vcl l).set r (.int .i64 v) := by
        have hr2 : (vcl (l.take r)).length = r := by simp only [vcl, List.length_map, List.length_take]; omega
        conv => rhs; rw [hl]
        simp only [vcl, List.map_append, List.map_cons]
        rw [List.set_append_right _ _ (by rw [List.length_map, List.length_take]; omega)]
        congr 1
        rw [List.length_map, List.length_take, Nat.min_eq_left (by omega), Nat.sub_self]
        rfl
      have hso : Sorted (l.take r ++ (k, v) :: l.drop (r + 1)) := by
        have hs := HS.out
        rw [hl] at hs
        obtain ⟨p1, p2, p3⟩ := List.pairwise_append.1 hs
        exact ins_sorted (List.pairwise_append.2 ⟨p1, (List.pairwise_cons.1 p2).2, fun a ha b hb => p3 a ha b (by simp [hb])⟩) hlo hhi
      refine ⟨⟨hso, HM.out.nod, _, _, (t9.block _ (blk_lt H1.out) (fun e => hgm e.symm)).trans H1.out, ?_, ?_, HF.out, Hnn.out⟩, .inl ⟨rfl, l.take r, l.drop (r + 1), hlo, hhi, hl, rfl⟩, t9.mono (fun i _ e => by rw [e]; exact hgF)⟩
      · rw [hlen, ek]
        exact own_tch H2.out t9 (fun g hg e => by
          have := HM.out.nod gv
          rw [HF.out] at this
          simp only [List.count_cons, List.count_append] at this
          have h7 : 1 ≤ (bl (.slice ko n c1)).count gv := List.count_pos_iff.2 (mem_bl.2 (e ▸ hg))
          have h8 : 1 ≤ (bl (.slice (some ⟨gv, 0, none⟩) n c2)).count gv := List.count_pos_iff.2 (mem_bl.2 rfl)
          omega)
      · rw [hlen, ev']
        exact own_set1 H3.out (by omega)
    have HFt : Hid (Fits w'.heap.size F F) := Fits.refl HM.out.nod
    clear hcase hlo hrl' hhi hl hre hrn hv0 hA hfz hg
    go_wp2_with fail
    go_ret2
    exact ⟨_, F, old, true, rfl, HR.out.1, HR.out.2.1, HFt.out, HR.out.2.2⟩
  | false =>
    have hhi : ∀ e ∈ l.drop r, Hi k e := by
      rcases hcase with ⟨v0, hv0, hhi⟩ | ⟨_, hhi⟩
      · obtain ⟨hrn, hre⟩ := List.getElem?_eq_some_iff.1 hv0
        have hl : l = l.take r ++ (k, v0) :: l.drop (r + 1) := by rw [← hre, ← List.drop_eq_getElem_cons hrn, List.take_append_drop]
        have := (hg.uniq (.inl ⟨rfl, l.take r, l.drop (r + 1), hl, hlo, hhi⟩)).2
        cases this
      · exact hhi
    have hold : old = gv0 := by
      rcases hg with ⟨e, _⟩ | ⟨_, e, _⟩
      · cases e
      · exact e
    subst hold
    obtain ⟨i0, hi, hz0, hz1, hz2⟩ := info_parts info_strm
    obtain ⟨i1, hi', hz0', hz1', hz2'⟩ := info_parts info_intm
    have HP : Hid (PutRel k v l (l.take r ++ (k, v) :: l.drop r) gv0 false) := .inr ⟨rfl, rfl, l.take r, l.drop r, hlo, hhi, (List.take_append_drop _ _).symm, rfl⟩
    have HSo : Hid (Sorted (l.take r ++ (k, v) :: l.drop r)) := ins_sorted (by rw [List.take_append_drop]; exact HS.out) hlo hhi
    have hN : (l.take r).length + 1 + (l.drop r).length = n + 1 := by rw [List.length_take, List.length_drop]; have := Hn.out; omega
    have hN2 : (l.take r).length + (l.drop r).length < 100000000 := by rw [List.length_take, List.length_drop]; have := Hn.out; omega
    have HN3 : Hid (n + 1 = (l.take r ++ (k, v) :: l.drop r).length) := by
      show _ = _
      rw [← hN]; simp; omega
    rcases H2.out.2 with ⟨ek, en⟩ | ⟨gk, cap, cur, ek, _, _, hcap, hcmx, _⟩
    · have ev0 := Hnn.out.1 ek
      injection ek with ek1 _ ek3
      injection ev0 with ev1 _ ev3
      subst ek1; subst ek3; subst ev1; subst ev3
      have hn0 : l = [] := List.eq_nil_of_length_eq_zero (by have := Hn.out; omega)
      have hr0 : r = 0 := by omega
      have sK1 : Src w' (.slice none 0 0) (kcl (l.take r)) := by rw [hn0]; simp; exact .inl ⟨rfl, rfl⟩
      have sK3 : Src w' (.slice none 0 0) (kcl (l.drop r)) := by rw [hn0]; simp; exact .inl ⟨rfl, rfl⟩
      have sV1 : Src w' (.slice none 0 0) (vcl (l.take r)) := by rw [hn0]; simp; exact .inl ⟨rfl, rfl⟩
      have sV3 : Src w' (.slice none 0 0) (vcl (l.drop r)) := by rw [hn0]; simp; exact .inl ⟨rfl, rfl⟩
      have hnz : n = 0 := by have := Hn.out; rw [hn0] at this; exact this
      clear hn0
      subst hr0
      subst hnz
      obtain ⟨v1, w1, v2, w2, g3, c3, w3, r1, r2, r3, o3, b3, T1, T2, T3⟩ := app3 (P := Try.prog) w' 35 9 i0 (.string ⟨#[]⟩) 16 Try.underlying35 hi hz0 hz1 hz2 rfl (by decide) (.slice none 0 0) (.slice none 0 0) (.string k) _ _ sK1 sK3 (kcl_one _) rfl (kcl_one _) (by simp only [List.length_map]; exact hN2)
      obtain ⟨v4, w4, v5, w5, g6, c6, w6, r4, r5, r6, o6, b6, T4, T5, T6⟩ := app3 (P := Try.prog) w3 49 3 i1 (.int .i64 0) 8 Try.underlying49 hi' hz0' hz1' hz2' rfl (by decide) (.slice none 0 0) (.slice none 0 0) (.int .i64 v) _ _ (sV1.no T3) (sV3.no T3) (vcl_one _) rfl (vcl_one _) (by simp only [List.length_map]; exact hN2)
      simp only [List.length_map] at r3 r6 o3 o6
      rw [hN] at r3 r6 o3 o6
      have ek' : kcl (l.take 0) ++ [.string k] ++ kcl (l.drop 0) = kcl (l.take 0 ++ (k, v) :: l.drop 0) := by simp [kcl]
      have ev' : vcl (l.take 0) ++ [.int .i64 v] ++ vcl (l.drop 0) = vcl (l.take 0 ++ (k, v) :: l.drop 0) := by simp [vcl]
      rw [ek'] at o3
      rw [ev'] at o6
      have HW : Hid _ := MW.new HM.out (((T3.trans' T6).block _ (blk_lt H1.out) (fun h => h)).trans H1.out) o3 b3 T3 o6 b6 T6 HN3.out HSo.out
      have rd : ∀ {w9 : World}, Tch (fun _ => False) w' w9 → w9.cell? ⟨mb, 0, none⟩ = some (.slice none 0 0) ∧ w9.cell? ⟨mb, 1, none⟩ = some (.slice none 0 0) ∧ w9.frozen? ⟨mb, 0, none⟩ = false ∧ w9.frozen? ⟨mb, 1, none⟩ = false := fun t => by
        have hb := (t.block _ (blk_lt H1.out) (fun h => h)).trans H1.out
        exact ⟨by rw [blk_cell hb]; rfl, by rw [blk_cell hb]; rfl, blk_frozen hb 0, blk_frozen hb 1⟩
      obtain ⟨a2, -, -, -⟩ := rd T2
      obtain ⟨-, a3, -, -⟩ := rd T3
      obtain ⟨-, a5, -, -⟩ := rd (T3.trans' T5)
      obtain ⟨p0, p1, p2, p3⟩ := rd (T3.trans' T6)
      have m6 := blk_lt (((T3.trans' T6).block _ (blk_lt H1.out) (fun h => h)).trans H1.out)
      clear rd T1 T2 T3 T4 T5 T6 o3 o6 b3 b6 sK1 sK3 sV1 sV3 hN hN2 ek' ev' hcase hlo hhi hrl' hg HS
      go_wp2_with (first
        | (at_builtin; refine wpList_app _ rfl (.tmp 31) (.tmp 37) 35 rfl rfl _ _ rfl rfl r1 ?_)
        | (at_builtin; refine wpList_app _ rfl (.tmp 39) (.tmp 41) 35 rfl rfl _ _ rfl rfl r2 ?_)
        | (at_builtin; refine wpList_app _ rfl (.tmp 43) (.tmp 49) 35 rfl rfl _ _ rfl rfl r3 ?_)
        | (at_builtin; refine wpList_app _ rfl (.tmp 51) (.tmp 57) 49 rfl rfl _ _ rfl rfl r4 ?_)
        | (at_builtin; refine wpList_app _ rfl (.tmp 59) (.tmp 61) 49 rfl rfl _ _ rfl rfl r5 ?_)
        | (at_builtin; refine wpList_app _ rfl (.tmp 63) (.tmp 69) 49 rfl rfl _ _ rfl rfl r6 ?_))
      go_ret2
      obtain ⟨F', m1, m2, m3⟩ := HW.out
      exact ⟨_, F', gv0, false, rfl, m1, HP.out, m2, m3⟩
    · injection ek with ek1 _ ek3
      subst ek1
      subst ek3
      have hvs : ∃ gv, vo = some ⟨gv, 0, none⟩ ∧ n ≤ c2 ∧ c2 ≤ maxLen := by
        rcases H3.out.2 with ⟨e, _⟩ | ⟨gv, cap, cur, e, _, _, hc, hcx, _⟩
        · have := Hnn.out.2 e
          cases this
        · injection e with e1 _ e3
          subst e3
          exact ⟨gv, e1, hc, hcx⟩
      obtain ⟨gv, rfl, hc2, hc3⟩ := hvs
      have k1 : (n : Int) ≤ c1 := by omega
      have k2 : (n : Int) ≤ c2 := by omega
      have k3 : (c1 : Int) ≤ 9223372036854775807 := by unfold maxLen at hcmx; omega
      have k4 : (c2 : Int) ≤ 9223372036854775807 := by unfold maxLen at hc3; omega
      clear hcap hcmx hc2 hc3
      have sK1 : Src w' (.slice (some ⟨gk, 0, none⟩) r c1) (kcl (l.take r)) := by have := src_head H2.out (r := r) (by omega); rw [← List.map_take] at this; exact this
      obtain ⟨Ak, hAk, sK3'⟩ := src_tail H2.out (r := r) (by omega)
      have sK3 : Src w' (.slice (some Ak) (n - r) (c1 - r)) (kcl (l.drop r)) := by rw [← List.map_drop] at sK3'; exact sK3'
      have sV1 : Src w' (.slice (some ⟨gv, 0, none⟩) r c2) (vcl (l.take r)) := by have := src_head H3.out (r := r) (by omega); rw [← List.map_take] at this; exact this
      obtain ⟨Av, hAv, sV3'⟩ := src_tail H3.out (r := r) (by omega)
      have sV3 : Src w' (.slice (some Av) (n - r) (c2 - r)) (vcl (l.drop r)) := by rw [← List.map_drop] at sV3'; exact sV3'
      clear sK3' sV3'
      obtain ⟨v1, w1, v2, w2, g3, c3, w3, r1, r2, r3, o3, b3, T1, T2, T3⟩ := app3 (P := Try.prog) w' 35 9 i0 (.string ⟨#[]⟩) 16 Try.underlying35 hi hz0 hz1 hz2 rfl (by decide) (.slice (some ⟨gk, 0, none⟩) r c1) (.slice (some Ak) (n - r) (c1 - r)) (.string k) _ _ sK1 sK3 (kcl_one _) rfl (kcl_one _) (by simp only [List.length_map]; exact hN2)
      obtain ⟨v4, w4, v5, w5, g6, c6, w6, r4, r5, r6, o6, b6, T4, T5, T6⟩ := app3 (P := Try.prog) w3 49 3 i1 (.int .i64 0) 8 Try.underlying49 hi' hz0' hz1' hz2' rfl (by decide) (.slice (some ⟨gv, 0, none⟩) r c2) (.slice (some Av) (n - r) (c2 - r)) (.int .i64 v) _ _ (sV1.no T3) (sV3.no T3) (vcl_one _) rfl (vcl_one _) (by simp only [List.length_map]; exact hN2)
      simp only [List.length_map] at r3 r6 o3 o6
      rw [hN] at r3 r6 o3 o6
      have ek' : kcl (l.take r) ++ [.string k] ++ kcl (l.drop r) = kcl (l.take r ++ (k, v) :: l.drop r) := by simp [kcl]
      have ev' : vcl (l.take r) ++ [.int .i64 v] ++ vcl (l.drop r) = vcl (l.take r ++ (k, v) :: l.drop r) := by simp [vcl]
      rw [ek'] at o3
      rw [ev'] at o6
      have HW : Hid _ := MW.new HM.out (((T3.trans' T6).block _ (blk_lt H1.out) (fun h => h)).trans H1.out) o3 b3 T3 o6 b6 T6 HN3.out HSo.out
      have rd : ∀ {w9 : World}, Tch (fun _ => False) w' w9 → w9.cell? ⟨mb, 0, none⟩ = some (.slice (some ⟨gk, 0, none⟩) n c1) ∧ w9.cell? ⟨mb, 1, none⟩ = some (.slice (some ⟨gv, 0, none⟩) n c2) ∧ w9.frozen? ⟨mb, 0, none⟩ = false ∧ w9.frozen? ⟨mb, 1, none⟩ = false := fun t => by
        have hb := (t.block _ (blk_lt H1.out) (fun h => h)).trans H1.out
        exact ⟨by rw [blk_cell hb]; rfl, by rw [blk_cell hb]; rfl, blk_frozen hb 0, blk_frozen hb 1⟩
      obtain ⟨a2, -, -, -⟩ := rd T2
      obtain ⟨-, a3, -, -⟩ := rd T3
      obtain ⟨-, a5, -, -⟩ := rd (T3.trans' T5)
      obtain ⟨p0, p1, p2, p3⟩ := rd (T3.trans' T6)
      have m6 := blk_lt (((T3.trans' T6).block _ (blk_lt H1.out) (fun h => h)).trans H1.out)
      clear rd T1 T2 T3 T4 T5 T6 o3 o6 b3 b6 sK1 sK3 sV1 sV3 hN hN2 ek' ev' hcase hlo hhi hrl' hg HS
      go_wp2_with (first
        | (at_builtin; refine wpList_app _ rfl (.tmp 31) (.tmp 37) 35 rfl rfl _ _ rfl rfl r1 ?_)
        | (at_builtin; refine wpList_app _ rfl (.tmp 39) (.tmp 41) 35 rfl rfl _ _ rfl rfl r2 ?_)
        | (at_builtin; refine wpList_app _ rfl (.tmp 43) (.tmp 49) 35 rfl rfl _ _ rfl rfl r3 ?_)
        | (at_builtin; refine wpList_app _ rfl (.tmp 51) (.tmp 57) 49 rfl rfl _ _ rfl rfl r4 ?_)
        | (at_builtin; refine wpList_app _ rfl (.tmp 59) (.tmp 61) 49 rfl rfl _ _ rfl rfl r5 ?_)
        | (at_builtin; refine wpList_app _ rfl (.tmp 63) (.tmp 69) 49 rfl rfl _ _ rfl rfl r6 ?_))
      go_ret2
      obtain ⟨F', m1, m2, m3⟩ := HW.out
      exact ⟨_, F', gv0, false, rfl, m1, HP.out, m2, m3⟩
end Go.Proofs.Ytnjiiebjdpipjaa
