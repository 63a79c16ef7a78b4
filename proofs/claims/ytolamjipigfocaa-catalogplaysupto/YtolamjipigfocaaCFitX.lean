import Derived.Test.YtolamjipigfocaaCBook
/- listed of the book. -/
namespace Go.Proofs.Ytolamjipigfocaa
open Go.RowKit Go

theorem TabsO.tl {w : World} {o : Nat → Nat} {k : Nat} {ao : Option Addr} {c : Nat} {P : List (Tbl × Value)} (h : TabsO w o k (.slice ao P.length c) P) : TL w (fun _ => False) ao P := h.to.tl' (fun _ _ h => h)
theorem TabsO.slice {w : World} {o : Nat → Nat} {k : Nat} {v : Value} {P : List (Tbl × Value)} (h : TabsO w o k v P) : ∃ ao c, v = .slice ao P.length c := row_slice h.to.own
theorem sames_x {w : World} {o : Nat → Nat} {j k : Nat} {ao bo : Option Addr} {ac bc m : Nat} {A B : List (Tbl × Value)} (hA : TabsO w o j (.slice ao m ac) A) (hB : TabsO w o k (.slice bo m bc) B) (hm : m = A.length) (hAB : A.map Prod.fst = B.map Prod.fst) (hl : A.length ≤ 16) (h8 : ∀ i (hi : i < A.length), A[i].1.cols.length ≤ 8) :
    Calls Try.prog 58 #[.slice ao m ac, .slice bo m bc] w fun x w' => x = .returned (.bool true) ∧ Tch (fun _ => False) w w' := by
  have hl2 : A.length = B.length := by have := congrArg List.length hAB; simpa using this
  have hm2 : m = B.length := by omega
  have q := sames_true A B ao bo ac bc _ _ w (TabsO.tl (by rw [← hm]; exact hA)) (TabsO.tl (by rw [← hm2]; exact hB)) hAB hl h8
  rw [← hm, ← hm2] at q
  exact q
set_option maxHeartbeats 4000000 in
set_option maxRecDepth 100000 in
theorem listed_any (w : World) (o : Nat → Nat) (b n : Nat) (s : BE w o b n) (hn : n ≤ 90000000) (v u : Value) (P1 P2 : List (Tbl × Value)) (k1 k2 : Nat) (h1 : TabsO w o k1 v P1) (h2 : TabsO w o k2 u P2) (h12 : P1.map Prod.fst = P2.map Prod.fst) (h16 : P1.length ≤ 16) (h8 : ∀ i (hi : i < P1.length), P1[i].1.cols.length ≤ 8) (hk : 15 ≤ k1 ∧ k1 ≤ 18 ∧ 15 ≤ k2 ∧ k2 ≤ 18 ∧ k1 ≠ k2) :
    Calls Try.prog 34 #[.pointer (some ⟨b, 0, none⟩), v, u] w fun x w' => x = .returned (.bool true) ∧ ∃ o', BE w' o' b (n + 224) ∧ Ev (fun j => (6 ≤ j ∧ j ≤ 14) ∨ j = k1 ∨ j = k2 ∨ j = 19) w o w' o' := by
  obtain ⟨C, T, R, cv, tv, rv, hr, wr, xs, h, hc, wc, hl, wl, Ph, Pw, s, s1, s2, s3⟩ := s
  have hl12 : P1.length = P2.length := by have := congrArg List.length h12; simpa using this
  have hlhw : Ph.length = Pw.length := by have := congrArg List.length s.same; simpa using this
  obtain ⟨ta, tc, hv⟩ := h1.slice
  obtain ⟨ua, uc, hu⟩ := h2.slice
  obtain ⟨ha, hcc, hhc⟩ := s.hlO.slice
  obtain ⟨wa, wcc, hwc⟩ := s.wlO.slice
  obtain ⟨m, hm⟩ : ∃ m, m = P1.length := ⟨_, rfl⟩
  obtain ⟨mh, hmh⟩ : ∃ mh, mh = Ph.length := ⟨_, rfl⟩
  rw [← hl12] at hu
  rw [← hlhw] at hwc
  rw [← hm] at hv hu
  rw [← hmh] at hhc hwc
  subst hv hu hhc hwc
  obtain ⟨Q, hQ⟩ : ∃ Q : World → Prop, Q = fun W => ∃ o', BB W o' b C T R cv tv rv hr wr xs h hc wc (.slice ha mh hcc) (.slice wa mh wcc) Ph Pw ∧ TabsO W o' k1 (.slice ta m tc) P1 ∧ TabsO W o' k2 (.slice ua m uc) P2 ∧ Ev (fun j => (6 ≤ j ∧ j ≤ 14) ∨ j = k1 ∨ j = k2 ∨ j = 19) w o W o' := ⟨_, rfl⟩
  have HQ0 : Hid (Q w) := by rw [hQ]; exact ⟨o, s, h1, h2, Ev.refl _ _⟩
  have HNo : Hid (∀ W W', Q W → Tch (fun _ => False) W W' → Q W') := fun W W' hW tt => by
    rw [hQ] at hW ⊢
    obtain ⟨o', q1, q2, q3, q4⟩ := hW
    have e := Ev.quiet (o := o') 19 tt
    exact ⟨_, q1.ev e (fun j _ _ => by omega), q2.ev e (by omega), q3.ev e (by omega), q4.trans (e.mono (fun j hj => Or.inr (Or.inr (Or.inr hj))))⟩
  have HSm : Hid (∀ W, Q W → Calls Try.prog 58 #[.slice ta m tc, .slice ua m uc] W fun x w' => x = .returned (.bool true) ∧ Tch (fun _ => False) W w') := fun W hW => by
    rw [hQ] at hW
    obtain ⟨o', q1, q2, q3, q4⟩ := hW
    exact sames_x q2 q3 hm h12 h16 h8
  have HSh : Hid (∀ W, Q W → Calls Try.prog 58 #[.slice ha mh hcc, .slice wa mh wcc] W fun x w' => x = .returned (.bool true) ∧ Tch (fun _ => False) W w') := fun W hW => by
    rw [hQ] at hW
    obtain ⟨o', q1, q2, q3, q4⟩ := hW
    exact sames_x q1.hlO q1.wlO hmh s.same s.len s.p8
  have HB : Hid (∀ W, Q W → W.cell? ⟨b, 13, none⟩ = some (.slice ha mh hcc) ∧ W.cell? ⟨b, 14, none⟩ = some (.slice wa mh wcc)) := fun W hW => by
    rw [hQ] at hW
    obtain ⟨o', q1, _⟩ := hW
    have hb := q1.b0.blk
    exact ⟨by rw [blk_cell hb]; rfl, by rw [blk_cell hb]; rfl⟩
  obtain ⟨Q3, hQ3⟩ : ∃ Q3 : World → Prop, Q3 = fun W => ∃ o' cv' tv' C' T', B0 W o' b (bkA cv' tv' rv h hc h wc (.slice ha mh hcc) (.slice wa mh wcc) hr wr) C' T' R cv' tv' rv hr wr xs ∧ C'.length ≤ n + 224 ∧ T'.length ≤ n + 224 ∧ TabsO W o' k1 (.slice ta m tc) P1 ∧ TabsO W o' k2 (.slice ua m uc) P2 ∧ RowC W o' 11 hc h.cols ∧ RowC W o' 12 wc h.cols ∧ Ev (fun j => (6 ≤ j ∧ j ≤ 14) ∨ j = k1 ∨ j = k2 ∨ j = 19) w o W o' := ⟨_, rfl⟩
  have HMn : Hid (∀ W, Q W → Calls Try.prog 59 #[.pointer (some ⟨b, 0, none⟩), .slice ha mh hcc] W fun x w' => x = .returned (.tuple #[]) ∧ Q3 w') := fun W hW => by
    rw [hQ] at hW
    obtain ⟨o', q1, q2, q3, q4⟩ := hW
    refine (allMine_any W o' b (bkA cv tv rv h hc h wc (.slice ha mh hcc) (.slice wa mh wcc) hr wr) C T cv tv (.slice ha mh hcc) Ph 13 10 q1.b0.blk rfl rfl rfl q1.b0.cs q1.b0.ts q1.hlO s.len s.p8 (by omega) (by omega) q1.b0.ob (by omega) q1.b0.c14 (by omega) q1.b0.t14).mono ?_
    rintro x w' ⟨rfl, o3, cv', tv', C', T', hC', hT', hb', hLc, hLt, e, hob⟩
    rw [hQ3]
    have hb2 : w'.heap[b]? = some (.cells (bkA cv' tv' rv h hc h wc (.slice ha mh hcc) (.slice wa mh wcc) hr wr) 41 (0, 0)) := hb'
    have hPl := s.len
    exact ⟨rfl, o3, cv', tv', C', T', ⟨q1.b0.rows.evb e (by omega) hb2 rfl rfl rfl rfl, hob, rfl, rfl, hLc, hLt, by rw [hC']; have := q1.b0.c14; omega, by rw [hT']; have := q1.b0.t14; omega⟩, by omega, by omega, q2.ev e (by omega), q3.ev e (by omega), q1.held.ev e (by omega), q1.was.ev e (by omega), q4.trans (e.mono (fun j hj => Or.inl (by omega)))⟩
  have HNo3 : Hid (∀ W W', Q3 W → Tch (fun _ => False) W W' → Q3 W') := fun W W' hW tt => by
    rw [hQ3] at hW ⊢
    obtain ⟨o', cv', tv', C', T', q1, q2, q3, q4, q5, q6, q7, q8⟩ := hW
    have e := Ev.quiet (o := o') 19 tt
    exact ⟨_, cv', tv', C', T', q1.ev e (by omega), q2, q3, q4.ev e (by omega), q5.ev e (by omega), q6.ev e (by omega), q7.ev e (by omega), q8.trans (e.mono (fun j hj => Or.inr (Or.inr (Or.inr hj))))⟩
  have HSm3 : Hid (∀ W, Q3 W → Calls Try.prog 58 #[.slice ta m tc, .slice ua m uc] W fun x w' => x = .returned (.bool true) ∧ Tch (fun _ => False) W w') := fun W hW => by
    rw [hQ3] at hW
    obtain ⟨o', cv', tv', C', T', q1, q2, q3, q4, q5, _⟩ := hW
    exact sames_x q4 q5 hm h12 h16 h8
  have HX3 : Hid (∀ W, Q3 W → W.cell? ⟨b, 13, none⟩ = some (.slice ha mh hcc) ∧ W.cell? ⟨b, 14, none⟩ = some (.slice wa mh wcc) ∧ ∀ j, W.frozen? ⟨b, j, none⟩ = false) := fun W hW => by
    rw [hQ3] at hW
    obtain ⟨o', cv', tv', C', T', q1, _⟩ := hW
    have hb := q1.blk
    exact ⟨by rw [blk_cell hb]; rfl, by rw [blk_cell hb]; rfl, fun j => blk_frozen hb j⟩
  have HFin : Hid (∀ W W', Q3 W → W' = (W.setCell ⟨b, 13, none⟩ (.slice ta m tc)).setCell ⟨b, 14, none⟩ (.slice ua m uc) → ∃ o', BE W' o' b (n + 224) ∧ Ev (fun j => (6 ≤ j ∧ j ≤ 14) ∨ j = k1 ∨ j = k2 ∨ j = 19) w o W' o') := fun W W' hW hW' => by
    rw [hQ3] at hW
    obtain ⟨o', cv', tv', C', T', q1, q2, q3, q4, q5, q6, q7, q8⟩ := hW
    have tE : Tch (fun i => i = b) W W' := by rw [hW']; exact (Tch.setCell (fun i => i = b) W ⟨b, 13, none⟩ _ rfl).setCellR ⟨b, 14, none⟩ _ rfl
    have hs' : W'.heap.size = W.heap.size := by rw [hW']; simp only [World.size_setCell]
    have hb' : W'.heap[b]? = some (.cells (bkA cv' tv' rv h hc h wc (.slice ta m tc) (.slice ua m uc) hr wr) 41 (0, 0)) := by
      have a1 := blk_set (i := 13) q1.blk (.slice ta m tc)
      have a2 := blk_set (i := 14) a1 (.slice ua m uc)
      rw [hW']; exact a2
    obtain ⟨p1, e1⟩ := q1.put tE hs' hb' rfl rfl rfl rfl rfl rfl
    have e2 := Ev.relab W' o' k1 13
    have e3 := Ev.relab W' (rlb o' k1 13) k2 14
    have r1 : TabsO W' (rlb (rlb o' k1 13) k2 14) 13 (.slice ta m tc) P1 := ((q4.ev e1 (by omega)).relab 13).ev e3 (by omega)
    have r2 : TabsO W' (rlb (rlb o' k1 13) k2 14) 14 (.slice ua m uc) P2 := ((q5.ev e1 (by omega)).ev e2 (by omega)).relab 14
    refine ⟨_, ⟨C', T', R, cv', tv', rv, hr, wr, xs, h, hc, wc, .slice ta m tc, .slice ua m uc, P1, P2, ⟨(p1.ev e2 (by omega)).ev e3 (by omega), ((q6.ev e1 (by omega)).ev e2 (by omega)).ev e3 (by omega), ((q7.ev e1 (by omega)).ev e2 (by omega)).ev e3 (by omega), s.c8, r1, r2, h12, h16, h8⟩, q2, q3, by omega⟩, ((q8.trans (e1.mono (fun j hj => Or.inl (by omega)))).trans (e2.mono (fun j hj => ?_))).trans (e3.mono (fun j hj => ?_))⟩
    · rcases hj with hj | hj
      · exact Or.inr (Or.inl hj)
      · exact Or.inl (by omega)
    · rcases hj with hj | hj
      · exact Or.inr (Or.inr (Or.inl hj))
      · exact Or.inl (by omega)
  have q1 := HSm.out w HQ0.out
  clear s s1 s2 s3 h1 h2 h8 h16 h12 hl12 hlhw hk hn hm hmh hQ hQ3
  go_enter Try.func34, Try.ntmps34
  go_wp2_with fail
  refine q1.mono ?_
  rintro x w1 ⟨rfl, t1⟩
  clear q1
  have HQ1 : Hid (Q w1) := HNo.out w w1 HQ0.out t1
  clear t1 HQ0
  obtain ⟨c13, c14⟩ := HB.out w1 HQ1.out
  have HS : Hid (∀ W, Tch (fun _ => False) w1 W → Tch (fun _ => False) w1 W ∧ W.cell? ⟨b, 13, none⟩ = some (.slice ha mh hcc) ∧ W.cell? ⟨b, 14, none⟩ = some (.slice wa mh wcc)) := fun W tW => ⟨tW, HB.out W (HNo.out w1 W HQ1.out tW)⟩
  have HSq : Hid (∀ W, Tch (fun _ => False) w1 W → Calls Try.prog 58 #[.slice ha mh hcc, .slice wa mh wcc] W fun x w' => x = .returned (.bool true) ∧ Tch (fun _ => False) W w') := fun W tW => HSh.out W (HNo.out w1 W HQ1.out tW)
  go_wp2_with fail
  have T0 : Tch (fun _ => False) w1 w1 := Tch.refl _ _
  go_region_held3 (fun W => Tch (fun _ => False) w1 W ∧ W.cell? ⟨b, 13, none⟩ = some (.slice ha mh hcc) ∧ W.cell? ⟨b, 14, none⟩ = some (.slice wa mh wcc))
    ((refine HS.out _ ?_; first | assumption | exact Tch.drew T0))
    ((go_at_call 58; refine (HSq.out _ (show _ ∧ _ by assumption).1).mono ?_; rintro y w2 ⟨rfl, t2⟩; have V2 := Tch.trans' (show _ ∧ _ by assumption).1 t2))
  have HQ2 : Hid (Q w2) := HNo.out w1 w2 HQ1.out V2
  clear c13 c14 T0 HS HSq V2 t2
  obtain ⟨c13, c14⟩ := HB.out w2 HQ2.out
  have q3 := HMn.out w2 HQ2.out
  go_wp2_with fail
  refine q3.mono ?_
  rintro x w3 ⟨rfl, hq3⟩
  clear q3 c13 c14
  have H3 : Hid (Q3 w3) := hq3
  clear hq3
  have q4 := HSm3.out w3 H3.out
  go_wp2_with fail
  refine q4.mono ?_
  rintro x w4 ⟨rfl, t4⟩
  clear q4
  have H4 : Hid (Q3 w4) := HNo3.out w3 w4 H3.out t4
  obtain ⟨c13, c14, hf⟩ := HX3.out w4 H4.out
  have f13 := hf 13; have f14 := hf 14
  have HF : Hid _ := HFin.out w4 _ H4.out rfl
  clear hf t4 H3
  go_wp2_with fail
  go_ret
  exact ⟨rfl, HF.out⟩
end Go.Proofs.Ytolamjipigfocaa
/- fits of the book, by owners. -/
namespace Go.Proofs.Ytolamjipigfocaa
open Go.RowKit Go

theorem fits_x (w : World) (o : Nat → Nat) (b n : Nat) (s : BE w o b n) (hn : n ≤ 90000000) (t : Tbl) (ao : Option Addr) (c : Nat) (vs : List Val) (ro : Option Addr) (rc : Nat) (h : SL w ao (ccl t.cols)) (hao : ao = none → c = 0) (hlen : t.cols.length * 32 ≤ 140737488351232) (hr : SL w ro (vcl vs)) (hro : ro = none → rc = 0) (hvlen : vs.length * 32 ≤ 140737488351232) (hrF : vs ≠ [] → ∀ g o', ro = some ⟨g, o', none⟩ → o g = 0) :
    Calls Try.prog 37 #[.pointer (some ⟨b, 0, none⟩), tA t.id t.ver t.nm (.slice ao t.cols.length c) t.key, .slice ro vs.length rc] w fun x w' => x = .returned (.bool true) ∧ ∃ o', BE w' o' b (n + 14) ∧ Ev (fun j => j = 8 ∨ j = 10) w o w' o' := by
  obtain ⟨C, T, R, cv, tv, rv, hr', wr, xs, hh, hc, wc, hl, wl, Ph, Pw, s, s1, s2, s3⟩ := s
  have hbl := blk_lt s.b0.blk
  refine (fits_book b _ R rv hr' wr xs t ao c vs ro rc (Fb w o b) w s.b0.rows (fun i hi => hi.1) (by omega) h hao hlen hr hro hvlen (fun hne g o2 e => ?_)).mono ?_
  · obtain ⟨g', o', e', ha⟩ := hr (f3_nil _ _ _ hne)
    rw [e'] at e; injection e with e; injection e with e1 e2; subst e1
    have h0 := hrF hne g' o' e'
    refine ⟨ha.lt (f3_nil _ _ _ hne), by rw [h0]; omega, fun e => ?_⟩
    rw [e, s.b0.ob] at h0; omega
  · rintro x w' ⟨rfl, ⟨cur', R', rv', av, bv, ys, hB, hR', hcur⟩, tt⟩
    let o' : Nat → Nat := fun i => if i < w.heap.size then o i else 8
    have e : Ev (fun j => j = 8 ∨ j = 10) w o w' o' := by
      refine ⟨tt.mono (fun i hi hf => ?_), fun i hi _ => if_pos hi, fun i hi hk => ?_, fun i hi _ => Or.inl (if_neg (by omega))⟩
      · by_cases e8 : o i = 8
        · exact Or.inl e8
        · by_cases eb : i = b
          · rw [eb]; exact Or.inr s.b0.ob
          · exact absurd ⟨hi, e8, eb⟩ hf
      · show (if i < w.heap.size then o i else 8) = 8 ∨ (if i < w.heap.size then o i else 8) = 10
        rw [if_pos hi]; exact hk
    have hob : o' b = 10 := by show (if b < w.heap.size then o b else 8) = 10; rw [if_pos hbl, s.b0.ob]
    have hF : ∀ i, i < w'.heap.size → Fb w' o' b i → Fb w o b i := fun i _ hf => by
      obtain ⟨_, h2, h3⟩ := hf
      have h2' : (if i < w.heap.size then o i else 8) ≠ 8 := h2
      split at h2'
      · rename_i hi; exact ⟨hi, h2', h3⟩
      · exact absurd rfl h2'
    have hc : cur' = bkA cv tv rv' hh hc hh wc hl wl av bv := by
      apply Array.ext_getElem?
      intro i
      have hs := hB.size
      rcases Nat.lt_or_ge i 17 with hi | hi
      · by_cases h2 : i = 2
        · subst h2; rw [hB.c2]; rfl
        · rcases Nat.lt_or_ge i 15 with h15 | h15
          · rw [hcur i h2 h15]
            rcases (by omega : i = 0 ∨ i = 1 ∨ i = 3 ∨ i = 4 ∨ i = 5 ∨ i = 6 ∨ i = 7 ∨ i = 8 ∨ i = 9 ∨ i = 10 ∨ i = 11 ∨ i = 12 ∨ i = 13 ∨ i = 14) with rfl | rfl | rfl | rfl | rfl | rfl | rfl | rfl | rfl | rfl | rfl | rfl | rfl | rfl <;> rfl
          · rcases (by omega : i = 15 ∨ i = 16) with rfl | rfl
            · rw [hB.c15]; rfl
            · rw [hB.c16]; rfl
      · rw [Array.getElem?_eq_none (by omega), Array.getElem?_eq_none (by show 17 ≤ i; omega)]
    subst hc
    refine ⟨rfl, o', ⟨C, T, R', cv, tv, rv', av, bv, ys, hh, hc, wc, hl, wl, Ph, Pw, ⟨⟨hB.fresh hF, hob, rfl, rfl, s.b0.cs.ev e (by omega), s.b0.ts.ev e (by omega), s.b0.c14, s.b0.t14⟩, s.held.ev e (by omega), s.was.ev e (by omega), s.c8, s.hlO.ev e (by omega), s.wlO.ev e (by omega), s.same, s.len, s.p8⟩, by omega, by omega, by omega⟩, e⟩
theorem still_x (w : World) (o : Nat → Nat) (b n : Nat) (s : BE w o b n) (hn : n ≤ 900000000) : Calls Try.prog 14 #[.pointer (some ⟨b, 0, none⟩)] w fun x w' => x = .returned (.bool true) ∧ w' = w := by
  obtain ⟨C, T, R, cv, tv, rv, hr', wr, xs, hh, hc, wc, hl, wl, Ph, Pw, s, s1, s2, s3⟩ := s
  exact still_any b _ C T R cv tv rv _ _ _ w s.b0.blk rfl rfl rfl s.b0.cs s.b0.ts s.b0.rows.ls (by omega) (by omega) (by omega)
end Go.Proofs.Ytolamjipigfocaa
