import Derived.Test.YtolamjipigfocaaCLds1
/- loads: Load, of both. -/
namespace Go.Proofs.Ytolamjipigfocaa
open Go.RowKit Go

set_option maxHeartbeats 4000000 in
set_option maxRecDepth 100000 in
theorem loads_any (w : World) (o : Nat → Nat) (k : Nat) (l : List (Tbl × Value)) (lo : Option Addr) (lc : Nat) (F : Nat → Prop) (next : Int) (hT : TL w F lo l) (hlen : l.length ≤ 1048576) (hcl : ∀ i (hi : i < l.length), l[i].1.cols.length ≤ 1048576) (hk : 20 ≤ k) :
    Calls Try.prog 12 #[.slice lo l.length lc, .int .i64 next] w fun x w' => LdOut w o k (l.map Prod.fst) next x w' := by
  obtain ⟨i1, hi1, hy0, hy1, hy2⟩ := info_parts info_cols
  obtain ⟨n, hn⟩ : ∃ n, n = l.length := ⟨_, rfl⟩
  obtain ⟨N, hN⟩ : ∃ N, N = w.heap.size := ⟨_, rfl⟩
  obtain ⟨L, hL⟩ : ∃ L, L = l.map Prod.fst := ⟨_, rfl⟩
  have hmk := make_tblB (n + 1) (w.alloc (.cells #[.pointer none, .pointer none] 28)) (by omega)
  obtain ⟨w1, hw1⟩ : ∃ w1, w1 = (w.alloc (.cells #[.pointer none, .pointer none] 28)).alloc (.cells (madeCells #[.int .i64 0, .int .i64 0, .string ⟨#[]⟩, .slice none 0 0, .int .i64 0] ((n + 1) * 5)) 36) := ⟨_, rfl⟩
  rw [← hw1, World.size_alloc, ← hN, show (((n + 1 : Nat)) : Int) = (n : Int) + 1 by omega] at hmk
  have HS0 : Hid (LdS w n 0 l [] (.slice none 0 0) w1) := by
    have t1 : Tch (fun _ => False) w w1 := by rw [hw1]; exact (Tch.alloc _ _ _).allocR _
    refine ⟨t1, ?_, rfl, ⟨_, by rw [hw1, ← World.size_alloc]; exact alloc_new _ _, size_madeCells _ _, by simp [lq, tcl]⟩, fun j hj => by simp at hj, fun i j hi => by simp at hi, (by rw [show rcl l [] = [] by simp [rcl]]; exact World.ownsRow_nil _ _ _ _), fun g e => by cases e⟩
    rw [hw1]; exact ((Tch.alloc (fun _ => False) _ _).block _ (by simp) (fun h => h)).trans (alloc_new _ _)
  have HT : Hid (TL w F lo l) := hT
  have Hn : Hid (n = l.length) := hn
  have HN : Hid (N = w.heap.size) := hN
  have HL : Hid (L = l.map Prod.fst) := hL
  have Hcl : Hid _ := hcl
  have hnI : n ≤ 1048576 := by omega
  have hrs : Try.f12.results = #[.cell 4 28, .tmp 5] := by kernel_rfl
  have Hrs : Hid _ := hrs
  rw [← hn, ← hL]
  clear hT hcl hN hn hL hw1 hrs hlen
  go_enter Try.func12, Try.ntmps12
  go_wp2_with fail
  rw [← HN.out]
  clear hmk
  go_loopw [7, 8] (fun rv iv wr => ∃ (q : Nat) (G : List Nat), iv = .int .i64 q ∧ q ≤ n ∧ Hid (LdS w n q l G rv wr)) (fun _ iv _ => n - (intOf iv).toNat)
  case atStart => exact ⟨0, [], rfl, by omega, HS0⟩
  case round =>
    clear HS0
    obtain ⟨q, G, rfl, hq, HS⟩ := hrel
    obtain ⟨wV, hwV⟩ : ∃ wV, wV = wr := ⟨_, rfl⟩
    subst hwV
    obtain ⟨ro, rc, hrv⟩ := row_slice HS.out.room
    subst hrv
    by_cases hlt : (q : Int) < n
    · have hql : q < l.length := by have := Hn.out; omega
      have hTV : TL wV F lo l := HT.out.tch HS.out.t (fun _ _ h => h.elim)
      obtain ⟨g, of, hlo, c0, c1, c2, c3, c4⟩ := hTV.at q hql
      subst hlo
      obtain ⟨co, cc, hck⟩ := hTV.col q hql
      obtain ⟨t, ht⟩ : ∃ t, t = l[q].1 := ⟨_, rfl⟩
      have hck2 : l[q].2 = .slice co t.cols.length cc := by rw [ht]; exact hck.eq
      rw [hck2] at c3
      rw [← ht] at c0 c1 c2 c4
      obtain ⟨m, hm⟩ : ∃ m, m = t.cols.length := ⟨_, rfl⟩
      rw [← hm] at c3
      have hmI : m ≤ 1048576 := by rw [hm, ht]; exact Hcl.out q hql
      obtain ⟨cur, b1, b2, b3⟩ := HS.out.own
      rw [← HN.out] at b1
      obtain ⟨⟨z0, e0⟩, ⟨z1, e1⟩, ⟨z2, e2⟩, ⟨z3, e3⟩, ⟨z4, e4⟩, hf⟩ := set5_cells b1 b2 (by omega : q < n + 1) (.int .i64 t.id) (.int .i64 t.ver) (.string t.nm) (.slice co m cc)
      have f0 := hf (q * 5); have f1 := hf (q * 5 + 1); have f2 := hf (q * 5 + 2); have f3 := hf (q * 5 + 3); have f4 := hf (q * 5 + 4)
      obtain ⟨wa, hwa⟩ : ∃ wa, wa = (((((wV.setCell ⟨N + 1, q * 5, none⟩ (.int .i64 t.id)).setCell ⟨N + 1, q * 5 + 1, none⟩ (.int .i64 t.ver)).setCell ⟨N + 1, q * 5 + 2, none⟩ (.string t.nm)).setCell ⟨N + 1, q * 5 + 3, none⟩ (.slice co m cc)).setCell ⟨N + 1, q * 5 + 4, none⟩ (.int .i64 t.key)) := ⟨_, rfl⟩
      have ta : Tch (fun i => i = N + 1) wV wa := by rw [hwa]; exact ((((Tch.setCell (fun i => i = N + 1) wV ⟨N + 1, q * 5, none⟩ _ rfl).setCellR ⟨N + 1, q * 5 + 1, none⟩ _ rfl).setCellR ⟨N + 1, q * 5 + 2, none⟩ _ rfl).setCellR ⟨N + 1, q * 5 + 3, none⟩ _ rfl).setCellR ⟨N + 1, q * 5 + 4, none⟩ _ rfl
      have tw : Tch (fun _ => False) w wa := HS.out.t.trans ta (fun i hi e => by have := HN.out; have e2 : i = N + 1 := e; omega)
      have hgl : g < w.heap.size := by
        obtain ⟨g', o', e', ha⟩ := HT.out.sl (tcl_nil (by intro e; rw [e] at hql; simp at hql))
        injection e' with e'; injection e' with e' _
        rw [e']; exact ha.lt (tcl_nil (by intro e; rw [e] at hql; simp at hql))
      have d3 : wa.cell? ⟨g, of + q * 5 + 3, none⟩ = some (.slice co m cc) := by
        rw [ta.cell (p := ⟨g, of + q * 5 + 3, none⟩) (Nat.lt_of_lt_of_le hgl HS.out.t.size) (fun e => by have := HN.out; have e2 : g = N + 1 := e; omega)]; exact c3
      have hTa : TL wa F (some ⟨g, of, none⟩) l := HT.out.tch tw (fun _ _ h => h.elim)
      obtain ⟨co', cc', hck'⟩ := hTa.col q hql
      have e9 := hck'.eq
      rw [hck2] at e9
      injection e9 with e9 _ e10
      subst e9 e10
      have q1 : Calls Try.prog 16 #[.slice co m cc] wa fun x w' => x = .returned (.slice (some ⟨wa.heap.size, 0, none⟩) ((m + 2 : Nat)) (m + 2)) ∧ w'.heap[wa.heap.size]? = some (.cells (ccl (lentC t.cols)).toArray 43 (0, 0)) ∧ Tch (fun _ => False) wa w' := by
        have h1 := lent_any t.cols co cc wa (by rw [ht]; exact hck'.sl) (fun e => (hck'.no e).2) (by omega)
        rw [← hm] at h1
        exact h1
      obtain ⟨M, hM⟩ : ∃ M, M = wa.heap.size := ⟨_, rfl⟩
      rw [← hM] at q1
      have Hx : Hid (∀ wb, Tch (fun _ => False) wa wb → wb.cell? ⟨g, of + q * 5 + 3, none⟩ = some (.slice co m cc) ∧ (∃ y, wb.cell? ⟨N + 1, q * 5 + 3, none⟩ = some y) ∧ wb.frozen? ⟨N + 1, q * 5 + 3, none⟩ = false) := fun wb tb => by
        have a1 := blk_set (i := q * 5) b1 (.int .i64 t.id)
        have a2 := blk_set (i := q * 5 + 1) a1 (.int .i64 t.ver)
        have a3 := blk_set (i := q * 5 + 2) a2 (.string t.nm)
        have a4 := blk_set (i := q * 5 + 3) a3 (.slice co m cc)
        have a5 := blk_set (i := q * 5 + 4) a4 (.int .i64 t.key)
        rw [← hwa] at a5
        have a6 : wb.heap[N + 1]? = _ := (tb.block (N + 1) (blk_lt a5) (fun h => h)).trans a5
        refine ⟨by rw [tb.cell (p := ⟨g, of + q * 5 + 3, none⟩) (cell_lt d3) (fun h => h)]; exact d3, ?_, blk_frozen a6 _⟩
        rw [blk_cell a6]
        exact ⟨_, Array.getElem?_eq_getElem (by simp [b2]; omega)⟩
      have Hst : Hid (∀ wb wc wd we rv', Tch (fun _ => False) wa wb → wb.heap[M]? = some (.cells (ccl (lentC t.cols)).toArray 43 (0, 0)) → wc = wb.setCell ⟨N + 1, q * 5 + 3, none⟩ (.slice (some ⟨M, 0, none⟩) m (m + 2)) → Tch (fun _ => False) wc wd → (wd.ownsRow 0 34 1 (.slice ro q rc) q (rcl l G)) ∧ (wd.grownBy we (Value.slice ro q rc).ownBlock → we.ownsRow 0 34 1 rv' (q + 1) (rcl l G ++ [.slice (some ⟨M, 0, none⟩) (m + 2) (m + 2)]) → (rv'.ownBlock = (Value.slice ro q rc).ownBlock ∨ rv'.ownBlock = some wd.heap.size) → LdS w n (q + 1) l (G ++ [M]) rv' we)) := fun wb wc wd we rv' tb hb hc td => by
        refine ⟨?_, fun hgr hown hat => ?_⟩
        · have tc : Tch (fun i => i = N + 1) wb wc := by rw [hc]; exact Tch.setCell _ _ _ _ rfl
          refine own_tch HS.out.room (((ta.trans' (tb.mono (fun _ _ h => h.elim))).trans' tc).trans' (td.mono (fun _ _ h => h.elim))) (fun g e e2 => ?_)
          have := (HS.out.rag g e).1
          have := HN.out
          have e3 : g = N + 1 := e2
          omega
        · rw [hM] at hb hc ⊢
          rw [HN.out] at hc hwa
          refine HS.out.step hql Hn.out.symm ht hwa tb hb (by rw [← hm]; exact hc) td hgr ?_ hat
          have e1 : rcE l[q] wa.heap.size = .slice (some ⟨M, 0, none⟩) (m + 2) (m + 2) := by unfold rcE; rw [← ht, ← hm, hM]
          rw [e1]; exact hown
      have Hwa : Hid _ := hwa
      rw [hwa] at d3
      clear hTV hck hck' hTa ht hm hck2 b1 b2 b3 hf ta tw hgl hwa hM
      go_wp2_with fail
      have hwa := Hwa.out
      rw [← hwa]
      clear hwa d3 c0 c1 c2 c3 c4 e0 e1 e2 e3 e4 f0 f1 f2 f3 f4
      refine q1.mono ?_
      rintro x wb ⟨rfl, hb, tb⟩
      clear q1
      obtain ⟨d3, ⟨y3, d4⟩, d5⟩ := Hx.out wb tb
      obtain ⟨wc, hwc⟩ : ∃ wc, wc = wb.setCell ⟨N + 1, q * 5 + 3, none⟩ (.slice (some ⟨M, 0, none⟩) m (m + 2)) := ⟨_, rfl⟩
      have Hwc : Hid _ := hwc
      have Hst2 : Hid _ := fun wd we rv' td => Hst.out wb wc wd we rv' tb hb hwc td
      have hmI2 : (m : Int) ≤ m + 2 := by omega
      have Hnw : Hid (∀ j u, ([.slice (some ⟨M, 0, none⟩) (m + 2) (m + 2)] : List Value)[j]? = some u → (wc.alloc (.cells #[.slice (some ⟨M, 0, none⟩) (m + 2) (m + 2)] 34)).cell? ((⟨wb.heap.size, 0, none⟩ : Addr).add j) = some u) := by
        rw [show wb.heap.size = wc.heap.size by rw [hwc]; simp]; exact World.news_of_block (alloc_new wc _)
      clear Hst hb tb hwc Hx
      go_wp2_with (at_builtin; have hwc := Hwc.out; rw [← hwc]; clear hwc; refine wpList_append_keeps _ rfl _ _ 31 rfl 0 34 i1 (.slice none 0 0) 1 24 Try.underlying31 hi1 hy0 hy1 hy2 rfl (by decide) (.slice ro q rc) q (rcl l G) rfl (Hst2.out _ wc undef (Tch.alloc (fun _ => False) wc _)).1 ⟨wb.heap.size, 0, none⟩ 1 1 [.slice (some ⟨M, 0, none⟩) (m + 2) (m + 2)] rfl rfl Hnw.out (by simp [Value.oneCell']) (by unfold maxLen; omega) (by omega) (Nat.zero_le _) ?_; intro v6 w6 hown6 hgr6 hat6 _)
      obtain ⟨ro6, rc6, hv6⟩ := row_slice hown6
      subst hv6
      have HS6 : Hid (LdS w n (q + 1) l (G ++ [M]) (.slice ro6 (q + 1) rc6) w6) := (Hst2.out _ w6 _ (Tch.alloc (fun _ => False) wc _)).2 hgr6 hown6 hat6
      clear hown6 hgr6 hat6 Hst2
      go_wp2_with fail
      go_roundw
      case rel => exact ⟨q + 1, _, by go_num, by omega, HS6⟩
      case measure => simp [intOf]; omega
    · have hqn : n = q := by omega
      subst hqn
      obtain ⟨E, hE⟩ : ∃ E, E = ldE L next := ⟨_, rfl⟩
      have HE : Hid (E = ldE L next) := hE
      obtain ⟨cur, b1, b2, b3⟩ := HS.out.own
      rw [← HN.out] at b1
      have e2 : ∃ y, wV.cell? ⟨N + 1, n * 5 + 2, none⟩ = some y := ⟨cur[n * 5 + 2]'(by omega), by rw [blk_cell b1]; exact Array.getElem?_eq_getElem _⟩
      obtain ⟨y2, e2⟩ := e2
      have f2 := blk_frozen b1 (n * 5 + 2)
      obtain ⟨wb, hwb⟩ : ∃ wb, wb = wV.setCell ⟨N + 1, n * 5 + 2, none⟩ (.string ⟨#[98, 101, 104, 105, 110, 100]⟩) := ⟨_, rfl⟩
      have tS : Tch (fun i => i = N + 1) wV wb := by rw [hwb]; exact Tch.setCell _ _ _ _ rfl
      have bb := blk_set (i := n * 5 + 2) b1 (.string ⟨#[98, 101, 104, 105, 110, 100]⟩)
      rw [← hwb] at bb
      have hlenG : G.length = l.length := by rw [HS.out.len]; exact Hn.out
      have HTB : Hid (TL wb (fun _ => False) (some ⟨N + 1, 0, none⟩) (lq l G)) := by
        have h1 := HS.out.tl Hn.out.symm (W' := wb) (by rw [← HN.out]; exact tS) (by rw [← HN.out]; exact bb) (by
          rw [Array.toList_setIfInBounds, List.take_set_of_le (by omega)]; exact b3)
        rw [← HN.out] at h1
        exact h1
      have HB : Hid (∀ W, Tch (fun _ => False) wb W → W.cell? ⟨N + 1, n * 5 + 2, none⟩ = some (.string ⟨#[98, 101, 104, 105, 110, 100]⟩)) := fun W t => by
        rw [t.cell (p := ⟨N + 1, n * 5 + 2, none⟩) (blk_lt bb) (fun h => h), blk_cell bb, Array.getElem?_setIfInBounds_self_of_lt (by omega)]
      have q1 : Calls Try.prog 29 #[.slice (some ⟨N + 1, 0, none⟩) n (n + 1), .int .i64 next] wb fun x wc => ∃ pc, x = .returned (.tuple #[.pointer pc, .int .i64 E]) ∧ Tch (fun _ => False) wb wc ∧ (E = 0 → ∃ d, pc = some ⟨d, 0, none⟩ ∧ CF wc (ext wb (ext w o 4) k) k d L (next - 1)) ∧ (E ≠ 0 → pc = none) := by
        have h1 := load_x (o := ext w o 4) (kv := k) (lq l G) (some ⟨N + 1, 0, none⟩) (n + 1) (fun _ => False) next HTB.out (fun i hi => by
          have hi' : i < l.length := by rw [lq_len (by omega)] at hi; omega
          have h2 := Hcl.out i hi'
          have e : (lq l G)[i].1 = l[i].1 := by simp [lq, lqE]
          rw [e]; omega)
        rw [lq_len (by omega), HS.out.len, lq_fst hlenG, ← HL.out, ← HE.out] at h1
        refine h1.mono ?_
        rintro x wc ⟨h2, h3, h4⟩
        by_cases hz : E = 0
        · obtain ⟨d, hx, hc⟩ := h2 hz
          exact ⟨_, by rw [hz]; exact hx, h4, fun _ => ⟨d, rfl, hc⟩, fun e => absurd hz e⟩
        · exact ⟨_, h3 hz, h4, fun e => absurd e hz, fun _ => rfl⟩
      have HQ2 : Hid (∀ wc, Tch (fun _ => False) wb wc → Calls Try.prog 30 #[.slice lo n lc, .int .i64 next] wc fun x wd => ∃ pr, x = .returned (.tuple #[.pointer pr, .int .i64 E]) ∧ Tch (fun _ => False) wc wd ∧ (E = 0 → ∃ d, pr = some ⟨d, 0, none⟩ ∧ RF wd (ext wc (ext wb (ext w o 4) k) (k + 1)) (k + 1) d L (next - 1)) ∧ (E ≠ 0 → pr = none)) := fun wc tc => by
        have tw : Tch (fun _ => False) w wc := (HS.out.t.trans tS (fun i hi e => by have := HN.out; have e2 : i = N + 1 := e; omega)).trans' tc
        have h1 := rload_x (o := ext wb (ext w o 4) k) (kv := k + 1) l lo lc F next (HT.out.tch tw (fun _ _ h => h.elim))
        rw [← Hn.out, ← HL.out, ← HE.out] at h1
        refine h1.mono ?_
        rintro x wd ⟨h2, h3, h4⟩
        by_cases hz : E = 0
        · obtain ⟨d, hx, hc⟩ := h2 hz
          exact ⟨_, by rw [hz]; exact hx, h4, fun _ => ⟨d, rfl, hc⟩, fun e => absurd hz e⟩
        · exact ⟨_, h3 hz, h4, fun e => absurd e hz, fun _ => rfl⟩
      have HLT : Hid (∀ wc wd pc pr, Tch (fun _ => False) wb wc → Tch (fun _ => False) wc wd → (E = 0 → ∃ d, pc = some ⟨d, 0, none⟩ ∧ CF wc (ext wb (ext w o 4) k) k d L (next - 1)) → (E = 0 → ∃ d, pr = some ⟨d, 0, none⟩ ∧ RF wd (ext wc (ext wb (ext w o 4) k) (k + 1)) (k + 1) d L (next - 1)) → ∃ o', LdT w o k n 0 l G (.slice ro n rc) (LdX k L next pc pr) wd o') := fun wc wd pc pr tc td h1 h2 => by
        have s1 := tc.size
        refine ⟨_, LdT.begin (o' := ext wc (ext wb (ext w o 4) k) (k + 1)) HS.out Hn.out.symm (by rw [← HN.out]; exact hwb) (tc.trans' td) (fun i hi => ?_) (fun i h3 h4 => ?_) (fun hE => ?_)⟩
        · unfold ext; rw [if_pos (by omega), if_pos hi]
        · unfold ext K3
          by_cases h5 : i < wc.heap.size
          · rw [if_pos h5, if_neg (by omega)]; exact Or.inr (Or.inl rfl)
          · rw [if_neg h5]; exact Or.inr (Or.inr rfl)
        · obtain ⟨d, e1, hc⟩ := h1 (HE.out.trans hE)
          obtain ⟨e, e2, hr⟩ := h2 (HE.out.trans hE)
          exact ⟨d, e, e1, e2, hc.ev (Ev.quiet (k + 1) td) (by omega), hr⟩
      have HG : Hid (LdG w n l G (.slice ro n rc)) := HS.out.g Hn.out.symm
      have Hwb : Hid _ := hwb
      clear b1 b2 b3 tS bb hlenG hwb hE HTB HS
      go_wp2_with fail
      have hwb := Hwb.out
      rw [← hwb]
      clear hwb e2 f2
      refine q1.mono ?_
      rintro x wc ⟨pc, rfl, tc, hc1, hc2⟩
      have q2 := HQ2.out wc tc
      have Htc : Hid (Tch (fun _ => False) wb wc) := tc
      have Hc1 : Hid _ := hc1
      have Hc2 : Hid _ := hc2
      clear q1 tc hc1 hc2 HQ2
      go_wp2_with fail
      refine q2.mono ?_
      rintro x wd ⟨pr, rfl, td, hr1, hr2⟩
      have HT2 : Hid (∃ o', LdT w o k n 0 l G (.slice ro n rc) (LdX k L next pc pr) wd o') := HLT.out wc wd pc pr Htc.out td Hc1.out hr1
      have d2 := HB.out wd (Htc.out.trans' td)
      have Hr1 : Hid _ := hr1
      have Hr2 : Hid _ := hr2
      obtain ⟨X, hX⟩ : ∃ X, X = LdX k L next pc pr := ⟨_, rfl⟩
      have HXd : Hid (X = LdX k L next pc pr) := hX
      have HXe : Hid (∀ W W' o' o'', X W o' → Ev (fun j => j = 4) W o' W' o'' → X W' o'') := fun W W' o' o'' h e => by rw [hX] at h ⊢; exact h.ev hk e
      rw [← hX] at HT2
      clear q2 td hr1 hr2 HLT HB hX
      go_wp2_with fail
      clear d2
      go_loopw [14, 15] (fun okv iv wr => okv = .bool true ∧ ∃ (q : Nat), iv = .int .i64 q ∧ q ≤ n ∧ Hid (∃ o', LdT w o k n q l G (.slice ro n rc) X wr o')) (fun _ iv _ => n - (intOf iv).toNat)
      case atStart => exact ⟨rfl, 0, rfl, by omega, HT2⟩
      case round =>
        clear HT2 hlt
        obtain ⟨rfl, q, rfl, hq2, HT2⟩ := hrel
        obtain ⟨wV, hwV⟩ : ∃ wV, wV = wr := ⟨_, rfl⟩
        subst hwV
        by_cases hlt : (q : Int) < n
        · have hql : q < l.length := by have := Hn.out; omega
          obtain ⟨gq, hgq⟩ : ∃ gq, gq = G[q]'(by rw [HG.out.len]; omega) := ⟨_, rfl⟩
          have hqG : q < G.length := by rw [HG.out.len]; omega
          have htV : Tch (fun _ => False) w wV := by obtain ⟨o', hh⟩ := HT2.out; exact hh.t
          have hTV : TL wV F lo l := HT.out.tch htV (fun _ _ h => h.elim)
          obtain ⟨g, of, hlo, c0, c1, c2, c3, c4⟩ := hTV.at q hql
          obtain ⟨co, cc, hck⟩ := hTV.col q hql
          obtain ⟨t, ht⟩ : ∃ t, t = l[q].1 := ⟨_, rfl⟩
          have hck2 : l[q].2 = .slice co t.cols.length cc := by rw [ht]; exact hck.eq
          rw [hck2] at c3
          rw [← ht] at c2
          obtain ⟨m, hm⟩ : ∃ m, m = t.cols.length := ⟨_, rfl⟩
          rw [← hm] at c3
          have hmI : m ≤ 1048576 := by rw [hm, ht]; exact Hcl.out q hql
          have hgl : g < w.heap.size := by
            obtain ⟨g', o', e', ha⟩ := HT.out.sl (tcl_nil (by intro e; rw [e] at hql; simp at hql))
            rw [hlo] at e'
            injection e' with e'; injection e' with e' _
            rw [e']; exact ha.lt (tcl_nil (by intro e; rw [e] at hql; simp at hql))
          have hgi : w.heap.size + 1 < gq := by rw [hgq]; exact HG.out.hi q hqG
          obtain ⟨gR, hro, haR, hgRq⟩ : ∃ gR, ro = some ⟨gR, 0, none⟩ ∧ wV.cell? ⟨gR, q, none⟩ = some (.slice (some ⟨gq, 0, none⟩) (m + 2) (m + 2)) ∧ gR ≠ gq := by
            obtain ⟨o', hh⟩ := HT2.out
            obtain ⟨gR, e1, _, ha⟩ := own_at hh.room (by omega)
            have h1 := ha q (rcE l[q] gq) (by
              unfold rcl
              rw [List.getElem?_eq_getElem (by simp; omega), List.getElem_zipWith, hgq])
            rw [Nat.zero_add] at h1
            refine ⟨gR, e1, ?_, fun e2 => ?_⟩
            · rw [h1]; unfold rcE; rw [← ht, ← hm]
            · exact (HG.out.rag gR (by rw [e1]; rfl)).2 q hqG (by rw [← hgq, e2])
          subst hlo hro
          obtain ⟨C, hC⟩ : ∃ C : List Value → World → Prop, C = fun s W => match s with
            | [] => Tch (fun _ => False) wV W
            | [y] => y = .bool true ∧ Tch (fun i => i = gq) wV W
            | _ => False := ⟨_, rfl⟩
          have hCq : ∀ s W, C s W → Tch (fun i => i = gq) wV W := fun s W hW => by
            rw [hC] at hW
            match s, hW with
            | [], hW => exact hW.mono (fun _ _ h => h.elim)
            | [_], hW => exact hW.2
          have hgV : g < wV.heap.size := Nat.lt_of_lt_of_le hgl htV.size
          have hKq : ∀ W, Tch (fun i => i = gq) wV W → W.cell? ⟨gR, q, none⟩ = some (.slice (some ⟨gq, 0, none⟩) (m + 2) (m + 2)) ∧ W.cell? ⟨g, of + q * 5 + 3, none⟩ = some (.slice co m cc) ∧ W.cell? ⟨g, of + q * 5 + 2, none⟩ = some (.string t.nm) := fun W hW => by
            refine ⟨?_, ?_, ?_⟩
            · rw [hW.cell (p := ⟨gR, q, none⟩) (cell_lt haR) hgRq]; exact haR
            · rw [hW.cell (p := ⟨g, of + q * 5 + 3, none⟩) hgV (fun e => by have e2 : g = gq := e; omega)]; exact c3
            · rw [hW.cell (p := ⟨g, of + q * 5 + 2, none⟩) hgV (fun e => by have e2 : g = gq := e; omega)]; exact c2
          have hK : ∀ s W, C s W → W.cell? ⟨gR, q, none⟩ = some (.slice (some ⟨gq, 0, none⟩) (m + 2) (m + 2)) ∧ W.cell? ⟨g, of + q * 5 + 3, none⟩ = some (.slice co m cc) := fun s W hW => ⟨(hKq W (hCq s W hW)).1, (hKq W (hCq s W hW)).2.1⟩
          have h0' : C [] wV.drew := by rw [hC]; exact (Tch.refl _ _).drew
          have t1 : ∀ W, C [] W → Calls Try.prog 18 #[.slice (some ⟨gq, 0, none⟩) (m + 2) (m + 2), .slice co m cc] W fun x W' => ∃ y, x = .returned y ∧ C [y] W' := fun W hW => by
            rw [hC] at hW ⊢
            obtain ⟨o', hh⟩ := HT2.out
            have hle := hh.lent q hqG hql (Nat.le_refl _)
            rw [← hgq, ← ht] at hle
            have hsl : SL W co (ccl t.cols) := by rw [ht]; exact hck.sl.no hW
            have h1 := back_any t.cols co cc gq W hsl (by rw [hW.block gq (blk_lt hle) (fun h => h)]; exact hle) (by omega)
            rw [← hm] at h1
            refine h1.mono ?_
            rintro x W' ⟨rfl, t'⟩
            exact ⟨_, rfl, rfl, (hW.mono (fun _ _ h => h.elim)).trans' t'⟩
          have e1 : Hid (∀ y W, C [y] W → y = .bool true) := fun y W hW => by rw [hC] at hW; exact hW.1
          have HE2 : Hid (∀ y W, C [y] W → Tch (fun i => i = gq) wV W) := fun y W hW => by rw [hC] at hW; exact hW.2
          have HKq : Hid _ := hKq
          have HgN : Hid (N + 1 ≠ gq) := by have := HN.out; show _ ≠ _; omega
          have Ht : Hid (t = l[q].1) := ht
          have Hgq : Hid (gq = G[q]'hqG) := hgq
          have hqn : (q : Int) < n + 1 := by omega
          clear hC hCq hKq hgq htV hTV hck ht hm hck2 haR hgRq c0 c1 c2 c3 c4 hgl hgV
          go_wp2_with fail
          refine wp_region_barv [9] C (by kernel_rfl) (by kernel_rfl) (by kernel_rfl) h0' ?_
          clear h0'
          refine barv_read (by go_simp) (by rfl) ?_
          apply Exists.intro
          refine ⟨fun s' W hW b K Q hK' => ?_, fun K hK' => ?_⟩
          · obtain ⟨r0, r1⟩ := hK _ W hW
            go_simp
            exact hK' W hW
          go_simp
          refine hK' _ ?_
          clear hK' K
          refine barv_read (by go_simp) (by rfl) ?_
          apply Exists.intro
          refine ⟨fun s' W hW b K Q hK' => ?_, fun K hK' => ?_⟩
          · obtain ⟨r0, r1⟩ := hK _ W hW
            go_simp
            exact hK' W hW
          go_simp
          refine hK' _ ?_
          clear hK' K
          refine barv_read (by go_simp) (by rfl) ?_
          apply Exists.intro
          refine ⟨fun s' W hW b K Q hK' => ?_, fun K hK' => ?_⟩
          · obtain ⟨r0, r1⟩ := hK _ W hW
            go_simp
            exact hK' W hW
          go_simp
          refine hK' _ ?_
          clear hK' K
          refine barv_read (by go_simp) (by rfl) ?_
          apply Exists.intro
          refine ⟨fun s' W hW b K Q hK' => ?_, fun K hK' => ?_⟩
          · obtain ⟨r0, r1⟩ := hK _ W hW
            go_simp
            exact hK' W hW
          go_simp
          refine hK' _ ?_
          clear hK' K
          refine barv_read (by go_simp) (by rfl) ?_
          apply Exists.intro
          refine ⟨fun s' W hW b K Q hK' => ?_, fun K hK' => ?_⟩
          · obtain ⟨r0, r1⟩ := hK _ W hW
            go_simp
            exact hK' W hW
          go_simp
          refine hK' _ ?_
          clear hK' K
          refine barv_read (by go_simp) (by rfl) ?_
          apply Exists.intro
          refine ⟨fun s' W hW b K Q hK' => ?_, fun K hK' => ?_⟩
          · obtain ⟨r0, r1⟩ := hK _ W hW
            go_simp
            exact hK' W hW
          go_simp
          refine hK' _ ?_
          clear hK' K
          refine barv_read (by go_simp) (by rfl) ?_
          apply Exists.intro
          refine ⟨fun s' W hW b K Q hK' => ?_, fun K hK' => ?_⟩
          · obtain ⟨r0, r1⟩ := hK _ W hW
            go_simp
            exact hK' W hW
          go_simp
          refine hK' _ ?_
          clear hK' K
          refine barv_read (by go_simp) (by rfl) ?_
          apply Exists.intro
          refine ⟨fun s' W hW b K Q hK' => ?_, fun K hK' => ?_⟩
          · obtain ⟨r0, r1⟩ := hK _ W hW
            go_simp
            exact hK' W hW
          go_simp
          refine hK' _ ?_
          clear hK' K
          refine barv_read (by go_simp) (by rfl) ?_
          apply Exists.intro
          refine ⟨fun s' W hW b K Q hK' => ?_, fun K hK' => ?_⟩
          · obtain ⟨r0, r1⟩ := hK _ W hW
            go_simp
            exact hK' W hW
          go_simp
          refine hK' _ ?_
          clear hK' K
          refine barv_turn (by go_simp) (by rfl) (fun W hW b K Q hK' => ?_) (fun u hu K hK' => ?_)
          · go_simp
            go_at_call 18
            refine (t1 W hW).mono ?_
            rintro x w' ⟨y, rfl, h1⟩
            exact hK' y w' h1
          obtain rfl : u = .bool true := by
            obtain ⟨W', hW'⟩ := hu
            exact e1.out u W' hW'
          clear hu t1 e1
          go_simp
          refine hK' _ ?_
          clear hK' K
          refine barv_read (by go_simp) (by rfl) ?_
          apply Exists.intro
          refine ⟨fun s' W hW b K Q hK' => ?_, fun K hK' => ?_⟩
          · go_simp
            exact hK' W hW
          go_simp
          refine hK' _ ?_
          clear hK' K
          refine barv_nil ?_
          intro wb hwb
          have Htb : Hid (Tch (fun i => i = gq) wV wb) := HE2.out _ wb hwb
          obtain ⟨-, -, c2⟩ := HKq.out wb Htb.out
          obtain ⟨cur, hcur, b1⟩ : ∃ cur : Array Value, Hid (wb.heap[N + 1]? = some (.cells cur 36 (0, 0)) ∧ cur.size = (n + 1) * 5) ∧ wb.cell? ⟨N + 1, q * 5 + 2, none⟩ = some (.string t.nm) := by
            obtain ⟨o', hh⟩ := HT2.out
            obtain ⟨cur, h1, h2, h3⟩ := hh.own
            rw [← HN.out] at h1
            have h4 : wb.heap[N + 1]? = some (.cells cur 36 (0, 0)) := by rw [Htb.out.block _ (blk_lt h1) HgN.out]; exact h1
            refine ⟨cur, ⟨h4, h2⟩, ?_⟩
            rw [blk_cell h4, h3 q hql (Nat.le_refl _), Ht.out]
          clear hK hwb HE2 C HKq
          go_wp2_with fail
          go_quiet (fail)
          obtain ⟨wq, hwq⟩ : ∃ wq, wq = wb.drewN nq := ⟨_, rfl⟩
          rw [← hwq]
          have tq : Tch (fun _ => False) wb wq := by rw [hwq]; exact (Tch.refl _ _).drewN nq
          have bq : wq.heap[N + 1]? = some (.cells cur 36 (0, 0)) := by rw [tq.block _ (blk_lt hcur.out.1) (fun h => h)]; exact hcur.out.1
          obtain ⟨⟨z0, e0⟩, ⟨z1, e1⟩, ⟨z2, e2⟩, ⟨z3, e3⟩, ⟨z4, e4⟩, hf⟩ := set5_cells bq hcur.out.2 (by omega : q < n + 1) (.int .i64 0) (.int .i64 0) (.string ⟨#[]⟩) (.slice none 0 0)
          have f0 := hf (q * 5); have f1 := hf (q * 5 + 1); have f2 := hf (q * 5 + 2); have f3 := hf (q * 5 + 3); have f4 := hf (q * 5 + 4)
          have HT3 : Hid (∃ o', LdT w o k n (q + 1) l G (.slice (some ⟨gR, 0, none⟩) n rc) X (((((wq.setCell ⟨N + 1, q * 5, none⟩ (.int .i64 0)).setCell ⟨N + 1, q * 5 + 1, none⟩ (.int .i64 0)).setCell ⟨N + 1, q * 5 + 2, none⟩ (.string ⟨#[]⟩)).setCell ⟨N + 1, q * 5 + 3, none⟩ (.slice none 0 0)).setCell ⟨N + 1, q * 5 + 4, none⟩ (.int .i64 0)) o') := by
            obtain ⟨o', hh⟩ := HT2.out
            exact hh.step HG.out hql Hn.out.symm HXe.out (by rw [← Hgq.out]; exact Htb.out) tq (by rw [← HN.out])
          clear hwq tq bq hf b1 c2
          go_wp2_with fail
          go_roundw
          case rel => exact ⟨rfl, q + 1, by go_num, by omega, HT3⟩
          case measure => simp [intOf]; omega
        · have hqn : n = q := by omega
          subst hqn
          obtain ⟨z0, z1, f0, f1⟩ : wV.cell? ⟨N, 0, none⟩ = some (.pointer none) ∧ wV.cell? ⟨N, 1, none⟩ = some (.pointer none) ∧ wV.frozen? ⟨N, 0, none⟩ = false ∧ wV.frozen? ⟨N, 1, none⟩ = false := by
            obtain ⟨o', hh⟩ := HT2.out
            have hb := hh.bx
            rw [← HN.out] at hb
            exact ⟨by rw [blk_cell hb]; rfl, by rw [blk_cell hb]; rfl, blk_frozen hb 0, blk_frozen hb 1⟩
          by_cases hz : E = 0
          · obtain ⟨d, hd, _⟩ := Hc1.out hz
            obtain ⟨e, he, _⟩ := Hr1.out hz
            subst hd he hz
            have HEz : Hid (ldE L next = 0) := HE.out.symm
            have HFin : Hid (∀ W', W' = (wV.setCell ⟨N, 0, none⟩ (.pointer (some ⟨d, 0, none⟩))).setCell ⟨N, 1, none⟩ (.pointer (some ⟨e, 0, none⟩)) → (∀ tmps : Array Value, tmps[4]?.getD undef = .pointer (some ⟨N, 0, none⟩) → tmps[5]?.getD undef = .bool true → (results Try.f12 tmps).run Try.prog W' = .ok (.tuple #[.agg #[.pointer (some ⟨d, 0, none⟩), .pointer (some ⟨e, 0, none⟩)], .bool true]) W') ∧ LdOut w o k L next (.returned (.tuple #[.agg #[.pointer (some ⟨d, 0, none⟩), .pointer (some ⟨e, 0, none⟩)], .bool true])) W') := fun W' hW' => by
              obtain ⟨o', hh⟩ := HT2.out
              have hbx := hh.bx
              rw [← HN.out] at hbx
              have tE : Tch (fun i => i = N) wV W' := by rw [hW']; exact (Tch.setCell (fun i => i = N) wV ⟨N, 0, none⟩ _ rfl).setCellR ⟨N, 1, none⟩ _ rfl
              have hb : W'.heap[N]? = some (.cells #[.pointer (some ⟨d, 0, none⟩), .pointer (some ⟨e, 0, none⟩)] 28 (0, 0)) := by
                rw [hW', blk_set (blk_set hbx _) _]; rfl
              have ee : Ev (fun j => j = 4) wV o' W' (ext wV o' 4) := Ev.own1 tE (fun i _ hi => by rw [show i = N from hi, HN.out]; exact hh.l0)
              refine ⟨fun tmps h4 h5 => res_pairB Hrs.out h4 h5 (by rw [blk_cell hb]; rfl) (by rw [blk_cell hb]; rfl), _, _, _, rfl, hh.t.trans tE (fun i hi h => by have := HN.out; omega), hh.ev.trans (ee.mono (fun j hj => Or.inl hj)), ?_, ?_⟩
              · have hx := hh.x
                rw [HXd.out] at hx
                exact hx.ev hk ee
              · intro hne; exact absurd HEz.out hne
            go_wp2_with fail
            refine bodyPost_ret ((HFin.out _ rfl).1 _ ?_ ?_) rfl (HFin.out _ rfl).2 <;> rfl
          · obtain rfl := Hc2.out hz
            obtain rfl := Hr2.out hz
            have hEE : (E == E) = true := by simp
            have HFin : Hid (∀ W', W' = (wV.setCell ⟨N, 0, none⟩ (.pointer (none))).setCell ⟨N, 1, none⟩ (.pointer (none)) → (∀ tmps : Array Value, tmps[4]?.getD undef = .pointer (some ⟨N, 0, none⟩) → tmps[5]?.getD undef = .bool true → (results Try.f12 tmps).run Try.prog W' = .ok (.tuple #[.agg #[.pointer (none), .pointer (none)], .bool true]) W') ∧ LdOut w o k L next (.returned (.tuple #[.agg #[.pointer (none), .pointer (none)], .bool true])) W') := fun W' hW' => by
              obtain ⟨o', hh⟩ := HT2.out
              have hbx := hh.bx
              rw [← HN.out] at hbx
              have tE : Tch (fun i => i = N) wV W' := by rw [hW']; exact (Tch.setCell (fun i => i = N) wV ⟨N, 0, none⟩ _ rfl).setCellR ⟨N, 1, none⟩ _ rfl
              have hb : W'.heap[N]? = some (.cells #[.pointer (none), .pointer (none)] 28 (0, 0)) := by
                rw [hW', blk_set (blk_set hbx _) _]; rfl
              have ee : Ev (fun j => j = 4) wV o' W' (ext wV o' 4) := Ev.own1 tE (fun i _ hi => by rw [show i = N from hi, HN.out]; exact hh.l0)
              refine ⟨fun tmps h4 h5 => res_pairB Hrs.out h4 h5 (by rw [blk_cell hb]; rfl) (by rw [blk_cell hb]; rfl), _, _, _, rfl, hh.t.trans tE (fun i hi h => by have := HN.out; omega), hh.ev.trans (ee.mono (fun j hj => Or.inl hj)), ?_, ?_⟩
              · have hx := hh.x
                rw [HXd.out] at hx
                exact hx.ev hk ee
              · exact fun _ => ⟨rfl, rfl⟩
            go_wp2_with fail
            refine bodyPost_ret ((HFin.out _ rfl).1 _ ?_ ?_) rfl (HFin.out _ rfl).2 <;> rfl
end Go.Proofs.Ytolamjipigfocaa
