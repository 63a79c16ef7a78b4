import Derived.Test.YtolamjipigfocaaCRef7
import Derived.Test.YtolamjipigfocaaCWid
import Derived.Test.YtolamjipigfocaaOrdv
import Derived.Deep.RegionHeld3
import Derived.BigQuiet
/- The document's catalog: Create that goes through. -/
namespace Go.Proofs.Ytolamjipigfocaa
open Go.RowKit Go

set_option maxHeartbeats 4000000 in
set_option maxRecDepth 100000 in
theorem rcreate_ok (b : Nat) (L : List Tbl) (gv : Int) (P : List (Tbl × Value)) (tv : Value) (nm : ByteArray) (cols : List Col) (ao : Option Addr) (c : Nat) (key : Int) (w : World) (h : RO w 0 b L (gv + 1) P tv) (hl : P.length ≤ 16)
    (ht : SL w ao (ccl cols)) (h0 : 0 ≤ gv) (h1 : gv ≤ 2147483647) (hno : ao = none → cols = [] ∧ c = 0) (hE : creE L gv nm cols key = 0) :
    Calls Try.prog 19 #[.pointer (some ⟨b, 0, none⟩), .string nm, .slice ao cols.length c, .int .i64 key] w fun x w' => RChg b 0 (creT gv nm cols key) (L ++ [creT gv nm cols key]) (gv + 1 + 1) P tv w x w' := by
  obtain ⟨to, tc, htv⟩ := row_slice h.to.own
  subst htv
  have hT := h.tl
  have hb : w.cell? ⟨b, 0, none⟩ = some (.slice to P.length tc) := by rw [blk_cell h.blk]; rfl
  have hb1 : w.cell? ⟨b, 1, none⟩ = some (.int .i64 (gv + 1)) := by rw [blk_cell h.blk]; rfl
  obtain ⟨N, hN⟩ : ∃ N, N = w.heap.size := ⟨_, rfl⟩
  obtain ⟨w0, hw0⟩ : ∃ w0, w0 = w.alloc (.cells #[.int .i64 0, .int .i64 0, .string ⟨#[]⟩, .slice none 0 0, .int .i64 0] 36) := ⟨_, rfl⟩
  have tw : Tch (fun _ => False) w w0 := by rw [hw0]; exact Tch.alloc _ _ _
  have hY : w0.heap[N]? = some (.cells #[.int .i64 0, .int .i64 0, .string ⟨#[]⟩, .slice none 0 0, .int .i64 0] 36 (0, 0)) := by rw [hw0, hN]; exact alloc_new _ _
  have c0 : w0.cell? ⟨b, 0, none⟩ = some (.slice to P.length tc) := by rw [tw.cell (p := ⟨b, 0, none⟩) (cell_lt hb) (fun h => h)]; exact hb
  have c1 : w0.cell? ⟨b, 1, none⟩ = some (.int .i64 (gv + 1)) := by rw [tw.cell (p := ⟨b, 1, none⟩) (cell_lt hb1) (fun h => h)]; exact hb1
  have q1 := named_any nm w0
  have q2 := rplace_any b to tc P _ nm w0 c0 (hT.tch tw (fun _ _ h => h.elim)) (by omega)
  have q3 := rcolumns_any cols ao c w0 (ht.no tw)
  have q4 := fun W (tW : Tch (fun _ => False) w0 W) => rkey_any cols ao c key W ((ht.no tw).no tW)
  obtain ⟨n1, e1⟩ : ∃ n1, n1 = nmOk nm := ⟨_, rfl⟩
  obtain ⟨n2, e2⟩ : ∃ n2, n2 = posP (fun t => decide (t.nm = nm)) P := ⟨_, rfl⟩
  obtain ⟨n3, e3⟩ : ∃ n3, n3 = colsE cols := ⟨_, rfl⟩
  obtain ⟨n4, e4⟩ : ∃ n4 : Int, n4 = keyE cols key := ⟨_, rfl⟩
  obtain ⟨n, hn⟩ : ∃ n, n = P.length := ⟨_, rfl⟩
  have hpa := posP_any (fun t => decide (t.nm = nm)) P
  rw [h.eq, ← e2] at hpa
  have hLn : L.length = n := by rw [hn, ← h.eq, List.length_map]
  obtain ⟨E, hEE⟩ : ∃ E, E = creE L gv nm cols key := ⟨_, rfl⟩
  have hR : E = if n1 = false then 50 else if 0 ≤ n2 then 51 else if n = 16 ∨ gv = 2147483647 then 53 else if n3 ≠ 0 then n3 else n4 := by
    rw [hEE, creE_eq L gv nm cols key h0 h1, ← hpa, hLn, e1, e3, e4]
    simp only [decide_eq_true_eq]
  rw [← e1] at q1
  rw [← e2] at q2
  rw [← e3] at q3
  obtain ⟨i0, hi0, hz0, hz1, hz2⟩ := info_parts info_tbl
  rw [← hEE] at hE
  have Q4 : Hid (∀ W, Tch (fun _ => False) w0 W → Calls Try.prog 43 #[.slice ao cols.length c, .int .i64 key] W fun x w' => x = .returned (.int .i64 n4) ∧ w' = W) := by rw [e4]; exact q4
  have HR : Hid _ := hR
  have HE : Hid (E = 0) := hE
  have Hw0 : Hid _ := hw0
  have HN : Hid (N = w.heap.size) := hN
  have HY : Hid _ := hY
  have Htw : Hid (Tch (fun _ => False) w w0) := tw
  have H : Hid (RO w 0 b L (gv + 1) P (.slice to P.length tc)) := h
  obtain ⟨g1, g2, g3, g4, g5, g6⟩ : n1 = true ∧ ¬ 0 ≤ n2 ∧ ¬ n = 16 ∧ ¬ gv = 2147483647 ∧ n3 = 0 ∧ n4 = 0 := by
    rw [hE] at hR
    cases n1 with
    | false => simp at hR
    | true =>
      rw [if_neg (by simp)] at hR
      by_cases h2 : 0 ≤ n2
      · rw [if_pos h2] at hR; simp at hR
      · rw [if_neg h2] at hR
        by_cases h3 : n = 16 ∨ gv = 2147483647
        · rw [if_pos h3] at hR; simp at hR
        · rw [if_neg h3] at hR
          by_cases h4 : n3 = 0
          · rw [if_neg (by simp [h4])] at hR
            exact ⟨rfl, h2, fun e => h3 (Or.inl e), fun e => h3 (Or.inr e), h4, hR.symm⟩
          · rw [if_pos h4] at hR; exact absurd hR.symm h4
  have hc8 : cols.length ≤ 8 := cols_le (by rw [← e3]; exact g5)
  subst g1 g5 g6
  have Hsl : Hid (∀ W, Tch (fun _ => False) w W → SL W ao (ccl cols)) := fun W tW => ht.no tW
  rw [← hn] at c0 hl
  have Hn : Hid (n = P.length) := hn
  have hnI : (n : Int) ≤ 16 := by omega
  have hrs : Try.f19.results = #[.cell 8 36, .tmp 9] := by kernel_rfl
  have hnl : ¬ (16 : Int) ≤ n := by omega
  have hg2 : ¬ (2147483647 : Int) < gv + 1 := by omega
  have hn0 : ¬ 0 ≤ n2 := g2
  have Hno : Hid (ao = none → cols = [] ∧ c = 0) := hno
  clear hN h hT hb hb1 hw0 tw hY e1 e2 e3 e4 hn hpa hLn hEE hR hE q4 ht hno g3 g4
  go_enter Try.func19, Try.ntmps19
  go_wp2_with fail
  rw [← HN.out]
  have hw0 := Hw0.out
  rw [← hw0]
  clear hw0
  refine q1.mono ?_
  rintro y w0' ⟨rfl, hw0'⟩
  subst hw0'
  clear q1
  go_wp2_with fail
  refine q2.mono ?_
  rintro y w0'' ⟨rfl, hw0''⟩
  subst hw0''
  clear q2
  go_wp2_with fail
  refine q3.mono ?_
  rintro y w1 ⟨rfl, t1⟩
  clear q3
  have q4 := Q4.out w1 t1
  go_wp2_with fail
  refine q4.mono ?_
  rintro y w2 ⟨rfl, hw2⟩
  subst hw2
  clear q4
  have t2 : Tch (fun _ => False) w w2 := Htw.out.trans' t1
  have d1 : w2.cell? ⟨b, 1, none⟩ = some (.int .i64 (gv + 1)) := by rw [t2.cell (p := ⟨b, 1, none⟩) (blk_lt H.out.blk) (fun h => h), blk_cell H.out.blk]; rfl
  have q5 : Calls Try.prog 28 #[tA (gv + 1) 1 nm (.slice ao cols.length c) key] w2 fun x w' => (∃ v, x = .returned (tA (gv + 1) 1 nm v key) ∧ w'.ownsRow w2.heap.size 43 3 v cols.length (ccl cols)) ∧ Tch (fun _ => False) w2 w' := rcopied_any (creT gv nm cols key) ao c w2 (Hsl.out _ t2) Hno.out (by show cols.length * 32 ≤ _; omega)
  clear c0 c1
  go_wp2_with fail
  refine q5.mono ?_
  rintro y w3 ⟨⟨v, rfl, hv⟩, t3⟩
  clear q5 d1
  obtain ⟨vo, vc, hvv⟩ := row_slice hv
  subst hvv
  have t3' : Tch (fun _ => False) w w3 := t2.trans' t3
  obtain ⟨M, hM⟩ : ∃ M, M = w3.heap.size := ⟨_, rfl⟩
  obtain ⟨wA, hwA⟩ : ∃ wA, wA = w3.alloc (.cells #[.int .i64 (gv + 1), .int .i64 1, .string nm, .slice vo cols.length vc, .int .i64 key] 36) := ⟨_, rfl⟩
  have tA' : Tch (fun _ => False) w wA := by rw [hwA]; exact t3'.allocR _
  have hMb : wA.heap[M]? = some (.cells #[.int .i64 (gv + 1), .int .i64 1, .string nm, .slice vo cols.length vc, .int .i64 key] 36 (0, 0)) := by rw [hwA, hM]; exact alloc_new _ _
  have HTA : Hid (TO wA 0 (.slice to P.length tc) P) := H.out.to.tch tA' (fun _ _ _ h => h)
  have HVA : Hid (wA.ownsRow w2.heap.size 43 3 (.slice vo cols.length vc) cols.length (ccl cols)) := by rw [hwA]; exact own_tch hv (Tch.alloc (fun _ => False) _ _) (fun _ _ h => h)
  have HlM : Hid (w.heap.size ≤ w2.heap.size ∧ w2.heap.size ≤ M ∧ wA.heap.size = M + 1) := by
    refine ⟨t2.size, by rw [hM]; exact t3.size, by rw [hwA, World.size_alloc, hM]⟩
  have hMo : ∀ g, (Value.slice to P.length tc).ownBlock = some g → g < w.heap.size := fun g e => (H.out.to.own.lt g e).2
  have HS : Hid (∀ W, Tch (fun i => (Value.slice to P.length tc).ownBlock = some i) wA W → Tch (fun i => (Value.slice to P.length tc).ownBlock = some i) wA W ∧ W.cell? ⟨b, 0, none⟩ = some (.slice to n tc) ∧ (W.cell? ⟨M, 0, none⟩ = some (.int .i64 (gv + 1)) ∧ W.cell? ⟨M, 1, none⟩ = some (.int .i64 1) ∧ W.cell? ⟨M, 2, none⟩ = some (.string nm) ∧ W.cell? ⟨M, 3, none⟩ = some (.slice vo cols.length vc) ∧ W.cell? ⟨M, 4, none⟩ = some (.int .i64 key)) ∧ W.frozen? ⟨b, 0, none⟩ = false) := fun W tW => by
    have h1 : W.heap[M]? = some (.cells #[.int .i64 (gv + 1), .int .i64 1, .string nm, .slice vo cols.length vc, .int .i64 key] 36 (0, 0)) := by rw [tW.block M (blk_lt hMb) (fun e => by have := hMo M e; have := HlM.out; omega)]; exact hMb
    have hB : W.heap[b]? = some (.cells #[.slice to P.length tc, .int .i64 (gv + 1)] 57 (0, 0)) := by
      rw [tW.block b (Nat.lt_of_lt_of_le (blk_lt H.out.blk) tA'.size) H.out.nb.1, tA'.block b (blk_lt H.out.blk) (fun h => h)]; exact H.out.blk
    exact ⟨tW, by rw [blk_cell hB, Hn.out]; rfl, ⟨by rw [blk_cell h1]; rfl, by rw [blk_cell h1]; rfl, by rw [blk_cell h1]; rfl, by rw [blk_cell h1]; rfl, by rw [blk_cell h1]; rfl⟩, blk_frozen hB 0⟩
  have HN2 : Hid (N < w2.heap.size) := Nat.lt_of_lt_of_le (blk_lt HY.out) t1.size
  have HNA : Hid (wA.heap[N]? = some (.cells #[.int .i64 0, .int .i64 0, .string ⟨#[]⟩, .slice none 0 0, .int .i64 0] 36 (0, 0))) := by
    show _ = _
    have h1 : Tch (fun _ => False) w0'' wA := by rw [hwA]; exact (t1.trans' t3).allocR _
    rw [h1.block N (blk_lt HY.out) (fun h => h)]; exact HY.out
  have HwA : Hid _ := hwA
  have HM : Hid (M = w3.heap.size) := hM
  have HtA : Hid (Tch (fun _ => False) w wA) := tA'
  obtain ⟨_, s0, ⟨x0, x1, x2, x3, x4⟩, s1⟩ := HS.out wA (Tch.refl _ _)
  clear hv t3 t3' hM hwA tA' hMb hMo t2 t1
  go_wp2_with fail
  rw [← HM.out]
  have hwA := HwA.out
  rw [← hwA]
  clear hwA
  obtain ⟨C, hC⟩ : ∃ C : List Value → World → Prop, C = fun s W => match s with
    | [] => Tch (fun _ => False) wA W
    | [y] => Tch (fun _ => False) wA W ∧ ∃ g, y = .slice (some ⟨g, 0, none⟩) 1 1 ∧ At W g 0 (tcs (creT gv nm cols key, .slice vo cols.length vc))
    | [_, z] => Tch (fun i => (Value.slice to P.length tc).ownBlock = some i) wA W ∧ ∃ o5 c5, z = .slice o5 (n + 1) c5 ∧ TO W 0 z (P ++ [(creT gv nm cols key, .slice vo cols.length vc)]) ∧ (z.ownBlock = (Value.slice to P.length tc).ownBlock ∨ ∃ g, z.ownBlock = some g ∧ wA.heap.size ≤ g)
    | _ => False := ⟨_, rfl⟩
  have hK : ∀ s W, C s W → W.cell? ⟨b, 0, none⟩ = some (.slice to n tc) ∧ (W.cell? ⟨M, 0, none⟩ = some (.int .i64 (gv + 1)) ∧ W.cell? ⟨M, 1, none⟩ = some (.int .i64 1) ∧ W.cell? ⟨M, 2, none⟩ = some (.string nm) ∧ W.cell? ⟨M, 3, none⟩ = some (.slice vo cols.length vc) ∧ W.cell? ⟨M, 4, none⟩ = some (.int .i64 key)) ∧ W.frozen? ⟨b, 0, none⟩ = false := fun s W h => by
    refine (HS.out W ?_).2
    rw [hC] at h
    match s, h with
    | [], h => exact h.mono (fun _ _ h => h.elim)
    | [_], h => exact h.1.mono (fun _ _ h => h.elim)
    | [_, _], h => exact h.1
  have h6 : ∀ W, C [] W → C [.slice (some ⟨W.heap.size, 0, none⟩) 1 1] (W.alloc (.cells #[.int .i64 (gv + 1), .int .i64 1, .string nm, .slice vo cols.length vc, .int .i64 key] 36)) := fun W h => by
    rw [hC] at h ⊢
    exact ⟨Tch.allocR h _, W.heap.size, rfl, blk_at (alloc_new W (.cells (tcs (creT gv nm cols key, .slice vo cols.length vc)).toArray 36))⟩
  have h7 : ∀ g W, C [.slice (some ⟨g, 0, none⟩) 1 1] W → ∃ o5 c5 w', (Builtin.append_ #[37, 37] 37 #[.slice to n tc, .slice (some ⟨g, 0, none⟩) 1 1]).run Try.prog W = .ok (.slice o5 (n + 1) c5) w' ∧ C [.slice (some ⟨g, 0, none⟩) 1 1, .slice o5 (n + 1) c5] w' := fun g W h => by
    rw [hC] at h
    obtain ⟨tW, g', e, hg⟩ := h
    have e' : g = g' := by simpa using e
    subst e'
    have hTO := HTA.out.tch tW (fun _ _ _ h => h)
    obtain ⟨v', w', hr, hown, hgr, hat, _⟩ := run_append_keeps (P := Try.prog) W 0 37 37 36 i0 (.agg #[.int .i64 0, .int .i64 0, .string ⟨#[]⟩, .slice none 0 0, .int .i64 0]) 5 64 Try.underlying37 hi0 hz0 hz1 hz2 rfl (by decide) (.slice to P.length tc) P.length (tcl P) hTO.own ⟨g, 0, none⟩ 1 1 (tcs (creT gv nm cols key, .slice vo cols.length vc)) rfl (fun j u hu => by rw [add_plain]; exact hg j u hu) (by simp [tcs, Value.oneCell']) (by have := Hn.out; unfold maxLen; omega) (by have := Hn.out; omega) (Nat.zero_le _)
    obtain ⟨o5, c5, rfl⟩ := row_slice hown
    refine ⟨o5, c5, w', by rw [Hn.out]; exact hr, ?_⟩
    rw [hC]
    refine ⟨(tW.mono (fun _ _ h => h.elim)).trans' (grown_at (Tch.refl (fun _ => False) W) hgr), o5, c5, rfl, ?_, ?_⟩
    · rw [Hn.out]
      refine hTO.snoc (M := w2.heap.size) (own_tch HVA.out tW (fun _ _ h => h)) (Nat.zero_le _) (fun g hg => ?_) hgr (by rw [tcl_append]; exact hown) hat
      have := HlM.out.1
      rcases hg with e | ⟨i, hi, e⟩
      · have := (H.out.to.own.lt g e).2; omega
      · have := ((H.out.to.col i hi).lt g e).2; omega
    · rw [Hn.out]; exact hat.imp id (fun e => ⟨_, e, tW.size⟩)
  have h0' : C [] wA.drew := by rw [hC]; exact (Tch.refl _ _).drew
  have hsh1 : ∀ y W, C [y] W → ∃ g, y = .slice (some ⟨g, 0, none⟩) 1 1 := fun y W h => by
    rw [hC] at h
    obtain ⟨_, g, e, _⟩ := h
    exact ⟨g, e⟩
  have hsh2 : ∀ y z W, C [y, z] W → ∃ o5 c5, z = .slice o5 (n + 1) c5 := fun y z W h => by
    rw [hC] at h
    obtain ⟨_, o5, c5, e, _⟩ := h
    exact ⟨o5, c5, e⟩
  have Hfin : Hid (∀ y z W, C [y, z] W → Tch (fun i => (Value.slice to P.length tc).ownBlock = some i) wA W ∧ TO W 0 z (P ++ [(creT gv nm cols key, .slice vo cols.length vc)]) ∧ (z.ownBlock = (Value.slice to P.length tc).ownBlock ∨ ∃ g, z.ownBlock = some g ∧ wA.heap.size ≤ g)) := fun y z W h => by
    rw [hC] at h
    obtain ⟨h1, _, _, _, h2, h3⟩ := h
    exact ⟨h1, h2, h3⟩
  clear hC s0 x0 x1 x2 x3 x4 s1
  refine wp_region_ordv [6, 7] C 8 [0, 1, 2, 3, 4, 5, 6, 7] (by kernel_rfl) (by kernel_rfl) h0' ?_
  clear h0'
  refine ordv_read rfl (by go_simp) (by rfl) ?_
  apply Exists.intro
  refine ⟨fun s' W hW b K Q hK' => ?_, fun K hK' => ?_⟩
  · obtain ⟨q0, ⟨x0, x1, x2, x3, x4⟩, _⟩ := hK _ W hW
    go_simp
    exact hK' W hW
  go_simp
  refine hK' _ ?_
  clear hK' K
  refine ordv_read rfl (by go_simp) (by rfl) ?_
  apply Exists.intro
  refine ⟨fun s' W hW b K Q hK' => ?_, fun K hK' => ?_⟩
  · obtain ⟨q0, ⟨x0, x1, x2, x3, x4⟩, _⟩ := hK _ W hW
    go_simp
    exact hK' W hW
  go_simp
  refine hK' _ ?_
  clear hK' K
  refine ordv_read rfl (by go_simp) (by rfl) ?_
  apply Exists.intro
  refine ⟨fun s' W hW b K Q hK' => ?_, fun K hK' => ?_⟩
  · obtain ⟨q0, ⟨x0, x1, x2, x3, x4⟩, _⟩ := hK _ W hW
    go_simp
    exact hK' W hW
  go_simp
  refine hK' _ ?_
  clear hK' K
  refine ordv_read rfl (by go_simp) (by rfl) ?_
  apply Exists.intro
  refine ⟨fun s' W hW b K Q hK' => ?_, fun K hK' => ?_⟩
  · obtain ⟨q0, ⟨x0, x1, x2, x3, x4⟩, _⟩ := hK _ W hW
    go_simp
    exact hK' W hW
  go_simp
  refine hK' _ ?_
  clear hK' K
  refine ordv_read rfl (by go_simp) (by rfl) ?_
  apply Exists.intro
  refine ⟨fun s' W hW b K Q hK' => ?_, fun K hK' => ?_⟩
  · obtain ⟨q0, ⟨x0, x1, x2, x3, x4⟩, _⟩ := hK _ W hW
    go_simp
    exact hK' W hW
  go_simp
  refine hK' _ ?_
  clear hK' K
  refine ordv_read rfl (by go_simp) (by rfl) ?_
  apply Exists.intro
  refine ⟨fun s' W hW b K Q hK' => ?_, fun K hK' => ?_⟩
  · obtain ⟨q0, ⟨x0, x1, x2, x3, x4⟩, _⟩ := hK _ W hW
    go_simp
    exact hK' W hW
  go_simp
  refine hK' _ ?_
  clear hK' K
  refine ordv_turn rfl (by go_simp) (by rfl) (fun W hW b K Q hK' => ?_) (fun u hu K hK' => ?_)
  · go_simp
    exact hK' _ _ (h6 W hW)
  obtain ⟨g, rfl⟩ : ∃ g, u = .slice (some ⟨g, 0, none⟩) 1 1 := by
    obtain ⟨W', hW'⟩ := hu
    exact hsh1 u W' hW'
  clear hu h6
  go_simp
  refine hK' _ ?_
  clear hK' K
  refine ordv_turn rfl (by go_simp) (by rfl) (fun W hW => ?_) (fun u hu K hK' => ?_)
  · obtain ⟨to', tc', w', hr, h1⟩ := h7 g W hW
    exact yv_append (.tmp 61) (.tmp 63) 37 rfl (.slice to n tc) (.slice (some ⟨g, 0, none⟩) 1 1) rfl rfl hr h1
  obtain ⟨o5, c5, rfl⟩ : ∃ o5 c5, u = .slice o5 (n + 1) c5 := by
    obtain ⟨W', hW'⟩ := hu
    exact hsh2 _ u W' hW'
  clear hu h7 hsh1 hsh2
  go_simp
  refine hK' _ ?_
  clear hK' K
  refine ordv_nil ?_
  intro w5 hw5
  obtain ⟨u0, _, u1⟩ := hK _ w5 hw5
  obtain ⟨T5, hTO5, hat5⟩ := Hfin.out _ _ w5 hw5
  have hbl : b < w.heap.size := blk_lt H.out.blk
  have hMl := HlM.out
  have T5w : Tch (fun i => (Value.slice to P.length tc).ownBlock = some i) w w5 := (HtA.out.mono (fun _ _ h => h.elim)).trans' T5
  have hB5 : w5.heap[b]? = some (.cells #[.slice to P.length tc, .int .i64 (gv + 1)] 57 (0, 0)) := by rw [T5w.block b hbl H.out.nb.1]; exact H.out.blk
  have u2 : w5.cell? ⟨b, 1, none⟩ = some (.int .i64 (gv + 1)) := by rw [blk_cell hB5]; rfl
  have u3 := blk_frozen hB5 1
  obtain ⟨wS, hwS⟩ : ∃ wS, wS = ((w5.setCell ⟨b, 0, none⟩ (.slice o5 (n + 1) c5)).setCell ⟨b, 1, none⟩ (.int .i64 (gv + 1 + 1))) := ⟨_, rfl⟩
  have tS : Tch (fun i => i = b) w5 wS := by rw [hwS]; exact (Tch.setCell (fun i => i = b) w5 ⟨b, 0, none⟩ _ rfl).setCellR ⟨b, 1, none⟩ _ rfl
  have hBS : wS.heap[b]? = some (.cells #[.slice o5 (n + 1) c5, .int .i64 (gv + 1 + 1)] 57 (0, 0)) := by rw [hwS, blk_set (blk_set hB5 _) _]; rfl
  have hob : ∀ g, (Value.slice to P.length tc).ownBlock = some g → g < w.heap.size := fun g e => (H.out.to.own.lt g e).2
  have hMA : wA.heap[M]? = some (.cells #[.int .i64 (gv + 1), .int .i64 1, .string nm, .slice vo cols.length vc, .int .i64 key] 36 (0, 0)) := by rw [HwA.out, HM.out]; exact alloc_new _ _
  have hMS : wS.heap[M]? = some (.cells #[.int .i64 (gv + 1), .int .i64 1, .string nm, .slice vo cols.length vc, .int .i64 key] 36 (0, 0)) := by
    have h1 : w5.heap[M]? = some (.cells #[.int .i64 (gv + 1), .int .i64 1, .string nm, .slice vo cols.length vc, .int .i64 key] 36 (0, 0)) := by rw [T5.block M (blk_lt hMA) (fun e => by have := hob M e; omega)]; exact hMA
    rw [tS.block M (blk_lt h1) (by omega)]; exact h1
  have hNw : N = w.heap.size := HN.out
  have hTwS : Tch (fun i => i = b ∨ (Value.slice to P.length tc).ownBlock = some i) w wS := (T5w.mono (fun _ _ h => Or.inr h)).trans' (tS.mono (fun _ _ h => Or.inl h))
  have hvS : wS.ownsRow w2.heap.size 43 3 (.slice vo cols.length vc) cols.length (ccl cols) := own_tch (own_tch HVA.out T5 (fun g e e2 => by have := (HVA.out.lt g e).1; have := hob g e2; omega)) tS (fun g e e2 => by have := (HVA.out.lt g e).1; omega)
  obtain ⟨co', cc', hck⟩ := own_ck (p := (creT gv nm cols key, .slice vo cols.length vc)) hvS
  obtain ⟨rfl, rfl⟩ : vo = co' ∧ vc = cc' := by have h9 := hck.eq; injection h9 with h10 _ h11; exact ⟨h10, h11⟩
  have q6 : Calls Try.prog 28 #[tA (gv + 1) 1 nm (.slice vo cols.length vc) key] wS fun x w' => (∃ v, x = .returned (tA (gv + 1) 1 nm v key) ∧ w'.ownsRow wS.heap.size 43 3 v cols.length (ccl cols)) ∧ Tch (fun _ => False) wS w' := rcopied_any (creT gv nm cols key) vo vc wS hck.sl hck.no (by show cols.length * 32 ≤ _; omega)
  obtain ⟨y0, y1, y2, y3, y4⟩ : wS.cell? ⟨M, 0, none⟩ = some (.int .i64 (gv + 1)) ∧ wS.cell? ⟨M, 1, none⟩ = some (.int .i64 1) ∧ wS.cell? ⟨M, 2, none⟩ = some (.string nm) ∧ wS.cell? ⟨M, 3, none⟩ = some (.slice vo cols.length vc) ∧ wS.cell? ⟨M, 4, none⟩ = some (.int .i64 key) := ⟨by rw [blk_cell hMS]; rfl, by rw [blk_cell hMS]; rfl, by rw [blk_cell hMS]; rfl, by rw [blk_cell hMS]; rfl, by rw [blk_cell hMS]; rfl⟩
  have HwS : Hid _ := hwS
  rw [hwS] at y0 y1 y2 y3 y4
  have hNS : wS.heap[N]? = some (.cells #[.int .i64 0, .int .i64 0, .string ⟨#[]⟩, .slice none 0 0, .int .i64 0] 36 (0, 0)) := by
    have h1 : w5.heap[N]? = some (.cells #[.int .i64 0, .int .i64 0, .string ⟨#[]⟩, .slice none 0 0, .int .i64 0] 36 (0, 0)) := by rw [T5.block N (blk_lt HNA.out) (fun e => by have := hob N e; omega)]; exact HNA.out
    rw [tS.block N (blk_lt h1) (by omega)]; exact h1
  have HNS : Hid _ := hNS
  have HTS : Hid (TO wS 0 (.slice o5 (n + 1) c5) (P ++ [(creT gv nm cols key, .slice vo cols.length vc)]) ∧ ¬ BL (.slice o5 (n + 1) c5) (P ++ [(creT gv nm cols key, .slice vo cols.length vc)]) b ∧ ¬ BL (.slice o5 (n + 1) c5) (P ++ [(creT gv nm cols key, .slice vo cols.length vc)]) N ∧ ∀ g, BL (.slice o5 (n + 1) c5) (P ++ [(creT gv nm cols key, .slice vo cols.length vc)]) g → BL (.slice to P.length tc) P g ∨ w.heap.size ≤ g) := by
    have hsplit : ∀ g, BL (.slice o5 (n + 1) c5) (P ++ [(creT gv nm cols key, .slice vo cols.length vc)]) g → BL (.slice to P.length tc) P g ∨ (wA.heap.size ≤ g ∨ w2.heap.size ≤ g ∧ (Value.slice vo cols.length vc).ownBlock = some g) := fun g hg => by
      rcases hg with e | ⟨i, hi, e⟩
      · rcases hat5 with e2 | ⟨g', e2, hg'⟩
        · exact Or.inl (Or.inl (by rw [← e2]; exact e))
        · rw [e2] at e; injection e with e; exact Or.inr (Or.inl (by omega))
      · rw [List.length_append, List.length_singleton] at hi
        rcases Nat.lt_or_ge i P.length with hl' | hl'
        · rw [List.getElem_append_left hl'] at e; exact Or.inl (Or.inr ⟨i, hl', e⟩)
        · obtain rfl : i = P.length := by omega
          simp only [List.getElem_append_right (Nat.le_refl _), Nat.sub_self, List.getElem_cons_zero] at e
          exact Or.inr (Or.inr ⟨(hvS.lt g e).1, e⟩)
    have hold : ∀ g, BL (.slice to P.length tc) P g → g < w.heap.size ∧ g ≠ b := fun g hg => by
      rcases hg with e | ⟨i, hi, e⟩
      · exact ⟨hob g e, fun e2 => H.out.nb.1 (by rw [← e2]; exact e)⟩
      · exact ⟨((H.out.to.col i hi).lt g e).2, fun e2 => H.out.nb.2 i hi (by rw [← e2]; exact e)⟩
    have hnb : ¬ BL (.slice o5 (n + 1) c5) (P ++ [(creT gv nm cols key, .slice vo cols.length vc)]) b := fun hg => by
      rcases hsplit b hg with h | h | h
      · exact (hold b h).2 rfl
      · omega
      · omega
    refine ⟨hTO5.tch2 tS (fun g e e2 => hnb (Or.inl (by rw [← e2]; exact e))) (fun i hi g e e2 => hnb (Or.inr ⟨i, hi, by rw [← e2]; exact e⟩)), hnb, fun hg => ?_, fun g hg => ?_⟩
    · rcases hsplit N hg with h | h | h
      · have := (hold N h).1; omega
      · omega
      · have := HN2.out; omega
    · rcases hsplit g hg with h | h | h
      · exact Or.inl h
      · right; omega
      · right; omega
  have HBS : Hid _ := hBS
  have HTW : Hid (Tch (fun i => i = b ∨ (Value.slice to P.length tc).ownBlock = some i) w wS) := hTwS
  have hbN : b < N := by omega
  have HsS : Hid (N < wS.heap.size) := blk_lt hNS
  clear hK hw5 T5 hTO5 hat5 hMl T5w hB5 hwS tS hBS hob hMA hMS hTwS hvS hck hNw hNS
  go_wp2_with fail
  have hwS := HwS.out
  rw [← hwS]
  clear hwS y0 y1 y2 y3 y4 u0 u1 u2 u3
  refine q6.mono ?_
  rintro y w6 ⟨⟨v6, rfl, hv6⟩, t6⟩
  clear q6
  obtain ⟨vo6, vc6, hvv6⟩ := row_slice hv6
  subst hvv6
  have hN6 : w6.heap[N]? = some (.cells #[.int .i64 0, .int .i64 0, .string ⟨#[]⟩, .slice none 0 0, .int .i64 0] 36 (0, 0)) := by rw [t6.block N (blk_lt HNS.out) (fun h => h)]; exact HNS.out
  obtain ⟨z0, z1, z2, z3, z4⟩ : w6.cell? ⟨N, 0, none⟩ = some (.int .i64 0) ∧ w6.cell? ⟨N, 1, none⟩ = some (.int .i64 0) ∧ w6.cell? ⟨N, 2, none⟩ = some (.string ⟨#[]⟩) ∧ w6.cell? ⟨N, 3, none⟩ = some (.slice none 0 0) ∧ w6.cell? ⟨N, 4, none⟩ = some (.int .i64 0) := ⟨by rw [blk_cell hN6]; rfl, by rw [blk_cell hN6]; rfl, by rw [blk_cell hN6]; rfl, by rw [blk_cell hN6]; rfl, by rw [blk_cell hN6]; rfl⟩
  have f0 := blk_frozen hN6 0; have f1 := blk_frozen hN6 1; have f2 := blk_frozen hN6 2; have f3 := blk_frozen hN6 3; have f4 := blk_frozen hN6 4
  have HFin : Hid (∀ W', W' = ((((w6.setCell ⟨N, 0, none⟩ (.int .i64 (gv + 1))).setCell ⟨N, 1, none⟩ (.int .i64 1)).setCell ⟨N, 2, none⟩ (.string nm)).setCell ⟨N, 3, none⟩ (.slice vo6 cols.length vc6)).setCell ⟨N, 4, none⟩ (.int .i64 key) → (∀ tmps : Array Value, tmps[8]?.getD undef = .pointer (some ⟨N, 0, none⟩) → tmps[9]?.getD undef = .int .i64 0 → (results Try.f19 tmps).run Try.prog W' = .ok (.tuple #[tA (gv + 1) 1 nm (.slice vo6 cols.length vc6) key, .int .i64 0]) W') ∧ RChg b 0 (creT gv nm cols key) (L ++ [creT gv nm cols key]) (gv + 1 + 1) P (.slice to P.length tc) w (.returned (.tuple #[tA (gv + 1) 1 nm (.slice vo6 cols.length vc6) key, .int .i64 0])) W') := fun W' hW' => by
    have tE : Tch (fun i => i = N) w6 W' := by rw [hW']; exact ((((Tch.setCell (fun i => i = N) w6 ⟨N, 0, none⟩ _ rfl).setCellR ⟨N, 1, none⟩ _ rfl).setCellR ⟨N, 2, none⟩ _ rfl).setCellR ⟨N, 3, none⟩ _ rfl).setCellR ⟨N, 4, none⟩ _ rfl
    have hb' : W'.heap[N]? = some (.cells #[.int .i64 (gv + 1), .int .i64 1, .string nm, .slice vo6 cols.length vc6, .int .i64 key] 36 (0, 0)) := by
      rw [hW', blk_set (blk_set (blk_set (blk_set (blk_set hN6 _) _) _) _) _]; rfl
    have tSE : Tch (fun i => i = N) wS W' := (t6.mono (fun _ _ h => h.elim)).trans' tE
    obtain ⟨hTOS, hnb, hnN, hBLs⟩ := HTS.out
    have hsS := HsS.out
    have hNw := HN.out
    have hwl := HTW.out.size
    have hTOE := hTOS.tch2 tSE (fun g e e2 => hnN (Or.inl (by rw [← e2]; exact e))) (fun i hi g e e2 => hnN (Or.inr ⟨i, hi, by rw [← e2]; exact e⟩))
    have hBE : W'.heap[b]? = some (.cells #[.slice o5 (n + 1) c5, .int .i64 (gv + 1 + 1)] 57 (0, 0)) := by rw [tSE.block b (blk_lt HBS.out) (by omega)]; exact HBS.out
    have hBLl : ∀ g, BL (.slice o5 (n + 1) c5) (P ++ [(creT gv nm cols key, .slice vo cols.length vc)]) g → g < wS.heap.size := fun g hg => by
      rcases hg with e | ⟨i, hi, e⟩
      · exact (hTOS.own.lt g e).2
      · exact ((hTOS.col i hi).lt g e).2
    refine ⟨fun tmps h4 h5 => res_pair hrs h4 h5 (by rw [blk_cell hb']; rfl) (by rw [blk_cell hb']; rfl) (by rw [blk_cell hb']; rfl) (by rw [blk_cell hb']; rfl) (by rw [blk_cell hb']; rfl), fun _ => ⟨_, P ++ [(creT gv nm cols key, .slice vo cols.length vc)], .slice o5 (n + 1) c5, rfl, own_low (own_tch hv6 tE (fun g e e2 => by have := (hv6.lt g e).1; omega)) (Nat.zero_le _), ⟨hBE, Nat.zero_le _, by rw [List.map_append, H.out.eq]; rfl, hTOE, fun e => hnb (Or.inl e), fun i hi e => hnb (Or.inr ⟨i, hi, e⟩)⟩, hBLs, fun g e => ⟨Or.inr (by have := (hv6.lt g e).1; omega), fun e2 => by have := (hv6.lt g e).1; omega, fun hg => by have := (hv6.lt g e).1; have := hBLl g hg; omega⟩, ?_⟩, fun e => absurd rfl e⟩
    exact (HTW.out.mono (fun i _ h => h.imp id Or.inl)).trans tSE (fun i hi h => by omega)
  clear hN6 hv6 t6
  go_wp2_with fail
  refine bodyPost_ret ((HFin.out _ rfl).1 _ ?_ ?_) rfl (HFin.out _ rfl).2 <;> rfl
end Go.Proofs.Ytolamjipigfocaa
/- What is wrong with a widening, in the document's order. -/
namespace Go.Proofs.Ytolamjipigfocaa
open Go.RowKit Go

theorem colsGo_app2 : ∀ (l a m : List Col), colsGo a (l ++ m) = if colsGo a l ≠ 0 then colsGo a l else colsGo (a ++ l) m
  | [], a, m => by simp [colsGo]
  | c :: l, a, m => by
    rw [List.cons_append, colsGo, colsGo]
    by_cases h : colE a c ≠ 0
    · rw [if_pos h, if_pos h, if_pos h]
    · rw [if_neg h, if_neg h, colsGo_app2 l (a ++ [c]) m, List.append_assoc]; rfl
theorem colsE_snoc {l : List Col} (x : Col) (h : colsE l = 0) : colsE (l ++ [x]) = if 8 ≤ l.length then 55 else colE l x := by
  have h1 : ¬ (l.length < 1 ∨ 8 < l.length) := fun hh => by
    unfold colsE at h
    rw [if_pos hh] at h
    simp at h
  have h2 : colsGo [] l = 0 := by
    unfold colsE at h
    rw [if_neg h1] at h
    exact h
  unfold colsE
  rw [List.length_append, List.length_singleton]
  by_cases h3 : 8 ≤ l.length
  · rw [if_pos (by omega), if_pos h3]
  · rw [if_neg (by omega), if_neg h3, colsGo_app2, if_neg (by simp [h2]), List.nil_append, colsGo]
    by_cases h4 : colE l x ≠ 0
    · rw [if_pos h4]
    · rw [if_neg h4]
      simp only [colsGo]
      simp only [ne_eq, Decidable.not_not] at h4
      exact h4.symm
end Go.Proofs.Ytolamjipigfocaa
/- The document's catalog: Widen of a table that is not there. -/
namespace Go.Proofs.Ytolamjipigfocaa
open Go.RowKit Go

set_option maxHeartbeats 2000000 in
set_option maxRecDepth 100000 in
theorem rwiden_none (b : Nat) (L : List Tbl) (nx : Int) (P : List (Tbl × Value)) (tv : Value) (nm : ByteArray) (x : Col) (t0 : Tbl) (L' : List Tbl) (n' : Int) (w : World) (h : RO w 0 b L nx P tv) (hl : P.length ≤ 17) (hpos : posP (fun t => decide (t.nm = nm)) P = -1) :
    Calls Try.prog 24 #[.pointer (some ⟨b, 0, none⟩), .string nm, .agg #[.string x.nm, .int .i64 x.k, .bool x.nl]] w fun x w' => RChg b 52 t0 L' n' P tv w x w' := by
  obtain ⟨to, tc, htv⟩ := row_slice h.to.own
  subst htv
  have hT := h.tl
  have hb : w.cell? ⟨b, 0, none⟩ = some (.slice to P.length tc) := by rw [blk_cell h.blk]; rfl
  obtain ⟨w0, hw0⟩ : ∃ w0, w0 = (w.alloc (.cells #[.string x.nm, .int .i64 x.k, .bool x.nl] 43)).alloc (.cells #[.int .i64 0, .int .i64 0, .string ⟨#[]⟩, .slice none 0 0, .int .i64 0] 36) := ⟨_, rfl⟩
  have t0' : Tch (fun _ => False) w w0 := by rw [hw0]; exact (Tch.alloc _ _ _).allocR _
  have q0 := rplace_any b to tc P _ nm w0 (by rw [t0'.cell (p := ⟨b, 0, none⟩) (cell_lt hb) (fun h => h)]; exact hb) (hT.tch t0' (fun _ _ h => h.elim)) hl
  rw [hpos, hw0] at q0
  clear hw0 t0' hb hT hl hpos h
  have hrs : Try.f24.results = #[.cell 6 36, .tmp 7] := by kernel_rfl
  go_enter Try.func24, Try.ntmps24
  go_wp2_with fail
  refine q0.mono ?_
  rintro y w0' ⟨rfl, hw0'⟩
  subst hw0'
  clear q0
  go_wp2_with fail
  refine bodyPost_ret (v := .tuple #[zA, .int .i64 52]) (by simp only [results, hrs]; go_simp) rfl ⟨fun e => absurd e (by decide), fun _ => ⟨rfl, (Tch.alloc _ _ _).allocR _⟩⟩
end Go.Proofs.Ytolamjipigfocaa
/- The document's catalog: Widen that is refused. -/
namespace Go.Proofs.Ytolamjipigfocaa
open Go.RowKit Go

set_option maxHeartbeats 4000000 in
set_option maxRecDepth 100000 in
theorem rwiden_no (b : Nat) (L : List Tbl) (nx : Int) (P : List (Tbl × Value)) (tv : Value) (nm : ByteArray) (x : Col) (t0 : Tbl) (L' : List Tbl) (n' : Int) (w : World) (h : RO w 0 b L nx P tv) (hl : P.length ≤ 16) (k : Nat) (hk : k < P.length) (hpos : posP (fun t => decide (t.nm = nm)) P = k) (hc0 : colsE P[k].1.cols = 0) (hE : widE P[k].1 x ≠ 0) :
    Calls Try.prog 24 #[.pointer (some ⟨b, 0, none⟩), .string nm, .agg #[.string x.nm, .int .i64 x.k, .bool x.nl]] w fun y w' => RChg b (widE P[k].1 x) t0 L' n' P tv w y w' := by
  obtain ⟨to, tc, htv⟩ := row_slice h.to.own
  subst htv
  have hT := h.tl
  have hb : w.cell? ⟨b, 0, none⟩ = some (.slice to P.length tc) := by rw [blk_cell h.blk]; rfl
  obtain ⟨N, hN⟩ : ∃ N, N = w.heap.size := ⟨_, rfl⟩
  obtain ⟨wx, hwx⟩ : ∃ wx, wx = w.alloc (.cells #[.string x.nm, .int .i64 x.k, .bool x.nl] 43) := ⟨_, rfl⟩
  obtain ⟨w0, hw0⟩ : ∃ w0, w0 = wx.alloc (.cells #[.int .i64 0, .int .i64 0, .string ⟨#[]⟩, .slice none 0 0, .int .i64 0] 36) := ⟨_, rfl⟩
  have tx : Tch (fun _ => False) w wx := by rw [hwx]; exact Tch.alloc _ _ _
  have t0' : Tch (fun _ => False) w w0 := by rw [hw0]; exact tx.allocR _
  have hsx : wx.heap.size = N + 1 := by rw [hwx, World.size_alloc, hN]
  have hX : w0.heap[N]? = some (.cells #[.string x.nm, .int .i64 x.k, .bool x.nl] 43 (0, 0)) := by
    have h1 : wx.heap[N]? = some (.cells #[.string x.nm, .int .i64 x.k, .bool x.nl] 43 (0, 0)) := by rw [hwx, hN]; exact alloc_new _ _
    rw [hw0, (Tch.alloc (fun _ => False) wx _).block N (blk_lt h1) (fun h => h)]; exact h1
  have hY : w0.heap[N + 1]? = some (.cells #[.int .i64 0, .int .i64 0, .string ⟨#[]⟩, .slice none 0 0, .int .i64 0] 36 (0, 0)) := by rw [hw0, ← hsx]; exact alloc_new _ _
  have q0 := rplace_any b to tc P _ nm w0 (by rw [t0'.cell (p := ⟨b, 0, none⟩) (cell_lt hb) (fun h => h)]; exact hb) (hT.tch t0' (fun _ _ h => h.elim)) (by omega)
  rw [hpos] at q0
  obtain ⟨g, o, rfl, c0, c1, c2, c3, c4⟩ := (hT.tch t0' (fun _ _ h => h.elim)).at k hk
  obtain ⟨co, cc, hck⟩ := (hT.tch t0' (fun _ _ h => h.elim)).col k hk
  have hb0 : w0.cell? ⟨b, 0, none⟩ = some (.slice (some ⟨g, o, none⟩) P.length tc) := by rw [t0'.cell (p := ⟨b, 0, none⟩) (cell_lt hb) (fun h => h)]; exact hb
  obtain ⟨p, hp⟩ : ∃ p, p = P[k] := ⟨_, rfl⟩
  rw [← hp] at c0 c1 c2 c3 c4 hck hE hc0 ⊢
  have hc8 := cols_le hc0
  have q := rcopied_any p.1 co cc w0 hck.sl hck.no (by omega)
  rw [hck.eq] at c3
  obtain ⟨E, hEE⟩ : ∃ E, E = widE p.1 x := ⟨_, rfl⟩
  have hR : E = if 8 ≤ p.1.cols.length then 55 else if nmOk x.nm = false then 50 else if p.1.cols.any (fun a => decide (a.nm = x.nm)) then 54 else if kdOk x.k = false then 1 else if x.nl = false ∨ p.1.ver = 2147483647 then 1 else 0 := by
    rw [hEE]; unfold widE
    rw [colsE_snoc x hc0]; unfold colE
    by_cases e1 : 8 ≤ p.1.cols.length
    · simp [e1]
    · by_cases e2 : nmOk x.nm = false
      · simp [e1, e2]
      · by_cases e3 : p.1.cols.any (fun a => decide (a.nm = x.nm)) = true
        · simp only [e1, e2, e3, if_false, if_true]; simp
        · by_cases e4 : kdOk x.k = false
          · simp only [e1, e2, e3, e4, if_false, if_true]; simp
          · simp only [e1, e2, e3, e4, if_false]; simp
  rw [← hEE] at hE ⊢
  obtain ⟨n, hn⟩ : ∃ n, n = P.length := ⟨_, rfl⟩
  rw [← hn] at hb0 hk hl
  have hkI : (k : Int) < n := by omega
  have HR : Hid _ := hR
  have HE : Hid (E ≠ 0) := hE
  have Hw0 : Hid _ := hw0
  have Hwx : Hid _ := hwx
  have HN : Hid (N = w.heap.size) := hN
  have Hsx : Hid (wx.heap.size = N + 1) := hsx
  have HX : Hid _ := hX
  have HY : Hid _ := hY
  have Ht0 : Hid (Tch (fun _ => False) w w0) := t0'
  have hrs : Try.f24.results = #[.cell 6 36, .tmp 7] := by kernel_rfl
  clear hN hwx hw0 tx t0' hsx hX hY hT hb h hpos hck hp hEE hR hE hn hc0
  go_enter Try.func24, Try.ntmps24
  go_wp2_with fail
  have hwx := Hwx.out
  rw [← hwx]
  clear hwx
  have hw0 := Hw0.out
  rw [← hw0]
  clear hw0
  rw [← HN.out]
  try rw [Hsx.out]
  refine q0.mono ?_
  rintro y w0' ⟨rfl, hw0'⟩
  subst hw0'
  clear q0
  go_wp2_with fail
  clear hb0 c0 c1 c2 c3 c4
  refine q.mono ?_
  rintro y w1 ⟨⟨v, rfl, hv⟩, t1⟩
  clear q
  obtain ⟨vo, vc, hvv⟩ := row_slice hv
  subst hvv
  obtain ⟨M, hM⟩ : ∃ M, M = w1.heap.size := ⟨_, rfl⟩
  obtain ⟨wB, hwB⟩ : ∃ wB, wB = w1.alloc (.cells #[.int .i64 p.1.id, .int .i64 p.1.ver, .string p.1.nm, .slice vo p.1.cols.length vc, .int .i64 p.1.key] 36) := ⟨_, rfl⟩
  have tB : Tch (fun _ => False) w0' wB := by rw [hwB]; exact t1.allocR _
  have hMB : wB.heap[M]? = some (.cells #[.int .i64 p.1.id, .int .i64 p.1.ver, .string p.1.nm, .slice vo p.1.cols.length vc, .int .i64 p.1.key] 36 (0, 0)) := by rw [hwB, hM]; exact alloc_new _ _
  have hvB : wB.ownsRow w0'.heap.size 43 3 (.slice vo p.1.cols.length vc) p.1.cols.length (ccl p.1.cols) := by rw [hwB]; exact own_tch hv (Tch.alloc (fun _ => False) _ _) (fun _ _ h => h)
  have HS : Hid (∀ W, Tch (fun _ => False) wB W → (W.cell? ⟨N, 0, none⟩ = some (.string x.nm) ∧ W.cell? ⟨N, 1, none⟩ = some (.int .i64 x.k) ∧ W.cell? ⟨N, 2, none⟩ = some (.bool x.nl)) ∧ W.cell? ⟨M, 1, none⟩ = some (.int .i64 p.1.ver) ∧ W.cell? ⟨M, 3, none⟩ = some (.slice vo p.1.cols.length vc)) := fun W tW => by
    have h1 : W.heap[N]? = some (.cells #[.string x.nm, .int .i64 x.k, .bool x.nl] 43 (0, 0)) := by rw [(tB.trans' tW).block N (blk_lt HX.out) (fun h => h)]; exact HX.out
    have h2 : W.heap[M]? = some (.cells #[.int .i64 p.1.id, .int .i64 p.1.ver, .string p.1.nm, .slice vo p.1.cols.length vc, .int .i64 p.1.key] 36 (0, 0)) := by rw [tW.block M (blk_lt hMB) (fun h => h)]; exact hMB
    exact ⟨⟨by rw [blk_cell h1]; rfl, by rw [blk_cell h1]; rfl, by rw [blk_cell h1]; rfl⟩, by rw [blk_cell h2]; rfl, by rw [blk_cell h2]; rfl⟩
  have HA : Hid (∀ W, Tch (fun _ => False) wB W → ∀ j (hj : j < p.1.cols.length), ∃ vg vx, vo = some ⟨vg, vx, none⟩ ∧ W.cell? ⟨vg, vx + j * 3, none⟩ = some (.string p.1.cols[j].nm)) := fun W tW j hj => by
    obtain ⟨g', o', e, h'⟩ := ((own_sl hvB).no tW).col hj
    exact ⟨g', o', e, (h'.col j hj).1⟩
  have HZ : Hid (∀ W, Tch (fun _ => False) wB W → ((W.cell? ⟨N + 1, 0, none⟩ = some (.int .i64 0) ∧ W.cell? ⟨N + 1, 1, none⟩ = some (.int .i64 0) ∧ W.cell? ⟨N + 1, 2, none⟩ = some (.string ⟨#[]⟩) ∧ W.cell? ⟨N + 1, 3, none⟩ = some (.slice none 0 0) ∧ W.cell? ⟨N + 1, 4, none⟩ = some (.int .i64 0)) ∧ (W.frozen? ⟨N + 1, 0, none⟩ = false ∧ W.frozen? ⟨N + 1, 1, none⟩ = false ∧ W.frozen? ⟨N + 1, 2, none⟩ = false ∧ W.frozen? ⟨N + 1, 3, none⟩ = false ∧ W.frozen? ⟨N + 1, 4, none⟩ = false)) ∧ ∀ W', W' = ((((W.setCell ⟨N + 1, 0, none⟩ (.int .i64 0)).setCell ⟨N + 1, 1, none⟩ (.int .i64 0)).setCell ⟨N + 1, 2, none⟩ (.string ⟨#[]⟩)).setCell ⟨N + 1, 3, none⟩ (.slice none 0 0)).setCell ⟨N + 1, 4, none⟩ (.int .i64 0) → (∀ tmps : Array Value, tmps[6]?.getD undef = .pointer (some ⟨N + 1, 0, none⟩) → tmps[7]?.getD undef = .int .i64 E → (results Try.f24 tmps).run Try.prog W' = .ok (.tuple #[zA, .int .i64 E]) W') ∧ RChg b E t0 L' n' P (.slice (some ⟨g, o, none⟩) P.length tc) w (.returned (.tuple #[zA, .int .i64 E])) W') := fun W tW => by
    have hW : W.heap[N + 1]? = some (.cells #[.int .i64 0, .int .i64 0, .string ⟨#[]⟩, .slice none 0 0, .int .i64 0] 36 (0, 0)) := by rw [(tB.trans' tW).block (N + 1) (blk_lt HY.out) (fun h => h)]; exact HY.out
    refine ⟨⟨⟨by rw [blk_cell hW]; rfl, by rw [blk_cell hW]; rfl, by rw [blk_cell hW]; rfl, by rw [blk_cell hW]; rfl, by rw [blk_cell hW]; rfl⟩, blk_frozen hW 0, blk_frozen hW 1, blk_frozen hW 2, blk_frozen hW 3, blk_frozen hW 4⟩, fun W' hW' => ?_⟩
    have tE : Tch (fun i => i = N + 1) W W' := by rw [hW']; exact ((((Tch.setCell (fun i => i = N + 1) W ⟨N + 1, 0, none⟩ _ rfl).setCellR ⟨N + 1, 1, none⟩ _ rfl).setCellR ⟨N + 1, 2, none⟩ _ rfl).setCellR ⟨N + 1, 3, none⟩ _ rfl).setCellR ⟨N + 1, 4, none⟩ _ rfl
    have hb' : W'.heap[N + 1]? = some (.cells #[.int .i64 0, .int .i64 0, .string ⟨#[]⟩, .slice none 0 0, .int .i64 0] 36 (0, 0)) := by
      rw [hW', blk_set (blk_set (blk_set (blk_set (blk_set hW _) _) _) _) _]; rfl
    exact ⟨fun tmps h4 h5 => res_pair hrs h4 h5 (by rw [blk_cell hb']; rfl) (by rw [blk_cell hb']; rfl) (by rw [blk_cell hb']; rfl) (by rw [blk_cell hb']; rfl) (by rw [blk_cell hb']; rfl), fun e => absurd e HE.out, fun _ => ⟨rfl, ((Ht0.out.trans' tB).trans' tW).trans tE (fun i hi e => by have := HN.out; omega)⟩⟩
  have HwB : Hid _ := hwB
  have HM : Hid (M = w1.heap.size) := hM
  have hnI : (p.1.cols.length : Int) ≤ 8 := by omega
  obtain ⟨⟨x0, x1, x2⟩, m1, m3⟩ := HS.out wB (Tch.refl _ _)
  have T0 : Tch (fun _ => False) wB wB := Tch.refl _ _
  rw [hwB] at m3
  clear hM hwB tB hMB hvB hv t1
  by_cases h8 : 8 ≤ p.1.cols.length
  · have HEE : Hid (E = 55) := by show _ = _; rw [HR.out, if_pos h8]
    have h8I : (8 : Int) ≤ p.1.cols.length := by omega
    have hM0 := HM.out
    rw [hM0] at m3
    have hw := HwB.out
    have HZ' : Hid _ := HZ.out (w1.alloc (.cells #[.int .i64 p.1.id, .int .i64 p.1.ver, .string p.1.nm, .slice vo p.1.cols.length vc, .int .i64 p.1.key] 36)) (by rw [← hw]; exact T0)
    clear hw hM0 HM HwB HS HA HZ
    obtain ⟨⟨⟨z0, z1, z2, z3, z4⟩, f0, f1, f2, f3, f4⟩, HF⟩ := HZ'.out
    have HFF : Hid _ := HF
    clear HF HZ'
    go_wp2_with fail
    refine bodyPost_ret ((HFF.out _ rfl).1 _ ?_ ?_) rfl (HFF.out _ rfl).2
    · rfl
    · first | rfl | (rw [HEE.out]; rfl)
  · have h8I : ¬ (8 : Int) ≤ p.1.cols.length := by omega
    have HE1 : Hid (E = if nmOk x.nm = false then 50 else if p.1.cols.any (fun a => decide (a.nm = x.nm)) then 54 else if kdOk x.k = false then 1 else if x.nl = false ∨ p.1.ver = 2147483647 then 1 else 0) := by show _ = _; rw [HR.out, if_neg h8]
    have q1 := named_any x.nm wB
    have hM0 := HM.out
    have hw := HwB.out
    have x0' := x0
    rw [hw] at x0'
    rw [hM0] at m3
    have x0s := x0
    have Hx0 : Hid _ := x0s
    clear hM0 hw x0 x1 x2 m1 x0s
    go_wp2_with fail
    have hw := HwB.out
    rw [← hw, ← HM.out]
    clear hw x0' m3
    refine q1.mono ?_
    rintro y wB' ⟨rfl, hwB'⟩
    obtain rfl := hwB'.symm
    clear hwB' q1
    obtain ⟨n1, hn1⟩ : ∃ n1, n1 = nmOk x.nm := ⟨_, rfl⟩
    rw [← hn1]
    cases n1 with
    | false =>
      have HEE : Hid (E = 50) := by show _ = _; rw [HE1.out, if_pos hn1.symm]
      clear hn1
      obtain ⟨⟨⟨z0, z1, z2, z3, z4⟩, f0, f1, f2, f3, f4⟩, HF⟩ := HZ.out wB T0
      have HFF : Hid _ := HF
      clear HF
      go_wp2_with fail
      refine bodyPost_ret ((HFF.out _ rfl).1 _ ?_ ?_) rfl (HFF.out _ rfl).2
      · rfl
      · first | rfl | (rw [HEE.out]; rfl)
    | true =>
      have HE2 : Hid (E = if p.1.cols.any (fun a => decide (a.nm = x.nm)) then 54 else if kdOk x.k = false then 1 else if x.nl = false ∨ p.1.ver = 2147483647 then 1 else 0) := by show _ = _; rw [HE1.out, if_neg (by rw [← hn1]; simp)]
      clear hn1
      go_wp2_with fail
      go_loopw [11] (fun i wr => ∃ m : Nat, i = .int .i64 m ∧ m ≤ p.1.cols.length ∧ Hid (Tch (fun _ => False) wB wr) ∧ Hid (∀ j (h : j < p.1.cols.length), j < m → p.1.cols[j].nm ≠ x.nm)) (fun i _ => p.1.cols.length - (intOf i).toNat)
      case atStart => exact ⟨0, rfl, by omega, T0, fun _ _ h => by omega⟩
      case round =>
        obtain ⟨m, rfl, hm, HTw, HJ⟩ := hrel
        obtain ⟨⟨x0, x1, x2⟩, m1, m3⟩ := HS.out wr HTw.out
        by_cases hlt : (m : Int) < p.1.cols.length
        · have hml : m < p.1.cols.length := by omega
          obtain ⟨vg, vx, rfl, d0⟩ := HA.out wr HTw.out m hml
          obtain ⟨y, hy⟩ : ∃ y, y = p.1.cols[m].nm := ⟨_, rfl⟩
          rw [← hy] at d0
          by_cases he : y = x.nm
          · have HEE : Hid (E = 54) := by
              show _ = _
              rw [HE2.out, if_pos]
              rw [List.any_eq_true]
              exact ⟨p.1.cols[m], List.getElem_mem _, by rw [← hy]; simpa using he⟩
            subst he
            clear hy
            go_wp2_with fail
            go_quiet (fail)
            obtain ⟨⟨⟨z0, z1, z2, z3, z4⟩, f0, f1, f2, f3, f4⟩, HF⟩ := HZ.out (wr.drewN nq) (HTw.out.drewN nq)
            have HFF : Hid _ := HF
            clear HF
            go_wp2_with fail
            refine bodyPost_ret ((HFF.out _ rfl).1 _ ?_ ?_) rfl (HFF.out _ rfl).2
            · rfl
            · first | rfl | (rw [HEE.out]; rfl)
          · have HJ2 : Hid (∀ j (h : j < p.1.cols.length), j < m + 1 → p.1.cols[j].nm ≠ x.nm) := fun j hj hjm => by
              rcases Nat.lt_or_ge j m with h1 | h1
              · exact HJ.out j hj h1
              · obtain rfl : j = m := by omega
                rw [← hy]; exact he
            have hne := str_ne he
            clear hy he
            go_wp2_with fail
            go_quiet (fail)
            go_wp2_with fail
            go_roundw
            case rel => exact ⟨m + 1, by go_num, by omega, HTw.out.drewN _, HJ2⟩
            case measure => simp [intOf]; omega
        · have HE3 : Hid (E = if kdOk x.k = false then 1 else if x.nl = false ∨ p.1.ver = 2147483647 then 1 else 0) := by
            show _ = _
            rw [HE2.out, if_neg]
            rw [List.any_eq_true]
            rintro ⟨a, ha, e⟩
            obtain ⟨j, hj, e2⟩ := List.getElem_of_mem ha
            exact HJ.out j hj (by omega) (by rw [e2]; simpa using e)
          have q2 := rkind_any x.k wr
          obtain ⟨n2, hn2⟩ : ∃ n2, n2 = kdOk x.k := ⟨_, rfl⟩
          rw [← hn2] at q2
          have HEE : Hid (E = 1) := by
            have h1 := HE3.out
            have h2 := HE.out
            show _ = _
            rw [h1] at h2 ⊢
            split
            · rfl
            · split
              · rfl
              · rename_i h3 h4; rw [if_neg h3, if_neg h4] at h2; exact absurd rfl h2
          have HD : Hid (n2 = true → x.nl = true → p.1.ver = 2147483647) := fun e1 e2 => by
            have h1 := HE3.out
            rw [← hn2, if_neg (by simp [e1])] at h1
            by_cases h3 : p.1.ver = 2147483647
            · exact h3
            · rw [if_neg (by simp [e2, h3])] at h1; exact absurd h1 HE.out
          clear hn2
          go_wp2_with fail
          refine q2.mono ?_
          rintro y wr' ⟨rfl, hwr'⟩
          obtain rfl := hwr'.symm
          clear hwr' q2
          cases n2 with
          | false =>
            obtain ⟨⟨⟨z0, z1, z2, z3, z4⟩, f0, f1, f2, f3, f4⟩, HF⟩ := HZ.out wr HTw.out
            have HFF : Hid _ := HF
            clear HF
            go_wp2_with fail
            refine bodyPost_ret ((HFF.out _ rfl).1 _ ?_ ?_) rfl (HFF.out _ rfl).2
            · rfl
            · first | rfl | (rw [HEE.out]; rfl)
          | true =>
            obtain ⟨nl, hnl⟩ : ∃ nl, nl = x.nl := ⟨_, rfl⟩
            rw [← hnl] at x2
            cases nl with
            | false =>
              clear hnl
              obtain ⟨⟨⟨z0, z1, z2, z3, z4⟩, f0, f1, f2, f3, f4⟩, HF⟩ := HZ.out wr HTw.out
              have HFF : Hid _ := HF
              clear HF
              go_wp2_with fail
              refine bodyPost_ret ((HFF.out _ rfl).1 _ ?_ ?_) rfl (HFF.out _ rfl).2
              · rfl
              · first | rfl | (rw [HEE.out]; rfl)
            | true =>
              have hver := HD.out rfl hnl.symm
              have hverI : (2147483647 : Int) ≤ p.1.ver := by omega
              clear hver hnl
              obtain ⟨⟨⟨z0, z1, z2, z3, z4⟩, f0, f1, f2, f3, f4⟩, HF⟩ := HZ.out wr HTw.out
              have HFF : Hid _ := HF
              clear HF
              go_wp2_with fail
              refine bodyPost_ret ((HFF.out _ rfl).1 _ ?_ ?_) rfl (HFF.out _ rfl).2
              · rfl
              · first | rfl | (rw [HEE.out]; rfl)
end Go.Proofs.Ytolamjipigfocaa
/- A table in the place of another, written cell by cell. -/
namespace Go.Proofs.Ytolamjipigfocaa
open Go.RowKit Go

theorem tcl_set5 (P : List (Tbl × Value)) (k : Nat) (hk : k < P.length) (q : Tbl × Value) : ((((((tcl P).set (k * 5) (.int .i64 q.1.id)).set (k * 5 + 1) (.int .i64 q.1.ver)).set (k * 5 + 2) (.string q.1.nm)).set (k * 5 + 3) q.2).set (k * 5 + 4) (.int .i64 q.1.key)) = tcl (P.set k q) := by
  have hl : ∀ p : Tbl × Value, k < (P.set k p).length := fun p => by rw [List.length_set]; exact hk
  have hg : ∀ p : Tbl × Value, (P.set k p)[k]'(hl p) = p := fun p => by simp
  have e0 := tcl_set P k 0 hk (.int .i64 q.1.id) (⟨q.1.id, P[k].1.ver, P[k].1.nm, P[k].1.cols, P[k].1.key⟩, P[k].2) (by omega) rfl
  have e1 := tcl_set (P.set k (⟨q.1.id, P[k].1.ver, P[k].1.nm, P[k].1.cols, P[k].1.key⟩, P[k].2)) k 1 (hl _) (.int .i64 q.1.ver) (⟨q.1.id, q.1.ver, P[k].1.nm, P[k].1.cols, P[k].1.key⟩, P[k].2) (by omega) (by rw [hg]; rfl)
  have e2 := tcl_set (P.set k (⟨q.1.id, q.1.ver, P[k].1.nm, P[k].1.cols, P[k].1.key⟩, P[k].2)) k 2 (hl _) (.string q.1.nm) (⟨q.1.id, q.1.ver, q.1.nm, P[k].1.cols, P[k].1.key⟩, P[k].2) (by omega) (by rw [hg]; rfl)
  have e3 := tcl_set (P.set k (⟨q.1.id, q.1.ver, q.1.nm, P[k].1.cols, P[k].1.key⟩, P[k].2)) k 3 (hl _) q.2 (⟨q.1.id, q.1.ver, q.1.nm, P[k].1.cols, P[k].1.key⟩, q.2) (by omega) (by rw [hg]; rfl)
  have e4 := tcl_set (P.set k (⟨q.1.id, q.1.ver, q.1.nm, P[k].1.cols, P[k].1.key⟩, q.2)) k 4 (hl _) (.int .i64 q.1.key) q (by omega) (by rw [hg]; rfl)
  simp only [List.set_set] at e1 e2 e3 e4
  rw [Nat.add_zero] at e0
  rw [e0, e1, e2, e3, e4]

theorem TO.set5 {W W' : World} {base M T c k : Nat} {P : List (Tbl × Value)} (h : TO W base (.slice (some ⟨T, 0, none⟩) P.length c) P) (hk : k < P.length) (q : Tbl × Value) (hq : W.ownsRow M 43 3 q.2 q.1.cols.length (ccl q.1.cols)) (hM : base ≤ M) (hlt : ∀ g, BL (.slice (some ⟨T, 0, none⟩) P.length c) P g → g < M)
    (hW : W' = ((((W.setCell ⟨T, k * 5, none⟩ (.int .i64 q.1.id)).setCell ⟨T, k * 5 + 1, none⟩ (.int .i64 q.1.ver)).setCell ⟨T, k * 5 + 2, none⟩ (.string q.1.nm)).setCell ⟨T, k * 5 + 3, none⟩ q.2).setCell ⟨T, k * 5 + 4, none⟩ (.int .i64 q.1.key)) :
    TO W' base (.slice (some ⟨T, 0, none⟩) (P.set k q).length c) (P.set k q) ∧ Tch (fun i => i = T) W W' := by
  have tE : Tch (fun i => i = T) W W' := by rw [hW]; exact ((((Tch.setCell (fun i => i = T) W ⟨T, k * 5, none⟩ _ rfl).setCellR ⟨T, k * 5 + 1, none⟩ _ rfl).setCellR ⟨T, k * 5 + 2, none⟩ _ rfl).setCellR ⟨T, k * 5 + 3, none⟩ _ rfl).setCellR ⟨T, k * 5 + 4, none⟩ _ rfl
  have hTM : T < M := hlt T (Or.inl rfl)
  have hqT : ∀ g, q.2.ownBlock = some g → g ≠ T := fun g e e2 => by have := (hq.lt g e).1; omega
  refine ⟨h.turn hk q ?_ (own_low (own_tch hq tE hqT) hM) (fun i hi _ => own_tch (h.col i hi) tE (fun g e e2 => h.sep i hi g e (by rw [e2]; rfl))) (fun g e => ⟨hqT g e, fun i hi _ e2 => ?_⟩), tE⟩
  · rcases h.own.2 with ⟨h1, _⟩ | ⟨g, cap, cur, hv, hb0, hg, hnc, hcm, hcs, htk⟩
    · injection h1 with h1; cases h1
    · injection hv with e1 e2 e3
      injection e1 with e1
      injection e1 with e1
      subst e1 e3
      refine ⟨by rw [tcl_len, List.length_set], Or.inr ⟨T, c, _, rfl, hb0, by rw [hW]; exact blk_set (blk_set (blk_set (blk_set (blk_set hg _) _) _) _) _, hnc, hcm, by simp [hcs], ?_⟩⟩
      simp only [Array.toList_setIfInBounds, List.take_set]
      rw [htk]
      exact tcl_set5 P k hk q
  · have := (hq.lt g e).1
    have := hlt g (Or.inr ⟨i, hi, e2⟩)
    omega
end Go.Proofs.Ytolamjipigfocaa
