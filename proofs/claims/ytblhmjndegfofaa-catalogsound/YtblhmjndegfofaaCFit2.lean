import Derived.Test.YtblhmjndegfofaaCRight3
import Derived.Test.YtblhmjndegfofaaCFit
/- Fit of the document. -/
namespace Go.Proofs.Ytblhmjndegfofaa
open Go.RowKit Go

theorem vcl_take_succ (l : List Val) (k : Nat) (hk : k < l.length) : vcl (l.take (k + 1)) = vcl (l.take k) ++ [.int .i64 l[k].k, .int .i64 l[k].n, .string l[k].s] := by
  rw [← List.take_append_getElem hk]
  exact f3_append ..

theorem row_ge {w : World} {base : Nat} {t : TypeId} {sz n : Nat} {v : Value} {xs : List Value} (h : w.ownsRow base t sz v n xs) {k : Nat} (hk : v.ownBlock = some k) : base ≤ k := (h.lt k hk).1
theorem own_low {W : World} {N N' sz n : Nat} {t : TypeId} {v : Value} {xs : List Value} (h : W.ownsRow N t sz v n xs) (hN : N' ≤ N) : W.ownsRow N' t sz v n xs := by
  obtain ⟨h1, h2⟩ := h
  refine ⟨h1, ?_⟩
  rcases h2 with h2 | ⟨g, c, cur, hv, hb, hr⟩
  · exact Or.inl h2
  · exact Or.inr ⟨g, c, cur, hv, Nat.le_trans hN hb, hr⟩
set_option maxHeartbeats 2000000 in
set_option maxRecDepth 100000 in
theorem rfit_any (t : Tbl) (ao : Option Addr) (c : Nat) (vs : List Val) (ro : Option Addr) (rc : Nat) (w : World) (h : SL w ao (ccl t.cols)) (hr : SL w ro (vcl vs)) :
    Calls Try.prog 45 #[tA t.id t.ver t.nm (.slice ao t.cols.length c) t.key, .slice ro vs.length rc] w fun x w' => FitOut t vs w x w' ∧ Tch (fun _ => False) w w' := by
  obtain ⟨i0, hi0, hz0, hz1, hz2⟩ := info_parts info_val
  obtain ⟨w0, hw0⟩ : ∃ w0, w0 = w.alloc (.cells #[.int .i64 t.id, .int .i64 t.ver, .string t.nm, .slice ao t.cols.length c, .int .i64 t.key] 29) := ⟨_, rfl⟩
  have T0 : Tch (fun _ => False) w w0 := by rw [hw0]; exact Tch.alloc _ _ _
  obtain ⟨N, hN⟩ : ∃ N, N = w.heap.size := ⟨_, rfl⟩
  have HB : Hid (∀ W, Tch (fun i => N < i) w0 W → W.cell? ⟨N, 0, none⟩ = some (.int .i64 t.id) ∧ W.cell? ⟨N, 1, none⟩ = some (.int .i64 t.ver) ∧ W.cell? ⟨N, 2, none⟩ = some (.string t.nm) ∧ W.cell? ⟨N, 3, none⟩ = some (.slice ao t.cols.length c) ∧ W.cell? ⟨N, 4, none⟩ = some (.int .i64 t.key)) := fun W tw => by
    have tw' : Tch (fun _ => False) w0 W := tw.mono (fun i hi h => by rw [hw0, World.size_alloc] at hi; omega)
    rw [hw0] at tw'; rw [hN]; exact box5 tw'
  have HS : Hid (∀ W, Tch (fun _ => False) w W → SL W ao (ccl t.cols)) := fun W tw => h.no tw
  have HV : Hid (∀ W, Tch (fun _ => False) w W → SL W ro (vcl vs)) := fun W tw => hr.no tw
  obtain ⟨b0, b1, b2, b3, b4⟩ := HB.out w0 (Tch.refl _ _)
  have q1 := rright_any t ao c w0 (HS.out w0 T0)
  have Hw0 : Hid _ := hw0
  have HN : Hid (N = w.heap.size) := hN
  have HN0 : Hid (w0.heap.size = N + 1) := by show _ = _; rw [hw0, hN, World.size_alloc]
  clear h hr hw0 hN
  by_cases hE : rightE t = 0
  · rw [hE] at q1
    have HE : Hid (rightE t = 0) := hE
    obtain ⟨hl1, hl8⟩ := right_len hE
    clear hE
    by_cases hm : (t.cols.length : Int) < vs.length
    · have HO : Hid _ := fitR_many (t := t) (vs := vs) HE.out (by omega)
      go_enter Try.func45, Try.ntmps45
      go_wp2_with fail
      rw [← HN.out]
      have hw0 := Hw0.out
      rw [← hw0]
      clear hw0
      refine q1.mono ?_
      rintro x w1 ⟨rfl, t1⟩
      obtain ⟨b0, b1, b2, b3, b4⟩ := HB.out w1 (t1.mono (fun _ _ h => h.elim))
      clear q1
      go_wp2_with fail
      go_ret2
      exact ⟨fitOut_no HO.out, T0.trans' t1⟩
    · have hvl : vs.length ≤ t.cols.length := by omega
      have hfl := fullR_len hvl
      have HFl : Hid ((fullR t vs).length = t.cols.length) := hfl
      obtain ⟨n, hn⟩ : ∃ n, n = t.cols.length := ⟨_, rfl⟩
      have Hn : Hid (n = t.cols.length) := hn
      rw [← hn] at b3 hl1 hl8 hm q1 ⊢
      rw [← hn] at HB
      clear hfl hn
      go_enter Try.func45, Try.ntmps45
      go_wp2_with fail
      rw [← HN.out]
      have hw0 := Hw0.out
      rw [← Hn.out] at hw0
      rw [← hw0]
      clear hw0
      refine q1.mono ?_
      rintro x w1 ⟨rfl, t1⟩
      obtain ⟨b0, b1, b2, b3, b4⟩ := HB.out w1 (t1.mono (fun _ _ h => h.elim))
      clear q1
      have hvI : ¬ (n : Int) < vs.length := by omega
      have HT1 : Hid (Tch (fun i => N < i) w0 w1) := t1.mono (fun _ _ h => h.elim)
      clear b0 b1 b2 b4 t1
      go_wp2_with fail
      try rw [show decide (n < vs.length) = false from decide_eq_false (by omega)]
      clear b3
      go_loopw [7, 8] (fun ov i wr => ∃ k : Nat, i = .int .i64 k ∧ k ≤ n ∧ Hid (wr.ownsRow (N + 1) 38 3 ov k (vcl ((fullR t vs).take k))) ∧ Hid (Tch (fun i => N < i) w0 wr) ∧ Hid (∀ j (h3 : j < t.cols.length) (h4 : j < (fullR t vs).length), j < k → fitE (fullR t vs)[j] t.cols[j].k t.cols[j].nl = 0)) (fun _ i _ => n - (intOf i).toNat)
      case atStart => exact ⟨0, rfl, by omega, ⟨rfl, Or.inl ⟨rfl, rfl⟩⟩, HT1, fun _ _ _ h => by omega⟩
      case round =>
        clear HT1
        obtain ⟨k, rfl, hk, HO, HT, HK⟩ := hrel
        have HTw : Hid (Tch (fun _ => False) w wr) := T0.trans HT.out (fun i hi h => by have := HN.out; omega)
        have b3 := (HB.out _ HT.out).2.2.2.1
        by_cases hlt : (k : Int) < n
        · have hkl : k < t.cols.length := by have := Hn.out; omega
          have hkf : k < (fullR t vs).length := by rw [HFl.out]; exact hkl
          obtain ⟨x, hx⟩ : ∃ x, x = t.cols[k] := ⟨_, rfl⟩
          obtain ⟨v, hv⟩ : ∃ v, v = (fullR t vs)[k] := ⟨_, rfl⟩
          obtain ⟨E, hE⟩ : ∃ E, E = fitE v x.k x.nl := ⟨_, rfl⟩
          have HEE : Hid (E = fitE (fullR t vs)[k] t.cols[k].k t.cols[k].nl) := by show _ = _; rw [hE, hv, hx]
          obtain ⟨wa, hwa⟩ : ∃ wa, wa = wr.alloc (.cells #[.int .i64 v.k, .int .i64 v.n, .string v.s] 38) := ⟨_, rfl⟩
          obtain ⟨B, hB⟩ : ∃ B, B = wr.heap.size := ⟨_, rfl⟩
          obtain ⟨g, o, rfl, ha⟩ := (HS.out _ HTw.out).col hkl
          obtain ⟨c0, c1, c2⟩ := ha.col k hkl
          rw [← hx] at c0 c1 c2
          have q2 : ∀ W, Calls Try.prog 72 #[vA v.k v.n v.s, cA x.nm x.k x.nl] W fun y w' => y = .returned (.int .i64 E) ∧ Tch (fun _ => False) W w' := fun W => by rw [hE]; exact rfits_any v.k v.n v.s x.nm x.k x.nl W
          have HS3 : Hid (∀ W, Tch (fun _ => False) wa W → Tch (fun _ => False) wa W ∧ (W.cell? ⟨B, 0, none⟩ = some (.int .i64 v.k) ∧ W.cell? ⟨B, 1, none⟩ = some (.int .i64 v.n) ∧ W.cell? ⟨B, 2, none⟩ = some (.string v.s)) ∧ W.cell? ⟨N, 3, none⟩ = some (.slice (some ⟨g, o, none⟩) n c) ∧ W.cell? ⟨g, o + k * 3, none⟩ = some (.string x.nm) ∧ W.cell? ⟨g, o + k * 3 + 1, none⟩ = some (.int .i64 x.k) ∧ W.cell? ⟨g, o + k * 3 + 2, none⟩ = some (.bool x.nl)) := fun W tW => by
            have h1 : Tch (fun _ => False) wr W := by rw [hwa] at tW; exact (Tch.alloc _ _ _).trans' tW
            refine ⟨tW, ?_, (h1.cell (p := ⟨N, 3, none⟩) (cell_lt b3) (fun h => h)).trans b3, (h1.cell (p := ⟨g, o + k * 3, none⟩) (cell_lt c0) (fun h => h)).trans c0, (h1.cell (p := ⟨g, o + k * 3 + 1, none⟩) (cell_lt c1) (fun h => h)).trans c1, (h1.cell (p := ⟨g, o + k * 3 + 2, none⟩) (cell_lt c2) (fun h => h)).trans c2⟩
            rw [hwa] at tW; rw [hB]; exact box_tch tW
          have Hq2 : Hid _ := q2
          have HWA : Hid _ := hwa
          have HBB : Hid (B = wr.heap.size) := hB
          have HVv : Hid (v = (fullR t vs)[k]) := hv
          have hTa : Tch (fun _ => False) wr wa := by rw [hwa]; exact Tch.alloc _ _ _
          obtain ⟨oo, oc, hov⟩ := row_slice HO.out
          subst hov
          clear ha hx hv hE q2 hwa hB c0 c1 c2
          by_cases hkv : (k : Int) < vs.length
          · have hkv' : k < vs.length := by omega
            obtain ⟨gr, orr, rfl, har⟩ := (HV.out _ (HTw.out.allocR (.cells #[.int .i64 0, .int .i64 0, .string ⟨#[]⟩] 38))).val hkv'
            obtain ⟨r0, r1, r2⟩ := har.val k hkv'
            have hvv : vs[k] = v := by rw [HVv.out, fullR_lt k hkv' hkf]
            rw [hvv] at r0 r1 r2
            clear har hvv
            go_wp2_with fail
            rw [← HBB.out]
            have hwa := HWA.out
            rw [← hwa]
            clear hwa r0 r1 r2 b3
            obtain ⟨_, ⟨b0, b1, b2⟩, b3', c0, c1, c2⟩ := HS3.out wa (Tch.refl _ _)
            by_cases hE0 : E = 0
            · subst hE0
              have HK2 : Hid (∀ j (h3 : j < t.cols.length) (h4 : j < (fullR t vs).length), j < k + 1 → fitE (fullR t vs)[j] t.cols[j].k t.cols[j].nl = 0) := fun j h3 h4 hj => by
                rcases Nat.lt_or_ge j k with h1 | h1
                · exact HK.out j h3 h4 h1
                · obtain rfl : j = k := by omega
                  exact HEE.out.symm
              go_region_held3 (fun W => Tch (fun _ => False) wa W ∧ (W.cell? ⟨B, 0, none⟩ = some (.int .i64 v.k) ∧ W.cell? ⟨B, 1, none⟩ = some (.int .i64 v.n) ∧ W.cell? ⟨B, 2, none⟩ = some (.string v.s)) ∧ W.cell? ⟨N, 3, none⟩ = some (.slice (some ⟨g, o, none⟩) n c) ∧ W.cell? ⟨g, o + k * 3, none⟩ = some (.string x.nm) ∧ W.cell? ⟨g, o + k * 3 + 1, none⟩ = some (.int .i64 x.k) ∧ W.cell? ⟨g, o + k * 3 + 2, none⟩ = some (.bool x.nl))
                ((refine HS3.out _ ?_; first | assumption | exact (Tch.refl _ _).drew))
                ((go_at_call 72; refine (Hq2.out _).mono ?_; rintro y w5 ⟨rfl, t5⟩; have V5 := Tch.trans' (show _ ∧ _ by assumption).1 t5))
              obtain ⟨_, ⟨b0, b1, b2⟩, _⟩ := HS3.out w5 V5
              have HO5 : Hid (w5.ownsRow (N + 1) 38 3 (.slice oo k oc) k (vcl ((fullR t vs).take k))) := own_tch (own_tch HO.out hTa (fun _ _ h => h)) V5 (fun _ _ h => h)
              have HNW : Hid (∀ j u, ([.int .i64 v.k, .int .i64 v.n, .string v.s] : List Value)[j]? = some u → (w5.alloc (.cells #[.int .i64 v.k, .int .i64 v.n, .string v.s] 38)).cell? ((⟨w5.heap.size, 0, none⟩ : Addr).add j) = some u) := World.news_of_block (alloc_new w5 _)
              go_wp2_with (at_builtin; refine wpList_append_keeps _ rfl _ _ 23 rfl (N + 1) 38 i0 (.agg #[.int .i64 0, .int .i64 0, .string ⟨#[]⟩]) 3 32 Try.underlying23 hi0 hz0 hz1 hz2 rfl (by decide) (.slice oo k oc) k (vcl ((fullR t vs).take k)) rfl (own_tch HO5.out (Tch.alloc (fun _ => False) _ _) (fun _ _ h => h)) ⟨w5.heap.size, 0, none⟩ 1 1 [.int .i64 v.k, .int .i64 v.n, .string v.s] rfl rfl HNW.out (by simp [Value.oneCell']) (by unfold maxLen; omega) (by omega) (by have h1 := HT.out.size; have h2 := HN0.out; have h3 := hTa.size; have h4 := V5.size; rw [World.size_alloc]; omega) ?_; intro v6 w6 hown6 hgr6 hat6 _)
              have HO6 : Hid (w6.ownsRow (N + 1) 38 3 v6 (k + 1) (vcl ((fullR t vs).take (k + 1)))) := by
                have h1 := vcl_take_succ (fullR t vs) k hkf
                rw [← HVv.out] at h1
                show World.ownsRow _ _ _ _ _ _ _
                rw [h1]; exact hown6
              have HT6 : Hid (Tch (fun i => N < i) w0 w6) := ((HT.out.trans hTa (fun _ _ h => h.elim)).trans V5 (fun _ _ h => h.elim)).trans (grown_at (Tch.alloc (fun _ => False) _ _) hgr6) (fun i _ h => by have := row_ge HO5.out h; omega)
              obtain ⟨oo6, oc6, hov6⟩ := row_slice hown6
              subst hov6
              exact ⟨⟨k + 1, by go_num, by omega, HO6, HT6, HK2⟩, by simp [intOf]; omega⟩
            · have HO : Hid _ := fitR_no (t := t) (vs := vs) HE.out hvl k hkl hkf (by rw [← HEE.out]; exact hE0)
              have hb4 : (E != 0) = true := by simpa using hE0
              clear hE0
              go_region_held3 (fun W => Tch (fun _ => False) wa W ∧ (W.cell? ⟨B, 0, none⟩ = some (.int .i64 v.k) ∧ W.cell? ⟨B, 1, none⟩ = some (.int .i64 v.n) ∧ W.cell? ⟨B, 2, none⟩ = some (.string v.s)) ∧ W.cell? ⟨N, 3, none⟩ = some (.slice (some ⟨g, o, none⟩) n c) ∧ W.cell? ⟨g, o + k * 3, none⟩ = some (.string x.nm) ∧ W.cell? ⟨g, o + k * 3 + 1, none⟩ = some (.int .i64 x.k) ∧ W.cell? ⟨g, o + k * 3 + 2, none⟩ = some (.bool x.nl))
                ((refine HS3.out _ ?_; first | assumption | exact (Tch.refl _ _).drew))
                ((go_at_call 72; refine (Hq2.out _).mono ?_; rintro y w5 ⟨rfl, t5⟩; have V5 := Tch.trans' (show _ ∧ _ by assumption).1 t5))
              go_wp2_with fail
              go_ret2
              exact ⟨fitOut_no HO.out, (HTw.out.trans' hTa).trans' V5⟩
          · have hvv : v = nullV := by rw [HVv.out, fullR_ge k (by omega) hkf]
            subst hvv
            go_wp2_with fail
            rw [← HBB.out]
            have eb : wr.alloc (.cells #[.int .i64 0, .int .i64 0, .string ⟨#[]⟩] 38) = wa := HWA.out.symm
            rw [eb]
            clear eb b3
            obtain ⟨_, ⟨b0, b1, b2⟩, b3', c0, c1, c2⟩ := HS3.out wa (Tch.refl _ _)
            by_cases hE0 : E = 0
            · subst hE0
              have HK2 : Hid (∀ j (h3 : j < t.cols.length) (h4 : j < (fullR t vs).length), j < k + 1 → fitE (fullR t vs)[j] t.cols[j].k t.cols[j].nl = 0) := fun j h3 h4 hj => by
                rcases Nat.lt_or_ge j k with h1 | h1
                · exact HK.out j h3 h4 h1
                · obtain rfl : j = k := by omega
                  exact HEE.out.symm
              go_region_held3 (fun W => Tch (fun _ => False) wa W ∧ (W.cell? ⟨B, 0, none⟩ = some (.int .i64 nullV.k) ∧ W.cell? ⟨B, 1, none⟩ = some (.int .i64 nullV.n) ∧ W.cell? ⟨B, 2, none⟩ = some (.string nullV.s)) ∧ W.cell? ⟨N, 3, none⟩ = some (.slice (some ⟨g, o, none⟩) n c) ∧ W.cell? ⟨g, o + k * 3, none⟩ = some (.string x.nm) ∧ W.cell? ⟨g, o + k * 3 + 1, none⟩ = some (.int .i64 x.k) ∧ W.cell? ⟨g, o + k * 3 + 2, none⟩ = some (.bool x.nl))
                ((refine HS3.out _ ?_; first | assumption | exact (Tch.refl _ _).drew))
                ((go_at_call 72; refine (Hq2.out _).mono ?_; rintro y w5 ⟨rfl, t5⟩; have V5 := Tch.trans' (show _ ∧ _ by assumption).1 t5))
              obtain ⟨_, ⟨b0, b1, b2⟩, _⟩ := HS3.out w5 V5
              have HO5 : Hid (w5.ownsRow (N + 1) 38 3 (.slice oo k oc) k (vcl ((fullR t vs).take k))) := own_tch (own_tch HO.out hTa (fun _ _ h => h)) V5 (fun _ _ h => h)
              have HNW : Hid (∀ j u, ([.int .i64 nullV.k, .int .i64 nullV.n, .string nullV.s] : List Value)[j]? = some u → (w5.alloc (.cells #[.int .i64 nullV.k, .int .i64 nullV.n, .string nullV.s] 38)).cell? ((⟨w5.heap.size, 0, none⟩ : Addr).add j) = some u) := World.news_of_block (alloc_new w5 _)
              go_wp2_with (at_builtin; refine wpList_append_keeps _ rfl _ _ 23 rfl (N + 1) 38 i0 (.agg #[.int .i64 0, .int .i64 0, .string ⟨#[]⟩]) 3 32 Try.underlying23 hi0 hz0 hz1 hz2 rfl (by decide) (.slice oo k oc) k (vcl ((fullR t vs).take k)) rfl (own_tch HO5.out (Tch.alloc (fun _ => False) _ _) (fun _ _ h => h)) ⟨w5.heap.size, 0, none⟩ 1 1 [.int .i64 nullV.k, .int .i64 nullV.n, .string nullV.s] rfl rfl HNW.out (by simp [Value.oneCell']) (by unfold maxLen; omega) (by omega) (by have h1 := HT.out.size; have h2 := HN0.out; have h3 := hTa.size; have h4 := V5.size; rw [World.size_alloc]; omega) ?_; intro v6 w6 hown6 hgr6 hat6 _)
              have HO6 : Hid (w6.ownsRow (N + 1) 38 3 v6 (k + 1) (vcl ((fullR t vs).take (k + 1)))) := by
                have h1 := vcl_take_succ (fullR t vs) k hkf
                rw [← HVv.out] at h1
                show World.ownsRow _ _ _ _ _ _ _
                rw [h1]; exact hown6
              have HT6 : Hid (Tch (fun i => N < i) w0 w6) := ((HT.out.trans hTa (fun _ _ h => h.elim)).trans V5 (fun _ _ h => h.elim)).trans (grown_at (Tch.alloc (fun _ => False) _ _) hgr6) (fun i _ h => by have := row_ge HO5.out h; omega)
              obtain ⟨oo6, oc6, hov6⟩ := row_slice hown6
              subst hov6
              exact ⟨⟨k + 1, by go_num, by omega, HO6, HT6, HK2⟩, by simp [intOf]; omega⟩
            · have HO : Hid _ := fitR_no (t := t) (vs := vs) HE.out hvl k hkl hkf (by rw [← HEE.out]; exact hE0)
              have hb4 : (E != 0) = true := by simpa using hE0
              clear hE0
              go_region_held3 (fun W => Tch (fun _ => False) wa W ∧ (W.cell? ⟨B, 0, none⟩ = some (.int .i64 nullV.k) ∧ W.cell? ⟨B, 1, none⟩ = some (.int .i64 nullV.n) ∧ W.cell? ⟨B, 2, none⟩ = some (.string nullV.s)) ∧ W.cell? ⟨N, 3, none⟩ = some (.slice (some ⟨g, o, none⟩) n c) ∧ W.cell? ⟨g, o + k * 3, none⟩ = some (.string x.nm) ∧ W.cell? ⟨g, o + k * 3 + 1, none⟩ = some (.int .i64 x.k) ∧ W.cell? ⟨g, o + k * 3 + 2, none⟩ = some (.bool x.nl))
                ((refine HS3.out _ ?_; first | assumption | exact (Tch.refl _ _).drew))
                ((go_at_call 72; refine (Hq2.out _).mono ?_; rintro y w5 ⟨rfl, t5⟩; have V5 := Tch.trans' (show _ ∧ _ by assumption).1 t5))
              go_wp2_with fail
              go_ret2
              exact ⟨fitOut_no HO.out, (HTw.out.trans' hTa).trans' V5⟩
        · have HR : Hid _ := fitR_ok (t := t) (vs := vs) HE.out hvl (fun j h3 h4 => HK.out j h3 h4 (by have := Hn.out; omega))
          obtain ⟨oo, oc, hov⟩ := row_slice HO.out
          subst hov
          have HOwn : Hid (FitOut t vs w (.returned (.tuple #[.slice oo k oc, .int .i64 0])) wr) := by
            refine ⟨.slice oo k oc, by rw [HR.out], ?_⟩
            rw [HR.out, HFl.out]
            obtain rfl : k = t.cols.length := by have := Hn.out; omega
            have h1 := HO.out
            rw [← HFl.out, List.take_length, HFl.out] at h1
            exact own_low h1 (by have := HN.out; omega)
          go_wp2_with fail
          go_ret2
          exact ⟨HOwn.out, HTw.out⟩
  · have HO : Hid _ := fitR_right (t := t) (vs := vs) hE
    obtain ⟨E, hEE⟩ : ∃ E, E = rightE t := ⟨_, rfl⟩
    rw [← hEE] at hE q1 HO
    have hb4 : (E != 0) = true := by simpa using hE
    clear hE hEE
    go_enter Try.func45, Try.ntmps45
    go_wp2_with fail
    rw [← HN.out]
    have hw0 := Hw0.out
    rw [← hw0]
    clear hw0
    refine q1.mono ?_
    rintro x w1 ⟨rfl, t1⟩
    clear q1
    go_wp2_with fail
    go_ret2
    exact ⟨fitOut_no HO.out, T0.trans' t1⟩
end Go.Proofs.Ytblhmjndegfofaa
