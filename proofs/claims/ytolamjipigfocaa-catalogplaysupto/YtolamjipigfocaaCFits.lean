import Derived.Test.YtolamjipigfocaaCRight3
import Derived.Test.YtolamjipigfocaaCStill
import Derived.Deep.RegionHeld3
/- Fit of the code. -/
namespace Go.Proofs.Ytolamjipigfocaa
open Go.RowKit Go

theorem vcl_null : ∀ k : Nat, vcl (List.replicate k nullV) = rep k [.int .i64 0, .int .i64 0, .string ⟨#[]⟩]
  | 0 => rfl
  | k + 1 => by
    rw [rep_succ, ← vcl_null k, List.replicate_succ']
    exact f3_append ..
theorem full_cells {t : Tbl} {vs : List Val} (h : vs.length ≤ t.cols.length) : vcl vs ++ (rep t.cols.length [.int .i64 0, .int .i64 0, .string ⟨#[]⟩]).toArray.toList.drop (vs.length * 3) = vcl (fullR t vs) := by
  have e : vcl (fullR t vs) = vcl vs ++ vcl (List.replicate (t.cols.length - vs.length) nullV) := f3_append ..
  rw [e, vcl_null]
  congr 1
  have h2 := rep_drop vs.length (t.cols.length - vs.length) [.int .i64 0, .int .i64 0, .string ⟨#[]⟩]
  rw [show vs.length + (t.cols.length - vs.length) = t.cols.length by omega] at h2
  exact h2
theorem fitR_right {t : Tbl} {vs : List Val} (h : rightE t ≠ 0) : fitR t vs = ([], rightE t) := if_pos h
theorem fitR_many {t : Tbl} {vs : List Val} (h : rightE t = 0) (h2 : t.cols.length < vs.length) : fitR t vs = ([], 57) := by unfold fitR; rw [if_neg (by simp [h]), if_pos h2]
theorem fitR_no {t : Tbl} {vs : List Val} (h : rightE t = 0) (h2 : vs.length ≤ t.cols.length) (k : Nat) (h3 : k < t.cols.length) (h4 : k < (fullR t vs).length) (h5 : fitE (fullR t vs)[k] t.cols[k].k t.cols[k].nl ≠ 0) : fitR t vs = ([], 57) := by
  unfold fitR
  rw [if_neg (by simp [h]), if_neg (by omega), if_pos]
  rw [← Bool.not_eq_true, fitsAll_iff _ _ (fullR_len h2).symm]
  exact fun h6 => h5 (h6 k h3 h4)
theorem fitR_ok {t : Tbl} {vs : List Val} (h : rightE t = 0) (h2 : vs.length ≤ t.cols.length) (h3 : ∀ k (h3 : k < t.cols.length) (h4 : k < (fullR t vs).length), fitE (fullR t vs)[k] t.cols[k].k t.cols[k].nl = 0) : fitR t vs = (fullR t vs, 0) := by
  unfold fitR
  rw [if_neg (by simp [h]), if_neg (by omega), if_neg]
  rw [Bool.not_eq_false, fitsAll_iff _ _ (fullR_len h2).symm]
  exact h3
theorem right_len {t : Tbl} (h : rightE t = 0) : 1 ≤ t.cols.length ∧ t.cols.length ≤ 8 := by
  unfold rightE at h
  split at h
  · simp at h
  · split at h
    · simp at h
    · split at h
      · rename_i h1; exact absurd h h1
      · rename_i h1
        have h2 : colsE t.cols = 0 := Classical.byContradiction h1
        unfold colsE at h2
        split at h2
        · simp at h2
        · omega
/-- What Fit gives: a row of its own. -/
def FitOut (t : Tbl) (vs : List Val) (w : World) (x : Ending) (w' : World) : Prop := ∃ v, x = .returned (.tuple #[v, .int .i64 (fitR t vs).2]) ∧ w'.ownsRow w.heap.size 77 3 v (fitR t vs).1.length (vcl (fitR t vs).1)
theorem fitOut_no {t : Tbl} {vs : List Val} {w w' : World} {E : Int} (h : fitR t vs = ([], E)) : FitOut t vs w (.returned (.tuple #[.slice none 0 0, .int .i64 E])) w' := by
  refine ⟨.slice none 0 0, by rw [h], ?_⟩
  rw [h]
  exact ⟨rfl, Or.inl ⟨rfl, rfl⟩⟩

set_option maxHeartbeats 2000000 in
set_option maxRecDepth 100000 in
theorem fit_any (t : Tbl) (ao : Option Addr) (c : Nat) (vs : List Val) (ro : Option Addr) (rc : Nat) (w : World) (h : SL w ao (ccl t.cols)) (hc : t.cols.length ≤ c) (hl : t.cols.length ≤ 9223372036854775807) (hr : SL w ro (vcl vs)) (hro : ro = none → rc = 0) :
    Calls Try.prog 64 #[tA t.id t.ver t.nm (.slice ao t.cols.length c) t.key, .slice ro vs.length rc] w fun x w' => FitOut t vs w x w' ∧ Tch (fun _ => False) w w' := by
  obtain ⟨w0, hw0⟩ : ∃ w0, w0 = w.alloc (.cells #[.int .i64 t.id, .int .i64 t.ver, .string t.nm, .slice ao t.cols.length c, .int .i64 t.key] 36) := ⟨_, rfl⟩
  have T0 : Tch (fun _ => False) w w0 := by rw [hw0]; exact Tch.alloc _ _ _
  obtain ⟨N, hN⟩ : ∃ N, N = w.heap.size := ⟨_, rfl⟩
  have HB : Hid (∀ W, Tch (fun _ => False) w0 W → W.cell? ⟨N, 0, none⟩ = some (.int .i64 t.id) ∧ W.cell? ⟨N, 1, none⟩ = some (.int .i64 t.ver) ∧ W.cell? ⟨N, 2, none⟩ = some (.string t.nm) ∧ W.cell? ⟨N, 3, none⟩ = some (.slice ao t.cols.length c) ∧ W.cell? ⟨N, 4, none⟩ = some (.int .i64 t.key)) := fun W tw => by
    rw [hw0] at tw; rw [hN]; exact box5 tw
  have HS : Hid (∀ W, Tch (fun _ => False) w W → SL W ao (ccl t.cols)) := fun W tw => h.no tw
  have HV : Hid (∀ W, Tch (fun _ => False) w W → SL W ro (vcl vs)) := fun W tw => hr.no tw
  obtain ⟨b0, b1, b2, b3, b4⟩ := HB.out w0 (Tch.refl _ _)
  have q1 := right_any t ao c w0 (HS.out w0 T0) hc hl
  have Hw0 : Hid _ := hw0
  have HN : Hid (N = w.heap.size) := hN
  clear h hr hw0 hN
  by_cases hE : rightE t = 0
  · rw [hE] at q1
    have HE : Hid (rightE t = 0) := hE
    obtain ⟨hl1, hl8⟩ := right_len hE
    clear hE
    by_cases hm : (t.cols.length : Int) < vs.length
    · have HO : Hid _ := fitR_many (t := t) (vs := vs) HE.out (by omega)
      go_enter Try.func64, Try.ntmps64
      go_wp2_with fail
      rw [← HN.out]
      have hw0 := Hw0.out
      rw [← hw0]
      clear hw0
      refine q1.mono ?_
      rintro x w1 ⟨rfl, t1⟩
      obtain ⟨b0, b1, b2, b3, b4⟩ := HB.out w1 t1
      clear q1
      go_wp2_with fail
      go_ret2
      exact ⟨fitOut_no HO.out, T0.trans' t1⟩
    · have hvl : vs.length ≤ t.cols.length := by omega
      have hfl := fullR_len hvl
      have HFl : Hid ((fullR t vs).length = t.cols.length) := hfl
      obtain ⟨n, hn⟩ : ∃ n, n = t.cols.length := ⟨_, rfl⟩
      have Hn : Hid (n = t.cols.length) := hn
      rw [← hn] at b3 hl hl1 hl8 hm q1 hc ⊢
      rw [← hn] at HB
      clear hfl hn
      go_enter Try.func64, Try.ntmps64
      go_wp2_with fail
      rw [← HN.out]
      have hw0 := Hw0.out
      rw [← Hn.out] at hw0
      rw [← hw0]
      clear hw0
      refine q1.mono ?_
      rintro x w1 ⟨rfl, t1⟩
      obtain ⟨b0, b1, b2, b3, b4⟩ := HB.out w1 t1
      clear q1
      have hmk := make_row n w1 (by omega)
      obtain ⟨R, hR⟩ : ∃ R, R = w1.heap.size := ⟨_, rfl⟩
      obtain ⟨w2, hw2⟩ : ∃ w2, w2 = w1.alloc (.cells (rep n [.int .i64 0, .int .i64 0, .string ⟨#[]⟩]).toArray 77) := ⟨_, rfl⟩
      rw [← hw2, ← hR] at hmk
      have t2 : Tch (fun _ => False) w1 w2 := by rw [hw2]; exact Tch.alloc _ _ _
      have hb2 : w2.heap[R]? = some (.cells (rep n [.int .i64 0, .int .i64 0, .string ⟨#[]⟩]).toArray 77 (0, 0)) := by rw [hw2, hR]; exact alloc_new _ _
      obtain ⟨w3, hcp, hb3, t3⟩ := copy_in (P := Try.prog) w2 39 77 77 R n n ro vs.length rc _ (vcl vs) Try.underlying39 info_val3 hb2 (vcl_len vs) (by have := Hn.out; omega) (by rw [List.size_toArray, rep_len]; simp; omega) (vcl_one vs) (HV.out w2 ((T0.trans' t1).trans' t2)) hro
      have hfc := full_cells (t := t) (vs := vs) hvl
      rw [← Hn.out] at hfc
      rw [hfc] at hb3
      have T3 : Tch (fun _ => False) w1 w3 := t2.trans t3 (fun i hi e => by omega)
      have HR3 : Hid (w3.heap[R]? = some (.cells (vcl (fullR t vs)).toArray 77 (0, 0))) := hb3
      have HRl : Hid (w.heap.size ≤ R) := by have := (T0.trans' t1).size; show _ ≤ _; omega
      have HB3 : Hid (∀ W, Tch (fun _ => False) w3 W → W.cell? ⟨N, 3, none⟩ = some (.slice ao n c)) := fun W tw => (HB.out W ((t1.trans' T3).trans' tw)).2.2.2.1
      have HT3 : Hid (Tch (fun _ => False) w w3) := (T0.trans' t1).trans' T3
      clear hfc hb3 hb2 hw2 t2 t3 hR
      have b3' := HB3.out w3 (Tch.refl _ _)
      have hvI : ¬ (n : Int) < vs.length := by omega
      clear b0 b1 b2 b4
      go_wp2_with fail
      try rw [show decide (n < vs.length) = false from decide_eq_false (by omega)]
      clear hmk hcp b3 b3'
      go_loopw [31] (fun i wr => ∃ k : Nat, i = .int .i64 k ∧ k ≤ n ∧ Tch (fun _ => False) w3 wr ∧ Hid (∀ j (h3 : j < t.cols.length) (h4 : j < (fullR t vs).length), j < k → fitE (fullR t vs)[j] t.cols[j].k t.cols[j].nl = 0)) (fun i _ => n - (intOf i).toNat)
      case atStart => exact ⟨0, rfl, by omega, Tch.refl _ _, fun _ _ _ h => by omega⟩
      case round =>
        obtain ⟨k, rfl, hk, hT, HK⟩ := hrel
        by_cases hlt : (k : Int) < n
        · have hkl : k < t.cols.length := by have := Hn.out; omega
          have hkf : k < (fullR t vs).length := by rw [HFl.out]; exact hkl
          obtain ⟨g, o, rfl, ha⟩ := (HS.out _ (HT3.out.trans' hT)).col hkl
          obtain ⟨c0, c1, c2⟩ := ha.col k hkl
          have hrR := (blk_at HR3.out).tch hT (fun _ h => h)
          obtain ⟨d0, d1, d2⟩ := hrR.val k hkf
          rw [Nat.zero_add] at d0 d1 d2
          obtain ⟨x, hx⟩ : ∃ x, x = t.cols[k] := ⟨_, rfl⟩
          obtain ⟨v, hv⟩ : ∃ v, v = (fullR t vs)[k] := ⟨_, rfl⟩
          rw [← hx] at c0 c1 c2
          rw [← hv] at d0 d1 d2
          obtain ⟨E, hE⟩ : ∃ E, E = fitE v x.k x.nl := ⟨_, rfl⟩
          have HEE : Hid (E = fitE (fullR t vs)[k] t.cols[k].k t.cols[k].nl) := by show _ = _; rw [hE, hv, hx]
          obtain ⟨wa, hwa⟩ : ∃ wa, wa = wr.alloc (.cells #[.string x.nm, .int .i64 x.k, .bool x.nl] 43) := ⟨_, rfl⟩
          obtain ⟨B, hB⟩ : ∃ B, B = wr.heap.size := ⟨_, rfl⟩
          have hTa : Tch (fun _ => False) w3 wa := by rw [hwa]; exact hT.allocR _
          have q2 : ∀ W, Calls Try.prog 78 #[vA v.k v.n v.s, cA x.nm x.k x.nl] W fun y w' => y = .returned (.int .i64 E) ∧ Tch (fun _ => False) W w' := fun W => by rw [hE]; exact fits_any v.k v.n v.s x.nm x.k x.nl W
          have HS3 : Hid (∀ W, Tch (fun _ => False) wa W → Tch (fun _ => False) wa W ∧ (W.cell? ⟨B, 0, none⟩ = some (.string x.nm) ∧ W.cell? ⟨B, 1, none⟩ = some (.int .i64 x.k) ∧ W.cell? ⟨B, 2, none⟩ = some (.bool x.nl)) ∧ W.cell? ⟨R, k * 3, none⟩ = some (.int .i64 v.k) ∧ W.cell? ⟨R, k * 3 + 1, none⟩ = some (.int .i64 v.n) ∧ W.cell? ⟨R, k * 3 + 2, none⟩ = some (.string v.s)) := fun W tW => by
            refine ⟨tW, ?_, ?_⟩
            · rw [hwa] at tW; rw [hB]; exact box_tch tW
            · have h1 : Tch (fun _ => False) wr W := by rw [hwa] at tW; exact (Tch.alloc _ _ _).trans' tW
              exact ⟨(h1.cell (p := ⟨R, k * 3, none⟩) (cell_lt d0) (fun h => h)).trans d0, (h1.cell (p := ⟨R, k * 3 + 1, none⟩) (cell_lt d1) (fun h => h)).trans d1, (h1.cell (p := ⟨R, k * 3 + 2, none⟩) (cell_lt d2) (fun h => h)).trans d2⟩
          have Hq2 : Hid _ := q2
          have HWA : Hid _ := hwa
          have HBB : Hid (B = wr.heap.size) := hB
          clear ha hrR hx hv hE q2 hwa hB d0 d1 d2
          go_wp2_with fail
          rw [← HBB.out]
          have hwa := HWA.out
          rw [← hwa]
          clear hwa c0 c1 c2
          obtain ⟨_, ⟨b0, b1, b2⟩, d0, d1, d2⟩ := HS3.out wa (Tch.refl _ _)
          by_cases hE0 : E = 0
          · subst hE0
            have HK2 : Hid (∀ j (h3 : j < t.cols.length) (h4 : j < (fullR t vs).length), j < k + 1 → fitE (fullR t vs)[j] t.cols[j].k t.cols[j].nl = 0) := fun j h3 h4 hj => by
              rcases Nat.lt_or_ge j k with h1 | h1
              · exact HK.out j h3 h4 h1
              · obtain rfl : j = k := by omega
                exact HEE.out.symm
            go_region_held3 (fun W => Tch (fun _ => False) wa W ∧ (W.cell? ⟨B, 0, none⟩ = some (.string x.nm) ∧ W.cell? ⟨B, 1, none⟩ = some (.int .i64 x.k) ∧ W.cell? ⟨B, 2, none⟩ = some (.bool x.nl)) ∧ W.cell? ⟨R, k * 3, none⟩ = some (.int .i64 v.k) ∧ W.cell? ⟨R, k * 3 + 1, none⟩ = some (.int .i64 v.n) ∧ W.cell? ⟨R, k * 3 + 2, none⟩ = some (.string v.s))
              ((refine HS3.out _ ?_; first | assumption | exact (Tch.refl _ _).drew))
              ((go_at_call 78; refine (Hq2.out _).mono ?_; rintro y w5 ⟨rfl, t5⟩; have V5 := Tch.trans' (show _ ∧ _ by assumption).1 t5))
            go_wp2_with fail
            go_roundw
            case rel => exact ⟨k + 1, by go_num, by omega, hTa.trans' V5, HK2⟩
            case measure => simp [intOf]; omega
          · have HO : Hid _ := fitR_no (t := t) (vs := vs) HE.out hvl k hkl hkf (by rw [← HEE.out]; exact hE0)
            have hb4 : (E != 0) = true := by simpa using hE0
            clear hE0
            go_region_held3 (fun W => Tch (fun _ => False) wa W ∧ (W.cell? ⟨B, 0, none⟩ = some (.string x.nm) ∧ W.cell? ⟨B, 1, none⟩ = some (.int .i64 x.k) ∧ W.cell? ⟨B, 2, none⟩ = some (.bool x.nl)) ∧ W.cell? ⟨R, k * 3, none⟩ = some (.int .i64 v.k) ∧ W.cell? ⟨R, k * 3 + 1, none⟩ = some (.int .i64 v.n) ∧ W.cell? ⟨R, k * 3 + 2, none⟩ = some (.string v.s))
              ((refine HS3.out _ ?_; first | assumption | exact (Tch.refl _ _).drew))
              ((go_at_call 78; refine (Hq2.out _).mono ?_; rintro y w5 ⟨rfl, t5⟩; have V5 := Tch.trans' (show _ ∧ _ by assumption).1 t5))
            go_wp2_with fail
            go_ret2
            exact ⟨fitOut_no HO.out, (HT3.out.trans' hTa).trans' V5⟩
        · have HO : Hid _ := fitR_ok (t := t) (vs := vs) HE.out hvl (fun j h3 h4 => HK.out j h3 h4 (by have := Hn.out; omega))
          have HOwn : Hid (FitOut t vs w (.returned (.tuple #[.slice (some ⟨R, 0, none⟩) n n, .int .i64 0])) wr) := by
            refine ⟨.slice (some ⟨R, 0, none⟩) n n, by rw [HO.out], ?_⟩
            rw [HO.out]
            refine ⟨vcl_len _, Or.inr ⟨R, n, _, by rw [HFl.out, ← Hn.out], HRl.out, by rw [hT.block R (blk_lt HR3.out) (fun h => h)]; exact HR3.out, by rw [HFl.out, ← Hn.out]; exact Nat.le_refl _, by unfold maxLen; omega, by rw [List.size_toArray, vcl_len, HFl.out, ← Hn.out], ?_⟩⟩
            rw [← vcl_len]; simp
          go_wp2_with fail
          go_ret2
          exact ⟨HOwn.out, HT3.out.trans' hT⟩
  · have HO : Hid _ := fitR_right (t := t) (vs := vs) hE
    obtain ⟨E, hEE⟩ : ∃ E, E = rightE t := ⟨_, rfl⟩
    rw [← hEE] at hE q1 HO
    have hb4 : (E != 0) = true := by simpa using hE
    clear hE hEE
    go_enter Try.func64, Try.ntmps64
    go_wp2_with fail
    rw [← HN.out]
    have hw0 := Hw0.out
    rw [← hw0]
    clear hw0
    refine q1.mono ?_
    rintro x w1 ⟨rfl, t1⟩
    clear q1
    go_wp2_with fail
    go_ret2
    exact ⟨fitOut_no HO.out, T0.trans' t1⟩
end Go.Proofs.Ytolamjipigfocaa
/- Fit of the document. -/
namespace Go.Proofs.Ytolamjipigfocaa
open Go.RowKit Go

theorem vcl_take_succ (l : List Val) (k : Nat) (hk : k < l.length) : vcl (l.take (k + 1)) = vcl (l.take k) ++ [.int .i64 l[k].k, .int .i64 l[k].n, .string l[k].s] := by
  rw [← List.take_append_getElem hk]
  exact f3_append ..

theorem row_ge {w : World} {base : Nat} {t : TypeId} {sz n : Nat} {v : Value} {xs : List Value} (h : w.ownsRow base t sz v n xs) {k : Nat} (hk : v.ownBlock = some k) : base ≤ k := (h.lt k hk).1
theorem own_low {W : World} {N N' sz n : Nat} {t : TypeId} {v : Value} {xs : List Value} (h : W.ownsRow N t sz v n xs) (hN : N' ≤ N) : W.ownsRow N' t sz v n xs := by
  obtain ⟨h1, h2⟩ := h
  refine ⟨h1, ?_⟩
  rcases h2 with h2 | ⟨g, c, cur, hv, hb, hr⟩
  · exact Or.inl h2
  · exact Or.inr ⟨g, c, cur, hv, Nat.le_trans hN hb, hr⟩
set_option maxHeartbeats 2000000 in
set_option maxRecDepth 100000 in
theorem rfit_any (t : Tbl) (ao : Option Addr) (c : Nat) (vs : List Val) (ro : Option Addr) (rc : Nat) (w : World) (h : SL w ao (ccl t.cols)) (hr : SL w ro (vcl vs)) :
    Calls Try.prog 65 #[tA t.id t.ver t.nm (.slice ao t.cols.length c) t.key, .slice ro vs.length rc] w fun x w' => FitOut t vs w x w' ∧ Tch (fun _ => False) w w' := by
  obtain ⟨i0, hi0, hz0, hz1, hz2⟩ := info_parts info_val
  obtain ⟨w0, hw0⟩ : ∃ w0, w0 = w.alloc (.cells #[.int .i64 t.id, .int .i64 t.ver, .string t.nm, .slice ao t.cols.length c, .int .i64 t.key] 36) := ⟨_, rfl⟩
  have T0 : Tch (fun _ => False) w w0 := by rw [hw0]; exact Tch.alloc _ _ _
  obtain ⟨N, hN⟩ : ∃ N, N = w.heap.size := ⟨_, rfl⟩
  have HB : Hid (∀ W, Tch (fun i => N < i) w0 W → W.cell? ⟨N, 0, none⟩ = some (.int .i64 t.id) ∧ W.cell? ⟨N, 1, none⟩ = some (.int .i64 t.ver) ∧ W.cell? ⟨N, 2, none⟩ = some (.string t.nm) ∧ W.cell? ⟨N, 3, none⟩ = some (.slice ao t.cols.length c) ∧ W.cell? ⟨N, 4, none⟩ = some (.int .i64 t.key)) := fun W tw => by
    have tw' : Tch (fun _ => False) w0 W := tw.mono (fun i hi h => by rw [hw0, World.size_alloc] at hi; omega)
    rw [hw0] at tw'; rw [hN]; exact box5 tw'
  have HS : Hid (∀ W, Tch (fun _ => False) w W → SL W ao (ccl t.cols)) := fun W tw => h.no tw
  have HV : Hid (∀ W, Tch (fun _ => False) w W → SL W ro (vcl vs)) := fun W tw => hr.no tw
  obtain ⟨b0, b1, b2, b3, b4⟩ := HB.out w0 (Tch.refl _ _)
  have q1 := rright_any t ao c w0 (HS.out w0 T0)
  have Hw0 : Hid _ := hw0
  have HN : Hid (N = w.heap.size) := hN
  have HN0 : Hid (w0.heap.size = N + 1) := by show _ = _; rw [hw0, hN, World.size_alloc]
  clear h hr hw0 hN
  by_cases hE : rightE t = 0
  · rw [hE] at q1
    have HE : Hid (rightE t = 0) := hE
    obtain ⟨hl1, hl8⟩ := right_len hE
    clear hE
    by_cases hm : (t.cols.length : Int) < vs.length
    · have HO : Hid _ := fitR_many (t := t) (vs := vs) HE.out (by omega)
      go_enter Try.func65, Try.ntmps65
      go_wp2_with fail
      rw [← HN.out]
      have hw0 := Hw0.out
      rw [← hw0]
      clear hw0
      refine q1.mono ?_
      rintro x w1 ⟨rfl, t1⟩
      obtain ⟨b0, b1, b2, b3, b4⟩ := HB.out w1 (t1.mono (fun _ _ h => h.elim))
      clear q1
      go_wp2_with fail
      go_ret2
      exact ⟨fitOut_no HO.out, T0.trans' t1⟩
    · have hvl : vs.length ≤ t.cols.length := by omega
      have hfl := fullR_len hvl
      have HFl : Hid ((fullR t vs).length = t.cols.length) := hfl
      obtain ⟨n, hn⟩ : ∃ n, n = t.cols.length := ⟨_, rfl⟩
      have Hn : Hid (n = t.cols.length) := hn
      rw [← hn] at b3 hl1 hl8 hm q1 ⊢
      rw [← hn] at HB
      clear hfl hn
      go_enter Try.func65, Try.ntmps65
      go_wp2_with fail
      rw [← HN.out]
      have hw0 := Hw0.out
      rw [← Hn.out] at hw0
      rw [← hw0]
      clear hw0
      refine q1.mono ?_
      rintro x w1 ⟨rfl, t1⟩
      obtain ⟨b0, b1, b2, b3, b4⟩ := HB.out w1 (t1.mono (fun _ _ h => h.elim))
      clear q1
      have hvI : ¬ (n : Int) < vs.length := by omega
      have HT1 : Hid (Tch (fun i => N < i) w0 w1) := t1.mono (fun _ _ h => h.elim)
      clear b0 b1 b2 b4 t1
      go_wp2_with fail
      try rw [show decide (n < vs.length) = false from decide_eq_false (by omega)]
      clear b3
      go_loopw [7, 8] (fun ov i wr => ∃ k : Nat, i = .int .i64 k ∧ k ≤ n ∧ Hid (wr.ownsRow (N + 1) 77 3 ov k (vcl ((fullR t vs).take k))) ∧ Hid (Tch (fun i => N < i) w0 wr) ∧ Hid (∀ j (h3 : j < t.cols.length) (h4 : j < (fullR t vs).length), j < k → fitE (fullR t vs)[j] t.cols[j].k t.cols[j].nl = 0)) (fun _ i _ => n - (intOf i).toNat)
      case atStart => exact ⟨0, rfl, by omega, ⟨rfl, Or.inl ⟨rfl, rfl⟩⟩, HT1, fun _ _ _ h => by omega⟩
      case round =>
        clear HT1
        obtain ⟨k, rfl, hk, HO, HT, HK⟩ := hrel
        have HTw : Hid (Tch (fun _ => False) w wr) := T0.trans HT.out (fun i hi h => by have := HN.out; omega)
        have b3 := (HB.out _ HT.out).2.2.2.1
        by_cases hlt : (k : Int) < n
        · have hkl : k < t.cols.length := by have := Hn.out; omega
          have hkf : k < (fullR t vs).length := by rw [HFl.out]; exact hkl
          obtain ⟨x, hx⟩ : ∃ x, x = t.cols[k] := ⟨_, rfl⟩
          obtain ⟨v, hv⟩ : ∃ v, v = (fullR t vs)[k] := ⟨_, rfl⟩
          obtain ⟨E, hE⟩ : ∃ E, E = fitE v x.k x.nl := ⟨_, rfl⟩
          have HEE : Hid (E = fitE (fullR t vs)[k] t.cols[k].k t.cols[k].nl) := by show _ = _; rw [hE, hv, hx]
          obtain ⟨wa, hwa⟩ : ∃ wa, wa = wr.alloc (.cells #[.int .i64 v.k, .int .i64 v.n, .string v.s] 77) := ⟨_, rfl⟩
          obtain ⟨B, hB⟩ : ∃ B, B = wr.heap.size := ⟨_, rfl⟩
          obtain ⟨g, o, rfl, ha⟩ := (HS.out _ HTw.out).col hkl
          obtain ⟨c0, c1, c2⟩ := ha.col k hkl
          rw [← hx] at c0 c1 c2
          have q2 : ∀ W, Calls Try.prog 79 #[vA v.k v.n v.s, cA x.nm x.k x.nl] W fun y w' => y = .returned (.int .i64 E) ∧ Tch (fun _ => False) W w' := fun W => by rw [hE]; exact rfits_any v.k v.n v.s x.nm x.k x.nl W
          have HS3 : Hid (∀ W, Tch (fun _ => False) wa W → Tch (fun _ => False) wa W ∧ (W.cell? ⟨B, 0, none⟩ = some (.int .i64 v.k) ∧ W.cell? ⟨B, 1, none⟩ = some (.int .i64 v.n) ∧ W.cell? ⟨B, 2, none⟩ = some (.string v.s)) ∧ W.cell? ⟨N, 3, none⟩ = some (.slice (some ⟨g, o, none⟩) n c) ∧ W.cell? ⟨g, o + k * 3, none⟩ = some (.string x.nm) ∧ W.cell? ⟨g, o + k * 3 + 1, none⟩ = some (.int .i64 x.k) ∧ W.cell? ⟨g, o + k * 3 + 2, none⟩ = some (.bool x.nl)) := fun W tW => by
            have h1 : Tch (fun _ => False) wr W := by rw [hwa] at tW; exact (Tch.alloc _ _ _).trans' tW
            refine ⟨tW, ?_, (h1.cell (p := ⟨N, 3, none⟩) (cell_lt b3) (fun h => h)).trans b3, (h1.cell (p := ⟨g, o + k * 3, none⟩) (cell_lt c0) (fun h => h)).trans c0, (h1.cell (p := ⟨g, o + k * 3 + 1, none⟩) (cell_lt c1) (fun h => h)).trans c1, (h1.cell (p := ⟨g, o + k * 3 + 2, none⟩) (cell_lt c2) (fun h => h)).trans c2⟩
            rw [hwa] at tW; rw [hB]; exact box_tch tW
          have Hq2 : Hid _ := q2
          have HWA : Hid _ := hwa
          have HBB : Hid (B = wr.heap.size) := hB
          have HVv : Hid (v = (fullR t vs)[k]) := hv
          have hTa : Tch (fun _ => False) wr wa := by rw [hwa]; exact Tch.alloc _ _ _
          obtain ⟨oo, oc, hov⟩ := row_slice HO.out
          subst hov
          clear ha hx hv hE q2 hwa hB c0 c1 c2
          by_cases hkv : (k : Int) < vs.length
          · have hkv' : k < vs.length := by omega
            obtain ⟨gr, orr, rfl, har⟩ := (HV.out _ (HTw.out.allocR (.cells #[.int .i64 0, .int .i64 0, .string ⟨#[]⟩] 77))).val hkv'
            obtain ⟨r0, r1, r2⟩ := har.val k hkv'
            have hvv : vs[k] = v := by rw [HVv.out, fullR_lt k hkv' hkf]
            rw [hvv] at r0 r1 r2
            clear har hvv
            go_wp2_with fail
            rw [← HBB.out]
            have hwa := HWA.out
            rw [← hwa]
            clear hwa r0 r1 r2 b3
            obtain ⟨_, ⟨b0, b1, b2⟩, b3', c0, c1, c2⟩ := HS3.out wa (Tch.refl _ _)
            by_cases hE0 : E = 0
            · subst hE0
              have HK2 : Hid (∀ j (h3 : j < t.cols.length) (h4 : j < (fullR t vs).length), j < k + 1 → fitE (fullR t vs)[j] t.cols[j].k t.cols[j].nl = 0) := fun j h3 h4 hj => by
                rcases Nat.lt_or_ge j k with h1 | h1
                · exact HK.out j h3 h4 h1
                · obtain rfl : j = k := by omega
                  exact HEE.out.symm
              go_region_held3 (fun W => Tch (fun _ => False) wa W ∧ (W.cell? ⟨B, 0, none⟩ = some (.int .i64 v.k) ∧ W.cell? ⟨B, 1, none⟩ = some (.int .i64 v.n) ∧ W.cell? ⟨B, 2, none⟩ = some (.string v.s)) ∧ W.cell? ⟨N, 3, none⟩ = some (.slice (some ⟨g, o, none⟩) n c) ∧ W.cell? ⟨g, o + k * 3, none⟩ = some (.string x.nm) ∧ W.cell? ⟨g, o + k * 3 + 1, none⟩ = some (.int .i64 x.k) ∧ W.cell? ⟨g, o + k * 3 + 2, none⟩ = some (.bool x.nl))
                ((refine HS3.out _ ?_; first | assumption | exact (Tch.refl _ _).drew))
                ((go_at_call 79; refine (Hq2.out _).mono ?_; rintro y w5 ⟨rfl, t5⟩; have V5 := Tch.trans' (show _ ∧ _ by assumption).1 t5))
              obtain ⟨_, ⟨b0, b1, b2⟩, _⟩ := HS3.out w5 V5
              have HO5 : Hid (w5.ownsRow (N + 1) 77 3 (.slice oo k oc) k (vcl ((fullR t vs).take k))) := own_tch (own_tch HO.out hTa (fun _ _ h => h)) V5 (fun _ _ h => h)
              have HNW : Hid (∀ j u, ([.int .i64 v.k, .int .i64 v.n, .string v.s] : List Value)[j]? = some u → (w5.alloc (.cells #[.int .i64 v.k, .int .i64 v.n, .string v.s] 77)).cell? ((⟨w5.heap.size, 0, none⟩ : Addr).add j) = some u) := World.news_of_block (alloc_new w5 _)
              go_wp2_with (at_builtin; refine wpList_append_keeps _ rfl _ _ 39 rfl (N + 1) 77 i0 (.agg #[.int .i64 0, .int .i64 0, .string ⟨#[]⟩]) 3 32 Try.underlying39 hi0 hz0 hz1 hz2 rfl (by decide) (.slice oo k oc) k (vcl ((fullR t vs).take k)) rfl (own_tch HO5.out (Tch.alloc (fun _ => False) _ _) (fun _ _ h => h)) ⟨w5.heap.size, 0, none⟩ 1 1 [.int .i64 v.k, .int .i64 v.n, .string v.s] rfl rfl HNW.out (by simp [Value.oneCell']) (by unfold maxLen; omega) (by omega) (by have h1 := HT.out.size; have h2 := HN0.out; have h3 := hTa.size; have h4 := V5.size; rw [World.size_alloc]; omega) ?_; intro v6 w6 hown6 hgr6 hat6 _)
              have HO6 : Hid (w6.ownsRow (N + 1) 77 3 v6 (k + 1) (vcl ((fullR t vs).take (k + 1)))) := by
                have h1 := vcl_take_succ (fullR t vs) k hkf
                rw [← HVv.out] at h1
                show World.ownsRow _ _ _ _ _ _ _
                rw [h1]; exact hown6
              have HT6 : Hid (Tch (fun i => N < i) w0 w6) := ((HT.out.trans hTa (fun _ _ h => h.elim)).trans V5 (fun _ _ h => h.elim)).trans (grown_at (Tch.alloc (fun _ => False) _ _) hgr6) (fun i _ h => by have := row_ge HO5.out h; omega)
              obtain ⟨oo6, oc6, hov6⟩ := row_slice hown6
              subst hov6
              exact ⟨⟨k + 1, by go_num, by omega, HO6, HT6, HK2⟩, by simp [intOf]; omega⟩
            · have HO : Hid _ := fitR_no (t := t) (vs := vs) HE.out hvl k hkl hkf (by rw [← HEE.out]; exact hE0)
              have hb4 : (E != 0) = true := by simpa using hE0
              clear hE0
              go_region_held3 (fun W => Tch (fun _ => False) wa W ∧ (W.cell? ⟨B, 0, none⟩ = some (.int .i64 v.k) ∧ W.cell? ⟨B, 1, none⟩ = some (.int .i64 v.n) ∧ W.cell? ⟨B, 2, none⟩ = some (.string v.s)) ∧ W.cell? ⟨N, 3, none⟩ = some (.slice (some ⟨g, o, none⟩) n c) ∧ W.cell? ⟨g, o + k * 3, none⟩ = some (.string x.nm) ∧ W.cell? ⟨g, o + k * 3 + 1, none⟩ = some (.int .i64 x.k) ∧ W.cell? ⟨g, o + k * 3 + 2, none⟩ = some (.bool x.nl))
                ((refine HS3.out _ ?_; first | assumption | exact (Tch.refl _ _).drew))
                ((go_at_call 79; refine (Hq2.out _).mono ?_; rintro y w5 ⟨rfl, t5⟩; have V5 := Tch.trans' (show _ ∧ _ by assumption).1 t5))
              go_wp2_with fail
              go_ret2
              exact ⟨fitOut_no HO.out, (HTw.out.trans' hTa).trans' V5⟩
          · have hvv : v = nullV := by rw [HVv.out, fullR_ge k (by omega) hkf]
            subst hvv
            go_wp2_with fail
            rw [← HBB.out]
            have eb : wr.alloc (.cells #[.int .i64 0, .int .i64 0, .string ⟨#[]⟩] 77) = wa := HWA.out.symm
            rw [eb]
            clear eb b3
            obtain ⟨_, ⟨b0, b1, b2⟩, b3', c0, c1, c2⟩ := HS3.out wa (Tch.refl _ _)
            by_cases hE0 : E = 0
            · subst hE0
              have HK2 : Hid (∀ j (h3 : j < t.cols.length) (h4 : j < (fullR t vs).length), j < k + 1 → fitE (fullR t vs)[j] t.cols[j].k t.cols[j].nl = 0) := fun j h3 h4 hj => by
                rcases Nat.lt_or_ge j k with h1 | h1
                · exact HK.out j h3 h4 h1
                · obtain rfl : j = k := by omega
                  exact HEE.out.symm
              go_region_held3 (fun W => Tch (fun _ => False) wa W ∧ (W.cell? ⟨B, 0, none⟩ = some (.int .i64 nullV.k) ∧ W.cell? ⟨B, 1, none⟩ = some (.int .i64 nullV.n) ∧ W.cell? ⟨B, 2, none⟩ = some (.string nullV.s)) ∧ W.cell? ⟨N, 3, none⟩ = some (.slice (some ⟨g, o, none⟩) n c) ∧ W.cell? ⟨g, o + k * 3, none⟩ = some (.string x.nm) ∧ W.cell? ⟨g, o + k * 3 + 1, none⟩ = some (.int .i64 x.k) ∧ W.cell? ⟨g, o + k * 3 + 2, none⟩ = some (.bool x.nl))
                ((refine HS3.out _ ?_; first | assumption | exact (Tch.refl _ _).drew))
                ((go_at_call 79; refine (Hq2.out _).mono ?_; rintro y w5 ⟨rfl, t5⟩; have V5 := Tch.trans' (show _ ∧ _ by assumption).1 t5))
              obtain ⟨_, ⟨b0, b1, b2⟩, _⟩ := HS3.out w5 V5
              have HO5 : Hid (w5.ownsRow (N + 1) 77 3 (.slice oo k oc) k (vcl ((fullR t vs).take k))) := own_tch (own_tch HO.out hTa (fun _ _ h => h)) V5 (fun _ _ h => h)
              have HNW : Hid (∀ j u, ([.int .i64 nullV.k, .int .i64 nullV.n, .string nullV.s] : List Value)[j]? = some u → (w5.alloc (.cells #[.int .i64 nullV.k, .int .i64 nullV.n, .string nullV.s] 77)).cell? ((⟨w5.heap.size, 0, none⟩ : Addr).add j) = some u) := World.news_of_block (alloc_new w5 _)
              go_wp2_with (at_builtin; refine wpList_append_keeps _ rfl _ _ 39 rfl (N + 1) 77 i0 (.agg #[.int .i64 0, .int .i64 0, .string ⟨#[]⟩]) 3 32 Try.underlying39 hi0 hz0 hz1 hz2 rfl (by decide) (.slice oo k oc) k (vcl ((fullR t vs).take k)) rfl (own_tch HO5.out (Tch.alloc (fun _ => False) _ _) (fun _ _ h => h)) ⟨w5.heap.size, 0, none⟩ 1 1 [.int .i64 nullV.k, .int .i64 nullV.n, .string nullV.s] rfl rfl HNW.out (by simp [Value.oneCell']) (by unfold maxLen; omega) (by omega) (by have h1 := HT.out.size; have h2 := HN0.out; have h3 := hTa.size; have h4 := V5.size; rw [World.size_alloc]; omega) ?_; intro v6 w6 hown6 hgr6 hat6 _)
              have HO6 : Hid (w6.ownsRow (N + 1) 77 3 v6 (k + 1) (vcl ((fullR t vs).take (k + 1)))) := by
                have h1 := vcl_take_succ (fullR t vs) k hkf
                rw [← HVv.out] at h1
                show World.ownsRow _ _ _ _ _ _ _
                rw [h1]; exact hown6
              have HT6 : Hid (Tch (fun i => N < i) w0 w6) := ((HT.out.trans hTa (fun _ _ h => h.elim)).trans V5 (fun _ _ h => h.elim)).trans (grown_at (Tch.alloc (fun _ => False) _ _) hgr6) (fun i _ h => by have := row_ge HO5.out h; omega)
              obtain ⟨oo6, oc6, hov6⟩ := row_slice hown6
              subst hov6
              exact ⟨⟨k + 1, by go_num, by omega, HO6, HT6, HK2⟩, by simp [intOf]; omega⟩
            · have HO : Hid _ := fitR_no (t := t) (vs := vs) HE.out hvl k hkl hkf (by rw [← HEE.out]; exact hE0)
              have hb4 : (E != 0) = true := by simpa using hE0
              clear hE0
              go_region_held3 (fun W => Tch (fun _ => False) wa W ∧ (W.cell? ⟨B, 0, none⟩ = some (.int .i64 nullV.k) ∧ W.cell? ⟨B, 1, none⟩ = some (.int .i64 nullV.n) ∧ W.cell? ⟨B, 2, none⟩ = some (.string nullV.s)) ∧ W.cell? ⟨N, 3, none⟩ = some (.slice (some ⟨g, o, none⟩) n c) ∧ W.cell? ⟨g, o + k * 3, none⟩ = some (.string x.nm) ∧ W.cell? ⟨g, o + k * 3 + 1, none⟩ = some (.int .i64 x.k) ∧ W.cell? ⟨g, o + k * 3 + 2, none⟩ = some (.bool x.nl))
                ((refine HS3.out _ ?_; first | assumption | exact (Tch.refl _ _).drew))
                ((go_at_call 79; refine (Hq2.out _).mono ?_; rintro y w5 ⟨rfl, t5⟩; have V5 := Tch.trans' (show _ ∧ _ by assumption).1 t5))
              go_wp2_with fail
              go_ret2
              exact ⟨fitOut_no HO.out, (HTw.out.trans' hTa).trans' V5⟩
        · have HR : Hid _ := fitR_ok (t := t) (vs := vs) HE.out hvl (fun j h3 h4 => HK.out j h3 h4 (by have := Hn.out; omega))
          obtain ⟨oo, oc, hov⟩ := row_slice HO.out
          subst hov
          have HOwn : Hid (FitOut t vs w (.returned (.tuple #[.slice oo k oc, .int .i64 0])) wr) := by
            refine ⟨.slice oo k oc, by rw [HR.out], ?_⟩
            rw [HR.out, HFl.out]
            obtain rfl : k = t.cols.length := by have := Hn.out; omega
            have h1 := HO.out
            rw [← HFl.out, List.take_length, HFl.out] at h1
            exact own_low h1 (by have := HN.out; omega)
          go_wp2_with fail
          go_ret2
          exact ⟨HOwn.out, HTw.out⟩
  · have HO : Hid _ := fitR_right (t := t) (vs := vs) hE
    obtain ⟨E, hEE⟩ : ∃ E, E = rightE t := ⟨_, rfl⟩
    rw [← hEE] at hE q1 HO
    have hb4 : (E != 0) = true := by simpa using hE
    clear hE hEE
    go_enter Try.func65, Try.ntmps65
    go_wp2_with fail
    rw [← HN.out]
    have hw0 := Hw0.out
    rw [← hw0]
    clear hw0
    refine q1.mono ?_
    rintro x w1 ⟨rfl, t1⟩
    clear q1
    go_wp2_with fail
    go_ret2
    exact ⟨fitOut_no HO.out, T0.trans' t1⟩
end Go.Proofs.Ytolamjipigfocaa
/- fits of the book. -/
namespace Go.Proofs.Ytolamjipigfocaa
open Go.RowKit Go

/-- The rows of a book. -/
structure BKr (W : World) (F : Nat → Prop) (b : Nat) (cur : Array Value) (R : List Value) (rv hv wv : Value) (xs : List Val) : Prop where
  blk : W.heap[b]? = some (.cells cur 41 (0, 0))
  size : cur.size = 17
  c2 : cur[2]? = some rv
  c15 : cur[15]? = some hv
  c16 : cur[16]? = some wv
  l14 : R.length % 14 = 0
  len : xs.length ≤ 8
  ls : LS 39 W (fun i => (F i ∨ wv.ownBlock = some i) ∨ hv.ownBlock = some i) b mkR R rv
  hown : W.ownsRow 0 77 3 hv xs.length (vcl xs)
  wown : W.ownsRow 0 77 3 wv xs.length (vcl xs)
  hg : ∀ g, hv.ownBlock = some g → g ≠ b ∧ ¬ F g ∧ wv.ownBlock ≠ some g
  wg : ∀ g, wv.ownBlock = some g → g ≠ b ∧ ¬ F g
  nb : ¬ F b
theorem BKr.tch {S : Nat → Prop} {W W' : World} {F : Nat → Prop} {b : Nat} {cur : Array Value} {R : List Value} {rv hv wv : Value} {xs : List Val} (h : BKr W F b cur R rv hv wv xs) (t : Tch S W W') (hS : ∀ i, S i → F i) : BKr W' F b cur R rv hv wv xs :=
  ⟨by rw [t.block b (blk_lt h.blk) (fun hs => h.nb (hS b hs))]; exact h.blk, h.size, h.c2, h.c15, h.c16, h.l14, h.len, h.ls.tch t (fun i hs => Or.inr (Or.inl (Or.inl (hS i hs)))), own_tch h.hown t (fun g e hs => (h.hg g e).2.1 (hS g hs)), own_tch h.wown t (fun g e hs => (h.wg g e).2 (hS g hs)), h.hg, h.wg, h.nb⟩
theorem BKr.fresh {W : World} {F F' : Nat → Prop} {b : Nat} {cur : Array Value} {R : List Value} {rv hv wv : Value} {xs : List Val} (h : BKr W F b cur R rv hv wv xs) (hF : ∀ i, i < W.heap.size → F' i → F i) : BKr W F' b cur R rv hv wv xs :=
  ⟨h.blk, h.size, h.c2, h.c15, h.c16, h.l14, h.len, h.ls.fresh (fun i hi h' => h'.imp (fun h' => h'.imp (hF i hi) id) id), h.hown, h.wown, fun g e => ⟨(h.hg g e).1, fun hf => (h.hg g e).2.1 (hF g (h.hown.lt g e).2 hf), (h.hg g e).2.2⟩, fun g e => ⟨(h.wg g e).1, fun hf => (h.wg g e).2 (hF g (h.wown.lt g e).2 hf)⟩, fun hf => h.nb (hF b (blk_lt h.blk) hf)⟩
theorem own_sl {W : World} {base sz n : Nat} {t : TypeId} {ao : Option Addr} {c : Nat} {xs : List Value} (h : W.ownsRow base t sz (.slice ao n c) n xs) : SL W ao xs := fun hx => by
  have hn : 0 < n := by
    rcases Nat.eq_zero_or_pos n with rfl | h'
    · have := h.1; simp at this; exact absurd this hx
    · exact h'
  obtain ⟨g, e, _, ha⟩ := own_at h hn
  exact ⟨g, 0, e, ha⟩

/-- What becomes of a book. -/
def BookOut (b : Nat) (cur : Array Value) (R : List Value) (F : Nat → Prop) (w' : World) : Prop := ∃ cur' R' rv' av bv ys, BKr w' F b cur' R' rv' av bv ys ∧ R'.length = R.length + 14 ∧ ∀ j, j ≠ 2 → j < 15 → cur'[j]? = cur[j]?
theorem At.left {w : World} {g o : Nat} {cs ds : List Value} (h : At w g o (cs ++ ds)) : At w g o cs := fun j u hu => h j u (by rw [List.getElem?_append_left (List.getElem?_eq_some_iff.1 hu).1]; exact hu)
theorem sameRow_eq (ys : List Val) (ao bo : Option Addr) (ca cb : Nat) (w : World) (ha : SL w ao (vcl ys)) (hb : SL w bo (vcl ys)) (h1 : ys.length ≤ 9223372036854775807) :
    Calls Try.prog 66 #[.slice ao ys.length ca, .slice bo ys.length cb] w fun x w' => x = .returned (.bool true) ∧ Tch (fun _ => False) w w' := by
  refine (sameRow_any ys ys ao bo ca cb w ha hb h1).mono ?_
  rintro x w' ⟨d, rfl, hd, m, rfl⟩
  rw [hd.2 rfl]
  exact ⟨rfl, (Tch.refl _ w).drewN m⟩
theorem fitR_len (t : Tbl) (vs : List Val) : (fitR t vs).1.length ≤ 8 := by
  unfold fitR
  split
  · simp
  · rename_i h
    split
    · simp
    · split
      · simp
      · rename_i h2 _
        rw [fullR_len (by omega)]
        exact (right_len (Classical.byContradiction h)).2
set_option maxHeartbeats 4000000 in
set_option maxRecDepth 100000 in
theorem fits_book (b : Nat) (cur : Array Value) (R : List Value) (rv hv wv : Value) (xs : List Val) (t : Tbl) (ao : Option Addr) (c : Nat) (vs : List Val) (ro : Option Addr) (rc : Nat) (F : Nat → Prop) (w : World) (hB : BKr w F b cur R rv hv wv xs)
    (hF : ∀ i, F i → i < w.heap.size) (hR : R.length ≤ 100000000)
    (h : SL w ao (ccl t.cols)) (hao : ao = none → c = 0) (hlen : t.cols.length * 32 ≤ 140737488351232) (hr : SL w ro (vcl vs)) (hro : ro = none → rc = 0) (hvlen : vs.length * 32 ≤ 140737488351232) (hrF : vs ≠ [] → ∀ g o, ro = some ⟨g, o, none⟩ → F g) :
    Calls Try.prog 37 #[.pointer (some ⟨b, 0, none⟩), tA t.id t.ver t.nm (.slice ao t.cols.length c) t.key, .slice ro vs.length rc] w fun x w' => x = .returned (.bool true) ∧ BookOut b cur R F w' ∧ Tch (fun i => ¬ F i) w w' := by
  obtain ⟨N, hN⟩ : ∃ N, N = w.heap.size := ⟨_, rfl⟩
  obtain ⟨n, hn⟩ : ∃ n, n = t.cols.length := ⟨_, rfl⟩
  obtain ⟨m, hm⟩ : ∃ m, m = vs.length := ⟨_, rfl⟩
  obtain ⟨w0, hw0⟩ : ∃ w0, w0 = (w.alloc (.cells #[.int .i64 t.id, .int .i64 t.ver, .string t.nm, .slice ao n c, .int .i64 t.key] 36)).alloc (.cells #[.int .i64 t.id, .int .i64 t.ver, .string t.nm, .slice ao n c, .int .i64 t.key] 36) := ⟨_, rfl⟩
  have T0 : Tch (fun _ => False) w w0 := by rw [hw0]; exact (Tch.alloc _ _ _).allocR _
  have hz0 : w0.heap.size = N + 2 := by rw [hw0, World.size_alloc, World.size_alloc, hN]
  have q1 := lent_any t.cols ao c w0 (h.no T0) hao hlen
  rw [hz0, ← hn] at q1
  have HC0 : Hid (∀ W, Tch (fun i => N + 2 ≤ i) w0 W → (W.cell? ⟨N, 0, none⟩ = some (.int .i64 t.id) ∧ W.cell? ⟨N, 1, none⟩ = some (.int .i64 t.ver) ∧ W.cell? ⟨N, 2, none⟩ = some (.string t.nm) ∧ W.cell? ⟨N, 3, none⟩ = some (.slice ao n c) ∧ W.cell? ⟨N, 4, none⟩ = some (.int .i64 t.key)) ∧ (W.cell? ⟨N + 1, 0, none⟩ = some (.int .i64 t.id) ∧ W.cell? ⟨N + 1, 1, none⟩ = some (.int .i64 t.ver) ∧ W.cell? ⟨N + 1, 2, none⟩ = some (.string t.nm) ∧ W.cell? ⟨N + 1, 3, none⟩ = some (.slice ao n c) ∧ W.cell? ⟨N + 1, 4, none⟩ = some (.int .i64 t.key)) ∧ W.frozen? ⟨N + 1, 3, none⟩ = false) := fun W tW => by
    have tW' : Tch (fun _ => False) w0 W := tW.mono (fun i hi h => by omega)
    have h1 : Tch (fun _ => False) (w.alloc (.cells #[.int .i64 t.id, .int .i64 t.ver, .string t.nm, .slice ao n c, .int .i64 t.key] 36)) W := by rw [hw0] at tW'; exact (Tch.alloc _ _ _).trans' tW'
    have h2 := box5 h1
    have h3 : Tch (fun _ => False) ((w.alloc (.cells #[.int .i64 t.id, .int .i64 t.ver, .string t.nm, .slice ao n c, .int .i64 t.key] 36)).alloc (.cells #[.int .i64 t.id, .int .i64 t.ver, .string t.nm, .slice ao n c, .int .i64 t.key] 36)) W := by rw [hw0] at tW'; exact tW'
    have h4 := box5 h3
    rw [World.size_alloc, ← hN] at h4
    rw [← hN] at h2
    refine ⟨h2, h4, ?_⟩
    rw [tW'.frozen (p := ⟨N + 1, 3, none⟩) (by show N + 1 < _; omega) (fun h => h), hw0]
    have := alloc_new (w.alloc (.cells #[.int .i64 t.id, .int .i64 t.ver, .string t.nm, .slice ao n c, .int .i64 t.key] 36)) (.cells #[.int .i64 t.id, .int .i64 t.ver, .string t.nm, .slice ao n c, .int .i64 t.key] 36)
    rw [World.size_alloc, ← hN] at this
    exact blk_frozen this 3
  have HSL : Hid (∀ W, Tch (fun i => N ≤ i) w W → SL W ao (ccl t.cols) ∧ SL W ro (vcl vs)) := fun W tW => ⟨h.no (tW.mono (fun i hi h => by omega)), hr.no (tW.mono (fun i hi h => by omega))⟩
  have HBK : Hid (∀ W, Tch (fun i => N ≤ i) w W → BKr W (fun i => F i ∨ N ≤ i) b cur R rv hv wv xs) := fun W tW => (hB.fresh (fun i hi h => h.elim id (fun h => by omega))).tch tW (fun i h => Or.inr h)
  have Hw0 : Hid _ := hw0
  have HN : Hid (N = w.heap.size) := hN
  have Hz0 : Hid (w0.heap.size = N + 2) := hz0
  have Hn : Hid (n = t.cols.length) := hn
  have Hm : Hid (m = vs.length) := hm
  have HT0 : Hid (Tch (fun _ => False) w w0) := T0
  have hnI : (n : Int) ≤ 4398046510976 := by omega
  have hmI : (m : Int) ≤ 4398046510976 := by omega
  have hm0 : (0 : Int) ≤ m := by omega
  have hmm : (m : Int) ≤ (m : Int) + 2 := by omega
  have hmm2 : (m : Int) ≤ ((m + 2 : Nat) : Int) := by omega
  rw [← hn, ← hm]
  rw [← hn] at hlen
  rw [← hm] at hvlen
  clear hB h hr hw0 hN hz0 hn hm T0
  go_enter Try.func37, Try.ntmps37
  go_wp2_with fail
  rw [← HN.out]
  have hw0 := Hw0.out
  rw [← hw0]
  clear hw0
  refine q1.mono ?_
  rintro x w1 ⟨rfl, hG1, t1⟩
  clear q1
  obtain ⟨⟨d0, d1, d2, d3, d4⟩, ⟨e0, e1, e2, e3, e4⟩, fz⟩ := HC0.out w1 (t1.mono (fun _ _ h => h.elim))
  have HG1 : Hid _ := hG1
  clear hG1
  have HT1 : Hid _ := t1
  obtain ⟨w2, hw2⟩ : ∃ w2, w2 = w1.setCell ⟨N + 1, 3, none⟩ (.slice (some ⟨N + 2, 0, none⟩) n (n + 2)) := ⟨_, rfl⟩
  obtain ⟨RB, hRB⟩ : ∃ RB, RB = w1.heap.size := ⟨_, rfl⟩
  have hmk := make_row (m + 2) w2 (by omega)
  have hz2 : w2.heap.size = RB := by rw [hw2, World.size_setCell, hRB]
  rw [show (((m + 2 : Nat)) : Int) = (m : Int) + 2 by omega, hz2] at hmk
  obtain ⟨w3, hw3⟩ : ∃ w3, w3 = w2.alloc (.cells (rep (m + 2) [.int .i64 0, .int .i64 0, .string ⟨#[]⟩]).toArray 77) := ⟨_, rfl⟩
  rw [← hw3] at hmk
  have t2 : Tch (fun i => i = N + 1) w1 w2 := by rw [hw2]; exact Tch.setCell _ _ _ _ rfl
  have t3 : Tch (fun _ => False) w2 w3 := by rw [hw3]; exact Tch.alloc _ _ _
  have hlt1 : N + 2 < w1.heap.size := blk_lt HG1.out
  have t13 : Tch (fun i => N ≤ i) w w3 := ((HT0.out.trans' (HT1.out.trans' (Tch.refl _ w1))).mono (fun _ _ h => h.elim)).trans ((t2.mono (T := fun i => N ≤ i) (fun i _ h => by omega)).trans' (t3.mono (fun _ _ h => h.elim))) (fun i _ h => h)
  have hb3 : w3.heap[RB]? = some (.cells (rep (m + 2) [.int .i64 0, .int .i64 0, .string ⟨#[]⟩]).toArray 77 (0, 0)) := by rw [hw3, ← hz2]; exact alloc_new _ _
  obtain ⟨w4, hcp, hb4, t4⟩ := copy_in (P := Try.prog) w3 39 77 77 RB (m + 2) (m + 2) ro m rc _ (vcl vs) Try.underlying39 info_val3 hb3 (by rw [vcl_len, Hm.out]) (by omega) (by rw [List.size_toArray, rep_len]; simp; omega) (vcl_one vs) (HSL.out w3 t13).2 hro
  have hd : (rep (m + 2) [.int .i64 0, .int .i64 0, .string ⟨#[]⟩]).toArray.toList.drop (m * 3) = rep 2 [.int .i64 0, .int .i64 0, .string ⟨#[]⟩] := rep_drop m 2 [.int .i64 0, .int .i64 0, .string ⟨#[]⟩]
  rw [hd] at hb4
  obtain ⟨X, hX⟩ : ∃ X, X = (vcl vs ++ rep 2 [.int .i64 0, .int .i64 0, .string ⟨#[]⟩]).toArray := ⟨_, rfl⟩
  rw [← hX] at hb4
  have hsz : X.size = m * 3 + 6 := by rw [hX, List.size_toArray, List.length_append, vcl_len, rep_len, Hm.out]; simp
  obtain ⟨y0, c0⟩ : ∃ y, w4.cell? ⟨RB, m * 3 + 2, none⟩ = some y := ⟨X[m * 3 + 2]'(by omega), by rw [blk_cell hb4]; exact Array.getElem?_eq_getElem _⟩
  obtain ⟨y1, c1⟩ : ∃ y, (w4.setCell ⟨RB, m * 3 + 2, none⟩ (.string ⟨#[98, 101, 104, 105, 110, 100]⟩)).cell? ⟨RB, (m + 1) * 3 + 2, none⟩ = some y := ⟨X[(m + 1) * 3 + 2]'(by omega), by
    rw [World.cell?_setCell_other (h := by intro e; injection e; omega), blk_cell hb4]; exact Array.getElem?_eq_getElem _⟩
  have f0 := blk_frozen hb4 (m * 3 + 2)
  have f1 := blk_frozen hb4 ((m + 1) * 3 + 2)
  obtain ⟨w5, hw5⟩ : ∃ w5, w5 = (w4.setCell ⟨RB, m * 3 + 2, none⟩ (.string ⟨#[98, 101, 104, 105, 110, 100]⟩)).setCell ⟨RB, (m + 1) * 3 + 2, none⟩ (.string ⟨#[102, 97, 114]⟩) := ⟨_, rfl⟩
  have HR5 : Hid (w5.heap[RB]? = some (.cells (vcl (lentV vs)).toArray 77 (0, 0))) := by
    show _ = _
    rw [hw5, blk_set (blk_set hb4 _) _, hX, Hm.out, lentV_cells]
  have T25 : Tch (fun _ => False) w2 w5 := by
    have hTa : Tch (fun i => i = RB) w3 w5 := by rw [hw5]; exact (t4.setCellR ⟨RB, m * 3 + 2, none⟩ _ rfl).setCellR ⟨RB, (m + 1) * 3 + 2, none⟩ _ rfl
    exact t3.trans hTa (fun i hi e => by omega)
  have HT5 : Hid (Tch (fun i => N ≤ i) w w5) := ((HT0.out.trans' HT1.out).mono (fun _ _ h => h.elim)).trans ((t2.mono (T := fun i => N ≤ i) (fun i _ h => by omega)).trans' (T25.mono (fun _ _ h => h.elim))) (fun i _ h => h)
  have HG5 : Hid (w5.heap[N + 2]? = some (.cells (ccl (lentC t.cols)).toArray 43 (0, 0))) := by
    show _ = _
    rw [T25.block (N + 2) (by rw [hz2, hRB]; exact hlt1) (fun h => h), t2.block (N + 2) hlt1 (by omega)]; exact HG1.out
  have HC5 : Hid (∀ (S : Nat → Prop) W, Tch S w5 W → ¬ S N → ¬ S (N + 1) → ¬ S RB → (W.cell? ⟨N, 0, none⟩ = some (.int .i64 t.id) ∧ W.cell? ⟨N, 1, none⟩ = some (.int .i64 t.ver) ∧ W.cell? ⟨N, 2, none⟩ = some (.string t.nm) ∧ W.cell? ⟨N, 3, none⟩ = some (.slice ao n c) ∧ W.cell? ⟨N, 4, none⟩ = some (.int .i64 t.key)) ∧ (W.cell? ⟨N + 1, 0, none⟩ = some (.int .i64 t.id) ∧ W.cell? ⟨N + 1, 1, none⟩ = some (.int .i64 t.ver) ∧ W.cell? ⟨N + 1, 2, none⟩ = some (.string t.nm) ∧ W.cell? ⟨N + 1, 3, none⟩ = some (.slice (some ⟨N + 2, 0, none⟩) n (n + 2)) ∧ W.cell? ⟨N + 1, 4, none⟩ = some (.int .i64 t.key)) ∧ At W RB 0 (vcl (lentV vs))) := fun S W tW s0 s1 s2 => by
    have k5 : ∀ i, i < RB → ¬ S i → ∀ j, W.cell? ⟨i, j, none⟩ = w2.cell? ⟨i, j, none⟩ := fun i hi hs j => by
      have hi2 : i < w2.heap.size := by omega
      rw [tW.cell (p := ⟨i, j, none⟩) (Nat.lt_of_lt_of_le hi2 T25.size) hs, T25.cell (p := ⟨i, j, none⟩) hi2 (fun h => h)]
    have kN : ∀ j, W.cell? ⟨N, j, none⟩ = w1.cell? ⟨N, j, none⟩ := fun j => by
      rw [k5 N (by omega) s0 j, hw2, World.cell?_setCell_other (h := by intro e; injection e; omega)]
    have kO : ∀ j, j ≠ 3 → W.cell? ⟨N + 1, j, none⟩ = w1.cell? ⟨N + 1, j, none⟩ := fun j hj => by
      rw [k5 (N + 1) (by omega) s1 j, hw2, World.cell?_setCell_other (h := by intro e; injection e; omega)]
    refine ⟨⟨(kN 0).trans d0, (kN 1).trans d1, (kN 2).trans d2, (kN 3).trans d3, (kN 4).trans d4⟩, ⟨(kO 0 (by omega)).trans e0, (kO 1 (by omega)).trans e1, (kO 2 (by omega)).trans e2, ?_, (kO 4 (by omega)).trans e4⟩, (blk_at HR5.out).tch tW (fun _ => s2)⟩
    rw [k5 (N + 1) (by omega) s1 3, hw2, World.cell?_setCell_same (h := e3)]
  have HRBl : Hid (N + 2 < RB ∧ RB < w5.heap.size) := ⟨by omega, blk_lt HR5.out⟩
  have Hw5 : Hid _ := hw5
  have HRB : Hid (RB = w1.heap.size) := hRB
  have Hw2 : Hid _ := hw2
  rw [hw2] at hmk
  clear hb3 hb4 hX hw3 hd hsz t2 t3 t4 t13 T25 hlt1 hz2 hw5 hRB hw2
  go_wp2_with fail
  have hw5 := Hw5.out
  rw [← hw5]
  clear hw5 c0 c1 f0 f1 hcp hmk d0 d1 d2 d3 d4 e0 e1 e2 e3 e4 fz t1
  obtain ⟨ys, hys⟩ : ∃ ys, ys = (fitR t vs).1 := ⟨_, rfl⟩
  obtain ⟨E, hE⟩ : ∃ E, E = (fitR t vs).2 := ⟨_, rfl⟩
  have hy8 : ys.length ≤ 8 := by rw [hys]; exact fitR_len t vs
  have HSG : Hid (∀ W, Tch (fun _ => False) w5 W → SL W (some ⟨N + 2, 0, none⟩) (ccl t.cols)) := fun W tW _ => ⟨N + 2, 0, rfl, by
    have h1 := (blk_at HG5.out).tch tW (fun _ h => h)
    rw [show ccl (lentC t.cols) = ccl t.cols ++ _ from f3_append ..] at h1
    exact h1.left⟩
  have HSR : Hid (∀ W, At W RB 0 (vcl (lentV vs)) → SL W (some ⟨RB, 0, none⟩) (vcl vs)) := fun W h1 _ => ⟨RB, 0, rfl, by
    rw [show vcl (lentV vs) = vcl vs ++ _ from f3_append ..] at h1
    exact h1.left⟩
  have Hq1 : Hid (∀ W, Tch (fun _ => False) w5 W → Calls Try.prog 64 #[tA t.id t.ver t.nm (.slice (some ⟨N + 2, 0, none⟩) n (n + 2)) t.key, .slice (some ⟨RB, 0, none⟩) m (m + 2)] W fun x w' => (∃ v, x = .returned (.tuple #[v, .int .i64 E]) ∧ w'.ownsRow (RB + 1) 77 3 v ys.length (vcl ys)) ∧ Tch (fun _ => False) W w') := fun W tW => by
    have h1 := fit_any t (some ⟨N + 2, 0, none⟩) (n + 2) vs (some ⟨RB, 0, none⟩) (m + 2) W (HSG.out W tW) (by have := Hn.out; omega) (by have := Hn.out; omega) (HSR.out W ((blk_at HR5.out).tch tW (fun _ h => h))) (fun e => by cases e)
    rw [← Hn.out, ← Hm.out] at h1
    refine h1.mono ?_
    rintro x w' ⟨⟨v, hx, ho⟩, tw⟩
    rw [hys, hE]
    exact ⟨⟨v, hx, own_low ho (by have := HRBl.out.2; have := tW.size; omega)⟩, tw⟩
  have Hq2 : Hid (∀ W, Tch (fun i => N ≤ i) w W → Calls Try.prog 65 #[tA t.id t.ver t.nm (.slice ao n c) t.key, .slice ro m rc] W fun x w' => (∃ v, x = .returned (.tuple #[v, .int .i64 E]) ∧ w'.ownsRow W.heap.size 77 3 v ys.length (vcl ys)) ∧ Tch (fun _ => False) W w') := fun W tW => by
    have h1 := rfit_any t ao c vs ro rc W (HSL.out W tW).1 (HSL.out W tW).2
    rw [← Hn.out, ← Hm.out] at h1
    refine h1.mono ?_
    rintro x w' ⟨⟨v, hx, ho⟩, tw⟩
    rw [hys, hE]
    exact ⟨⟨v, hx, ho⟩, tw⟩
  clear hys hE
  have HS8 : Hid (∀ W, Tch (fun _ => False) w5 W → Tch (fun _ => False) w5 W ∧ W.cell? ⟨N + 1, 0, none⟩ = some (.int .i64 t.id) ∧ W.cell? ⟨N + 1, 1, none⟩ = some (.int .i64 t.ver) ∧ W.cell? ⟨N + 1, 2, none⟩ = some (.string t.nm) ∧ W.cell? ⟨N + 1, 3, none⟩ = some (.slice (some ⟨N + 2, 0, none⟩) n (n + 2)) ∧ W.cell? ⟨N + 1, 4, none⟩ = some (.int .i64 t.key)) := fun W tW => ⟨tW, (HC5.out _ W tW (fun h => h) (fun h => h) (fun h => h)).2.1⟩
  obtain ⟨_, e0, e1, e2, e3, e4⟩ := HS8.out w5 (Tch.refl _ _)
  go_region_held3 (fun W => Tch (fun _ => False) w5 W ∧ W.cell? ⟨N + 1, 0, none⟩ = some (.int .i64 t.id) ∧ W.cell? ⟨N + 1, 1, none⟩ = some (.int .i64 t.ver) ∧ W.cell? ⟨N + 1, 2, none⟩ = some (.string t.nm) ∧ W.cell? ⟨N + 1, 3, none⟩ = some (.slice (some ⟨N + 2, 0, none⟩) n (n + 2)) ∧ W.cell? ⟨N + 1, 4, none⟩ = some (.int .i64 t.key))
    ((refine HS8.out _ ?_; first | assumption | exact (Tch.refl _ _).drew))
    ((go_at_call 64; refine (Hq1.out _ (show _ ∧ _ by assumption).1).mono ?_; rintro y w6 ⟨⟨av, rfl, hav⟩, t6⟩; have V6 := Tch.trans' (show _ ∧ _ by assumption).1 t6))
  clear e0 e1 e2 e3 e4 HS8 Hq1
  have HBw : Hid _ := HBK.out w (Tch.refl _ _)
  have hbN : b < N := by rw [HN.out]; exact blk_lt HBw.out.blk
  have HrvN : Hid (∀ g, rv.ownBlock = some g → g < N) := fun g e => by rw [HN.out]; exact (HBw.out.ls.all.lt g e).2
  have HhvN : Hid (∀ g, hv.ownBlock = some g → g < N) := fun g e => by rw [HN.out]; exact (HBw.out.hown.lt g e).2
  have HwvN : Hid (∀ g, wv.ownBlock = some g → g < N) := fun g e => by rw [HN.out]; exact (HBw.out.wown.lt g e).2
  obtain ⟨a1, ac, hav'⟩ := row_slice hav
  subst hav'
  obtain ⟨⟨d0, d1, d2, d3, d4⟩, _⟩ := HC5.out _ w6 V6 (fun h => h) (fun h => h) (fun h => h)
  have HT6 : Hid (Tch (fun i => N ≤ i) w w6) := HT5.out.trans' (V6.mono (fun _ _ h => h.elim))
  have Hav6 : Hid (w6.ownsRow (RB + 1) 77 3 (.slice a1 ys.length ac) ys.length (vcl ys)) := hav
  clear t6 hav
  go_wp2_with fail
  refine (Hq2.out w6 HT6.out).mono ?_
  rintro x w7 ⟨⟨bv, rfl, hbv⟩, t7⟩
  obtain ⟨b1, bc, hbv'⟩ := row_slice hbv
  subst hbv'
  have V7 : Tch (fun _ => False) w5 w7 := V6.trans' t7
  have Hav7 : Hid (w7.ownsRow (RB + 1) 77 3 (.slice a1 ys.length ac) ys.length (vcl ys)) := own_tch Hav6.out t7 (fun _ _ h => h)
  have Hbv7 : Hid (w7.ownsRow (RB + 1) 77 3 (.slice b1 ys.length bc) ys.length (vcl ys)) := own_low hbv (by have := HRBl.out.2; have := V6.size; omega)
  have Hab : Hid (∀ g, (Value.slice a1 ys.length ac).ownBlock = some g → (Value.slice b1 ys.length bc).ownBlock ≠ some g) := fun g e e2 => by have := (Hav6.out.lt g e).2; have := (hbv.lt g e2).1; omega
  have q8 := sameRow_eq ys a1 b1 ac bc w7 (own_sl Hav7.out) (own_sl Hbv7.out) (by omega)
  clear d0 d1 d2 d3 d4 V6 Hq2 Hav6 hbv t7
  go_wp2_with fail
  refine q8.mono ?_
  rintro x w8 ⟨rfl, t8⟩
  clear q8
  have V8 : Tch (fun _ => False) w5 w8 := V7.trans' t8
  have Hq9 : Hid (∀ (S : Nat → Prop) W, Tch S w5 W → ¬ S N → ¬ S (N + 1) → ¬ S RB → SL W ro (vcl vs) → Calls Try.prog 66 #[.slice (some ⟨RB, 0, none⟩) m (m + 2), .slice ro m rc] W fun x w' => x = .returned (.bool true) ∧ Tch (fun _ => False) W w') := fun S W tW s0 s1 s2 hsl => by
    have h1 := sameRow_eq vs (some ⟨RB, 0, none⟩) ro (m + 2) rc W (HSR.out W (HC5.out S W tW s0 s1 s2).2.2) hsl (by have := Hm.out; omega)
    rw [← Hm.out] at h1
    exact h1
  have HT8 : Hid (Tch (fun i => N ≤ i) w w8) := HT5.out.trans' (V8.mono (fun _ _ h => h.elim))
  have q9 := Hq9.out _ w8 V8 (fun h => h) (fun h => h) (fun h => h) (HSL.out w8 HT8.out).2
  go_wp2_with fail
  refine q9.mono ?_
  rintro x w9 ⟨rfl, t9⟩
  clear q9
  have V9 : Tch (fun _ => False) w5 w9 := V8.trans' t9
  have HT9 : Hid (Tch (fun i => N ≤ i) w w9) := HT5.out.trans' (V9.mono (fun _ _ h => h.elim))
  obtain ⟨⟨_, _, _, d3, _⟩, _⟩ := HC5.out _ w9 V9 (fun h => h) (fun h => h) (fun h => h)
  have q10 := back_any t.cols ao c (N + 2) w9 (HSL.out w9 HT9.out).1 (by rw [V9.block (N + 2) (blk_lt HG5.out) (fun h => h)]; exact HG5.out) (by rw [← Hn.out]; exact hlen)
  rw [← Hn.out] at q10
  go_wp2_with fail
  refine q10.mono ?_
  rintro x w10 ⟨rfl, t10⟩
  clear q10 d3
  have V10 : Tch (fun i => i = N + 2) w5 w10 := (V9.mono (fun _ _ h => h.elim)).trans' t10
  have HT10 : Hid (Tch (fun i => N ≤ i) w w10) := HT5.out.trans' (V10.mono (fun i _ h => by omega))
  have Hav10 : Hid (w10.ownsRow (RB + 1) 77 3 (.slice a1 ys.length ac) ys.length (vcl ys)) := own_tch (own_tch (own_tch Hav7.out t8 (fun _ _ h => h)) t9 (fun _ _ h => h)) t10 (fun g e h => by have := (Hav7.out.lt g e).1; have := HRBl.out.1; omega)
  have Hbv10 : Hid (w10.ownsRow (RB + 1) 77 3 (.slice b1 ys.length bc) ys.length (vcl ys)) := own_tch (own_tch (own_tch Hbv7.out t8 (fun _ _ h => h)) t9 (fun _ _ h => h)) t10 (fun g e h => by have := (Hbv7.out.lt g e).1; have := HRBl.out.1; omega)
  clear t8 t9 t10 V7 V8 V9 Hav7 Hbv7
  obtain ⟨ho, hcp, hhv⟩ := row_slice HBw.out.hown
  obtain ⟨wo, wcp, hwv⟩ := row_slice HBw.out.wown
  have HBW : Hid (∀ W, Tch (fun _ => False) w10 W → BKr W (fun i => F i ∨ N ≤ i) b cur R rv hv wv xs) := fun W tW => HBK.out W (HT10.out.trans' (tW.mono (fun _ _ h => h.elim)))
  have Hq13 : Hid (∀ W, Tch (fun _ => False) w10 W → Calls Try.prog 66 #[hv, wv] W fun x w' => x = .returned (.bool true) ∧ Tch (fun _ => False) W w') := fun W tW => by
    have h1 := (HBW.out W tW).hown
    have h2 := (HBW.out W tW).wown
    rw [hhv] at h1 ⊢
    rw [hwv] at h2 ⊢
    exact sameRow_eq xs ho wo hcp wcp W (own_sl h1) (own_sl h2) (by have := HBw.out.len; omega)
  have HS13 : Hid (∀ W, Tch (fun _ => False) w10 W → Tch (fun _ => False) w10 W ∧ W.cell? ⟨b, 15, none⟩ = some hv ∧ W.cell? ⟨b, 16, none⟩ = some wv) := fun W tW => ⟨tW, by rw [blk_cell (HBW.out W tW).blk]; exact HBw.out.c15, by rw [blk_cell (HBW.out W tW).blk]; exact HBw.out.c16⟩
  obtain ⟨_, k15, k16⟩ := HS13.out w10 (Tch.refl _ _)
  have Hhv : Hid _ := hhv
  clear hhv hwv
  go_wp2_with fail
  go_region_held3 (fun W => Tch (fun _ => False) w10 W ∧ W.cell? ⟨b, 15, none⟩ = some hv ∧ W.cell? ⟨b, 16, none⟩ = some wv)
    ((refine HS13.out _ ?_; first | assumption | exact (Tch.refl _ _).drew))
    ((go_at_call 66; refine (Hq13.out _ (show _ ∧ _ by assumption).1).mono ?_; rintro y w11 ⟨rfl, t11⟩; have V11 := Tch.trans' (show _ ∧ _ by assumption).1 t11))
  clear k15 k16
  obtain ⟨_, k15, k16⟩ := HS13.out w11 V11
  have HB11 : Hid _ := HBW.out w11 V11
  have q14 := row_any b cur R rv hv xs.length (vcl xs) (fun i => (F i ∨ (N ≤ i ∧ i < w11.heap.size)) ∨ wv.ownBlock = some i) w11 HB11.out.blk HB11.out.size HB11.out.c2 (HB11.out.ls.fresh (fun i hi h => by
      rcases h with ((h | h) | h) | h
      · exact Or.inl (Or.inl (Or.inl h))
      · exact Or.inl (Or.inl (Or.inr h.1))
      · exact Or.inl (Or.inr h)
      · exact Or.inr h)) HB11.out.hown HB11.out.len (fun g e => ⟨(HB11.out.hg g e).1, fun h => by
      rcases h with (h | h) | h
      · exact (HB11.out.hg g e).2.1 (Or.inl h)
      · exact (HB11.out.hg g e).2.1 (Or.inr h.1)
      · exact (HB11.out.hg g e).2.2 h⟩) (fun i h => by
      have hsz := (HT10.out.trans' (V11.mono (fun _ _ h => h.elim))).size
      rcases h with (h | h) | h
      · have := hF i h; omega
      · exact h.2
      · have := HwvN.out i h; have := HN.out; omega) hR HB11.out.l14
  go_wp2_with fail
  refine q14.mono ?_
  rintro x w12 ⟨rfl, ⟨rv', R', hR', hb12, hL12⟩, t12⟩
  clear q14 k15 k16
  have Hbl : Hid (b < w11.heap.size) := blk_lt HB11.out.blk
  have V12 : Tch (fun i => i = N + 2 ∨ i = b ∨ rv.ownBlock = some i ∨ hv.ownBlock = some i) w5 w12 := ((V10.mono (fun _ _ h => Or.inl h)).trans' (V11.mono (fun _ _ h => h.elim))).trans' (t12.mono (fun _ _ h => Or.inr h))
  have HnS : Hid (∀ i, N ≤ i → i ≠ N + 2 → ¬ (i = N + 2 ∨ i = b ∨ rv.ownBlock = some i ∨ hv.ownBlock = some i)) := fun i hi h2 h => by
    rcases h with h | h | h | h
    · exact h2 h
    · omega
    · have := HrvN.out i h; omega
    · have := HhvN.out i h; omega
  have HnT : Hid (∀ i, N ≤ i → ¬ (i = b ∨ rv.ownBlock = some i ∨ hv.ownBlock = some i)) := fun i hi h => by
    rcases h with h | h | h
    · omega
    · have := HrvN.out i h; omega
    · have := HhvN.out i h; omega
  have Hav12 : Hid (w12.ownsRow (RB + 1) 77 3 (.slice a1 ys.length ac) ys.length (vcl ys)) := own_tch (own_tch Hav10.out V11 (fun _ _ h => h)) t12 (fun g e => HnT.out g (by have := (World.ownsRow.lt Hav10.out g e).1; have := HRBl.out.1; omega))
  have Hbv12 : Hid (w12.ownsRow (RB + 1) 77 3 (.slice b1 ys.length bc) ys.length (vcl ys)) := own_tch (own_tch Hbv10.out V11 (fun _ _ h => h)) t12 (fun g e => HnT.out g (by have := (World.ownsRow.lt Hbv10.out g e).1; have := HRBl.out.1; omega))
  have Hablt : Hid ((∀ g, (Value.slice a1 ys.length ac).ownBlock = some g → RB + 1 ≤ g ∧ g < w11.heap.size) ∧ ∀ g, (Value.slice b1 ys.length bc).ownBlock = some g → RB + 1 ≤ g ∧ g < w11.heap.size) := by
    have hs11 := V11.size
    exact ⟨fun g e => ⟨(World.ownsRow.lt Hav10.out g e).1, Nat.lt_of_lt_of_le (World.ownsRow.lt Hav10.out g e).2 hs11⟩, fun g e => ⟨(World.ownsRow.lt Hbv10.out g e).1, Nat.lt_of_lt_of_le (World.ownsRow.lt Hbv10.out g e).2 hs11⟩⟩
  have q15 := sameRow_eq ys a1 b1 ac bc w12 (own_sl Hav12.out) (own_sl Hbv12.out) (by omega)
  have Hb12 : Hid _ := hb12
  have HL12 : Hid _ := hL12
  have Ht12 : Hid _ := t12
  have HR' : Hid _ := hR'
  clear hb12 hL12 t12 hR'
  go_wp2_with fail
  refine q15.mono ?_
  rintro x w13 ⟨rfl, t13⟩
  clear q15
  have hcz : cur.size = 17 := HBw.out.size
  have Hb13 : Hid (w13.heap[b]? = some (.cells (cur.setIfInBounds 2 rv') 41 (0, 0))) := by
    show _ = _
    rw [t13.block b (blk_lt Hb12.out) (fun h => h)]; exact Hb12.out
  obtain ⟨z15, k15⟩ : ∃ z, w13.cell? ⟨b, 15, none⟩ = some z := ⟨(cur.setIfInBounds 2 rv')[15]'(by simp; omega), by rw [blk_cell Hb13.out]; exact Array.getElem?_eq_getElem _⟩
  obtain ⟨z16, k16⟩ : ∃ z, (w13.setCell ⟨b, 15, none⟩ (.slice a1 ys.length ac)).cell? ⟨b, 16, none⟩ = some z := ⟨(cur.setIfInBounds 2 rv')[16]'(by simp; omega), by
    rw [World.cell?_setCell_other (h := by intro e; injection e; omega), blk_cell Hb13.out]; exact Array.getElem?_eq_getElem _⟩
  have f15 := blk_frozen Hb13.out 15
  have f16 := blk_frozen Hb13.out 16
  obtain ⟨w14, hw14⟩ : ∃ w14, w14 = (w13.setCell ⟨b, 15, none⟩ (.slice a1 ys.length ac)).setCell ⟨b, 16, none⟩ (.slice b1 ys.length bc) := ⟨_, rfl⟩
  have t14 : Tch (fun i => i = b) w13 w14 := by rw [hw14]; exact (Tch.setCell (fun i => i = b) w13 ⟨b, 15, none⟩ _ rfl).setCellR ⟨b, 16, none⟩ _ rfl
  have Hb14 : Hid (w14.heap[b]? = some (.cells (((cur.setIfInBounds 2 rv').setIfInBounds 15 (.slice a1 ys.length ac)).setIfInBounds 16 (.slice b1 ys.length bc)) 41 (0, 0))) := by
    show _ = _
    rw [hw14, blk_set (blk_set Hb13.out _) _]
  have V14 : Tch (fun i => i = N + 2 ∨ i = b ∨ rv.ownBlock = some i ∨ hv.ownBlock = some i) w5 w14 := (V12.trans' (t13.mono (fun _ _ h => h.elim))).trans' (t14.mono (fun _ _ h => Or.inr (Or.inl h)))
  have HSr14 : Hid (SL w14 ro (vcl vs)) := by
    intro hne
    have hne' : vs ≠ [] := by rintro rfl; exact hne rfl
    revert hne
    show SL w14 ro (vcl vs)
    refine (HSL.out w11 (HT10.out.trans' (V11.mono (fun _ _ h => h.elim)))).2.tch ((Ht12.out.trans' (t13.mono (fun _ _ h => h.elim))).trans' (t14.mono (fun _ _ h => Or.inl h))) (fun g o e h => ?_)
    have hf := hrF hne' g o e
    rcases h with h | h | h
    · exact HBw.out.nb (Or.inl (h ▸ hf))
    · exact (HBw.out.ls.ag g h).2 (Or.inl (Or.inl (Or.inl hf)))
    · exact (HBw.out.hg g h).2.1 (Or.inl hf)
  have q18 := Hq9.out _ w14 V14 (HnS.out N (by omega) (by omega)) (HnS.out (N + 1) (by omega) (by omega)) (HnS.out RB (by have := HRBl.out.1; omega) (by have := HRBl.out.1; omega)) HSr14.out
  have Hw14 : Hid _ := hw14
  clear hw14
  go_wp2_with fail
  have hw14 := Hw14.out
  rw [← hw14]
  clear hw14 k15 k16 f15 f16
  refine q18.mono ?_
  rintro x w15 ⟨rfl, t15⟩
  clear q18
  have V15 : Tch (fun i => i = N + 2 ∨ i = b ∨ rv.ownBlock = some i ∨ hv.ownBlock = some i) w5 w15 := V14.trans' (t15.mono (fun _ _ h => h.elim))
  obtain ⟨_, _, ha15⟩ := HC5.out _ w15 V15 (HnS.out N (by omega) (by omega)) (HnS.out (N + 1) (by omega) (by omega)) (HnS.out RB (by have := HRBl.out.1; omega) (by have := HRBl.out.1; omega))
  have hll := lentV_len vs
  have c0 : w15.cell? ⟨RB, m * 3 + 2, none⟩ = some (.string ⟨#[98, 101, 104, 105, 110, 100]⟩) := by
    have := (ha15.val vs.length (by omega)).2.2
    rw [Hm.out]
    simpa [lentV] using this
  have c1 : w15.cell? ⟨RB, (m + 1) * 3 + 2, none⟩ = some (.string ⟨#[102, 97, 114]⟩) := by
    have := (ha15.val (vs.length + 1) (by omega)).2.2
    rw [Hm.out]
    simpa [lentV] using this
  have HBS : Hid (BS 77 w15 RB ((m + 2) * 3)) := (show BS 77 w5 RB ((m + 2) * 3) from ⟨_, HR5.out, by rw [List.size_toArray, vcl_len, hll, ← Hm.out]⟩).tch V15 (HnS.out RB (by have := HRBl.out.1; omega) (by have := HRBl.out.1; omega))
  have HV15 : Hid _ := V15
  clear ha15 hll
  go_wp2_with fail
  go_loopw [21] (fun i wr => ∃ q : Nat, i = .int .i64 q ∧ q ≤ m + 2 ∧ Hid (BS 77 wr RB ((m + 2) * 3)) ∧ Hid (Tch (fun i => i = RB) w15 wr)) (fun i _ => m + 2 - (intOf i).toNat)
  case atStart => exact ⟨0, rfl, by omega, HBS, Tch.refl _ _⟩
  case round =>
    obtain ⟨q, rfl, hq, HB3, HT3⟩ := hrel
    by_cases hqn : (q : Int) < m + 2
    · obtain ⟨cu, hh, hs⟩ := HB3.out
      obtain ⟨⟨y0, e0⟩, ⟨y1, e1⟩, ⟨y2, e2⟩, hf⟩ := set3_cells hh hs (by omega : q < m + 2) (.int .i64 7) (.int .i64 0)
      have f0 := hf (q * 3); have f1 := hf (q * 3 + 1); have f2 := hf (q * 3 + 2)
      have HB4 : Hid (BS 77 (((wr.setCell ⟨RB, q * 3, none⟩ (.int .i64 7)).setCell ⟨RB, q * 3 + 1, none⟩ (.int .i64 0)).setCell ⟨RB, q * 3 + 2, none⟩ (.string ⟨#[]⟩)) RB ((m + 2) * 3)) := ((BS.set HB3.out _ _).set _ _).set _ _
      have HT4 : Hid (Tch (fun i => i = RB) w15 (((wr.setCell ⟨RB, q * 3, none⟩ (.int .i64 7)).setCell ⟨RB, q * 3 + 1, none⟩ (.int .i64 0)).setCell ⟨RB, q * 3 + 2, none⟩ (.string ⟨#[]⟩))) := ((Tch.setCellR HT3.out ⟨RB, q * 3, none⟩ _ rfl).setCellR ⟨RB, q * 3 + 1, none⟩ _ rfl).setCellR ⟨RB, q * 3 + 2, none⟩ _ rfl
      clear hf hs hh
      go_wp2_with fail
      go_roundw
      case rel => exact ⟨q + 1, by go_num, by omega, HB4, HT4⟩
      case measure => simp [intOf]; omega
    · have hRBN := HRBl.out.1
      have tE : Tch (fun i => i = b ∨ i = RB) w13 wr := (t14.mono (fun _ _ h => Or.inl h)).trans' ((t15.mono (fun _ _ h => h.elim)).trans' (HT3.out.mono (fun _ _ h => Or.inr h)))
      have hRBb : RB ≠ b := by omega
      have HFin : Hid (BookOut b cur R F wr) := by
        have hRBlt : RB < w11.heap.size := by
          have h1 := HRBl.out.2; have h2 := V10.size; have h3 := V11.size; omega
        refine ⟨((cur.setIfInBounds 2 rv').setIfInBounds 15 (.slice a1 ys.length ac)).setIfInBounds 16 (.slice b1 ys.length bc), R', rv', .slice a1 ys.length ac, .slice b1 ys.length bc, ys, ⟨?_, by simp [hcz], ?_, ?_, ?_, by rw [HR'.out]; have := HBw.out.l14; omega, hy8, ?_, ?_, ?_, ?_, ?_, ?_⟩, HR'.out, fun j h2 h15 => ?_⟩
        · rw [(HT3.out.block b (by have := t15.size; have := blk_lt Hb14.out; omega) (fun h => hRBb h.symm)), t15.block b (blk_lt Hb14.out) (fun h => h)]; exact Hb14.out
        · rw [Array.getElem?_setIfInBounds_ne (by omega), Array.getElem?_setIfInBounds_ne (by omega), Array.getElem?_setIfInBounds_self_of_lt (by omega)]
        · rw [Array.getElem?_setIfInBounds_ne (by omega), Array.getElem?_setIfInBounds_self_of_lt (by simp; omega)]
        · rw [Array.getElem?_setIfInBounds_self_of_lt (by simp; omega)]
        · have h1 := (HL12.out.tch t13 (fun _ h => h.elim)).tch tE (fun i h => h.imp id (fun h => Or.inl (Or.inr ⟨by omega, by omega⟩)))
          exact h1.fresh (fun i _ h => by
            rcases h with (h | h) | h
            · exact Or.inl (Or.inl h)
            · exact Or.inl (Or.inr ⟨by have := (Hablt.out.2 i h).1; omega, (Hablt.out.2 i h).2⟩)
            · exact Or.inl (Or.inr ⟨by have := (Hablt.out.1 i h).1; omega, (Hablt.out.1 i h).2⟩))
        · exact own_low (own_tch (own_tch Hav12.out t13 (fun _ _ h => h)) tE (fun g e h => by have := (Hablt.out.1 g e).1; omega)) (Nat.zero_le _)
        · exact own_low (own_tch (own_tch Hbv12.out t13 (fun _ _ h => h)) tE (fun g e h => by have := (Hablt.out.2 g e).1; omega)) (Nat.zero_le _)
        · exact fun g e => ⟨by have := (Hablt.out.1 g e).1; omega, fun h => by have := hF g h; have := (Hablt.out.1 g e).1; have := HN.out; omega, Hab.out g e⟩
        · exact fun g e => ⟨by have := (Hablt.out.2 g e).1; omega, fun h => by have := hF g h; have := (Hablt.out.2 g e).1; have := HN.out; omega⟩
        · exact fun h => HBw.out.nb (Or.inl h)
        · rw [Array.getElem?_setIfInBounds_ne (by omega), Array.getElem?_setIfInBounds_ne (by omega), Array.getElem?_setIfInBounds_ne (by omega)]
      have HTF : Hid (Tch (fun i => ¬ F i) w wr) := by
        have h1 : Tch (fun i => ¬ F i) w w11 := (HT10.out.trans' (V11.mono (fun _ _ h => h.elim))).mono (fun i hi h => by have := HN.out; omega)
        have h2 : Tch (fun i => ¬ F i) w11 w12 := Ht12.out.mono (fun i _ h hf => by
          rcases h with h | h | h
          · exact HBw.out.nb (Or.inl (h ▸ hf))
          · exact (HBw.out.ls.ag i h).2 (Or.inl (Or.inl (Or.inl hf)))
          · exact (HBw.out.hg i h).2.1 (Or.inl hf))
        have h3 : Tch (fun i => ¬ F i) w12 wr := (t13.mono (fun _ _ h => h.elim)).trans' (tE.mono (fun i _ h hf => by
          rcases h with h | h
          · exact HBw.out.nb (Or.inl (h ▸ hf))
          · have := hF i hf; have := HN.out; omega))
        exact h1.trans' (h2.trans' h3)
      go_wp2_with fail
      go_ret
      exact ⟨rfl, HFin.out, HTF.out⟩
end Go.Proofs.Ytolamjipigfocaa
