import Derived.Test.YtblhmjndegfofaaCRight2
import Derived.Test.YtblhmjndegfofaaCBack
import Derived.Deep.RegionHeld3
/- Fit of the code. -/
namespace Go.Proofs.Ytblhmjndegfofaa
open Go.RowKit Go

theorem vcl_null : ∀ k : Nat, vcl (List.replicate k nullV) = rep k [.int .i64 0, .int .i64 0, .string ⟨#[]⟩]
  | 0 => rfl
  | k + 1 => by
    rw [rep_succ, ← vcl_null k, List.replicate_succ']
    exact f3_append ..
theorem full_cells {t : Tbl} {vs : List Val} (h : vs.length ≤ t.cols.length) : vcl vs ++ (rep t.cols.length [.int .i64 0, .int .i64 0, .string ⟨#[]⟩]).toArray.toList.drop (vs.length * 3) = vcl (fullR t vs) := by
  have e : vcl (fullR t vs) = vcl vs ++ vcl (List.replicate (t.cols.length - vs.length) nullV) := f3_append ..
  rw [e, vcl_null]
  congr 1
  have h2 := rep_drop vs.length (t.cols.length - vs.length) [.int .i64 0, .int .i64 0, .string ⟨#[]⟩]
  rw [show vs.length + (t.cols.length - vs.length) = t.cols.length by omega] at h2
  exact h2
theorem fitR_right {t : Tbl} {vs : List Val} (h : rightE t ≠ 0) : fitR t vs = ([], rightE t) := if_pos h
theorem fitR_many {t : Tbl} {vs : List Val} (h : rightE t = 0) (h2 : t.cols.length < vs.length) : fitR t vs = ([], 57) := by unfold fitR; rw [if_neg (by simp [h]), if_pos h2]
theorem fitR_no {t : Tbl} {vs : List Val} (h : rightE t = 0) (h2 : vs.length ≤ t.cols.length) (k : Nat) (h3 : k < t.cols.length) (h4 : k < (fullR t vs).length) (h5 : fitE (fullR t vs)[k] t.cols[k].k t.cols[k].nl ≠ 0) : fitR t vs = ([], 57) := by
  unfold fitR
  rw [if_neg (by simp [h]), if_neg (by omega), if_pos]
  rw [← Bool.not_eq_true, fitsAll_iff _ _ (fullR_len h2).symm]
  exact fun h6 => h5 (h6 k h3 h4)
theorem fitR_ok {t : Tbl} {vs : List Val} (h : rightE t = 0) (h2 : vs.length ≤ t.cols.length) (h3 : ∀ k (h3 : k < t.cols.length) (h4 : k < (fullR t vs).length), fitE (fullR t vs)[k] t.cols[k].k t.cols[k].nl = 0) : fitR t vs = (fullR t vs, 0) := by
  unfold fitR
  rw [if_neg (by simp [h]), if_neg (by omega), if_neg]
  rw [Bool.not_eq_false, fitsAll_iff _ _ (fullR_len h2).symm]
  exact h3
theorem right_len {t : Tbl} (h : rightE t = 0) : 1 ≤ t.cols.length ∧ t.cols.length ≤ 8 := by
  unfold rightE at h
  split at h
  · simp at h
  · split at h
    · simp at h
    · split at h
      · rename_i h1; exact absurd h h1
      · rename_i h1
        have h2 : colsE t.cols = 0 := Classical.byContradiction h1
        unfold colsE at h2
        split at h2
        · simp at h2
        · omega
/-- What Fit gives: a row of its own. -/
def FitOut (t : Tbl) (vs : List Val) (w : World) (x : Ending) (w' : World) : Prop := ∃ v, x = .returned (.tuple #[v, .int .i64 (fitR t vs).2]) ∧ w'.ownsRow w.heap.size 38 3 v (fitR t vs).1.length (vcl (fitR t vs).1)
theorem fitOut_no {t : Tbl} {vs : List Val} {w w' : World} {E : Int} (h : fitR t vs = ([], E)) : FitOut t vs w (.returned (.tuple #[.slice none 0 0, .int .i64 E])) w' := by
  refine ⟨.slice none 0 0, by rw [h], ?_⟩
  rw [h]
  exact ⟨rfl, Or.inl ⟨rfl, rfl⟩⟩

set_option maxHeartbeats 2000000 in
set_option maxRecDepth 100000 in
theorem fit_any (t : Tbl) (ao : Option Addr) (c : Nat) (vs : List Val) (ro : Option Addr) (rc : Nat) (w : World) (h : SL w ao (ccl t.cols)) (hc : t.cols.length ≤ c) (hl : t.cols.length ≤ 9223372036854775807) (hr : SL w ro (vcl vs)) (hro : ro = none → rc = 0) :
    Calls Try.prog 9 #[tA t.id t.ver t.nm (.slice ao t.cols.length c) t.key, .slice ro vs.length rc] w fun x w' => FitOut t vs w x w' ∧ Tch (fun _ => False) w w' := by
  obtain ⟨w0, hw0⟩ : ∃ w0, w0 = w.alloc (.cells #[.int .i64 t.id, .int .i64 t.ver, .string t.nm, .slice ao t.cols.length c, .int .i64 t.key] 29) := ⟨_, rfl⟩
  have T0 : Tch (fun _ => False) w w0 := by rw [hw0]; exact Tch.alloc _ _ _
  obtain ⟨N, hN⟩ : ∃ N, N = w.heap.size := ⟨_, rfl⟩
  have HB : Hid (∀ W, Tch (fun _ => False) w0 W → W.cell? ⟨N, 0, none⟩ = some (.int .i64 t.id) ∧ W.cell? ⟨N, 1, none⟩ = some (.int .i64 t.ver) ∧ W.cell? ⟨N, 2, none⟩ = some (.string t.nm) ∧ W.cell? ⟨N, 3, none⟩ = some (.slice ao t.cols.length c) ∧ W.cell? ⟨N, 4, none⟩ = some (.int .i64 t.key)) := fun W tw => by
    rw [hw0] at tw; rw [hN]; exact box5 tw
  have HS : Hid (∀ W, Tch (fun _ => False) w W → SL W ao (ccl t.cols)) := fun W tw => h.no tw
  have HV : Hid (∀ W, Tch (fun _ => False) w W → SL W ro (vcl vs)) := fun W tw => hr.no tw
  obtain ⟨b0, b1, b2, b3, b4⟩ := HB.out w0 (Tch.refl _ _)
  have q1 := right_any t ao c w0 (HS.out w0 T0) hc hl
  have Hw0 : Hid _ := hw0
  have HN : Hid (N = w.heap.size) := hN
  clear h hr hw0 hN
  by_cases hE : rightE t = 0
  · rw [hE] at q1
    have HE : Hid (rightE t = 0) := hE
    obtain ⟨hl1, hl8⟩ := right_len hE
    clear hE
    by_cases hm : (t.cols.length : Int) < vs.length
    · have HO : Hid _ := fitR_many (t := t) (vs := vs) HE.out (by omega)
      go_enter Try.func9, Try.ntmps9
      go_wp2_with fail
      rw [← HN.out]
      have hw0 := Hw0.out
      rw [← hw0]
      clear hw0
      refine q1.mono ?_
      rintro x w1 ⟨rfl, t1⟩
      obtain ⟨b0, b1, b2, b3, b4⟩ := HB.out w1 t1
      clear q1
      go_wp2_with fail
      go_ret2
      exact ⟨fitOut_no HO.out, T0.trans' t1⟩
    · have hvl : vs.length ≤ t.cols.length := by omega
      have hfl := fullR_len hvl
      have HFl : Hid ((fullR t vs).length = t.cols.length) := hfl
      obtain ⟨n, hn⟩ : ∃ n, n = t.cols.length := ⟨_, rfl⟩
      have Hn : Hid (n = t.cols.length) := hn
      rw [← hn] at b3 hl hl1 hl8 hm q1 hc ⊢
      rw [← hn] at HB
      clear hfl hn
      go_enter Try.func9, Try.ntmps9
      go_wp2_with fail
      rw [← HN.out]
      have hw0 := Hw0.out
      rw [← Hn.out] at hw0
      rw [← hw0]
      clear hw0
      refine q1.mono ?_
      rintro x w1 ⟨rfl, t1⟩
      obtain ⟨b0, b1, b2, b3, b4⟩ := HB.out w1 t1
      clear q1
      have hmk := make_row n w1 (by omega)
      obtain ⟨R, hR⟩ : ∃ R, R = w1.heap.size := ⟨_, rfl⟩
      obtain ⟨w2, hw2⟩ : ∃ w2, w2 = w1.alloc (.cells (rep n [.int .i64 0, .int .i64 0, .string ⟨#[]⟩]).toArray 38) := ⟨_, rfl⟩
      rw [← hw2, ← hR] at hmk
      have t2 : Tch (fun _ => False) w1 w2 := by rw [hw2]; exact Tch.alloc _ _ _
      have hb2 : w2.heap[R]? = some (.cells (rep n [.int .i64 0, .int .i64 0, .string ⟨#[]⟩]).toArray 38 (0, 0)) := by rw [hw2, hR]; exact alloc_new _ _
      obtain ⟨w3, hcp, hb3, t3⟩ := copy_in (P := Try.prog) w2 23 38 38 R n n ro vs.length rc _ (vcl vs) Try.underlying23 info_val3 hb2 (vcl_len vs) (by have := Hn.out; omega) (by rw [List.size_toArray, rep_len]; simp; omega) (vcl_one vs) (HV.out w2 ((T0.trans' t1).trans' t2)) hro
      have hfc := full_cells (t := t) (vs := vs) hvl
      rw [← Hn.out] at hfc
      rw [hfc] at hb3
      have T3 : Tch (fun _ => False) w1 w3 := t2.trans t3 (fun i hi e => by omega)
      have HR3 : Hid (w3.heap[R]? = some (.cells (vcl (fullR t vs)).toArray 38 (0, 0))) := hb3
      have HRl : Hid (w.heap.size ≤ R) := by have := (T0.trans' t1).size; show _ ≤ _; omega
      have HB3 : Hid (∀ W, Tch (fun _ => False) w3 W → W.cell? ⟨N, 3, none⟩ = some (.slice ao n c)) := fun W tw => (HB.out W ((t1.trans' T3).trans' tw)).2.2.2.1
      have HT3 : Hid (Tch (fun _ => False) w w3) := (T0.trans' t1).trans' T3
      clear hfc hb3 hb2 hw2 t2 t3 hR
      have b3' := HB3.out w3 (Tch.refl _ _)
      have hvI : ¬ (n : Int) < vs.length := by omega
      clear b0 b1 b2 b4
      go_wp2_with fail
      try rw [show decide (n < vs.length) = false from decide_eq_false (by omega)]
      clear hmk hcp b3 b3'
      go_loopw [31] (fun i wr => ∃ k : Nat, i = .int .i64 k ∧ k ≤ n ∧ Tch (fun _ => False) w3 wr ∧ Hid (∀ j (h3 : j < t.cols.length) (h4 : j < (fullR t vs).length), j < k → fitE (fullR t vs)[j] t.cols[j].k t.cols[j].nl = 0)) (fun i _ => n - (intOf i).toNat)
      case atStart => exact ⟨0, rfl, by omega, Tch.refl _ _, fun _ _ _ h => by omega⟩
      case round =>
        obtain ⟨k, rfl, hk, hT, HK⟩ := hrel
        by_cases hlt : (k : Int) < n
        · have hkl : k < t.cols.length := by have := Hn.out; omega
          have hkf : k < (fullR t vs).length := by rw [HFl.out]; exact hkl
          obtain ⟨g, o, rfl, ha⟩ := (HS.out _ (HT3.out.trans' hT)).col hkl
          obtain ⟨c0, c1, c2⟩ := ha.col k hkl
          have hrR := (blk_at HR3.out).tch hT (fun _ h => h)
          obtain ⟨d0, d1, d2⟩ := hrR.val k hkf
          rw [Nat.zero_add] at d0 d1 d2
          obtain ⟨x, hx⟩ : ∃ x, x = t.cols[k] := ⟨_, rfl⟩
          obtain ⟨v, hv⟩ : ∃ v, v = (fullR t vs)[k] := ⟨_, rfl⟩
          rw [← hx] at c0 c1 c2
          rw [← hv] at d0 d1 d2
          obtain ⟨E, hE⟩ : ∃ E, E = fitE v x.k x.nl := ⟨_, rfl⟩
          have HEE : Hid (E = fitE (fullR t vs)[k] t.cols[k].k t.cols[k].nl) := by show _ = _; rw [hE, hv, hx]
          obtain ⟨wa, hwa⟩ : ∃ wa, wa = wr.alloc (.cells #[.string x.nm, .int .i64 x.k, .bool x.nl] 34) := ⟨_, rfl⟩
          obtain ⟨B, hB⟩ : ∃ B, B = wr.heap.size := ⟨_, rfl⟩
          have hTa : Tch (fun _ => False) w3 wa := by rw [hwa]; exact hT.allocR _
          have q2 : ∀ W, Calls Try.prog 35 #[vA v.k v.n v.s, cA x.nm x.k x.nl] W fun y w' => y = .returned (.int .i64 E) ∧ Tch (fun _ => False) W w' := fun W => by rw [hE]; exact fits_any v.k v.n v.s x.nm x.k x.nl W
          have HS3 : Hid (∀ W, Tch (fun _ => False) wa W → Tch (fun _ => False) wa W ∧ (W.cell? ⟨B, 0, none⟩ = some (.string x.nm) ∧ W.cell? ⟨B, 1, none⟩ = some (.int .i64 x.k) ∧ W.cell? ⟨B, 2, none⟩ = some (.bool x.nl)) ∧ W.cell? ⟨R, k * 3, none⟩ = some (.int .i64 v.k) ∧ W.cell? ⟨R, k * 3 + 1, none⟩ = some (.int .i64 v.n) ∧ W.cell? ⟨R, k * 3 + 2, none⟩ = some (.string v.s)) := fun W tW => by
            refine ⟨tW, ?_, ?_⟩
            · rw [hwa] at tW; rw [hB]; exact box_tch tW
            · have h1 : Tch (fun _ => False) wr W := by rw [hwa] at tW; exact (Tch.alloc _ _ _).trans' tW
              exact ⟨(h1.cell (p := ⟨R, k * 3, none⟩) (cell_lt d0) (fun h => h)).trans d0, (h1.cell (p := ⟨R, k * 3 + 1, none⟩) (cell_lt d1) (fun h => h)).trans d1, (h1.cell (p := ⟨R, k * 3 + 2, none⟩) (cell_lt d2) (fun h => h)).trans d2⟩
          have Hq2 : Hid _ := q2
          have HWA : Hid _ := hwa
          have HBB : Hid (B = wr.heap.size) := hB
          clear ha hrR hx hv hE q2 hwa hB d0 d1 d2
          go_wp2_with fail
          rw [← HBB.out]
          have hwa := HWA.out
          rw [← hwa]
          clear hwa c0 c1 c2
          obtain ⟨_, ⟨b0, b1, b2⟩, d0, d1, d2⟩ := HS3.out wa (Tch.refl _ _)
          by_cases hE0 : E = 0
          · subst hE0
            have HK2 : Hid (∀ j (h3 : j < t.cols.length) (h4 : j < (fullR t vs).length), j < k + 1 → fitE (fullR t vs)[j] t.cols[j].k t.cols[j].nl = 0) := fun j h3 h4 hj => by
              rcases Nat.lt_or_ge j k with h1 | h1
              · exact HK.out j h3 h4 h1
              · obtain rfl : j = k := by omega
                exact HEE.out.symm
            go_region_held3 (fun W => Tch (fun _ => False) wa W ∧ (W.cell? ⟨B, 0, none⟩ = some (.string x.nm) ∧ W.cell? ⟨B, 1, none⟩ = some (.int .i64 x.k) ∧ W.cell? ⟨B, 2, none⟩ = some (.bool x.nl)) ∧ W.cell? ⟨R, k * 3, none⟩ = some (.int .i64 v.k) ∧ W.cell? ⟨R, k * 3 + 1, none⟩ = some (.int .i64 v.n) ∧ W.cell? ⟨R, k * 3 + 2, none⟩ = some (.string v.s))
              ((refine HS3.out _ ?_; first | assumption | exact (Tch.refl _ _).drew))
              ((go_at_call 35; refine (Hq2.out _).mono ?_; rintro y w5 ⟨rfl, t5⟩; have V5 := Tch.trans' (show _ ∧ _ by assumption).1 t5))
            go_wp2_with fail
            go_roundw
            case rel => exact ⟨k + 1, by go_num, by omega, hTa.trans' V5, HK2⟩
            case measure => simp [intOf]; omega
          · have HO : Hid _ := fitR_no (t := t) (vs := vs) HE.out hvl k hkl hkf (by rw [← HEE.out]; exact hE0)
            have hb4 : (E != 0) = true := by simpa using hE0
            clear hE0
            go_region_held3 (fun W => Tch (fun _ => False) wa W ∧ (W.cell? ⟨B, 0, none⟩ = some (.string x.nm) ∧ W.cell? ⟨B, 1, none⟩ = some (.int .i64 x.k) ∧ W.cell? ⟨B, 2, none⟩ = some (.bool x.nl)) ∧ W.cell? ⟨R, k * 3, none⟩ = some (.int .i64 v.k) ∧ W.cell? ⟨R, k * 3 + 1, none⟩ = some (.int .i64 v.n) ∧ W.cell? ⟨R, k * 3 + 2, none⟩ = some (.string v.s))
              ((refine HS3.out _ ?_; first | assumption | exact (Tch.refl _ _).drew))
              ((go_at_call 35; refine (Hq2.out _).mono ?_; rintro y w5 ⟨rfl, t5⟩; have V5 := Tch.trans' (show _ ∧ _ by assumption).1 t5))
            go_wp2_with fail
            go_ret2
            exact ⟨fitOut_no HO.out, (HT3.out.trans' hTa).trans' V5⟩
        · have HO : Hid _ := fitR_ok (t := t) (vs := vs) HE.out hvl (fun j h3 h4 => HK.out j h3 h4 (by have := Hn.out; omega))
          have HOwn : Hid (FitOut t vs w (.returned (.tuple #[.slice (some ⟨R, 0, none⟩) n n, .int .i64 0])) wr) := by
            refine ⟨.slice (some ⟨R, 0, none⟩) n n, by rw [HO.out], ?_⟩
            rw [HO.out]
            refine ⟨vcl_len _, Or.inr ⟨R, n, _, by rw [HFl.out, ← Hn.out], HRl.out, by rw [hT.block R (blk_lt HR3.out) (fun h => h)]; exact HR3.out, by rw [HFl.out, ← Hn.out]; exact Nat.le_refl _, by unfold maxLen; omega, by rw [List.size_toArray, vcl_len, HFl.out, ← Hn.out], ?_⟩⟩
            rw [← vcl_len]; simp
          go_wp2_with fail
          go_ret2
          exact ⟨HOwn.out, HT3.out.trans' hT⟩
  · have HO : Hid _ := fitR_right (t := t) (vs := vs) hE
    obtain ⟨E, hEE⟩ : ∃ E, E = rightE t := ⟨_, rfl⟩
    rw [← hEE] at hE q1 HO
    have hb4 : (E != 0) = true := by simpa using hE
    clear hE hEE
    go_enter Try.func9, Try.ntmps9
    go_wp2_with fail
    rw [← HN.out]
    have hw0 := Hw0.out
    rw [← hw0]
    clear hw0
    refine q1.mono ?_
    rintro x w1 ⟨rfl, t1⟩
    clear q1
    go_wp2_with fail
    go_ret2
    exact ⟨fitOut_no HO.out, T0.trans' t1⟩
end Go.Proofs.Ytblhmjndegfofaa
