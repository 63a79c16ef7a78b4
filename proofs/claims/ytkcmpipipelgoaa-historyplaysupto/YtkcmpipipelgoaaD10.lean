import Derived.Test.YtkcmpipipelgoaaD8
import Derived.Test.YtkcmpipipelgoaaD9
/- The document's List. -/
namespace Go.Proofs.Ytkcmpipipelgoaa
open Go.RowKit Go
set_option maxRecDepth 100000

/-- What the document's List gives. -/
def DListOut (h : Dh) (x : Int) (N : Nat) (r : Ending) (w' : World) : Prop :=
  (x < h.b ∧ r = .returned (.tuple #[.slice none 0 0, .int .i64 170])) ∨ (h.b ≤ x ∧ ∃ ids tv P, IdL ids h.L ∧ r = .returned (.tuple #[tv, .int .i64 0]) ∧ P.map Prod.fst = dtells h x ids ∧ TO w' N tv P)

set_option maxHeartbeats 2000000 in
theorem dlist_f {w : World} {F : Nat → Prop} {b : Nat} {h : Dh} (H : DF w F b h) (x : Int) (hl : h.L.length ≤ 1099511627776) :
    Calls Try.prog 36 #[.pointer (some ⟨b, 0, none⟩), .int .i64 x] w fun r w' => DListOut h x w.heap.size r w' ∧ Tch (fun _ => False) w w' := by
  have c0 : w.cell? ⟨b, 0, none⟩ = some (.int .i64 h.b) := by obtain ⟨lo, lc, H⟩ := H; exact blk_cell H.blk 0
  have q1 := dids_f H hl
  have HH : Hid (DF w F b h) := H
  have HL0 : Hid (h.L.length ≤ 1099511627776) := hl
  clear H hl
  go_enter Try.func36, Try.ntmps36
  by_cases hlt : x < h.b
  · go_wp2_with fail
    go_ret2
    exact ⟨.inl ⟨hlt, rfl⟩, Tch.refl _ _⟩
  · go_wp2_with fail
    refine q1.mono ?_
    rintro e w2 ⟨v, rfl, ids, hids, hv, t2⟩
    obtain ⟨vo, vc, rfl⟩ := row_slice hv
    obtain ⟨L, hL⟩ : ∃ L, L = ids.length := ⟨_, rfl⟩
    have hlen' : L ≤ 1099511627776 := by have := HL0.out; have := hids.2.2; omega
    rw [← hL] at hv ⊢
    have HL : Hid (L = ids.length) := hL
    have HI : Hid (IdL ids h.L) := hids
    have HV : Hid (w2.ownsRow w.heap.size 3 1 (.slice vo L vc) L (ids.map encZ)) := hv
    have HT2 : Hid (Tch (fun _ => False) w w2) := t2
    have HH2 : Hid (DF w2 F b h) := HH.out.no t2
    have hL9 : L ≤ 9223372036854775807 := by omega
    have Hlt : Hid (h.b ≤ x) := by show _ ≤ _; omega
    have HJ0 : Hid (TO w2 w2.heap.size (.slice none 0 0) [] ∧ ([] : List (Tbl × Value)).map Prod.fst = dtells h x (ids.take 0) ∧ Tch (fun _ => False) w2 w2) := ⟨⟨⟨rfl, .inl ⟨rfl, rfl⟩⟩, fun i hi => by simp at hi, fun i hi => by simp at hi, fun i j hi => by simp at hi⟩, rfl, Tch.refl _ _⟩
    clear q1 hids hv t2 hL c0 hlt
    go_wp2_with fail
    go_loopg [6, 8, 9, 10] L (fun kx s6 s8 s9 s10 wr => ∃ (k m : Nat) (lo : Option Addr) (lc : Nat) (P : List (Tbl × Value)), s6 = .slice lo m lc ∧ s8 = .int .i64 k ∧ L - k ≤ kx ∧ k ≤ L ∧ m ≤ k ∧ Hid (m = P.length) ∧ Hid (TO wr w2.heap.size (.slice lo m lc) P ∧ P.map Prod.fst = dtells h x (ids.take k) ∧ Tch (fun _ => False) w2 wr))
    case atStart => exact ⟨0, 0, none, 0, [], rfl, rfl, by omega, by omega, by omega, rfl, HJ0⟩
    case round =>
      rename World => wr
      obtain ⟨k, m, lo, lc, P, rfl, rfl, hkx, hkl, hmk, Hm, J⟩ := hrel
      by_cases hk : k < L
      · have hk' : (k : Int) < (L : Int) := by omega
        obtain ⟨i, hi⟩ : ∃ i, ids[k]? = some i := ⟨_, List.getElem?_eq_getElem (by have := HL.out; omega)⟩
        obtain ⟨g, hg, hgl, hat⟩ := own_at HV.out (by omega)
        subst hg
        have x0 : wr.cell? ⟨g, k, none⟩ = some (.int .i64 i) := by
          have : w2.cell? ⟨g, 0 + k, none⟩ = some (.int .i64 i) := hat k _ (by rw [List.getElem?_map, hi]; rfl)
          rw [Nat.zero_add] at this
          exact (J.out.2.2.cell (p := ⟨g, k, none⟩) (cell_lt this) (fun e => e)).trans this
        have HJr := HH2.out.no J.out.2.2
        have q2 := dat_f HJr x i (by have := HL0.out; omega)
        have HTl : Hid (dtells h x (ids.take (k + 1)) = dtells h x (ids.take k) ++ (if (dwas h.L x i).th = true then [(dwas h.L x i).t] else [])) := by
          show _ = _
          unfold dtells
          rw [List.take_add_one, hi, List.filter_append, List.map_append]
          congr 1
          cases hth : (dwas h.L x i).th <;> simp [hth]
        have HD : Hid ((datE h x i = 0 ∧ (dwas h.L x i).th = true ∧ datT h x i = (dwas h.L x i).t) ∨ (datE h x i = 170 ∧ (dwas h.L x i).th = false)) := by
          show _ ∨ _
          have e0 : datE h x i = if (dwas h.L x i).th = true then 0 else 170 := by unfold datE; rw [if_neg (by have := Hlt.out; omega)]
          cases hth : (dwas h.L x i).th with
          | true => rw [hth] at e0; exact .inl ⟨e0, rfl, by unfold datT; rw [e0]; rfl⟩
          | false => rw [hth] at e0; exact .inr ⟨e0, rfl⟩
        obtain ⟨T, hT⟩ : ∃ T, T = datT h x i := ⟨_, rfl⟩
        obtain ⟨E, hE⟩ : ∃ E, E = datE h x i := ⟨_, rfl⟩
        rw [← hT, ← hE] at q2 HD
        clear hat hgl hi HJr hT hE
        go_wp2_with fail
        refine q2.mono ?_
        rintro e w3 ⟨⟨v, rfl, hv⟩, t3⟩
        obtain ⟨vo5, vc5, rfl⟩ := row_slice hv
        clear q2 x0
        obtain ⟨M, hM⟩ : ∃ M, M = w3.heap.size := ⟨_, rfl⟩
        obtain ⟨w4, hw4⟩ : ∃ w4, w4 = w3.alloc (.cells #[.int .i64 T.id, .int .i64 T.ver, .string T.nm, .slice vo5 T.cols.length vc5, .int .i64 T.key] 36) := ⟨_, rfl⟩
        have t4 : Tch (fun _ => False) w3 w4 := by rw [hw4]; exact Tch.alloc _ _ _
        have bM : w4.heap[M]? = some (.cells #[.int .i64 T.id, .int .i64 T.ver, .string T.nm, .slice vo5 T.cols.length vc5, .int .i64 T.key] 36 (0, 0)) := by rw [hw4, hM]; exact alloc_new _ _
        have HT4 : Hid (Tch (fun _ => False) wr w4) := t3.trans' t4
        have HV5 : Hid (w4.ownsRow wr.heap.size 80 3 (.slice vo5 T.cols.length vc5) T.cols.length (ccl T.cols)) := own_tch hv t4 (fun _ _ e => e)
        have HW4 : Hid (w4 = _) := hw4
        have HM : Hid (M = w3.heap.size) := hM
        have HBM : Hid _ := bM
        clear hw4 hM t3 t4 hv
        go_upto_region 9 with (fail)
        rw [← HW4.out, ← HM.out]
        rcases HD.out with ⟨h1, h2, h3⟩ | ⟨h1, h2⟩
        · subst h1
          have m0 : w4.cell? ⟨M, 0, none⟩ = some (.int .i64 T.id) := blk_cell bM 0
          have m1 : w4.cell? ⟨M, 1, none⟩ = some (.int .i64 T.ver) := blk_cell bM 1
          have m2 : w4.cell? ⟨M, 2, none⟩ = some (.string T.nm) := blk_cell bM 2
          have m3 : w4.cell? ⟨M, 3, none⟩ = some (.slice vo5 T.cols.length vc5) := blk_cell bM 3
          have m4 : w4.cell? ⟨M, 4, none⟩ = some (.int .i64 T.key) := blk_cell bM 4
          obtain ⟨i0, hi0, hz0, hz1, hz2⟩ := info_parts info_tbl
          obtain ⟨w6, hw6⟩ : ∃ w6, w6 = w4.alloc (.cells #[.int .i64 T.id, .int .i64 T.ver, .string T.nm, .slice vo5 T.cols.length vc5, .int .i64 T.key] 36) := ⟨_, rfl⟩
          have t6 : Tch (fun _ => False) w4 w6 := by rw [hw6]; exact Tch.alloc _ _ _
          have b6 : w6.heap[w4.heap.size]? = some (.cells (tcs (T, .slice vo5 T.cols.length vc5)).toArray 36 (0, 0)) := by rw [hw6]; exact alloc_new _ _
          have hTO6 := J.out.1.tch (HT4.out.trans' t6) (fun _ _ _ e => e)
          have hsz2 : w2.heap.size ≤ wr.heap.size := J.out.2.2.size
          have hv6 : w6.ownsRow wr.heap.size 80 3 (.slice vo5 T.cols.length vc5) T.cols.length (ccl T.cols) := own_tch HV5.out t6 (fun _ _ e => e)
          have ho6 : w6.ownsRow w2.heap.size 36 5 (.slice lo m lc) m (tcl P) := by have := hTO6.own; rw [← Hm.out] at this; exact this
          obtain ⟨v7, w7, hr7, hown7, hgr7, _, hat7⟩ := run_append_own_at (P := Try.prog) w6 w2.heap.size 41 41 36 i0 _ 5 64 Try.underlying41 hi0 hz0 hz1 hz2 rfl (by decide) _ _ _ ho6 ⟨w4.heap.size, 0, none⟩ 1 1 (tcs (T, .slice vo5 T.cols.length vc5)) rfl (fun j u hu => by rw [add_plain, Nat.zero_add, blk_cell b6, List.getElem?_toArray]; exact hu) (tcs_one _ _ _ _) (by unfold maxLen; omega) (by omega) (by have := HT4.out.size; have := t6.size; omega)
          obtain ⟨o7, c7, rfl⟩ := row_slice hown7
          have t7 : Tch (fun g => (Value.slice lo m lc).ownBlock = some g) w6 w7 := Tch.of_grown hgr7 (fun g e => e)
          have hTO7 : TO w7 w2.heap.size (.slice o7 (m + 1) c7) (P ++ [(T, .slice vo5 T.cols.length vc5)]) := by
            refine hTO6.snoc (p := (T, .slice vo5 T.cols.length vc5)) (own_low hv6 hsz2) (fun g e => ?_) (by rw [← Hm.out]; exact hown7) t7 hat7
            have h1 := row_ge HV5.out e
            refine ⟨fun e2 => ?_, fun j hj e2 => ?_⟩
            · have := (J.out.1.own.lt g e2).2; omega
            · have := ((J.out.1.col j hj).lt g e2).2; omega
          have HJ7 : Hid (TO w7 w2.heap.size (.slice o7 (m + 1) c7) (P ++ [(T, .slice vo5 T.cols.length vc5)]) ∧ (P ++ [(T, Value.slice vo5 T.cols.length vc5)]).map Prod.fst = dtells h x (ids.take (k + 1)) ∧ Tch (fun _ => False) w2 w7) := ⟨hTO7, by rw [HTl.out, List.map_append, J.out.2.1, if_pos h2, h3]; rfl, ((J.out.2.2.trans' HT4.out).trans' t6).trans t7 (fun g hg e => by have := (ho6.lt g e).1; omega)⟩
          have Hm7 : Hid (m + 1 = (P ++ [(T, Value.slice vo5 T.cols.length vc5)]).length) := by have := Hm.out; show _ = _; rw [List.length_append, List.length_singleton]; omega
          rw [hw6] at hr7
          clear hi0 hz0 hz1 hz2 hw6 t6 b6 hTO6 hsz2 hv6 ho6 hown7 hgr7 hat7 t7 hTO7 h2 h3 bM
          go_wp2_with (at_builtin; refine wpList_app _ rfl _ _ 41 rfl rfl _ _ rfl rfl hr7 ?_)
          go_roundg (L - (k + 1))
          case measure => omega
          case rel => exact ⟨k + 1, m + 1, o7, c7, _, rfl, rfl, by omega, by omega, by omega, Hm7, HJ7⟩
        · subst h1
          have HJ4 : Hid (TO w4 w2.heap.size (.slice lo m lc) P ∧ P.map Prod.fst = dtells h x (ids.take (k + 1)) ∧ Tch (fun _ => False) w2 w4) := ⟨J.out.1.tch HT4.out (fun _ _ _ e => e), by rw [HTl.out, J.out.2.1, h2]; simp, J.out.2.2.trans' HT4.out⟩
          clear bM h2
          go_wp2_with fail
          go_roundg (L - (k + 1))
          case measure => omega
          case rel => exact ⟨k + 1, m, lo, lc, P, rfl, rfl, by omega, by omega, by omega, Hm, HJ4⟩
      · have hk' : ¬ (k : Int) < (L : Int) := by omega
        go_wp2_with fail
        go_ret2
        have e9 : ids.take k = ids := List.take_of_length_le (by have := HL.out; omega)
        obtain ⟨j1, j2, j3⟩ := J.out
        rw [e9] at j2
        have hsz := HT2.out.size
        exact ⟨.inr ⟨by have := Hlt.out; omega, ids, _, P, HI.out, rfl, j2, ⟨own_low j1.own hsz, fun i hi => own_low (j1.col i hi) hsz, j1.sep, j1.dis⟩⟩, HT2.out.trans' j3⟩
end Go.Proofs.Ytkcmpipipelgoaa
