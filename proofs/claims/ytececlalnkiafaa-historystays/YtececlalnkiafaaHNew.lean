import Derived.Test.YtececlalnkiafaaHPut
/- areRight. -/
namespace Go.Proofs.Ytececlalnkiafaa
open Go.RowKit Go
set_option maxRecDepth 100000

def areGo : Int → List Tbl → Bool
  | _, [] => true
  | a, t :: r => if rightE t ≠ 0 ∨ t.id ≤ a then false else areGo t.id r

set_option maxHeartbeats 2000000 in
theorem areRight_w (P : List (Tbl × Value)) (tv : Option Addr) (tc : Nat) (F : Nat → Prop) (w : World) (hT : TL w F tv P) (hm : P.length ≤ 9223372036854775807) (h9 : ∀ p ∈ P, p.1.cols.length ≤ 9223372036854775807) :
    Calls Try.prog 21 #[.slice tv P.length tc] w fun r w' => r = .returned (.bool (areGo 0 (P.map Prod.fst))) ∧ Tch (fun _ => False) w w' := by
  obtain ⟨L, hL⟩ : ∃ L, L = P.length := ⟨_, rfl⟩
  have HL : Hid (L = P.length) := hL
  have HT : Hid (TL w F tv P) := hT
  have H9 : Hid (∀ p ∈ P, p.1.cols.length ≤ 9223372036854775807) := h9
  rw [← hL] at hm ⊢
  clear hT hL h9
  go_enter Try.func21, Try.ntmps21
  go_wp2_with fail
  go_loopg [3, 5, 8] L (fun kx s3 s5 s8 wr => ∃ (k : Nat) (a : Int), s3 = .int .i64 a ∧ s8 = .int .i64 k ∧ L - k ≤ kx ∧ k ≤ L ∧ Hid (Tch (fun _ => False) w wr ∧ areGo 0 (P.map Prod.fst) = areGo a ((P.map Prod.fst).drop k)))
  case atStart => exact ⟨0, 0, rfl, rfl, by omega, by omega, Tch.refl _ _, rfl⟩
  case round =>
    rename World => wr
    obtain ⟨k, a, rfl, rfl, hkx, hkl, J⟩ := hrel
    by_cases hk : k < L
    · have hk' : (k : Int) < (L : Int) := by omega
      have hkP : k < P.length := by have := HL.out; omega
      have hTr := HT.out.tch J.out.1 (fun _ _ e => e.elim)
      obtain ⟨g, o, hto, x0, x1, x2, x3, x4⟩ := hTr.at k hkP
      obtain ⟨co, cc, hc⟩ := hTr.col k hkP
      have hcle := H9.out _ (List.getElem_mem hkP)
      obtain ⟨p, hp⟩ : ∃ p, p = P[k] := ⟨_, rfl⟩
      rw [← hp] at x0 x1 x2 x3 x4 hc hcle
      rw [hc.eq] at x3
      have HC : Hid (CK wr F p co cc) := hc
      subst hto
      obtain ⟨N, hN⟩ : ∃ N, N = wr.heap.size := ⟨_, rfl⟩
      obtain ⟨w1, hw1⟩ : ∃ w1, w1 = wr.alloc (.cells #[.int .i64 p.1.id, .int .i64 p.1.ver, .string p.1.nm, .slice co p.1.cols.length cc, .int .i64 p.1.key] 36) := ⟨_, rfl⟩
      have t1 : Tch (fun _ => False) wr w1 := by rw [hw1]; exact Tch.alloc _ _ _
      have bN : w1.heap[N]? = some (.cells #[.int .i64 p.1.id, .int .i64 p.1.ver, .string p.1.nm, .slice co p.1.cols.length cc, .int .i64 p.1.key] 36 (0, 0)) := by rw [hw1, hN]; exact alloc_new _ _
      have q1 := right_any p.1 co cc w1 (hc.sl.no t1) hc.cap hcle
      obtain ⟨rt, hrt⟩ : ∃ rt, rt = rightE p.1 := ⟨_, rfl⟩
      rw [← hrt] at q1
      have HR : Hid (rt = rightE p.1) := hrt
      have HT1 : Hid (Tch (fun _ => False) w w1) := J.out.1.trans' t1
      have HB1 : Hid _ := bN
      have HW1 : Hid (w1 = _) := hw1
      have HN : Hid (N = wr.heap.size) := hN
      have HG : Hid (areGo 0 (P.map Prod.fst) = if rt ≠ 0 ∨ p.1.id ≤ a then false else areGo p.1.id ((P.map Prod.fst).drop (k + 1))) := by
        show _ = _
        rw [J.out.2, List.drop_eq_getElem_cons (by rw [List.length_map]; exact hkP), hrt, hp, List.getElem_map]
        rfl
      have y0 : w1.cell? ⟨N, 0, none⟩ = some (.int .i64 p.1.id) := blk_cell bN 0
      have y1 : w1.cell? ⟨N, 1, none⟩ = some (.int .i64 p.1.ver) := blk_cell bN 1
      have y2 : w1.cell? ⟨N, 2, none⟩ = some (.string p.1.nm) := blk_cell bN 2
      have y3 : w1.cell? ⟨N, 3, none⟩ = some (.slice co p.1.cols.length cc) := blk_cell bN 3
      have y4 : w1.cell? ⟨N, 4, none⟩ = some (.int .i64 p.1.key) := blk_cell bN 4
      clear hp hc hw1 hN t1 bN hrt hTr hcle hkP
      go_upto_region 5 with (fail)
      rw [← HW1.out, ← HN.out]
      clear x0 x1 x2 x3 x4
      go_wp2_with fail
      refine q1.mono ?_
      rintro e w2 ⟨rfl, t2⟩
      have b2 := (t2.block N (blk_lt HB1.out) (fun e => e)).trans HB1.out
      have HT2 : Hid (Tch (fun _ => False) w w2) := HT1.out.trans' t2
      clear q1 y0 y1 y2 y3 y4 t2
      have y0 : w2.cell? ⟨N, 0, none⟩ = some (.int .i64 p.1.id) := blk_cell b2 0
      clear b2
      by_cases hr : rt = 0
      · have hrb : (rt != 0) = false := by simp [hr]
        by_cases hle : p.1.id ≤ a
        · go_wp2_with fail
          go_ret
          exact ⟨by rw [HG.out, if_pos (.inr hle)]; rfl, HT2.out⟩
        · have HJ : Hid (Tch (fun _ => False) w w2 ∧ areGo 0 (P.map Prod.fst) = areGo p.1.id ((P.map Prod.fst).drop (k + 1))) := ⟨HT2.out, by rw [HG.out, if_neg (by simp [hr]; omega)]⟩
          go_wp2_with fail
          go_roundg (L - (k + 1))
          case measure => omega
          case rel => exact ⟨k + 1, p.1.id, rfl, rfl, by omega, by omega, HJ⟩
      · have hrb : (rt != 0) = true := by simp [hr]
        go_wp2_with fail
        go_ret
        exact ⟨by rw [HG.out, if_pos (.inl hr)]; rfl, HT2.out⟩
    · have hk' : ¬ (k : Int) < (L : Int) := by omega
      go_wp2_with fail
      go_ret
      refine ⟨?_, J.out.1⟩
      rw [J.out.2, List.drop_eq_nil_of_le (by rw [List.length_map]; have := HL.out; omega)]
      rfl
end Go.Proofs.Ytececlalnkiafaa
