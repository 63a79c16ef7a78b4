import Derived.Test.YtkcmpipipelgoaaKAges
/- kept. -/
namespace Go.Proofs.Ytkcmpipipelgoaa
open Go.RowKit Go

set_option maxHeartbeats 2000000 in
set_option maxRecDepth 100000 in
theorem kept_any {w : World} {o : Nat → Nat} {b : Nat} {cur : Array Value} {C T : List Value} {cv tv : Value} {lo : Option Addr} {n lc : Nat} {L : List Fr} (h : LW w o b cur C T cv tv lo n lc L) (hB : C.length + 20 * n ≤ 1000000000000) (hT : T.length ≤ 1000000000000) :
    Calls Try.prog 20 #[.pointer (some ⟨b, 0, none⟩)] w fun x w' => x = .returned (.bool true) ∧ AgesOut w o b cur C T tv n w' := by
  have q1 := ages_any h hB
  clear h
  go_enter Try.func20, Try.ntmps20
  go_wp2_with fail
  refine q1.mono ?_
  rintro x w2 ⟨rfl, hO⟩
  have HO : Hid (AgesOut w o b cur C T tv n w2) := hO
  obtain ⟨o', C', cv', lo', n', lc', L', hL, hC, hn, he⟩ := hO
  obtain ⟨co, cc, hcv, hRC⟩ := hL.cs.read
  obtain ⟨to', tc, htv, hRT⟩ := hL.ts.read
  have b4 : w2.cell? ⟨b, 4, none⟩ = some (.slice co C'.length cc) := by rw [blk_cell hL.blk, ← hcv]; exact hL.c4
  have b5 : w2.cell? ⟨b, 5, none⟩ = some (.slice to' T.length tc) := by rw [blk_cell hL.blk, ← htv]; exact hL.c5
  have KC : Hid _ := hRC
  have KT : Hid _ := hRT
  have lC : C'.length ≤ 1000000000000 := by omega
  obtain ⟨m1, hm1⟩ : ∃ m1, m1 = C'.length := ⟨_, rfl⟩
  obtain ⟨m2, hm2⟩ : ∃ m2, m2 = T.length := ⟨_, rfl⟩
  rw [← hm1] at b4 KC lC
  rw [← hm2] at b5 KT hT
  clear q1 hRC hRT hL hcv htv hC hn he hB hm1 hm2
  go_wp2_with fail
  go_loopw [4] (fun i W => ∃ j : Nat, i = .int .i64 j ∧ j ≤ m1 ∧ W = w2) (fun i _ => m1 - (intOf i).toNat)
  case atStart => exact ⟨0, rfl, by omega, rfl⟩
  case round =>
    obtain ⟨j, rfl, hj, hw⟩ := hrel
    obtain rfl := hw.symm
    by_cases hjl : (j : Int) < m1
    · obtain ⟨G, xo, m, xc, rfl, cj, hm, HQ⟩ := KC.out j (by omega)
      have KQ : Hid _ := HQ
      have hM : ((j / 20 * 20 : Nat) : Int) = (j : Int) / 20 * 20 := by omega
      have HM : Hid _ := hM
      clear HQ hM
      go_wp2_with fail
      go_loopw [5] (fun k W => ∃ q : Nat, k = .int .i64 q ∧ q ≤ m ∧ W = w2) (fun k _ => m - (intOf k).toNat)
      case atStart => exact ⟨0, rfl, by omega, rfl⟩
      case round =>
        obtain ⟨q, rfl, hq, hw⟩ := hrel
        obtain rfl := hw.symm
        by_cases hqm : (q : Int) < m
        · obtain ⟨g, rfl, hgc⟩ := KQ.out q (by omega)
          have hM := HM.out
          have g1 : w2.cell? ⟨g, q * 3 + 1, none⟩ = _ := hgc 1 _ rfl
          rw [hM] at g1
          clear hgc
          clear hM
          go_wp2_with fail
          go_roundw
          case rel => exact ⟨q + 1, by go_num, by omega, by first | rfl | trivial⟩
          case measure => simp [intOf]; omega
        · go_wp2_with fail
          go_roundw
          case rel => exact ⟨j + 1, by go_num, by omega, by first | rfl | trivial⟩
          case measure => simp [intOf]; omega
    · go_wp2_with fail
      go_loopw [6] (fun i W => ∃ j : Nat, i = .int .i64 j ∧ j ≤ m2 ∧ W = w2) (fun i _ => m2 - (intOf i).toNat)
      case atStart => exact ⟨0, rfl, by omega, rfl⟩
      case round =>
        obtain ⟨j, rfl, hj, hw⟩ := hrel
        obtain rfl := hw.symm
        by_cases hjl : (j : Int) < m2
        · obtain ⟨G, xo, m, xc, rfl, cj, hm, HQ⟩ := KT.out j (by omega)
          have KQ : Hid _ := HQ
          have hM : ((j / 20 * 20 : Nat) : Int) = (j : Int) / 20 * 20 := by omega
          have HM : Hid _ := hM
          clear HQ hM
          go_wp2_with fail
          go_loopw [7] (fun k W => ∃ q : Nat, k = .int .i64 q ∧ q ≤ m ∧ W = w2) (fun k _ => m - (intOf k).toNat)
          case atStart => exact ⟨0, rfl, by omega, rfl⟩
          case round =>
            obtain ⟨q, rfl, hq, hw⟩ := hrel
            obtain rfl := hw.symm
            by_cases hqm : (q : Int) < m
            · obtain ⟨g, rfl, hgc⟩ := KQ.out q (by omega)
              have hM := HM.out
              have g0 : w2.cell? ⟨g, q * 5, none⟩ = _ := hgc 0 _ rfl
              rw [hM] at g0
              clear hgc
              clear hM
              go_wp2_with fail
              go_roundw
              case rel => exact ⟨q + 1, by go_num, by omega, by first | rfl | trivial⟩
              case measure => simp [intOf]; omega
            · go_wp2_with fail
              go_roundw
              case rel => exact ⟨j + 1, by go_num, by omega, by first | rfl | trivial⟩
              case measure => simp [intOf]; omega
        · go_wp2_with fail
          go_ret
          exact ⟨rfl, HO.out⟩
end Go.Proofs.Ytkcmpipipelgoaa
