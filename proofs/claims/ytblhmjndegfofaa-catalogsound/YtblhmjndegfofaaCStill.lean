import Derived.Test.YtblhmjndegfofaaCRow
/- still of the book. -/
namespace Go.Proofs.Ytblhmjndegfofaa
open Go.RowKit Go

def mineB : ByteArray := ⟨#[109, 105, 110, 101]⟩
/-- The mark of the columns, of the tables at this place. -/
def mkC (j : Nat) : List Value := [.string ⟨#[109, 105, 110, 101]⟩, .int .i64 (-5 - ((j / 14 * 14 : Nat) : Int)), .bool false]
def mkT (j : Nat) : List Value := [.int .i64 (-5 - ((j / 14 * 14 : Nat) : Int)), .int .i64 0, .string ⟨#[109, 105, 110, 101]⟩, .slice none 0 0, .int .i64 0]
/-- The slices of a list, for reading. -/
theorem LS.read {le : TypeId} {W : World} {F : Nat → Prop} {b : Nat} {mk : Nat → List Value} {A : List Value} {rv : Value} (h : LS le W F b mk A rv) : ∃ ao c, rv = .slice ao A.length c ∧ ∀ j, j < A.length → ∃ G xo m xc, ao = some ⟨G, 0, none⟩ ∧ W.cell? ⟨G, j, none⟩ = some (.slice xo m xc) ∧ m ≤ 100 ∧ ∀ q, q < m → ∃ g, xo = some ⟨g, 0, none⟩ ∧ ∀ i u, (mk j)[i]? = some u → W.cell? ⟨g, q * (mk j).length + i, none⟩ = some u := by
  obtain ⟨ao, c, hv⟩ := row_slice h.all
  refine ⟨ao, c, hv, fun j hj => ?_⟩
  have hall := h.all
  rw [hv] at hall
  obtain ⟨G, rfl, _, hG⟩ := own_at hall (by omega)
  obtain ⟨xo, m, xc, hx, hm, hg⟩ := h.mv j hj
  refine ⟨G, xo, m, xc, rfl, ?_, hm, fun q hq => ?_⟩
  · have := hG j _ (List.getElem?_eq_getElem hj)
    rw [Nat.zero_add, hx] at this
    exact this
  · obtain ⟨g, e, _, _, ha⟩ := hg (by omega)
    refine ⟨g, e, fun i u hu => ?_⟩
    have hi : i < (mk j).length := (List.getElem?_eq_some_iff.1 hu).1
    have := ha (q * (mk j).length + i) u (by rw [rep_get (mk j) m q i hq hi]; exact hu)
    rwa [Nat.zero_add] at this

set_option maxHeartbeats 2000000 in
set_option maxRecDepth 100000 in
theorem still_any (b : Nat) (cur : Array Value) (C T R : List Value) (cv tv rv : Value) (F1 F2 F3 : Nat → Prop) (w : World)
    (hb : w.heap[b]? = some (.cells cur 49 (0, 0))) (hc0 : cur[0]? = some cv) (hc1 : cur[1]? = some tv) (hc2 : cur[2]? = some rv)
    (hC : LS 27 w F1 b mkC C cv) (hT : LS 47 w F2 b mkT T tv) (hR : LS 23 w F3 b mkR R rv) (lC : C.length ≤ 1000000000) (lT : T.length ≤ 1000000000) (lR : R.length ≤ 1000000000) :
    Calls Try.prog 15 #[.pointer (some ⟨b, 0, none⟩)] w fun x w' => x = .returned (.bool true) ∧ w' = w := by
  obtain ⟨co, cc, rfl, HC⟩ := hC.read
  obtain ⟨to, tc, rfl, HT⟩ := hT.read
  obtain ⟨ro, rc, rfl, HR⟩ := hR.read
  have b0 : w.cell? ⟨b, 0, none⟩ = some (.slice co C.length cc) := by rw [blk_cell hb]; exact hc0
  have b1 : w.cell? ⟨b, 1, none⟩ = some (.slice to T.length tc) := by rw [blk_cell hb]; exact hc1
  have b2 : w.cell? ⟨b, 2, none⟩ = some (.slice ro R.length rc) := by rw [blk_cell hb]; exact hc2
  have KC : Hid _ := HC
  have KT : Hid _ := HT
  have KR : Hid _ := HR
  clear HC HT HR hb hc0 hc1 hc2 hC hT hR
  go_enter Try.func15, Try.ntmps15
  go_wp2_with fail
  go_loopw [3] (fun i W => ∃ j : Nat, i = .int .i64 j ∧ j ≤ C.length ∧ W = w) (fun i _ => C.length - (intOf i).toNat)
  case atStart => exact ⟨0, rfl, by omega, rfl⟩
  case round =>
    obtain ⟨j, rfl, hj, hw⟩ := hrel
    obtain rfl := hw.symm
    by_cases hjl : (j : Int) < C.length
    · obtain ⟨G, xo, m, xc, rfl, cj, hm, HQ⟩ := KC.out j (by omega)
      have KQ : Hid _ := HQ
      have hM : ((j / 14 * 14 : Nat) : Int) = (j : Int) / 14 * 14 := by omega
      have HM : Hid _ := hM
      clear HQ hM
      go_wp2_with fail
      go_loopw [4] (fun k W => ∃ q : Nat, k = .int .i64 q ∧ q ≤ m ∧ W = w) (fun k _ => m - (intOf k).toNat)
      case atStart => exact ⟨0, rfl, by omega, rfl⟩
      case round =>
        obtain ⟨q, rfl, hq, hw⟩ := hrel
        obtain rfl := hw.symm
        by_cases hqm : (q : Int) < m
        · obtain ⟨g, rfl, hgc⟩ := KQ.out q (by omega)
          have hM := HM.out
          have g0 : w.cell? ⟨g, q * 3, none⟩ = _ := hgc 0 _ rfl
          have g1 : w.cell? ⟨g, q * 3 + 1, none⟩ = _ := hgc 1 _ rfl
          have g2 : w.cell? ⟨g, q * 3 + 2, none⟩ = _ := hgc 2 _ rfl
          rw [hM] at g1
          obtain ⟨d, hd1, hd⟩ := ne_col ⟨⟨#[109, 105, 110, 101]⟩, -5 - (j : Int) / 14 * 14, false⟩ ⟨⟨#[109, 105, 110, 101]⟩, -5 - (j : Int) / 14 * 14, false⟩
          obtain rfl : d = false := by cases d with
            | false => rfl
            | true => exact absurd rfl (hd1.1 rfl)
          clear hd1 hgc
          clear hM
          go_wp2_with fail
          go_roundw
          case rel => exact ⟨q + 1, by go_num, by omega, by first | rfl | trivial⟩
          case measure => simp [intOf]; omega
        · go_wp2_with fail
          go_roundw
          case rel => exact ⟨j + 1, by go_num, by omega, by first | rfl | trivial⟩
          case measure => simp [intOf]; omega
    · go_wp2_with fail
      go_loopw [5] (fun i W => ∃ j : Nat, i = .int .i64 j ∧ j ≤ T.length ∧ W = w) (fun i _ => T.length - (intOf i).toNat)
      case atStart => exact ⟨0, rfl, by omega, rfl⟩
      case round =>
        obtain ⟨j, rfl, hj, hw⟩ := hrel
        obtain rfl := hw.symm
        by_cases hjl : (j : Int) < T.length
        · obtain ⟨G, xo, m, xc, rfl, cj, hm, HQ⟩ := KT.out j (by omega)
          have KQ : Hid _ := HQ
          have hM : ((j / 14 * 14 : Nat) : Int) = (j : Int) / 14 * 14 := by omega
          have HM : Hid _ := hM
          clear HQ hM
          go_wp2_with fail
          go_loopw [6] (fun k W => ∃ q : Nat, k = .int .i64 q ∧ q ≤ m ∧ W = w) (fun k _ => m - (intOf k).toNat)
          case atStart => exact ⟨0, rfl, by omega, rfl⟩
          case round =>
            obtain ⟨q, rfl, hq, hw⟩ := hrel
            obtain rfl := hw.symm
            by_cases hqm : (q : Int) < m
            · obtain ⟨g, rfl, hgc⟩ := KQ.out q (by omega)
              have hM := HM.out
              have g0 : w.cell? ⟨g, q * 5, none⟩ = _ := hgc 0 _ rfl
              have g2 : w.cell? ⟨g, q * 5 + 2, none⟩ = _ := hgc 2 _ rfl
              rw [hM] at g0
              clear hgc
              clear hM
              go_wp2_with fail
              go_roundw
              case rel => exact ⟨q + 1, by go_num, by omega, by first | rfl | trivial⟩
              case measure => simp [intOf]; omega
            · go_wp2_with fail
              go_roundw
              case rel => exact ⟨j + 1, by go_num, by omega, by first | rfl | trivial⟩
              case measure => simp [intOf]; omega
        · go_wp2_with fail
          go_loopw [7] (fun i W => ∃ j : Nat, i = .int .i64 j ∧ j ≤ R.length ∧ W = w) (fun i _ => R.length - (intOf i).toNat)
          case atStart => exact ⟨0, rfl, by omega, rfl⟩
          case round =>
            obtain ⟨j, rfl, hj, hw⟩ := hrel
            obtain rfl := hw.symm
            by_cases hjl : (j : Int) < R.length
            · obtain ⟨G, xo, m, xc, rfl, cj, hm, HQ⟩ := KR.out j (by omega)
              have KQ : Hid _ := HQ
              have hM : ((j / 14 * 14 : Nat) : Int) = (j : Int) / 14 * 14 := by omega
              have HM : Hid _ := hM
              clear HQ hM
              go_wp2_with fail
              go_loopw [8] (fun k W => ∃ q : Nat, k = .int .i64 q ∧ q ≤ m ∧ W = w) (fun k _ => m - (intOf k).toNat)
              case atStart => exact ⟨0, rfl, by omega, rfl⟩
              case round =>
                obtain ⟨q, rfl, hq, hw⟩ := hrel
                obtain rfl := hw.symm
                by_cases hqm : (q : Int) < m
                · obtain ⟨g, rfl, hgc⟩ := KQ.out q (by omega)
                  have hM := HM.out
                  have g0 : w.cell? ⟨g, q * 3, none⟩ = _ := hgc 0 _ rfl
                  have g1 : w.cell? ⟨g, q * 3 + 1, none⟩ = _ := hgc 1 _ rfl
                  have g2 : w.cell? ⟨g, q * 3 + 2, none⟩ = _ := hgc 2 _ rfl
                  rw [hM] at g0
                  obtain ⟨d, hd1, hd⟩ := ne_val ⟨-5 - (j : Int) / 14 * 14, 0, ⟨#[]⟩⟩ ⟨-5 - (j : Int) / 14 * 14, 0, ⟨#[]⟩⟩
                  obtain rfl : d = false := by cases d with
                    | false => rfl
                    | true => exact absurd rfl (hd1.1 rfl)
                  clear hd1 hgc
                  clear hM
                  go_wp2_with fail
                  go_roundw
                  case rel => exact ⟨q + 1, by go_num, by omega, by first | rfl | trivial⟩
                  case measure => simp [intOf]; omega
                · go_wp2_with fail
                  go_roundw
                  case rel => exact ⟨j + 1, by go_num, by omega, by first | rfl | trivial⟩
                  case measure => simp [intOf]; omega
            · go_wp2_with fail
              go_ret
              exact ⟨rfl, rfl⟩
end Go.Proofs.Ytblhmjndegfofaa
