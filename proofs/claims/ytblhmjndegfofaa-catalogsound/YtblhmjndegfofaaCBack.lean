import Derived.Test.YtblhmjndegfofaaCLent
/- back of the law. -/
namespace Go.Proofs.Ytblhmjndegfofaa
open Go.RowKit Go

theorem lentC_lt (l : List Col) (k : Nat) (hk : k < l.length) (h : k < (lentC l).length) : (lentC l)[k] = l[k] := by simp [lentC, hk]
theorem set3_cells {W : World} {g c q : Nat} {t : TypeId} {cur : Array Value} (hh : W.heap[g]? = some (.cells cur t (0, 0))) (hs : cur.size = c * 3) (hq : q < c) (v0 v1 : Value) :
    (∃ y, W.cell? ⟨g, q * 3, none⟩ = some y) ∧ (∃ y, (W.setCell ⟨g, q * 3, none⟩ v0).cell? ⟨g, q * 3 + 1, none⟩ = some y) ∧ (∃ y, ((W.setCell ⟨g, q * 3, none⟩ v0).setCell ⟨g, q * 3 + 1, none⟩ v1).cell? ⟨g, q * 3 + 2, none⟩ = some y) ∧ ∀ j, W.frozen? ⟨g, j, none⟩ = false := by
  refine ⟨⟨cur[q * 3]'(by omega), by rw [blk_cell hh]; exact Array.getElem?_eq_getElem _⟩, ⟨cur[q * 3 + 1]'(by omega), ?_⟩, ⟨cur[q * 3 + 2]'(by omega), ?_⟩, fun j => blk_frozen hh j⟩
  · rw [World.cell?_setCell_other (h := by intro e; injection e; omega), blk_cell hh]; exact Array.getElem?_eq_getElem _
  · rw [World.cell?_setCell_other (h := by intro e; injection e; omega), World.cell?_setCell_other (h := by intro e; injection e; omega), blk_cell hh]; exact Array.getElem?_eq_getElem _
/-- A block of so many cells. -/
def BS (t : TypeId) (W : World) (g n : Nat) : Prop := ∃ cur : Array Value, W.heap[g]? = some (.cells cur t (0, 0)) ∧ cur.size = n
theorem BS.set {t : TypeId} {W : World} {g n : Nat} (h : BS t W g n) (j : Nat) (v : Value) : BS t (W.setCell ⟨g, j, none⟩ v) g n := by
  obtain ⟨cur, h1, h2⟩ := h
  exact ⟨_, blk_set h1 v, by simp [h2]⟩
theorem BS.tch {S : Nat → Prop} {t : TypeId} {W W' : World} {g n : Nat} (h : BS t W g n) (tc : Tch S W W') (hS : ¬ S g) : BS t W' g n := by
  obtain ⟨cur, h1, h2⟩ := h
  exact ⟨cur, by rw [tc.block g (blk_lt h1) hS]; exact h1, h2⟩

set_option maxHeartbeats 1000000 in
set_option maxRecDepth 100000 in
theorem back_any (l : List Col) (ao : Option Addr) (c g : Nat) (w : World) (h : SL w ao (ccl l)) (hb : w.heap[g]? = some (.cells (ccl (lentC l)).toArray 34 (0, 0))) (hlen : l.length * 32 ≤ 140737488351232) :
    Calls Try.prog 47 #[.slice (some ⟨g, 0, none⟩) (l.length + 2) (l.length + 2), .slice ao l.length c] w fun x w' => x = .returned (.bool true) ∧ Tch (fun i => i = g) w w' := by
  have hn : (l.length : Int) ≤ 4398046510976 := by omega
  have hll := lentC_len l
  have ha : At w g 0 (ccl (lentC l)) := blk_at hb
  have c0 : w.cell? ⟨g, l.length * 3, none⟩ = some (.string ⟨#[98, 101, 104, 105, 110, 100]⟩) := by
    have := (ha.col l.length (by omega)).1
    simpa [lentC] using this
  have c1 : w.cell? ⟨g, (l.length + 1) * 3, none⟩ = some (.string ⟨#[102, 97, 114]⟩) := by
    have := (ha.col (l.length + 1) (by omega)).1
    simpa [lentC] using this
  have HA : Hid (∀ W, Tch (fun _ => False) w W → ∀ k (hk : k < l.length), (∃ gl o, ao = some ⟨gl, o, none⟩ ∧ W.cell? ⟨gl, o + k * 3, none⟩ = some (.string l[k].nm) ∧ W.cell? ⟨gl, o + k * 3 + 1, none⟩ = some (.int .i64 l[k].k) ∧ W.cell? ⟨gl, o + k * 3 + 2, none⟩ = some (.bool l[k].nl)) ∧ W.cell? ⟨g, k * 3, none⟩ = some (.string l[k].nm) ∧ W.cell? ⟨g, k * 3 + 1, none⟩ = some (.int .i64 l[k].k) ∧ W.cell? ⟨g, k * 3 + 2, none⟩ = some (.bool l[k].nl)) := fun W t k hk => by
    obtain ⟨gl, o, e, hl⟩ := (h.no t).col hk
    have h2 := (ha.tch t (fun _ h => h)).col k (by omega)
    rw [lentC_lt l k hk, Nat.zero_add] at h2
    exact ⟨⟨gl, o, e, hl.col k hk⟩, h2⟩
  have HBS : Hid (∀ W, Tch (fun _ => False) w W → BS 34 W g ((l.length + 2) * 3)) := fun W t => (show BS 34 w g ((l.length + 2) * 3) from ⟨_, hb, by rw [List.size_toArray, ccl_len, hll]⟩).tch t (fun h => h)
  clear ha hb h hll
  obtain ⟨n, hnn⟩ : ∃ n, n = l.length := ⟨_, rfl⟩
  have HN : Hid (n = l.length) := hnn
  rw [← hnn] at hn c0 c1 HBS ⊢
  clear hlen hnn
  go_enter Try.func47, Try.ntmps47
  go_wp2_with fail
  go_loopw [5, 6] (fun ok i wr => ok = .bool true ∧ ∃ k : Nat, i = .int .i64 k ∧ k ≤ n ∧ Tch (fun _ => False) w wr) (fun _ i _ => n - (intOf i).toNat)
  case atStart => exact ⟨rfl, 0, rfl, by omega, Tch.refl _ _⟩
  case round =>
    obtain ⟨rfl, k, rfl, hk, hT⟩ := hrel
    by_cases hlt : (k : Int) < n
    · have hkl : k < l.length := by have := HN.out; omega
      obtain ⟨⟨gl, o, rfl, a0, a1, a2⟩, b0, b1, b2⟩ := HA.out _ hT k hkl
      obtain ⟨x, hx⟩ : ∃ x, x = l[k] := ⟨_, rfl⟩
      rw [← hx] at a0 a1 a2 b0 b1 b2
      obtain ⟨d, hd1, hd⟩ := eql_col x x
      obtain rfl : d = true := hd1.2 rfl
      have hk2 : (k : Int) < n + 2 := by omega
      clear hd1 hx c0 c1
      go_wp2_with fail
      go_quiet (fail)
      go_wp2_with fail
      go_roundw
      case rel => exact ⟨rfl, k + 1, by go_num, by omega, hT.drewN _⟩
      case measure => simp [intOf]; omega
    · have HB2 : Hid _ := HBS.out _ hT
      clear HA HBS c0 c1
      obtain ⟨wV, hwV⟩ : ∃ wV, wV = wr := ⟨_, rfl⟩
      subst hwV
      go_wp2_with fail
      go_loopw [7] (fun i wr => ∃ q : Nat, i = .int .i64 q ∧ q ≤ n + 2 ∧ Hid (BS 34 wr g ((n + 2) * 3)) ∧ Tch (fun i => i = g) w wr) (fun i _ => n + 2 - (intOf i).toNat)
      case atStart => exact ⟨0, rfl, by omega, HB2, hT.mono (fun _ _ h => h.elim)⟩
      case round =>
        obtain ⟨q, rfl, hq, HB3, hT3⟩ := hrel
        by_cases hqn : (q : Int) < n + 2
        · obtain ⟨cur, hh, hs⟩ := HB3.out
          obtain ⟨⟨y0, e0⟩, ⟨y1, e1⟩, ⟨y2, e2⟩, hf⟩ := set3_cells hh hs (by omega : q < n + 2) (.string ⟨#[116, 117, 114, 110, 101, 100]⟩) (.int .i64 7)
          have f0 := hf (q * 3); have f1 := hf (q * 3 + 1); have f2 := hf (q * 3 + 2)
          have HB4 : Hid (BS 34 (((wr.setCell ⟨g, q * 3, none⟩ (.string ⟨#[116, 117, 114, 110, 101, 100]⟩)).setCell ⟨g, q * 3 + 1, none⟩ (.int .i64 7)).setCell ⟨g, q * 3 + 2, none⟩ (.bool false)) g ((n + 2) * 3)) := ((BS.set HB3.out _ _).set _ _).set _ _
          clear hf hs hh
          go_wp2_with fail
          go_roundw
          case rel => exact ⟨q + 1, by go_num, by omega, HB4, ((hT3.setCellR ⟨g, q * 3, none⟩ _ rfl).setCellR ⟨g, q * 3 + 1, none⟩ _ rfl).setCellR ⟨g, q * 3 + 2, none⟩ _ rfl⟩
          case measure => simp [intOf]; omega
        · go_wp2_with fail
          go_ret
          exact ⟨rfl, hT3⟩
end Go.Proofs.Ytblhmjndegfofaa
