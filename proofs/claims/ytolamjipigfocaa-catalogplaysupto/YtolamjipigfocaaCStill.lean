import Derived.Test.YtolamjipigfocaaCCopy
/- lent, back, sameRow of the law. -/
namespace Go.Proofs.Ytolamjipigfocaa
open Go.RowKit Go

def EqOut (xs ys : List Val) (w : World) (x : Ending) (w' : World) : Prop := ∃ b : Bool, x = .returned (.bool b) ∧ (b = true ↔ xs = ys) ∧ ∃ m, w' = w.drewN m
set_option maxHeartbeats 2000000 in
set_option maxRecDepth 100000 in
theorem sameRow_any (xs ys : List Val) (ao bo : Option Addr) (ca cb : Nat) (w : World) (ha : SL w ao (vcl xs)) (hb : SL w bo (vcl ys)) (h1 : xs.length ≤ 9223372036854775807) :
    Calls Try.prog 66 #[.slice ao xs.length ca, .slice bo ys.length cb] w fun x w' => EqOut xs ys w x w' := by
  by_cases hl : xs.length = ys.length
  · have HA : Hid (∀ m, SL (w.drewN m) ao (vcl xs)) := fun m => ha.no ((Tch.refl _ w).drewN m)
    have HB : Hid (∀ m, SL (w.drewN m) bo (vcl ys)) := fun m => hb.no ((Tch.refl _ w).drewN m)
    have HL : Hid (xs.length = ys.length) := hl
    obtain ⟨n, hn⟩ : ∃ n, n = xs.length := ⟨_, rfl⟩
    have hn2 : n = ys.length := by omega
    rw [← hn, ← hn2]
    have HN : Hid (n = xs.length ∧ n = ys.length) := ⟨hn, hn2⟩
    rw [← hn] at h1
    clear ha hb hl hn hn2
    go_enter Try.func66, Try.ntmps66
    go_wp2_with fail
    go_loopw [5] (fun i wr => ∃ (k m : Nat), i = .int .i64 k ∧ k ≤ n ∧ Hid (∀ j (h1 : j < xs.length) (h2 : j < ys.length), j < k → xs[j] = ys[j]) ∧ wr = w.drewN m) (fun i _ => n - (intOf i).toNat)
    case atStart => exact ⟨0, 0, rfl, by omega, fun j _ _ h => by omega, rfl⟩
    case round =>
      obtain ⟨k, m, rfl, hk, HE, hwr⟩ := hrel
      by_cases hlt : (k : Int) < n
      · have hA := HA.out m
        have hB := HB.out m
        rw [← hwr] at hA hB
        have hx : k < xs.length := by have := HN.out.1; omega
        have hy : k < ys.length := by have := HN.out.2; omega
        obtain ⟨ga, oa, rfl, hra⟩ := hA.val hx
        obtain ⟨gb, ob, rfl, hrb⟩ := hB.val hy
        obtain ⟨a0, a1, a2⟩ := hra.val k hx
        obtain ⟨b0, b1, b2⟩ := hrb.val k hy
        have HW : Hid (wr = w.drewN m) := hwr
        obtain ⟨u, hu⟩ : ∃ u, u = xs[k] := ⟨_, rfl⟩
        obtain ⟨v, hv⟩ : ∃ v, v = ys[k] := ⟨_, rfl⟩
        rw [← hu] at a0 a1 a2
        rw [← hv] at b0 b1 b2
        have HU : Hid (u = xs[k] ∧ v = ys[k]) := ⟨hu, hv⟩
        clear hA hB hra hrb hwr hu hv
        obtain ⟨d, hd1, hd⟩ := ne_val u v
        have HD : Hid (d = true ↔ u ≠ v) := hd1
        clear hd1
        cases d with
        | true =>
          go_wp2_with fail
          go_quiet (fail)
          go_wp2
          go_ret
          refine ⟨false, rfl, ⟨fun h => by simp at h, fun h => ?_⟩, m + nq, by rw [HW.out, World.drewN_drewN]⟩
          exact absurd (by rw [HU.out.1, HU.out.2]; subst h; rfl) (HD.out.1 (by trivial))
        | false =>
          have HE2 : Hid (∀ j (h1 : j < xs.length) (h2 : j < ys.length), j < k + 1 → xs[j] = ys[j]) := fun j h1 h2 hj => by
            rcases Nat.lt_or_ge j k with h | h
            · exact HE.out j h1 h2 h
            · obtain rfl : j = k := by omega
              rw [← HU.out.1, ← HU.out.2]
              exact Classical.byContradiction fun hne => by have := HD.out.2 hne; simp at this
          go_wp2_with fail
          go_quiet (fail)
          go_wp2
          go_roundw
          case rel => exact ⟨k + 1, m + nq, by go_num, by omega, HE2, by rw [HW.out, World.drewN_drewN]⟩
          case measure => simp [intOf]; omega
      · have HW : Hid (wr = w.drewN m) := hwr
        clear hwr
        go_wp2
        go_ret
        refine ⟨true, rfl, ⟨fun _ => ?_, fun _ => rfl⟩, m, HW.out⟩
        exact List.ext_getElem HL.out (fun j h1 h2 => HE.out j h1 h2 (by have := HN.out.1; omega))
  · have hl' : ((xs.length : Int) != ys.length) = true := by simp; omega
    clear ha hb
    go_enter Try.func66, Try.ntmps66
    go_wp2
    go_ret
    exact ⟨false, rfl, ⟨fun h => by simp at h, fun h => absurd (by rw [h]) hl⟩, 0, rfl⟩


/-- What is lent, with what stands behind it. -/
def lentC (l : List Col) : List Col := l ++ [⟨⟨#[98, 101, 104, 105, 110, 100]⟩, 0, false⟩, ⟨⟨#[102, 97, 114]⟩, 0, false⟩]
def lentV (l : List Val) : List Val := l ++ [⟨0, 0, ⟨#[98, 101, 104, 105, 110, 100]⟩⟩, ⟨0, 0, ⟨#[102, 97, 114]⟩⟩]
theorem lentC_len (l : List Col) : (lentC l).length = l.length + 2 := by simp [lentC]
theorem lentV_len (l : List Val) : (lentV l).length = l.length + 2 := by simp [lentV]
theorem lentC_cells (l : List Col) : (((ccl l ++ rep 2 [.string ⟨#[]⟩, .int .i64 0, .bool false]).toArray.setIfInBounds (l.length * 3) (.string ⟨#[98, 101, 104, 105, 110, 100]⟩)).setIfInBounds ((l.length + 1) * 3) (.string ⟨#[102, 97, 114]⟩)) = (ccl (lentC l)).toArray := by
  have h := ccl_len l
  have e : ccl (lentC l) = ccl l ++ ccl [⟨⟨#[98, 101, 104, 105, 110, 100]⟩, 0, false⟩, ⟨⟨#[102, 97, 114]⟩, 0, false⟩] := f3_append ..
  rw [e, List.setIfInBounds_toArray, List.setIfInBounds_toArray, List.set_append_right _ _ (by omega), List.set_append_right _ _ (by omega), h]
  rw [show l.length * 3 - l.length * 3 = 0 by omega, show (l.length + 1) * 3 - l.length * 3 = 3 by omega]
  rfl
theorem lentV_cells (l : List Val) : (((vcl l ++ rep 2 [.int .i64 0, .int .i64 0, .string ⟨#[]⟩]).toArray.setIfInBounds (l.length * 3 + 2) (.string ⟨#[98, 101, 104, 105, 110, 100]⟩)).setIfInBounds ((l.length + 1) * 3 + 2) (.string ⟨#[102, 97, 114]⟩)) = (vcl (lentV l)).toArray := by
  have h := vcl_len l
  have e : vcl (lentV l) = vcl l ++ vcl [⟨0, 0, ⟨#[98, 101, 104, 105, 110, 100]⟩⟩, ⟨0, 0, ⟨#[102, 97, 114]⟩⟩] := f3_append ..
  rw [e, List.setIfInBounds_toArray, List.setIfInBounds_toArray, List.set_append_right _ _ (by omega), List.set_append_right _ _ (by omega), h]
  rw [show l.length * 3 + 2 - l.length * 3 = 2 by omega, show (l.length + 1) * 3 + 2 - l.length * 3 = 5 by omega]
  rfl
theorem blk_at {w : World} {g : Nat} {cs : List Value} {t : TypeId} {fr : Nat × Nat} (h : w.heap[g]? = some (.cells cs.toArray t fr)) : At w g 0 cs := fun j u hu => by
  rw [Nat.zero_add, blk_cell h]; simpa using hu

set_option maxHeartbeats 1000000 in
set_option maxRecDepth 100000 in
theorem lent_any (l : List Col) (ao : Option Addr) (c : Nat) (w : World) (h : SL w ao (ccl l)) (hao : ao = none → c = 0) (hlen : l.length * 32 ≤ 140737488351232) :
    Calls Try.prog 16 #[.slice ao l.length c] w fun x w' => x = .returned (.slice (some ⟨w.heap.size, 0, none⟩) ((l.length + 2 : Nat)) (l.length + 2)) ∧ w'.heap[w.heap.size]? = some (.cells (ccl (lentC l)).toArray 43 (0, 0)) ∧ Tch (fun _ => False) w w' := by
  have hmk := make_col (l.length + 2) w (by omega)
  have hn : (l.length : Int) ≤ 4398046510976 := by omega
  obtain ⟨n, hnn⟩ : ∃ n, n = l.length := ⟨_, rfl⟩
  obtain ⟨w1, hw1⟩ : ∃ w1, w1 = w.alloc (.cells (rep (n + 2) [.string ⟨#[]⟩, .int .i64 0, .bool false]).toArray 43) := ⟨_, rfl⟩
  obtain ⟨N, hN⟩ : ∃ N, N = w.heap.size := ⟨_, rfl⟩
  rw [← hnn, ← hw1, ← hN, show (((n + 2 : Nat)) : Int) = (n : Int) + 2 by omega] at hmk
  have t1 : Tch (fun _ => False) w w1 := by rw [hw1]; exact Tch.alloc _ _ _
  have hb : w1.heap[N]? = some (.cells (rep (n + 2) [.string ⟨#[]⟩, .int .i64 0, .bool false]).toArray 43 (0, 0)) := by rw [hw1, hN]; exact alloc_new _ _
  obtain ⟨w2, hcp, hb2, t2⟩ := copy_in (P := Try.prog) w1 34 43 43 N (n + 2) (n + 2) ao n c _ (ccl l) Try.underlying34 info_col3 hb (by rw [ccl_len, hnn]) (by omega) (by rw [List.size_toArray, rep_len]; simp; omega) (ccl_one l) (h.no t1) hao
  have hd : (rep (n + 2) [.string ⟨#[]⟩, .int .i64 0, .bool false]).toArray.toList.drop (n * 3) = rep 2 [.string ⟨#[]⟩, .int .i64 0, .bool false] := rep_drop n 2 [.string ⟨#[]⟩, .int .i64 0, .bool false]
  rw [hd] at hb2
  obtain ⟨X, hX⟩ : ∃ X, X = (ccl l ++ rep 2 [.string ⟨#[]⟩, .int .i64 0, .bool false]).toArray := ⟨_, rfl⟩
  rw [← hX] at hb2
  have hsz : X.size = n * 3 + 6 := by rw [hX, List.size_toArray, List.length_append, ccl_len, rep_len, hnn]; simp
  obtain ⟨y0, c0⟩ : ∃ y, w2.cell? ⟨N, n * 3, none⟩ = some y := ⟨X[n * 3]'(by omega), by rw [blk_cell hb2]; exact Array.getElem?_eq_getElem _⟩
  obtain ⟨y1, c1⟩ : ∃ y, (w2.setCell ⟨N, n * 3, none⟩ (.string ⟨#[98, 101, 104, 105, 110, 100]⟩)).cell? ⟨N, (n + 1) * 3, none⟩ = some y := ⟨X[(n + 1) * 3]'(by omega), by
    rw [World.cell?_setCell_other (h := by intro e; injection e; omega), blk_cell hb2]; exact Array.getElem?_eq_getElem _⟩
  have f0 := blk_frozen hb2 (n * 3)
  have f1 := blk_frozen hb2 ((n + 1) * 3)
  have HF : Hid (((w2.setCell ⟨N, n * 3, none⟩ (.string ⟨#[98, 101, 104, 105, 110, 100]⟩)).setCell ⟨N, (n + 1) * 3, none⟩ (.string ⟨#[102, 97, 114]⟩)).heap[N]? = some (.cells (ccl (lentC l)).toArray 43 (0, 0))) := by
    show _ = _
    rw [blk_set (blk_set hb2 _) _, hX, hnn, lentC_cells]
  have HT : Hid (Tch (fun _ => False) w ((w2.setCell ⟨N, n * 3, none⟩ (.string ⟨#[98, 101, 104, 105, 110, 100]⟩)).setCell ⟨N, (n + 1) * 3, none⟩ (.string ⟨#[102, 97, 114]⟩))) := by
    have hTa : Tch (fun i => i = N) w1 ((w2.setCell ⟨N, n * 3, none⟩ (.string ⟨#[98, 101, 104, 105, 110, 100]⟩)).setCell ⟨N, (n + 1) * 3, none⟩ (.string ⟨#[102, 97, 114]⟩)) := (t2.setCellR ⟨N, n * 3, none⟩ _ rfl).setCellR ⟨N, (n + 1) * 3, none⟩ _ rfl
    exact t1.trans hTa (fun i hi e => by omega)
  rw [← hnn, ← hN]
  rw [← hnn] at hn
  clear hb hb2 hX hw1 hd h hnn t1 t2 hN hsz
  go_enter Try.func16, Try.ntmps16
  go_wp2
  trace_state
  go_ret
  exact ⟨rfl, HF.out, HT.out⟩
end Go.Proofs.Ytolamjipigfocaa
/- back of the law. -/
namespace Go.Proofs.Ytolamjipigfocaa
open Go.RowKit Go

theorem lentC_lt (l : List Col) (k : Nat) (hk : k < l.length) (h : k < (lentC l).length) : (lentC l)[k] = l[k] := by simp [lentC, hk]
theorem set3_cells {W : World} {g c q : Nat} {t : TypeId} {cur : Array Value} (hh : W.heap[g]? = some (.cells cur t (0, 0))) (hs : cur.size = c * 3) (hq : q < c) (v0 v1 : Value) :
    (∃ y, W.cell? ⟨g, q * 3, none⟩ = some y) ∧ (∃ y, (W.setCell ⟨g, q * 3, none⟩ v0).cell? ⟨g, q * 3 + 1, none⟩ = some y) ∧ (∃ y, ((W.setCell ⟨g, q * 3, none⟩ v0).setCell ⟨g, q * 3 + 1, none⟩ v1).cell? ⟨g, q * 3 + 2, none⟩ = some y) ∧ ∀ j, W.frozen? ⟨g, j, none⟩ = false := by
  refine ⟨⟨cur[q * 3]'(by omega), by rw [blk_cell hh]; exact Array.getElem?_eq_getElem _⟩, ⟨cur[q * 3 + 1]'(by omega), ?_⟩, ⟨cur[q * 3 + 2]'(by omega), ?_⟩, fun j => blk_frozen hh j⟩
  · rw [World.cell?_setCell_other (h := by intro e; injection e; omega), blk_cell hh]; exact Array.getElem?_eq_getElem _
  · rw [World.cell?_setCell_other (h := by intro e; injection e; omega), World.cell?_setCell_other (h := by intro e; injection e; omega), blk_cell hh]; exact Array.getElem?_eq_getElem _
/-- A block of so many cells. -/
def BS (t : TypeId) (W : World) (g n : Nat) : Prop := ∃ cur : Array Value, W.heap[g]? = some (.cells cur t (0, 0)) ∧ cur.size = n
theorem BS.set {t : TypeId} {W : World} {g n : Nat} (h : BS t W g n) (j : Nat) (v : Value) : BS t (W.setCell ⟨g, j, none⟩ v) g n := by
  obtain ⟨cur, h1, h2⟩ := h
  exact ⟨_, blk_set h1 v, by simp [h2]⟩
theorem BS.tch {S : Nat → Prop} {t : TypeId} {W W' : World} {g n : Nat} (h : BS t W g n) (tc : Tch S W W') (hS : ¬ S g) : BS t W' g n := by
  obtain ⟨cur, h1, h2⟩ := h
  exact ⟨cur, by rw [tc.block g (blk_lt h1) hS]; exact h1, h2⟩

set_option maxHeartbeats 1000000 in
set_option maxRecDepth 100000 in
theorem back_any (l : List Col) (ao : Option Addr) (c g : Nat) (w : World) (h : SL w ao (ccl l)) (hb : w.heap[g]? = some (.cells (ccl (lentC l)).toArray 43 (0, 0))) (hlen : l.length * 32 ≤ 140737488351232) :
    Calls Try.prog 18 #[.slice (some ⟨g, 0, none⟩) (l.length + 2) (l.length + 2), .slice ao l.length c] w fun x w' => x = .returned (.bool true) ∧ Tch (fun i => i = g) w w' := by
  have hn : (l.length : Int) ≤ 4398046510976 := by omega
  have hll := lentC_len l
  have ha : At w g 0 (ccl (lentC l)) := blk_at hb
  have c0 : w.cell? ⟨g, l.length * 3, none⟩ = some (.string ⟨#[98, 101, 104, 105, 110, 100]⟩) := by
    have := (ha.col l.length (by omega)).1
    simpa [lentC] using this
  have c1 : w.cell? ⟨g, (l.length + 1) * 3, none⟩ = some (.string ⟨#[102, 97, 114]⟩) := by
    have := (ha.col (l.length + 1) (by omega)).1
    simpa [lentC] using this
  have HA : Hid (∀ W, Tch (fun _ => False) w W → ∀ k (hk : k < l.length), (∃ gl o, ao = some ⟨gl, o, none⟩ ∧ W.cell? ⟨gl, o + k * 3, none⟩ = some (.string l[k].nm) ∧ W.cell? ⟨gl, o + k * 3 + 1, none⟩ = some (.int .i64 l[k].k) ∧ W.cell? ⟨gl, o + k * 3 + 2, none⟩ = some (.bool l[k].nl)) ∧ W.cell? ⟨g, k * 3, none⟩ = some (.string l[k].nm) ∧ W.cell? ⟨g, k * 3 + 1, none⟩ = some (.int .i64 l[k].k) ∧ W.cell? ⟨g, k * 3 + 2, none⟩ = some (.bool l[k].nl)) := fun W t k hk => by
    obtain ⟨gl, o, e, hl⟩ := (h.no t).col hk
    have h2 := (ha.tch t (fun _ h => h)).col k (by omega)
    rw [lentC_lt l k hk, Nat.zero_add] at h2
    exact ⟨⟨gl, o, e, hl.col k hk⟩, h2⟩
  have HBS : Hid (∀ W, Tch (fun _ => False) w W → BS 43 W g ((l.length + 2) * 3)) := fun W t => (show BS 43 w g ((l.length + 2) * 3) from ⟨_, hb, by rw [List.size_toArray, ccl_len, hll]⟩).tch t (fun h => h)
  clear ha hb h hll
  obtain ⟨n, hnn⟩ : ∃ n, n = l.length := ⟨_, rfl⟩
  have HN : Hid (n = l.length) := hnn
  rw [← hnn] at hn c0 c1 HBS ⊢
  clear hlen hnn
  go_enter Try.func18, Try.ntmps18
  go_wp2_with fail
  go_loopw [5, 6] (fun ok i wr => ok = .bool true ∧ ∃ k : Nat, i = .int .i64 k ∧ k ≤ n ∧ Tch (fun _ => False) w wr) (fun _ i _ => n - (intOf i).toNat)
  case atStart => exact ⟨rfl, 0, rfl, by omega, Tch.refl _ _⟩
  case round =>
    obtain ⟨rfl, k, rfl, hk, hT⟩ := hrel
    by_cases hlt : (k : Int) < n
    · have hkl : k < l.length := by have := HN.out; omega
      obtain ⟨⟨gl, o, rfl, a0, a1, a2⟩, b0, b1, b2⟩ := HA.out _ hT k hkl
      obtain ⟨x, hx⟩ : ∃ x, x = l[k] := ⟨_, rfl⟩
      rw [← hx] at a0 a1 a2 b0 b1 b2
      obtain ⟨d, hd1, hd⟩ := eql_col x x
      obtain rfl : d = true := hd1.2 rfl
      have hk2 : (k : Int) < n + 2 := by omega
      clear hd1 hx c0 c1
      go_wp2_with fail
      go_quiet (fail)
      go_wp2_with fail
      go_roundw
      case rel => exact ⟨rfl, k + 1, by go_num, by omega, hT.drewN _⟩
      case measure => simp [intOf]; omega
    · have HB2 : Hid _ := HBS.out _ hT
      clear HA HBS c0 c1
      obtain ⟨wV, hwV⟩ : ∃ wV, wV = wr := ⟨_, rfl⟩
      subst hwV
      go_wp2_with fail
      go_loopw [7] (fun i wr => ∃ q : Nat, i = .int .i64 q ∧ q ≤ n + 2 ∧ Hid (BS 43 wr g ((n + 2) * 3)) ∧ Tch (fun i => i = g) w wr) (fun i _ => n + 2 - (intOf i).toNat)
      case atStart => exact ⟨0, rfl, by omega, HB2, hT.mono (fun _ _ h => h.elim)⟩
      case round =>
        obtain ⟨q, rfl, hq, HB3, hT3⟩ := hrel
        by_cases hqn : (q : Int) < n + 2
        · obtain ⟨cur, hh, hs⟩ := HB3.out
          obtain ⟨⟨y0, e0⟩, ⟨y1, e1⟩, ⟨y2, e2⟩, hf⟩ := set3_cells hh hs (by omega : q < n + 2) (.string ⟨#[116, 117, 114, 110, 101, 100]⟩) (.int .i64 7)
          have f0 := hf (q * 3); have f1 := hf (q * 3 + 1); have f2 := hf (q * 3 + 2)
          have HB4 : Hid (BS 43 (((wr.setCell ⟨g, q * 3, none⟩ (.string ⟨#[116, 117, 114, 110, 101, 100]⟩)).setCell ⟨g, q * 3 + 1, none⟩ (.int .i64 7)).setCell ⟨g, q * 3 + 2, none⟩ (.bool false)) g ((n + 2) * 3)) := ((BS.set HB3.out _ _).set _ _).set _ _
          clear hf hs hh
          go_wp2_with fail
          go_roundw
          case rel => exact ⟨q + 1, by go_num, by omega, HB4, ((hT3.setCellR ⟨g, q * 3, none⟩ _ rfl).setCellR ⟨g, q * 3 + 1, none⟩ _ rfl).setCellR ⟨g, q * 3 + 2, none⟩ _ rfl⟩
          case measure => simp [intOf]; omega
        · go_wp2_with fail
          go_ret
          exact ⟨rfl, hT3⟩
end Go.Proofs.Ytolamjipigfocaa
/- A row that came out, in the book. -/
namespace Go.Proofs.Ytolamjipigfocaa
open Go.RowKit Go

theorem wrap_of {n : Int} (h1 : -9223372036854775808 ≤ n) (h2 : n ≤ 9223372036854775807) : IntKind.i64.wrap n = n := by
  simp [IntKind.wrap, IntKind.signed, IntKind.bits]; omega
theorem info_row : (Try.prog.info? 39).map (fun i => (i.zero, i.size, i.bytes)) = some (some (.slice none 0 0), 1, 24) := by kernel_rfl
/-- The mark of the row at this place. -/
def mkR (j : Nat) : List Value := [.int .i64 (-5 - ((j / 14 * 14 : Nat) : Int)), .int .i64 0, .string ⟨#[]⟩]
theorem mark_step (cur : Array Value) (q c : Nat) (a b d : Value) (hs : cur.size = c * 3) (hq : q < c) (h : cur.toList.take (q * 3) = rep q [a, b, d]) : (((cur.setIfInBounds (q * 3) a).setIfInBounds (q * 3 + 1) b).setIfInBounds (q * 3 + 2) d).toList.take ((q + 1) * 3) = rep (q + 1) [a, b, d] := by
  rw [rep_succ, ← h]
  apply List.ext_getElem?
  intro j
  rw [List.getElem?_take]
  have hl : cur.toList.length = c * 3 := by simpa using hs
  rcases Nat.lt_or_ge j (q * 3) with h1 | h1
  · rw [if_pos (by omega), List.getElem?_append_left (by rw [List.length_take]; omega), List.getElem?_take, if_pos h1, Array.getElem?_toList, Array.getElem?_toList, Array.getElem?_setIfInBounds_ne (by omega), Array.getElem?_setIfInBounds_ne (by omega), Array.getElem?_setIfInBounds_ne (by omega)]
  · rw [List.getElem?_append_right (by rw [List.length_take]; omega), List.length_take, show min (q * 3) cur.toList.length = q * 3 by omega]
    rcases Nat.lt_or_ge j ((q + 1) * 3) with h2 | h2
    · rw [if_pos h2, Array.getElem?_toList]
      rcases (by omega : j = q * 3 ∨ j = q * 3 + 1 ∨ j = q * 3 + 2) with rfl | rfl | rfl
      · rw [Array.getElem?_setIfInBounds_ne (by omega), Array.getElem?_setIfInBounds_ne (by omega), Array.getElem?_setIfInBounds_self_of_lt (by omega)]; simp
      · rw [Array.getElem?_setIfInBounds_ne (by omega), Array.getElem?_setIfInBounds_self_of_lt (by simp; omega), show q * 3 + 1 - q * 3 = 1 by omega]; rfl
      · rw [Array.getElem?_setIfInBounds_self_of_lt (by simp; omega), show q * 3 + 2 - q * 3 = 2 by omega]; rfl
    · rw [if_neg (by omega), List.getElem?_eq_none (by simp; omega)]
/-- A slice of one's own, its first places marked. -/
def MC (e : TypeId) (W : World) (v : Value) (n : Nat) (cs : List Value) (q : Nat) : Prop := (v = .slice none 0 0 ∧ n = 0) ∨ ∃ g c cur, v = .slice (some ⟨g, 0, none⟩) n c ∧ W.heap[g]? = some (.cells cur e (0, 0)) ∧ n ≤ c ∧ c ≤ maxLen ∧ cur.size = c * 3 ∧ cur.toList.take (q * 3) = rep q cs
theorem MC.of {e : TypeId} {W : World} {v : Value} {n : Nat} {cs xs : List Value} (h : W.ownsRow 0 e 3 v n xs) : MC e W v n cs 0 := by
  rcases h.2 with h | ⟨g, c, cur, h1, _, h2, h3, h4, h5, _⟩
  · exact Or.inl h
  · exact Or.inr ⟨g, c, cur, h1, h2, h3, h4, h5, by simp [rep]⟩
theorem MC.tch {S : Nat → Prop} {e : TypeId} {W W' : World} {v : Value} {n : Nat} {cs : List Value} {q : Nat} (h : MC e W v n cs q) (t : Tch S W W') (hS : ∀ g, v.ownBlock = some g → ¬ S g) : MC e W' v n cs q := by
  rcases h with h | ⟨g, c, cur, h1, h2, h3⟩
  · exact Or.inl h
  · exact Or.inr ⟨g, c, cur, h1, by rw [t.block g (blk_lt h2) (hS g (by rw [h1]; rfl))]; exact h2, h3⟩
theorem MC.own {e : TypeId} {W : World} {v : Value} {n : Nat} {cs : List Value} (h : MC e W v n cs n) (hcs : cs.length = 3) : W.ownsRow 0 e cs.length v n (rep n cs) := by
  refine ⟨rep_len _ _, ?_⟩
  rw [hcs]
  rcases h with h | ⟨g, c, cur, h1, h2, h3, h4, h5, h6⟩
  · exact Or.inl h
  · exact Or.inr ⟨g, c, cur, h1, Nat.zero_le _, h2, h3, h4, h5, h6⟩
set_option maxHeartbeats 1000000 in
set_option maxRecDepth 100000 in
theorem row_any (b : Nat) (cur : Array Value) (A : List Value) (rv v : Value) (n : Nat) (xs : List Value) (F : Nat → Prop) (w : World)
    (hb : w.heap[b]? = some (.cells cur 41 (0, 0))) (hs : cur.size = 17) (hc2 : cur[2]? = some rv)
    (hL : LS 39 w (fun i => F i ∨ v.ownBlock = some i) b mkR A rv) (hv : w.ownsRow 0 77 3 v n xs) (hn : n ≤ 8) (hg : ∀ g, v.ownBlock = some g → g ≠ b ∧ ¬ F g)
    (hF : ∀ i, F i → i < w.heap.size) (hA : A.length ≤ 100000000) (h14 : A.length % 14 = 0) :
    Calls Try.prog 67 #[.pointer (some ⟨b, 0, none⟩), v] w fun x w' => x = .returned (.tuple #[]) ∧ (∃ rv' A', A'.length = A.length + 14 ∧ w'.heap[b]? = some (.cells (cur.setIfInBounds 2 rv') 41 (0, 0)) ∧ LS 39 w' F b mkR A' rv') ∧ Tch (fun i => i = b ∨ rv.ownBlock = some i ∨ v.ownBlock = some i) w w' := by
  obtain ⟨i0, hi0, hz0, hz1, hz2⟩ := info_parts info_val
  obtain ⟨i1, hi1, hy0, hy1, hy2⟩ := info_parts info_row
  obtain ⟨vo, vc, rfl⟩ := row_slice hv
  obtain ⟨ro, rc, hrv⟩ := row_slice hL.all
  obtain ⟨M, hM⟩ : ∃ M : Int, M = -5 - (A.length : Int) := ⟨_, rfl⟩
  obtain ⟨N, hN⟩ : ∃ N, N = w.heap.size := ⟨_, rfl⟩
  obtain ⟨w0, hw0⟩ : ∃ w0, w0 = w.alloc (.cells #[.int .i64 M, .int .i64 0, .string ⟨#[]⟩] 77) := ⟨_, rfl⟩
  obtain ⟨cs, hcs⟩ : ∃ cs : List Value, cs = [.int .i64 M, .int .i64 0, .string ⟨#[]⟩] := ⟨_, rfl⟩
  have t0 : Tch (fun _ => False) w w0 := by rw [hw0]; exact Tch.alloc _ _ _
  have hbN : b < N := by rw [hN]; exact blk_lt hb
  have hN0 : w0.heap.size = N + 1 := by rw [hw0, hN, World.size_alloc]
  have hmk : ∀ j, A.length ≤ j → j < A.length + 14 → mkR j = cs := fun j h1 h2 => by
    rw [hcs, hM]; unfold mkR; rw [show j / 14 * 14 = A.length by omega]
  have HL0 : Hid (LS 39 w (fun i => (F i ∨ i = N) ∨ (Value.slice vo n vc).ownBlock = some i) b mkR A rv) := hL.fresh (fun i hi h => by
    rcases h with (h | h) | h
    · exact Or.inl h
    · omega
    · exact Or.inr h)
  have HB0 : Hid (w0.cell? ⟨N, 0, none⟩ = some (.int .i64 M) ∧ w0.cell? ⟨N, 1, none⟩ = some (.int .i64 0) ∧ w0.cell? ⟨N, 2, none⟩ = some (.string ⟨#[]⟩)) := by
    have q := box_cells w (.int .i64 M) (.int .i64 0) (.string ⟨#[]⟩) 77
    rw [← hw0, ← hN] at q
    exact q
  have HVb : Hid (∀ g, (Value.slice vo n vc).ownBlock = some g → g ≠ b ∧ ¬ F g ∧ g < N) := fun g e => ⟨(hg g e).1, (hg g e).2, by rw [hN]; exact (hv.lt g e).2⟩
  have HV0 : Hid (MC 77 w0 (.slice vo n vc) n cs 0) := (MC.of hv).tch t0 (fun _ _ h => h)
  have Hb0 : Hid (w0.heap[b]? = some (.cells cur 41 (0, 0))) := by show _ = _; rw [t0.block b (blk_lt hb) (fun h => h)]; exact hb
  have cb2 : w.cell? ⟨b, 2, none⟩ = some (.slice ro A.length rc) := by rw [blk_cell hb, hc2, hrv]
  have Hmk : Hid _ := hmk
  have Hcs : Hid _ := hcs
  have HM : Hid _ := hM
  have Hw0 : Hid _ := hw0
  have HN : Hid (N = w.heap.size) := hN
  have HrvE : Hid _ := hrv
  have Ht0 : Hid _ := t0
  have HFw : Hid _ := hF
  have hAI : (A.length : Int) ≤ 100000000 := by omega
  have hMw : IntKind.i64.wrap (-5 - (A.length : Int)) = M := by rw [hM]; exact wrap_of (by omega) (by omega)
  have HN0 : Hid (w0.heap.size = N + 1) := hN0
  clear hb hv hL hcs hw0 hN hrv t0 hmk hF hg hM hN0 hA h14
  go_enter Try.func67, Try.ntmps67
  go_wp2_with fail
  rw [← HN.out]
  have hw0 := Hw0.out
  rw [← hw0]
  clear hw0 cb2 hMw
  go_loopw [5] (fun i wr => ∃ q : Nat, i = .int .i64 q ∧ q ≤ n ∧ Hid (MC 77 wr (.slice vo n vc) n cs q) ∧ Hid (Tch (fun i => (Value.slice vo n vc).ownBlock = some i) w0 wr)) (fun i _ => n - (intOf i).toNat)
  case atStart => exact ⟨0, rfl, by omega, HV0, Tch.refl _ _⟩
  case round =>
    obtain ⟨q, rfl, hq, HC, HT⟩ := hrel
    by_cases hqn : (q : Int) < n
    · rcases HC.out with ⟨_, h0⟩ | ⟨g, c, cu, hvv, hh, hnc, hcm, hsz, htk⟩
      · omega
      · injection hvv with e1 e2 e3
        subst e1 e3
        have hqc : q < vc := by omega
        obtain ⟨⟨y0, e0⟩, ⟨y1, e1⟩, ⟨y2, e2⟩, hf⟩ := set3_cells hh hsz hqc (.int .i64 M) (.int .i64 0)
        have f0 := hf (q * 3); have f1 := hf (q * 3 + 1); have f2 := hf (q * 3 + 2)
        have hNg : ¬ (Value.slice (some ⟨g, 0, none⟩) n vc).ownBlock = some N := fun e => by have := (HVb.out N e).2.2; omega
        have b0 : wr.cell? ⟨N, 0, none⟩ = some (.int .i64 M) := by rw [HT.out.cell (p := ⟨N, 0, none⟩) (by have := HN0.out; show N < _; omega) hNg]; exact HB0.out.1
        have b1 : wr.cell? ⟨N, 1, none⟩ = some (.int .i64 0) := by rw [HT.out.cell (p := ⟨N, 1, none⟩) (by have := HN0.out; show N < _; omega) hNg]; exact HB0.out.2.1
        have b2 : wr.cell? ⟨N, 2, none⟩ = some (.string ⟨#[]⟩) := by rw [HT.out.cell (p := ⟨N, 2, none⟩) (by have := HN0.out; show N < _; omega) hNg]; exact HB0.out.2.2
        have HC2 : Hid (MC 77 (((wr.setCell ⟨g, q * 3, none⟩ (.int .i64 M)).setCell ⟨g, q * 3 + 1, none⟩ (.int .i64 0)).setCell ⟨g, q * 3 + 2, none⟩ (.string ⟨#[]⟩)) (.slice (some ⟨g, 0, none⟩) n vc) n cs (q + 1)) := by
          refine Or.inr ⟨g, vc, _, rfl, blk_set (blk_set (blk_set hh _) _) _, hnc, hcm, by simp [hsz], ?_⟩
          have h1 := Hcs.out
          rw [h1] at htk ⊢
          exact mark_step cu q vc _ _ _ hsz hqc htk
        have HT2 : Hid (Tch (fun i => (Value.slice (some ⟨g, 0, none⟩) n vc).ownBlock = some i) w0 (((wr.setCell ⟨g, q * 3, none⟩ (.int .i64 M)).setCell ⟨g, q * 3 + 1, none⟩ (.int .i64 0)).setCell ⟨g, q * 3 + 2, none⟩ (.string ⟨#[]⟩))) := ((Tch.setCellR HT.out ⟨g, q * 3, none⟩ _ rfl).setCellR ⟨g, q * 3 + 1, none⟩ _ rfl).setCellR ⟨g, q * 3 + 2, none⟩ _ rfl
        clear hh hf hsz htk hNg HC HT
        go_wp2_with fail
        go_roundw
        case rel => exact ⟨q + 1, by go_num, by omega, HC2, HT2⟩
        case measure => simp [intOf]; omega
    · obtain rfl : q = n := by omega
      obtain ⟨wV, hwV⟩ : ∃ wV, wV = wr := ⟨_, rfl⟩
      subst hwV
      have HLG : Hid (LG 39 77 wV (fun i => F i ∨ i = N) b mkR A rv (.slice vo q vc) cs q) := by
        have h1 : LS 39 wV (fun i => (F i ∨ i = N) ∨ (Value.slice vo q vc).ownBlock = some i) b mkR A rv := (HL0.out.tch Ht0.out (fun _ h => h.elim)).tch HT.out (fun i h => Or.inr (Or.inr h))
        exact h1.enter (HC.out.own (by rw [Hcs.out]; rfl)) (fun g e => ⟨(HVb.out g e).1, fun h => h.elim (HVb.out g e).2.1 (fun h => by have := (HVb.out g e).2.2; omega)⟩)
      have HbV : Hid (wV.heap[b]? = some (.cells cur 41 (0, 0))) := by show _ = _; rw [HT.out.block b (blk_lt Hb0.out) (fun e => (HVb.out b e).1 rfl)]; exact Hb0.out
      have HTV : Hid (Tch (fun i => i = b ∨ rv.ownBlock = some i ∨ (Value.slice vo q vc).ownBlock = some i) w wV) := (Ht0.out.mono (fun _ _ h => h.elim)).trans' (HT.out.mono (fun i _ h => Or.inr (Or.inr h)))
      have HBV : Hid (wV.cell? ⟨N, 0, none⟩ = some (.int .i64 M) ∧ wV.cell? ⟨N, 1, none⟩ = some (.int .i64 0) ∧ wV.cell? ⟨N, 2, none⟩ = some (.string ⟨#[]⟩)) := by
        have hNg : ¬ (Value.slice vo q vc).ownBlock = some N := fun e => by have := (HVb.out N e).2.2; omega
        have hlt : N < w0.heap.size := by have := HN0.out; omega
        exact ⟨(HT.out.cell (p := ⟨N, 0, none⟩) hlt hNg).trans HB0.out.1, (HT.out.cell (p := ⟨N, 1, none⟩) hlt hNg).trans HB0.out.2.1, (HT.out.cell (p := ⟨N, 2, none⟩) hlt hNg).trans HB0.out.2.2⟩
      have HNV : Hid (N < wV.heap.size) := by have := HN0.out; have := HT.out.size; show N < _; omega
      have Hrv2 : Hid (cur.setIfInBounds 2 rv = cur) := by
        show _ = _
        apply Array.ext_getElem?
        intro i
        by_cases h : i = 2
        · subst h; rw [Array.getElem?_setIfInBounds_self_of_lt (by omega), hc2]
        · rw [Array.getElem?_setIfInBounds_ne (by omega)]
      clear HC HT HL0 HV0 HB0 Ht0 Hb0 hqn hq
      go_wp2_with fail
      go_loopw [1, 6] (fun x i wr => ∃ (k nx : Nat) (A' : List Value) (rv' : Value), i = .int .i64 k ∧ k ≤ 14 ∧ (A'.length ≤ 100000014 ∧ Hid (A'.length = A.length + k)) ∧ nx ≤ 8 + k ∧ Hid (LG 39 77 wr (fun i => F i ∨ i = N) b mkR A' rv' x cs nx) ∧ Hid (wr.heap[b]? = some (.cells (cur.setIfInBounds 2 rv') 41 (0, 0))) ∧ Hid (wr.cell? ⟨N, 0, none⟩ = some (.int .i64 M) ∧ wr.cell? ⟨N, 1, none⟩ = some (.int .i64 0) ∧ wr.cell? ⟨N, 2, none⟩ = some (.string ⟨#[]⟩)) ∧ Hid (N < wr.heap.size) ∧ Hid ((∀ g, rv'.ownBlock = some g → rv.ownBlock = some g ∨ N < g) ∧ ∀ g, x.ownBlock = some g → (Value.slice vo q vc).ownBlock = some g ∨ N < g) ∧ Hid (Tch (fun i => i = b ∨ rv.ownBlock = some i ∨ (Value.slice vo q vc).ownBlock = some i) w wr)) (fun _ i _ => 14 - (intOf i).toNat)
      case atStart => exact ⟨0, q, A, rv, rfl, by omega, ⟨by omega, rfl⟩, by omega, HLG, by show _ = _; rw [Hrv2.out]; exact HbV.out, HBV, HNV, ⟨fun g e => Or.inl e, fun g e => Or.inl e⟩, HTV⟩
      case round =>
        clear HLG HbV HBV HNV HTV Hrv2
        obtain ⟨k, nx, A', rv', rfl, hk, ⟨hA', HA'⟩, hnx, HG, Hb, HBx, HNs, HO, HT⟩ := hrel
        by_cases hk14 : (k : Int) < 14
        · obtain ⟨ro', rc', hrv'⟩ := row_slice HG.out.all
          subst hrv'
          obtain ⟨xo, xc, hxv⟩ := row_slice HG.out.xr
          subst hxv
          have cb2 : wr.cell? ⟨b, 2, none⟩ = some (.slice ro' A'.length rc') := by rw [blk_cell Hb.out, Array.getElem?_setIfInBounds_self_of_lt (by omega)]
          have fb2 := blk_frozen Hb.out 2
          have HF2 : Hid (∀ i, (F i ∨ i = N) → i < wr.heap.size) := fun i h => by
            rcases h with h | h
            · have := HFw.out i h; have := HN.out; have := HNs.out; omega
            · have := HNs.out; omega
          have Hbl : Hid (b < wr.heap.size) := blk_lt Hb.out
          have Hcs3 : Hid (cs.length = 3) := by show _ = _; rw [Hcs.out]; rfl
          go_wp2_with (first
            | (at_builtin; refine wpList_append_keeps _ rfl _ _ 33 rfl 0 39 i1 (.slice none 0 0) 1 24 Try.underlying33 hi1 hy0 hy1 hy2 rfl (by decide) (.slice ro' A'.length rc') A'.length A' rfl (own_tch HG.out.all (Tch.alloc (fun _ => False) _ _) (fun _ _ h => h)) ⟨wr.heap.size, 0, none⟩ 1 1 [.slice xo nx xc] rfl rfl (World.news_of_block (alloc_new _ _)) (by simp [Value.oneCell']) (by unfold maxLen; omega) (by omega) (Nat.zero_le _) ?_
               intro v1 w1 hown1 hgr1 hat1 _
               have HG1 : Hid _ := HG.out.one (Tch.alloc _ _ _) hgr1 hown1 hat1 (Hmk.out _ (by have := HA'.out; omega) (by have := HA'.out; omega)) (by omega) Hbl.out HF2.out
               have T1 := grown_at (Tch.alloc (fun _ => False) wr _) hgr1
               have Hb1 : Hid (w1.heap[b]? = some (.cells (cur.setIfInBounds 2 (.slice ro' A'.length rc')) 41 (0, 0))) := (T1.block b Hbl.out (fun e => (HG.out.ag b e).1 rfl)).trans Hb.out
               have hNn : ¬ (Value.slice ro' A'.length rc').ownBlock = some N := fun e => (HG.out.ag N e).2 (Or.inr rfl)
               have HBx1 : Hid (w1.cell? ⟨N, 0, none⟩ = some (.int .i64 M) ∧ w1.cell? ⟨N, 1, none⟩ = some (.int .i64 0) ∧ w1.cell? ⟨N, 2, none⟩ = some (.string ⟨#[]⟩)) := ⟨(T1.cell (p := ⟨N, 0, none⟩) HNs.out hNn).trans HBx.out.1, (T1.cell (p := ⟨N, 1, none⟩) HNs.out hNn).trans HBx.out.2.1, (T1.cell (p := ⟨N, 2, none⟩) HNs.out hNn).trans HBx.out.2.2⟩
               obtain ⟨ro1, rc1, hv1⟩ := row_slice hown1
               subst hv1
               have HG2 : Hid (LG 39 77 (w1.setCell ⟨b, 2, none⟩ (.slice ro1 (A'.length + 1) rc1)) (fun i => F i ∨ i = N) b mkR (A' ++ [.slice xo nx xc]) (.slice ro1 (A'.length + 1) rc1) (.slice xo nx xc) cs nx) := HG1.out.tch (Tch.setCell (fun i => i = b) w1 ⟨b, 2, none⟩ _ rfl) (fun i h => Or.inl h)
               have Hb2 : Hid ((w1.setCell ⟨b, 2, none⟩ (.slice ro1 (A'.length + 1) rc1)).heap[b]? = some (.cells (cur.setIfInBounds 2 (.slice ro1 (A'.length + 1) rc1)) 41 (0, 0))) := by
                 show _ = _
                 rw [blk_set Hb1.out, Array.setIfInBounds_setIfInBounds]
               have b0 : (w1.setCell ⟨b, 2, none⟩ (.slice ro1 (A'.length + 1) rc1)).cell? ⟨N, 0, none⟩ = some (.int .i64 M) := by rw [World.cell?_setCell_other (h := by intro e; injection e; omega)]; exact HBx1.out.1
               have b1 : (w1.setCell ⟨b, 2, none⟩ (.slice ro1 (A'.length + 1) rc1)).cell? ⟨N, 1, none⟩ = some (.int .i64 0) := by rw [World.cell?_setCell_other (h := by intro e; injection e; omega)]; exact HBx1.out.2.1
               have b2 : (w1.setCell ⟨b, 2, none⟩ (.slice ro1 (A'.length + 1) rc1)).cell? ⟨N, 2, none⟩ = some (.string ⟨#[]⟩) := by rw [World.cell?_setCell_other (h := by intro e; injection e; omega)]; exact HBx1.out.2.2
               have T2 : Tch (fun i => i = b ∨ (Value.slice ro' A'.length rc').ownBlock = some i) wr (w1.setCell ⟨b, 2, none⟩ (.slice ro1 (A'.length + 1) rc1)) := (T1.mono (fun _ _ h => Or.inr h)).setCellR ⟨b, 2, none⟩ _ (Or.inl rfl)
               have HO2 : Hid (∀ g, (Value.slice ro1 (A'.length + 1) rc1).ownBlock = some g → rv.ownBlock = some g ∨ N < g) := fun g e => by
                 rcases hat1 with e1 | e1
                 · exact HO.out.1 g (e1 ▸ e)
                 · rw [e1] at e; injection e with e; rw [World.size_alloc] at e; have := HNs.out; right; omega
               have HF3 : Hid (∀ i, (F i ∨ i = N) → i < (w1.setCell ⟨b, 2, none⟩ (.slice ro1 (A'.length + 1) rc1)).heap.size) := fun i h => Nat.lt_of_lt_of_le (HF2.out i h) T2.size
               have Hbl3 : Hid (b < (w1.setCell ⟨b, 2, none⟩ (.slice ro1 (A'.length + 1) rc1)).heap.size) := blk_lt Hb2.out
               have HNW : Hid (∀ j u, ([.int .i64 M, .int .i64 0, .string ⟨#[]⟩] : List Value)[j]? = some u → ((w1.setCell ⟨b, 2, none⟩ (.slice ro1 (A'.length + 1) rc1)).alloc (.cells #[.int .i64 M, .int .i64 0, .string ⟨#[]⟩] 77)).cell? ((⟨w1.heap.size, 0, none⟩ : Addr).add j) = some u) := fun j u hu => by
                 have h1 := World.news_of_block (alloc_new (w1.setCell ⟨b, 2, none⟩ (.slice ro1 (A'.length + 1) rc1)) (.cells #[.int .i64 M, .int .i64 0, .string ⟨#[]⟩] 77)) j u hu
                 rwa [World.size_setCell] at h1
               have cb3 : w1.cell? ⟨b, 2, none⟩ = some (.slice ro' A'.length rc') := by rw [blk_cell Hb1.out, Array.getElem?_setIfInBounds_self_of_lt (by omega)]
               have fb3 := blk_frozen Hb1.out 2
               clear cb2 fb2)
            | (at_builtin; refine wpList_append_keeps _ rfl _ _ 39 rfl 0 77 i0 (.agg #[.int .i64 0, .int .i64 0, .string ⟨#[]⟩]) 3 32 Try.underlying39 hi0 hz0 hz1 hz2 rfl (by decide) (.slice xo nx xc) nx (rep nx cs) rfl (own_tch (by have := HG2.out.xr; rw [Hcs3.out] at this; exact this) (Tch.alloc (fun _ => False) _ _) (fun _ _ h => h)) ⟨w1.heap.size, 0, none⟩ 1 1 [.int .i64 M, .int .i64 0, .string ⟨#[]⟩] rfl rfl HNW.out (by simp [Value.oneCell']) (by unfold maxLen; omega) (by omega) (Nat.zero_le _) ?_
               intro v2 w3 hown2 hgr2 hat2 hk2
               have hown3 : w3.ownsRow 0 77 cs.length v2 (nx + 1) (rep (nx + 1) cs) := by
                 rw [Hcs3.out, rep_succ, Hcs.out]; rw [Hcs.out] at hown2; exact hown2
               have HG3 : Hid _ := HG2.out.two (Tch.alloc _ _ _) hgr2 hown3 hat2 (by rw [Hcs3.out]; exact hk2) Hbl3.out HF3.out (fun j => by rw [Hcs3.out]; rfl)
               have T3 := grown_at (Tch.alloc (fun _ => False) _ _) hgr2
               have Hb3 : Hid (w3.heap[b]? = some (.cells (cur.setIfInBounds 2 (.slice ro1 (A'.length + 1) rc1)) 41 (0, 0))) := (T3.block b Hbl3.out (fun e => (HG2.out.xg b e).2.1 rfl)).trans Hb2.out
               have hNx : ¬ (Value.slice xo nx xc).ownBlock = some N := fun e => (HG2.out.xg N e).2.2 (Or.inr rfl)
               have hNlt : N < (w1.setCell ⟨b, 2, none⟩ (.slice ro1 (A'.length + 1) rc1)).heap.size := HF3.out N (Or.inr rfl)
               have HBx3 : Hid (w3.cell? ⟨N, 0, none⟩ = some (.int .i64 M) ∧ w3.cell? ⟨N, 1, none⟩ = some (.int .i64 0) ∧ w3.cell? ⟨N, 2, none⟩ = some (.string ⟨#[]⟩)) := ⟨(T3.cell (p := ⟨N, 0, none⟩) hNlt hNx).trans b0, (T3.cell (p := ⟨N, 1, none⟩) hNlt hNx).trans b1, (T3.cell (p := ⟨N, 2, none⟩) hNlt hNx).trans b2⟩
               have HN3 : Hid (N < w3.heap.size) := Nat.lt_of_lt_of_le hNlt T3.size
               have HO3 : Hid (∀ g, v2.ownBlock = some g → (Value.slice vo q vc).ownBlock = some g ∨ N < g) := fun g e => by
                 rcases hat2 with e1 | e1
                 · exact HO.out.2 g (e1 ▸ e)
                 · rw [e1] at e; injection e with e; rw [World.size_alloc] at e; right; omega
               have HT3 : Hid (Tch (fun i => i = b ∨ rv.ownBlock = some i ∨ (Value.slice vo q vc).ownBlock = some i) w w3) := (HT.out.trans T2 (fun i hi h => by
                 rcases h with h | h
                 · exact Or.inl h
                 · rcases HO.out.1 i h with h | h
                   · exact Or.inr (Or.inl h)
                   · have := HN.out; omega)).trans T3 (fun i hi h => by
                 rcases HO.out.2 i h with h | h
                 · exact Or.inr (Or.inr h)
                 · have := HN.out; omega)
               obtain ⟨xo2, xc2, hv2⟩ := row_slice hown2
               subst hv2
               clear b0 b1 b2 cb3 fb3))
          exact ⟨⟨k + 1, nx + 1, A' ++ [.slice xo nx xc], .slice ro1 (A'.length + 1) rc1, by go_num, by omega, ⟨by have := HA'.out; simp; omega, by show _ = _; rw [List.length_append, HA'.out]; rfl⟩, by omega, HG3, Hb3, HBx3, HN3, ⟨HO2.out, HO3.out⟩, HT3⟩, by simp [intOf]; omega⟩
        · go_wp2_with fail
          go_end0
          exact ⟨rfl, ⟨rv', A', by have := HA'.out; omega, Hb.out, HG.out.leave.fresh (fun i _ h => Or.inl h)⟩, HT.out⟩
end Go.Proofs.Ytolamjipigfocaa
/- still of the book. -/
namespace Go.Proofs.Ytolamjipigfocaa
open Go.RowKit Go

def mineB : ByteArray := ⟨#[109, 105, 110, 101]⟩
/-- The mark of the columns, of the tables at this place. -/
def mkC (j : Nat) : List Value := [.string ⟨#[109, 105, 110, 101]⟩, .int .i64 (-5 - ((j / 14 * 14 : Nat) : Int)), .bool false]
def mkT (j : Nat) : List Value := [.int .i64 (-5 - ((j / 14 * 14 : Nat) : Int)), .int .i64 0, .string ⟨#[109, 105, 110, 101]⟩, .slice none 0 0, .int .i64 0]
/-- The slices of a list, for reading. -/
theorem LS.read {le : TypeId} {W : World} {F : Nat → Prop} {b : Nat} {mk : Nat → List Value} {A : List Value} {rv : Value} (h : LS le W F b mk A rv) : ∃ ao c, rv = .slice ao A.length c ∧ ∀ j, j < A.length → ∃ G xo m xc, ao = some ⟨G, 0, none⟩ ∧ W.cell? ⟨G, j, none⟩ = some (.slice xo m xc) ∧ m ≤ 100 ∧ ∀ q, q < m → ∃ g, xo = some ⟨g, 0, none⟩ ∧ ∀ i u, (mk j)[i]? = some u → W.cell? ⟨g, q * (mk j).length + i, none⟩ = some u := by
  obtain ⟨ao, c, hv⟩ := row_slice h.all
  refine ⟨ao, c, hv, fun j hj => ?_⟩
  have hall := h.all
  rw [hv] at hall
  obtain ⟨G, rfl, _, hG⟩ := own_at hall (by omega)
  obtain ⟨xo, m, xc, hx, hm, hg⟩ := h.mv j hj
  refine ⟨G, xo, m, xc, rfl, ?_, hm, fun q hq => ?_⟩
  · have := hG j _ (List.getElem?_eq_getElem hj)
    rw [Nat.zero_add, hx] at this
    exact this
  · obtain ⟨g, e, _, _, ha⟩ := hg (by omega)
    refine ⟨g, e, fun i u hu => ?_⟩
    have hi : i < (mk j).length := (List.getElem?_eq_some_iff.1 hu).1
    have := ha (q * (mk j).length + i) u (by rw [rep_get (mk j) m q i hq hi]; exact hu)
    rwa [Nat.zero_add] at this

set_option maxHeartbeats 2000000 in
set_option maxRecDepth 100000 in
theorem still_any (b : Nat) (cur : Array Value) (C T R : List Value) (cv tv rv : Value) (F1 F2 F3 : Nat → Prop) (w : World)
    (hb : w.heap[b]? = some (.cells cur 41 (0, 0))) (hc0 : cur[0]? = some cv) (hc1 : cur[1]? = some tv) (hc2 : cur[2]? = some rv)
    (hC : LS 34 w F1 b mkC C cv) (hT : LS 37 w F2 b mkT T tv) (hR : LS 39 w F3 b mkR R rv) (lC : C.length ≤ 1000000000) (lT : T.length ≤ 1000000000) (lR : R.length ≤ 1000000000) :
    Calls Try.prog 14 #[.pointer (some ⟨b, 0, none⟩)] w fun x w' => x = .returned (.bool true) ∧ w' = w := by
  obtain ⟨co, cc, rfl, HC⟩ := hC.read
  obtain ⟨to, tc, rfl, HT⟩ := hT.read
  obtain ⟨ro, rc, rfl, HR⟩ := hR.read
  have b0 : w.cell? ⟨b, 0, none⟩ = some (.slice co C.length cc) := by rw [blk_cell hb]; exact hc0
  have b1 : w.cell? ⟨b, 1, none⟩ = some (.slice to T.length tc) := by rw [blk_cell hb]; exact hc1
  have b2 : w.cell? ⟨b, 2, none⟩ = some (.slice ro R.length rc) := by rw [blk_cell hb]; exact hc2
  have KC : Hid _ := HC
  have KT : Hid _ := HT
  have KR : Hid _ := HR
  clear HC HT HR hb hc0 hc1 hc2 hC hT hR
  go_enter Try.func14, Try.ntmps14
  go_wp2_with fail
  go_loopw [3] (fun i W => ∃ j : Nat, i = .int .i64 j ∧ j ≤ C.length ∧ W = w) (fun i _ => C.length - (intOf i).toNat)
  case atStart => exact ⟨0, rfl, by omega, rfl⟩
  case round =>
    obtain ⟨j, rfl, hj, hw⟩ := hrel
    obtain rfl := hw.symm
    by_cases hjl : (j : Int) < C.length
    · obtain ⟨G, xo, m, xc, rfl, cj, hm, HQ⟩ := KC.out j (by omega)
      have KQ : Hid _ := HQ
      have hM : ((j / 14 * 14 : Nat) : Int) = (j : Int) / 14 * 14 := by omega
      have HM : Hid _ := hM
      clear HQ hM
      go_wp2_with fail
      go_loopw [4] (fun k W => ∃ q : Nat, k = .int .i64 q ∧ q ≤ m ∧ W = w) (fun k _ => m - (intOf k).toNat)
      case atStart => exact ⟨0, rfl, by omega, rfl⟩
      case round =>
        obtain ⟨q, rfl, hq, hw⟩ := hrel
        obtain rfl := hw.symm
        by_cases hqm : (q : Int) < m
        · obtain ⟨g, rfl, hgc⟩ := KQ.out q (by omega)
          have hM := HM.out
          have g0 : w.cell? ⟨g, q * 3, none⟩ = _ := hgc 0 _ rfl
          have g1 : w.cell? ⟨g, q * 3 + 1, none⟩ = _ := hgc 1 _ rfl
          have g2 : w.cell? ⟨g, q * 3 + 2, none⟩ = _ := hgc 2 _ rfl
          rw [hM] at g1
          obtain ⟨d, hd1, hd⟩ := ne_col ⟨⟨#[109, 105, 110, 101]⟩, -5 - (j : Int) / 14 * 14, false⟩ ⟨⟨#[109, 105, 110, 101]⟩, -5 - (j : Int) / 14 * 14, false⟩
          obtain rfl : d = false := by cases d with
            | false => rfl
            | true => exact absurd rfl (hd1.1 rfl)
          clear hd1 hgc
          clear hM
          go_wp2_with fail
          go_roundw
          case rel => exact ⟨q + 1, by go_num, by omega, by first | rfl | trivial⟩
          case measure => simp [intOf]; omega
        · go_wp2_with fail
          go_roundw
          case rel => exact ⟨j + 1, by go_num, by omega, by first | rfl | trivial⟩
          case measure => simp [intOf]; omega
    · go_wp2_with fail
      go_loopw [5] (fun i W => ∃ j : Nat, i = .int .i64 j ∧ j ≤ T.length ∧ W = w) (fun i _ => T.length - (intOf i).toNat)
      case atStart => exact ⟨0, rfl, by omega, rfl⟩
      case round =>
        obtain ⟨j, rfl, hj, hw⟩ := hrel
        obtain rfl := hw.symm
        by_cases hjl : (j : Int) < T.length
        · obtain ⟨G, xo, m, xc, rfl, cj, hm, HQ⟩ := KT.out j (by omega)
          have KQ : Hid _ := HQ
          have hM : ((j / 14 * 14 : Nat) : Int) = (j : Int) / 14 * 14 := by omega
          have HM : Hid _ := hM
          clear HQ hM
          go_wp2_with fail
          go_loopw [6] (fun k W => ∃ q : Nat, k = .int .i64 q ∧ q ≤ m ∧ W = w) (fun k _ => m - (intOf k).toNat)
          case atStart => exact ⟨0, rfl, by omega, rfl⟩
          case round =>
            obtain ⟨q, rfl, hq, hw⟩ := hrel
            obtain rfl := hw.symm
            by_cases hqm : (q : Int) < m
            · obtain ⟨g, rfl, hgc⟩ := KQ.out q (by omega)
              have hM := HM.out
              have g0 : w.cell? ⟨g, q * 5, none⟩ = _ := hgc 0 _ rfl
              have g2 : w.cell? ⟨g, q * 5 + 2, none⟩ = _ := hgc 2 _ rfl
              rw [hM] at g0
              clear hgc
              clear hM
              go_wp2_with fail
              go_roundw
              case rel => exact ⟨q + 1, by go_num, by omega, by first | rfl | trivial⟩
              case measure => simp [intOf]; omega
            · go_wp2_with fail
              go_roundw
              case rel => exact ⟨j + 1, by go_num, by omega, by first | rfl | trivial⟩
              case measure => simp [intOf]; omega
        · go_wp2_with fail
          go_loopw [7] (fun i W => ∃ j : Nat, i = .int .i64 j ∧ j ≤ R.length ∧ W = w) (fun i _ => R.length - (intOf i).toNat)
          case atStart => exact ⟨0, rfl, by omega, rfl⟩
          case round =>
            obtain ⟨j, rfl, hj, hw⟩ := hrel
            obtain rfl := hw.symm
            by_cases hjl : (j : Int) < R.length
            · obtain ⟨G, xo, m, xc, rfl, cj, hm, HQ⟩ := KR.out j (by omega)
              have KQ : Hid _ := HQ
              have hM : ((j / 14 * 14 : Nat) : Int) = (j : Int) / 14 * 14 := by omega
              have HM : Hid _ := hM
              clear HQ hM
              go_wp2_with fail
              go_loopw [8] (fun k W => ∃ q : Nat, k = .int .i64 q ∧ q ≤ m ∧ W = w) (fun k _ => m - (intOf k).toNat)
              case atStart => exact ⟨0, rfl, by omega, rfl⟩
              case round =>
                obtain ⟨q, rfl, hq, hw⟩ := hrel
                obtain rfl := hw.symm
                by_cases hqm : (q : Int) < m
                · obtain ⟨g, rfl, hgc⟩ := KQ.out q (by omega)
                  have hM := HM.out
                  have g0 : w.cell? ⟨g, q * 3, none⟩ = _ := hgc 0 _ rfl
                  have g1 : w.cell? ⟨g, q * 3 + 1, none⟩ = _ := hgc 1 _ rfl
                  have g2 : w.cell? ⟨g, q * 3 + 2, none⟩ = _ := hgc 2 _ rfl
                  rw [hM] at g0
                  obtain ⟨d, hd1, hd⟩ := ne_val ⟨-5 - (j : Int) / 14 * 14, 0, ⟨#[]⟩⟩ ⟨-5 - (j : Int) / 14 * 14, 0, ⟨#[]⟩⟩
                  obtain rfl : d = false := by cases d with
                    | false => rfl
                    | true => exact absurd rfl (hd1.1 rfl)
                  clear hd1 hgc
                  clear hM
                  go_wp2_with fail
                  go_roundw
                  case rel => exact ⟨q + 1, by go_num, by omega, by first | rfl | trivial⟩
                  case measure => simp [intOf]; omega
                · go_wp2_with fail
                  go_roundw
                  case rel => exact ⟨j + 1, by go_num, by omega, by first | rfl | trivial⟩
                  case measure => simp [intOf]; omega
            · go_wp2_with fail
              go_ret
              exact ⟨rfl, rfl⟩
end Go.Proofs.Ytolamjipigfocaa
