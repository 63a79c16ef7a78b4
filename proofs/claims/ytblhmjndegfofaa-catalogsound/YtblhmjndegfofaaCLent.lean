import Derived.Test.YtblhmjndegfofaaCCopy
/- lent, back, sameRow of the law. -/
namespace Go.Proofs.Ytblhmjndegfofaa
open Go.RowKit Go

def EqOut (xs ys : List Val) (w : World) (x : Ending) (w' : World) : Prop := ∃ b : Bool, x = .returned (.bool b) ∧ (b = true ↔ xs = ys) ∧ ∃ m, w' = w.drewN m
set_option maxHeartbeats 2000000 in
set_option maxRecDepth 100000 in
theorem sameRow_any (xs ys : List Val) (ao bo : Option Addr) (ca cb : Nat) (w : World) (ha : SL w ao (vcl xs)) (hb : SL w bo (vcl ys)) (h1 : xs.length ≤ 9223372036854775807) :
    Calls Try.prog 46 #[.slice ao xs.length ca, .slice bo ys.length cb] w fun x w' => EqOut xs ys w x w' := by
  by_cases hl : xs.length = ys.length
  · have HA : Hid (∀ m, SL (w.drewN m) ao (vcl xs)) := fun m => ha.no ((Tch.refl _ w).drewN m)
    have HB : Hid (∀ m, SL (w.drewN m) bo (vcl ys)) := fun m => hb.no ((Tch.refl _ w).drewN m)
    have HL : Hid (xs.length = ys.length) := hl
    obtain ⟨n, hn⟩ : ∃ n, n = xs.length := ⟨_, rfl⟩
    have hn2 : n = ys.length := by omega
    rw [← hn, ← hn2]
    have HN : Hid (n = xs.length ∧ n = ys.length) := ⟨hn, hn2⟩
    rw [← hn] at h1
    clear ha hb hl hn hn2
    go_enter Try.func46, Try.ntmps46
    go_wp2_with fail
    go_loopw [5] (fun i wr => ∃ (k m : Nat), i = .int .i64 k ∧ k ≤ n ∧ Hid (∀ j (h1 : j < xs.length) (h2 : j < ys.length), j < k → xs[j] = ys[j]) ∧ wr = w.drewN m) (fun i _ => n - (intOf i).toNat)
    case atStart => exact ⟨0, 0, rfl, by omega, fun j _ _ h => by omega, rfl⟩
    case round =>
      obtain ⟨k, m, rfl, hk, HE, hwr⟩ := hrel
      by_cases hlt : (k : Int) < n
      · have hA := HA.out m
        have hB := HB.out m
        rw [← hwr] at hA hB
        have hx : k < xs.length := by have := HN.out.1; omega
        have hy : k < ys.length := by have := HN.out.2; omega
        obtain ⟨ga, oa, rfl, hra⟩ := hA.val hx
        obtain ⟨gb, ob, rfl, hrb⟩ := hB.val hy
        obtain ⟨a0, a1, a2⟩ := hra.val k hx
        obtain ⟨b0, b1, b2⟩ := hrb.val k hy
        have HW : Hid (wr = w.drewN m) := hwr
        obtain ⟨u, hu⟩ : ∃ u, u = xs[k] := ⟨_, rfl⟩
        obtain ⟨v, hv⟩ : ∃ v, v = ys[k] := ⟨_, rfl⟩
        rw [← hu] at a0 a1 a2
        rw [← hv] at b0 b1 b2
        have HU : Hid (u = xs[k] ∧ v = ys[k]) := ⟨hu, hv⟩
        clear hA hB hra hrb hwr hu hv
        obtain ⟨d, hd1, hd⟩ := ne_val u v
        have HD : Hid (d = true ↔ u ≠ v) := hd1
        clear hd1
        cases d with
        | true =>
          go_wp2_with fail
          go_quiet (fail)
          go_wp2
          go_ret
          refine ⟨false, rfl, ⟨fun h => by simp at h, fun h => ?_⟩, m + nq, by rw [HW.out, World.drewN_drewN]⟩
          exact absurd (by rw [HU.out.1, HU.out.2]; subst h; rfl) (HD.out.1 (by trivial))
        | false =>
          have HE2 : Hid (∀ j (h1 : j < xs.length) (h2 : j < ys.length), j < k + 1 → xs[j] = ys[j]) := fun j h1 h2 hj => by
            rcases Nat.lt_or_ge j k with h | h
            · exact HE.out j h1 h2 h
            · obtain rfl : j = k := by omega
              rw [← HU.out.1, ← HU.out.2]
              exact Classical.byContradiction fun hne => by have := HD.out.2 hne; simp at this
          go_wp2_with fail
          go_quiet (fail)
          go_wp2
          go_roundw
          case rel => exact ⟨k + 1, m + nq, by go_num, by omega, HE2, by rw [HW.out, World.drewN_drewN]⟩
          case measure => simp [intOf]; omega
      · have HW : Hid (wr = w.drewN m) := hwr
        clear hwr
        go_wp2
        go_ret
        refine ⟨true, rfl, ⟨fun _ => ?_, fun _ => rfl⟩, m, HW.out⟩
        exact List.ext_getElem HL.out (fun j h1 h2 => HE.out j h1 h2 (by have := HN.out.1; omega))
  · have hl' : ((xs.length : Int) != ys.length) = true := by simp; omega
    clear ha hb
    go_enter Try.func46, Try.ntmps46
    go_wp2
    go_ret
    exact ⟨false, rfl, ⟨fun h => by simp at h, fun h => absurd (by rw [h]) hl⟩, 0, rfl⟩


/-- What is lent, with what stands behind it. -/
def lentC (l : List Col) : List Col := l ++ [⟨⟨#[98, 101, 104, 105, 110, 100]⟩, 0, false⟩, ⟨⟨#[102, 97, 114]⟩, 0, false⟩]
def lentV (l : List Val) : List Val := l ++ [⟨0, 0, ⟨#[98, 101, 104, 105, 110, 100]⟩⟩, ⟨0, 0, ⟨#[102, 97, 114]⟩⟩]
theorem lentC_len (l : List Col) : (lentC l).length = l.length + 2 := by simp [lentC]
theorem lentV_len (l : List Val) : (lentV l).length = l.length + 2 := by simp [lentV]
theorem lentC_cells (l : List Col) : (((ccl l ++ rep 2 [.string ⟨#[]⟩, .int .i64 0, .bool false]).toArray.setIfInBounds (l.length * 3) (.string ⟨#[98, 101, 104, 105, 110, 100]⟩)).setIfInBounds ((l.length + 1) * 3) (.string ⟨#[102, 97, 114]⟩)) = (ccl (lentC l)).toArray := by
  have h := ccl_len l
  have e : ccl (lentC l) = ccl l ++ ccl [⟨⟨#[98, 101, 104, 105, 110, 100]⟩, 0, false⟩, ⟨⟨#[102, 97, 114]⟩, 0, false⟩] := f3_append ..
  rw [e, List.setIfInBounds_toArray, List.setIfInBounds_toArray, List.set_append_right _ _ (by omega), List.set_append_right _ _ (by omega), h]
  rw [show l.length * 3 - l.length * 3 = 0 by omega, show (l.length + 1) * 3 - l.length * 3 = 3 by omega]
  rfl
theorem lentV_cells (l : List Val) : (((vcl l ++ rep 2 [.int .i64 0, .int .i64 0, .string ⟨#[]⟩]).toArray.setIfInBounds (l.length * 3 + 2) (.string ⟨#[98, 101, 104, 105, 110, 100]⟩)).setIfInBounds ((l.length + 1) * 3 + 2) (.string ⟨#[102, 97, 114]⟩)) = (vcl (lentV l)).toArray := by
  have h := vcl_len l
  have e : vcl (lentV l) = vcl l ++ vcl [⟨0, 0, ⟨#[98, 101, 104, 105, 110, 100]⟩⟩, ⟨0, 0, ⟨#[102, 97, 114]⟩⟩] := f3_append ..
  rw [e, List.setIfInBounds_toArray, List.setIfInBounds_toArray, List.set_append_right _ _ (by omega), List.set_append_right _ _ (by omega), h]
  rw [show l.length * 3 + 2 - l.length * 3 = 2 by omega, show (l.length + 1) * 3 + 2 - l.length * 3 = 5 by omega]
  rfl
theorem blk_at {w : World} {g : Nat} {cs : List Value} {t : TypeId} {fr : Nat × Nat} (h : w.heap[g]? = some (.cells cs.toArray t fr)) : At w g 0 cs := fun j u hu => by
  rw [Nat.zero_add, blk_cell h]; simpa using hu

set_option maxHeartbeats 1000000 in
set_option maxRecDepth 100000 in
theorem lent_any (l : List Col) (ao : Option Addr) (c : Nat) (w : World) (h : SL w ao (ccl l)) (hao : ao = none → c = 0) (hlen : l.length * 32 ≤ 140737488351232) :
    Calls Try.prog 44 #[.slice ao l.length c] w fun x w' => x = .returned (.slice (some ⟨w.heap.size, 0, none⟩) ((l.length + 2 : Nat)) (l.length + 2)) ∧ w'.heap[w.heap.size]? = some (.cells (ccl (lentC l)).toArray 34 (0, 0)) ∧ Tch (fun _ => False) w w' := by
  have hmk := make_col (l.length + 2) w (by omega)
  have hn : (l.length : Int) ≤ 4398046510976 := by omega
  obtain ⟨n, hnn⟩ : ∃ n, n = l.length := ⟨_, rfl⟩
  obtain ⟨w1, hw1⟩ : ∃ w1, w1 = w.alloc (.cells (rep (n + 2) [.string ⟨#[]⟩, .int .i64 0, .bool false]).toArray 34) := ⟨_, rfl⟩
  obtain ⟨N, hN⟩ : ∃ N, N = w.heap.size := ⟨_, rfl⟩
  rw [← hnn, ← hw1, ← hN, show (((n + 2 : Nat)) : Int) = (n : Int) + 2 by omega] at hmk
  have t1 : Tch (fun _ => False) w w1 := by rw [hw1]; exact Tch.alloc _ _ _
  have hb : w1.heap[N]? = some (.cells (rep (n + 2) [.string ⟨#[]⟩, .int .i64 0, .bool false]).toArray 34 (0, 0)) := by rw [hw1, hN]; exact alloc_new _ _
  obtain ⟨w2, hcp, hb2, t2⟩ := copy_in (P := Try.prog) w1 27 34 34 N (n + 2) (n + 2) ao n c _ (ccl l) Try.underlying27 info_col3 hb (by rw [ccl_len, hnn]) (by omega) (by rw [List.size_toArray, rep_len]; simp; omega) (ccl_one l) (h.no t1) hao
  have hd : (rep (n + 2) [.string ⟨#[]⟩, .int .i64 0, .bool false]).toArray.toList.drop (n * 3) = rep 2 [.string ⟨#[]⟩, .int .i64 0, .bool false] := rep_drop n 2 [.string ⟨#[]⟩, .int .i64 0, .bool false]
  rw [hd] at hb2
  obtain ⟨X, hX⟩ : ∃ X, X = (ccl l ++ rep 2 [.string ⟨#[]⟩, .int .i64 0, .bool false]).toArray := ⟨_, rfl⟩
  rw [← hX] at hb2
  have hsz : X.size = n * 3 + 6 := by rw [hX, List.size_toArray, List.length_append, ccl_len, rep_len, hnn]; simp
  obtain ⟨y0, c0⟩ : ∃ y, w2.cell? ⟨N, n * 3, none⟩ = some y := ⟨X[n * 3]'(by omega), by rw [blk_cell hb2]; exact Array.getElem?_eq_getElem _⟩
  obtain ⟨y1, c1⟩ : ∃ y, (w2.setCell ⟨N, n * 3, none⟩ (.string ⟨#[98, 101, 104, 105, 110, 100]⟩)).cell? ⟨N, (n + 1) * 3, none⟩ = some y := ⟨X[(n + 1) * 3]'(by omega), by
    rw [World.cell?_setCell_other (h := by intro e; injection e; omega), blk_cell hb2]; exact Array.getElem?_eq_getElem _⟩
  have f0 := blk_frozen hb2 (n * 3)
  have f1 := blk_frozen hb2 ((n + 1) * 3)
  have HF : Hid (((w2.setCell ⟨N, n * 3, none⟩ (.string ⟨#[98, 101, 104, 105, 110, 100]⟩)).setCell ⟨N, (n + 1) * 3, none⟩ (.string ⟨#[102, 97, 114]⟩)).heap[N]? = some (.cells (ccl (lentC l)).toArray 34 (0, 0))) := by
    show _ = _
    rw [blk_set (blk_set hb2 _) _, hX, hnn, lentC_cells]
  have HT : Hid (Tch (fun _ => False) w ((w2.setCell ⟨N, n * 3, none⟩ (.string ⟨#[98, 101, 104, 105, 110, 100]⟩)).setCell ⟨N, (n + 1) * 3, none⟩ (.string ⟨#[102, 97, 114]⟩))) := by
    have hTa : Tch (fun i => i = N) w1 ((w2.setCell ⟨N, n * 3, none⟩ (.string ⟨#[98, 101, 104, 105, 110, 100]⟩)).setCell ⟨N, (n + 1) * 3, none⟩ (.string ⟨#[102, 97, 114]⟩)) := (t2.setCellR ⟨N, n * 3, none⟩ _ rfl).setCellR ⟨N, (n + 1) * 3, none⟩ _ rfl
    exact t1.trans hTa (fun i hi e => by omega)
  rw [← hnn, ← hN]
  rw [← hnn] at hn
  clear hb hb2 hX hw1 hd h hnn t1 t2 hN hsz
  go_enter Try.func44, Try.ntmps44
  go_wp2
  trace_state
  go_ret
  exact ⟨rfl, HF.out, HT.out⟩
end Go.Proofs.Ytblhmjndegfofaa
