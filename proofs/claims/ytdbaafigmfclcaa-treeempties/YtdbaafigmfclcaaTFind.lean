import Derived.Test.YtdbaafigmfclcaaTKey
import Derived.Deep.LoopGhost
/- find: slices.BinarySearchFunc at items. -/
namespace Go.Proofs.Ytdbaafigmfclcaa
open Go.RowKit Go

set_option maxRecDepth 100000 in
theorem cmpit_any (e : It) (k : ByteArray) (w : World) : Calls Try.prog 75 #[itV e, .string k] w fun x w' => x = .returned (.int .i64 (kc e.1 k)) ∧ Tch (fun _ => False) w w' := by
  have HT : Hid (Tch (fun _ => False) w (w.alloc (.cells #[.string e.1, ev e.2] 74))) := Tch.alloc _ _ _
  have h0 : (w.alloc (.cells #[.string e.1, ev e.2] 74)).cell? ⟨w.heap.size, 0, none⟩ = some (.string e.1) := by rw [blk_cell (alloc_new w _)]; rfl
  have hcs : (itV e).cells = #[.string e.1, ev e.2] := rfl
  go_enter Try.func75, Try.ntmps75
  go_wp2_with (go_at_call 65; refine (cmpstr_any _ _ _).mono ?_; rintro x w1 ⟨rfl, rfl⟩)
  go_ret
  exact ⟨rfl, HT.out⟩

theorem sorted_lt {l : List It} (hs : Sorted l) {a b : Nat} (hab : a < b) (hb : b < l.length) : KL (l[a]'(by omega)) l[b] := List.pairwise_iff_getElem.1 hs a b (by omega) hb hab

set_option maxHeartbeats 4000000 in
set_option maxRecDepth 1000000 in
theorem bsearch_any (l : List It) (k : ByteArray) (v : Value) (w : World) (ho : w.ownsRow 0 74 2 v l.length (icl l)) (hs : Sorted l) (hl : l.length < 1000) :
    Calls Try.prog 74 #[v, .string k, .func (.func 75) #[] #[]] w fun x w' => (∃ (i : Nat) (th : Bool), x = .returned (.tuple #[.int .i64 i, .bool th]) ∧ Found l k i th) ∧ Tch (fun _ => False) w w' := by
  obtain ⟨ao, c, rfl⟩ := row_slice ho
  obtain ⟨n, hn⟩ : ∃ n, n = l.length := ⟨_, rfl⟩
  have HC : Hid (∀ W t (ht : t < l.length), Tch (fun _ => False) w W → ∃ g, ao = some ⟨g, 0, none⟩ ∧ W.cell? ⟨g, t * 2, none⟩ = some (.string l[t].1) ∧ W.cell? ⟨g, t * 2 + 1, none⟩ = some (ev l[t].2)) := fun W t ht tw => by
    obtain ⟨g, c', hv, _, _, hg, ha, _⟩ := own_at ho (by omega)
    injection hv with h1
    obtain ⟨c0, c1⟩ := icl_get l t ht
    have a0 := ha _ _ c0
    have a1 := ha _ _ c1
    rw [Nat.zero_add] at a0 a1
    exact ⟨g, h1, by rw [tw.cell (p := ⟨g, t * 2, none⟩) hg (fun h => h)]; exact a0, by rw [tw.cell (p := ⟨g, t * 2 + 1, none⟩) hg (fun h => h)]; exact a1⟩
  have HS : Hid (Sorted l) := hs
  have Hn : Hid (n = l.length) := hn
  rw [← hn]
  have hln : n < 1000 := by omega
  clear ho hs hn hl
  go_enter Try.func74, Try.ntmps74
  go_wp2_with fail
  go_loopg [9, 10] n (fun kx s9 s10 wr => ∃ lo hi : Nat, s9 = .int .i64 lo ∧ s10 = .int .i64 hi ∧ lo ≤ hi ∧ hi ≤ n ∧ hi - lo ≤ kx ∧ Hid (Tch (fun _ => False) w wr) ∧
    Hid ((∀ t (ht : t < l.length), t < lo → Lo k l[t]) ∧ (∀ t (ht : t < l.length), hi ≤ t → ¬ Lo k l[t])))
  case atStart => exact ⟨0, n, rfl, rfl, Nat.zero_le _, Nat.le_refl _, by omega, Tch.refl _ _, (⟨fun t ht h => absurd h (Nat.not_lt_zero _), fun t ht h2 => by have := Hn.out; omega⟩ : (∀ t (ht : t < l.length), t < 0 → Lo k l[t]) ∧ (∀ t (ht : t < l.length), n ≤ t → ¬ Lo k l[t]))⟩
  case round =>
    obtain ⟨lo, hi, rfl, rfl, hlh, hin, hg, T, I⟩ := hrel
    by_cases hlt : lo < hi
    · have hm : (lo + hi) / 2 < l.length := by have := Hn.out; omega
      obtain ⟨g, rfl, c0, c1⟩ := HC.out _ _ hm T.out
      obtain ⟨y, hy⟩ : ∃ y, y = l[(lo + hi) / 2] := ⟨_, rfl⟩
      rw [← hy] at c0 c1
      have Y : Hid (y = l[(lo + hi) / 2]) := hy
      clear hy
      have hc := cmpit_any y k wr
      by_cases hyx : kc y.1 k < 0
      · go_wp2_with (go_at_call 75; refine hc.mono ?_; rintro e w' ⟨rfl, t'⟩; have T' : Hid (Tch (fun _ => False) w w') := T.out.trans' t'; clear t')
        go_roundg (hi - ((lo + hi) / 2 + 1))
        case measure => omega
        case rel =>
          have I2 : Hid ((∀ t (ht : t < l.length), t < (lo + hi) / 2 + 1 → Lo k l[t]) ∧ (∀ t (ht : t < l.length), hi ≤ t → ¬ Lo k l[t])) := ⟨fun t ht h => by
            rcases Nat.lt_or_ge t ((lo + hi) / 2) with h1 | h1
            · exact Lo.of (sorted_lt HS.out h1 hm) (by rw [← Y.out]; exact hyx)
            · obtain rfl : t = (lo + hi) / 2 := by omega
              rw [← Y.out]; exact hyx, I.out.2⟩
          exact ⟨(lo + hi) / 2 + 1, hi, by rw [show ((lo : Int) + (hi : Int)) / 2 + 1 = (((lo + hi) / 2 + 1 : Nat) : Int) by omega], rfl, by omega, hin, Nat.le_refl _, T', I2⟩
      · go_wp2_with (go_at_call 75; refine hc.mono ?_; rintro e w' ⟨rfl, t'⟩; have T' : Hid (Tch (fun _ => False) w w') := T.out.trans' t'; clear t')
        go_roundg ((lo + hi) / 2 - lo)
        case measure => omega
        case rel =>
          have I2 : Hid ((∀ t (ht : t < l.length), t < lo → Lo k l[t]) ∧ (∀ t (ht : t < l.length), (lo + hi) / 2 ≤ t → ¬ Lo k l[t])) := ⟨I.out.1, fun t ht h h2 => by
            rcases Nat.lt_or_ge ((lo + hi) / 2) t with h1 | h1
            · have := Lo.of (sorted_lt HS.out h1 ht) h2
              rw [← Y.out] at this; unfold Lo at this; omega
            · obtain rfl : t = (lo + hi) / 2 := by omega
              rw [← Y.out] at h2; unfold Lo at h2; omega⟩
          exact ⟨lo, (lo + hi) / 2, rfl, by rw [show ((lo : Int) + (hi : Int)) / 2 = (((lo + hi) / 2 : Nat) : Int) by omega], by omega, by omega, Nat.le_refl _, T', I2⟩
    · obtain rfl : hi = lo := by omega
      have F1 : Hid (∀ e ∈ l.take hi, Lo k e) := fun e he => by
        obtain ⟨t, ht, rfl⟩ := List.getElem_of_mem he
        rw [List.length_take] at ht
        rw [List.getElem_take]
        exact I.out.1 t (by omega) (by omega)
      have F2 : Hid (∀ t (ht : t < l.length), hi ≤ t → 0 ≤ kc l[t].1 k) := fun t ht h => by have := I.out.2 t ht h; unfold Lo at this; omega
      by_cases hn : hi < n
      · have hm : hi < l.length := by have := Hn.out; omega
        obtain ⟨g, rfl, c0, c1⟩ := HC.out _ _ hm T.out
        obtain ⟨y, hy⟩ : ∃ y, y = l[hi] := ⟨_, rfl⟩
        rw [← hy] at c0 c1
        have Y : Hid (y = l[hi]) := hy
        clear hy
        have hc := cmpit_any y k wr
        have F3 : Hid (∀ e ∈ l.drop (hi + 1), 0 < kc e.1 k) := fun e he => by
          obtain ⟨t, ht, rfl⟩ := List.getElem_of_mem he
          rw [List.length_drop] at ht
          rw [List.getElem_drop]
          have h1 := F2.out hi hm (Nat.le_refl _)
          have h2 := sorted_lt HS.out (show hi < hi + 1 + t by omega) (by omega)
          rcases (by omega : kc l[hi].1 k = 0 ∨ 0 < kc l[hi].1 k) with h3 | h3
          · have e := kc_eq h3
            have h4 := kc_flip l[hi].1 (l[hi + 1 + t]'(by omega)).1
            unfold KL at h2
            rw [e] at h4 h2
            omega
          · exact Hi.of h2 h3
        by_cases hyx : kc y.1 k = 0
        · have hF : Hid (Found l k hi true) := ⟨by omega, F1.out, fun h => (by cases h), fun _ => ⟨y, by rw [Y.out, List.getElem?_eq_getElem hm], kc_eq hyx⟩, fun _ => F3.out⟩
          go_wp2_with (go_at_call 75; refine hc.mono ?_; rintro e w' ⟨rfl, t'⟩; have T' : Hid (Tch (fun _ => False) w w') := T.out.trans' t'; clear t')
          go_ret2
          exact ⟨⟨hi, true, by simp, hF.out⟩, T'.out⟩
        · have hF : Hid (Found l k hi false) := ⟨by omega, F1.out, fun _ e he => by
            rw [List.drop_eq_getElem_cons hm] at he
            rcases List.mem_cons.1 he with rfl | he
            · have := F2.out hi hm (Nat.le_refl _)
              rw [← Y.out] at this ⊢
              unfold Hi; omega
            · exact F3.out e he, fun h => (by cases h), fun h => (by cases h)⟩
          go_wp2_with (go_at_call 75; refine hc.mono ?_; rintro e w' ⟨rfl, t'⟩; have T' : Hid (Tch (fun _ => False) w w') := T.out.trans' t'; clear t')
          go_ret2
          exact ⟨⟨hi, false, by simp [hyx], hF.out⟩, T'.out⟩
      · have hF : Hid (Found l k hi false) := ⟨by have := Hn.out; omega, F1.out, fun _ e he => by
          rw [List.drop_eq_nil_of_le (by have := Hn.out; omega)] at he
          simp at he, fun h => (by cases h), fun h => (by cases h)⟩
        go_wp2_with fail
        go_ret2
        exact ⟨⟨hi, false, by simp, hF.out⟩, T.out⟩

/-- A node's cells. -/
def ND (w : World) (p : Nat) (iv kv : Value) (sz : Int) : Prop := w.heap[p]? = some (.cells #[iv, kv, .int .i64 sz] 68 (0, 0))
theorem ND.tch {S : Nat → Prop} {w w' : World} {p : Nat} {iv kv : Value} {sz : Int} (h : ND w p iv kv sz) (t : Tch S w w') (hp : ¬ S p) : ND w' p iv kv sz := by
  unfold ND; rw [t.block p (blk_lt h) hp]; exact h
theorem ND.cells {w : World} {p : Nat} {iv kv : Value} {sz : Int} (h : ND w p iv kv sz) : w.cell? ⟨p, 0, none⟩ = some iv ∧ w.cell? ⟨p, 1, none⟩ = some kv ∧ w.cell? ⟨p, 2, none⟩ = some (.int .i64 sz) ∧ ∀ i, w.frozen? ⟨p, i, none⟩ = false :=
  ⟨by rw [blk_cell h]; rfl, by rw [blk_cell h]; rfl, by rw [blk_cell h]; rfl, blk_frozen h⟩
set_option maxHeartbeats 1000000 in
set_option maxRecDepth 100000 in
theorem find_any (p : Nat) (l : List It) (k : ByteArray) (iv kv : Value) (sz : Int) (w : World) (hp : ND w p iv kv sz) (ho : w.ownsRow 0 74 2 iv l.length (icl l)) (hs : Sorted l) (hl : l.length < 1000) :
    Calls Try.prog 50 #[.pointer (some ⟨p, 0, none⟩), .string k] w fun x w' => (∃ (i : Nat) (th : Bool), x = .returned (.tuple #[.int .i64 i, .bool th]) ∧ Found l k i th) ∧ Tch (fun _ => False) w w' := by
  obtain ⟨c0, _, _, _⟩ := hp.cells
  have hq := bsearch_any l k iv w ho hs hl
  obtain ⟨ao, c, rfl⟩ := row_slice ho
  clear ho hp
  go_enter Try.func50, Try.ntmps50
  go_wp2_with fail
  refine hq.mono ?_
  rintro x w1 ⟨⟨i, th, rfl, hF⟩, t1⟩
  go_wp2_with fail
  go_ret2
  exact ⟨⟨i, th, rfl, hF⟩, t1⟩
end Go.Proofs.Ytdbaafigmfclcaa
