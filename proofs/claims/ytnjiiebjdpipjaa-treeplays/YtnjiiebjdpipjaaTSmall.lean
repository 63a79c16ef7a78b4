import Derived.Test.YtnjiiebjdpipjaaTCmp
import Derived.Deep.LoopGhost
/- Keys in their order; items. -/
namespace Go.Proofs.Ytnjiiebjdpipjaa
open Go.RowKit Go

theorem cb_self : ∀ x : List UInt8, Lib.compareBytes x x = 0
  | [] => rfl
  | a :: x => by
    have h : ¬ a < a := UInt8.lt_irrefl a
    rw [Lib.compareBytes, if_neg h, if_neg h]; exact cb_self x
theorem cb_eq : ∀ {x y : List UInt8}, Lib.compareBytes x y = 0 → x = y
  | [], [], _ => rfl
  | [], _ :: _, h => by simp [Lib.compareBytes] at h
  | _ :: _, [], h => by simp [Lib.compareBytes] at h
  | a :: x, b :: y, h => by
    rw [Lib.compareBytes] at h
    split at h
    · cases h
    · split at h
      · cases h
      · rename_i h1 h2
        have e : a = b := UInt8.le_antisymm (UInt8.not_lt.1 h2) (UInt8.not_lt.1 h1)
        rw [e, cb_eq h]
theorem cb_flip : ∀ (x y : List UInt8), Lib.compareBytes y x = - Lib.compareBytes x y
  | [], [] => rfl
  | [], _ :: _ => rfl
  | _ :: _, [] => rfl
  | a :: x, b :: y => by
    have ih := cb_flip x y
    simp only [Lib.compareBytes]
    by_cases h1 : a < b
    · have h2 : ¬ b < a := fun h => UInt8.lt_irrefl a (UInt8.lt_trans h1 h)
      simp [h1, h2]
    · by_cases h2 : b < a
      · simp [h1, h2]
      · simp [h1, h2, ih]
theorem cb_trans : ∀ {x y z : List UInt8}, Lib.compareBytes x y < 0 → Lib.compareBytes y z < 0 → Lib.compareBytes x z < 0
  | [], [], _, h, _ => by simp [Lib.compareBytes] at h
  | _ :: _, [], _, h, _ => by simp [Lib.compareBytes] at h
  | _, _ :: _, [], _, h => by simp [Lib.compareBytes] at h
  | [], _ :: _, _ :: _, _, _ => by simp [Lib.compareBytes]
  | a :: x, b :: y, c :: z, h1, h2 => by
    simp only [Lib.compareBytes] at *
    by_cases ab : a < b
    · by_cases bc : b < c
      · simp [UInt8.lt_trans ab bc]
      · by_cases cb : c < b
        · simp [bc, cb] at h2
        · have e : b = c := UInt8.le_antisymm (UInt8.not_lt.1 cb) (UInt8.not_lt.1 bc)
          subst e; simp [ab]
    · by_cases ba : b < a
      · simp [ab, ba] at h1
      · have e : a = b := UInt8.le_antisymm (UInt8.not_lt.1 ba) (UInt8.not_lt.1 ab)
        subst e
        by_cases bc : a < c
        · simp [bc]
        · by_cases cb : c < a
          · simp [bc, cb] at h2
          · simp only [ab, bc, cb, if_false] at *
            exact cb_trans h1 h2
/-- What a key is against another one. -/
def kc (a b : ByteArray) : Int := Lib.compareBytes a.data.toList b.data.toList
theorem kc_self (a : ByteArray) : kc a a = 0 := cb_self _
theorem kc_eq {a b : ByteArray} (h : kc a b = 0) : a = b := by
  have := cb_eq h
  obtain ⟨⟨x⟩⟩ := a
  obtain ⟨⟨y⟩⟩ := b
  simp only at this
  rw [this]
theorem kc_flip (a b : ByteArray) : kc b a = - kc a b := cb_flip _ _
theorem kc_trans {a b c : ByteArray} (h1 : kc a b < 0) (h2 : kc b c < 0) : kc a c < 0 := cb_trans h1 h2
/-- What a tree has as values; its items. -/
abbrev GV := Int
abbrev ev (x : GV) : Value := .int .i64 x
abbrev It := ByteArray × GV
abbrev itV (e : It) : Value := .agg #[.string e.1, ev e.2]
/-- The one item stands ahead of the other. -/
def KL (a b : It) : Prop := kc a.1 b.1 < 0
abbrev Sorted (l : List It) : Prop := l.Pairwise KL
theorem KL.trans {a b c : It} (h1 : KL a b) (h2 : KL b c) : KL a c := kc_trans h1 h2
/-- Below a key; above it. -/
def Lo (k : ByteArray) (e : It) : Prop := kc e.1 k < 0
def Hi (k : ByteArray) (e : It) : Prop := 0 < kc e.1 k
theorem Lo.of {k : ByteArray} {e e' : It} (h : KL e e') (h' : Lo k e') : Lo k e := kc_trans h h'
theorem Hi.of {k : ByteArray} {e e' : It} (h : KL e e') (h' : Hi k e) : Hi k e' := by
  have h1 : kc k e.1 < 0 := by have := kc_flip e.1 k; unfold Hi at h'; omega
  have h2 := kc_trans h1 h
  have := kc_flip k e'.1
  unfold Hi
  omega
/-- The cells of items. -/
def icl (l : List It) : List Value := l.flatMap (fun e => [.string e.1, ev e.2])
theorem icl_len : ∀ l : List It, (icl l).length = l.length * 2
  | [] => rfl
  | a :: l => by
    have := icl_len l
    unfold icl at this ⊢
    simp only [List.flatMap_cons, List.length_append, List.length_cons, List.length_nil, this]; omega
theorem icl_app (a b : List It) : icl (a ++ b) = icl a ++ icl b := by simp [icl]
theorem icl_cons (e : It) (b : List It) : icl (e :: b) = [.string e.1, ev e.2] ++ icl b := by simp [icl]
theorem icl_get : ∀ (l : List It) (k : Nat) (hk : k < l.length), (icl l)[k * 2]? = some (.string l[k].1) ∧ (icl l)[k * 2 + 1]? = some (ev l[k].2)
  | [], k, hk => by simp at hk
  | a :: l, 0, _ => by simp [icl]
  | a :: l, k + 1, hk => by
    have := icl_get l k (by simpa using hk)
    rw [icl_cons]
    have e1 : (k + 1) * 2 = k * 2 + 2 := by omega
    simp only [List.getElem_cons_succ]
    rw [e1]
    refine ⟨?_, ?_⟩
    · rw [List.getElem?_append_right (by simp)]; simpa using this.1
    · rw [List.getElem?_append_right (by simp)]; simpa using this.2
theorem icl_one (l : List It) : ∀ u ∈ icl l, u.oneCell' = true := fun u hu => by
  unfold icl at hu
  rw [List.mem_flatMap] at hu
  obtain ⟨a, _, hu⟩ := hu
  simp only [List.mem_cons, List.not_mem_nil, or_false] at hu
  rcases hu with rfl | rfl <;> rfl
theorem icl_take (l : List It) (k : Nat) : (icl l).take (k * 2) = icl (l.take k) := by
  induction l generalizing k with
  | nil => simp [icl]
  | cons a l ih =>
    cases k with
    | zero => simp [icl]
    | succ k =>
      rw [List.take_succ_cons, icl_cons, icl_cons, ← ih k, show (k + 1) * 2 = k * 2 + 1 + 1 by omega]
      simp
theorem icl_drop (l : List It) (k : Nat) : (icl l).drop (k * 2) = icl (l.drop k) := by
  induction l generalizing k with
  | nil => simp [icl]
  | cons a l ih =>
    cases k with
    | zero => simp [icl]
    | succ k =>
      rw [List.drop_succ_cons, icl_cons, ← ih k, show (k + 1) * 2 = k * 2 + 1 + 1 by omega]
      simp
/-- Where a key stands among items, or would. -/
structure Found (l : List It) (k : ByteArray) (i : Nat) (th : Bool) : Prop where
  le : i ≤ l.length
  lo : ∀ e ∈ l.take i, Lo k e
  hi : th = false → ∀ e ∈ l.drop i, Hi k e
  at_ : th = true → ∃ it, l[i]? = some it ∧ it.1 = k
  behind : th = true → ∀ e ∈ l.drop (i + 1), Hi k e
end Go.Proofs.Ytnjiiebjdpipjaa
/- find: slices.BinarySearchFunc at items. -/
namespace Go.Proofs.Ytnjiiebjdpipjaa
open Go.RowKit Go

set_option maxRecDepth 100000 in
theorem cmpit_any (e : It) (k : ByteArray) (w : World) : Calls Try.prog 75 #[itV e, .string k] w fun x w' => x = .returned (.int .i64 (kc e.1 k)) ∧ Tch (fun _ => False) w w' := by
  have HT : Hid (Tch (fun _ => False) w (w.alloc (.cells #[.string e.1, ev e.2] 74))) := Tch.alloc _ _ _
  have h0 : (w.alloc (.cells #[.string e.1, ev e.2] 74)).cell? ⟨w.heap.size, 0, none⟩ = some (.string e.1) := by rw [blk_cell (alloc_new w _)]; rfl
  have hcs : (itV e).cells = #[.string e.1, ev e.2] := rfl
  go_enter Try.func75, Try.ntmps75
  go_wp2_with (go_at_call 65; refine (cmpstr_any _ _ _).mono ?_; rintro x w1 ⟨rfl, rfl⟩)
  go_ret
  exact ⟨rfl, HT.out⟩

theorem sorted_lt {l : List It} (hs : Sorted l) {a b : Nat} (hab : a < b) (hb : b < l.length) : KL (l[a]'(by omega)) l[b] := List.pairwise_iff_getElem.1 hs a b (by omega) hb hab

set_option maxHeartbeats 4000000 in
set_option maxRecDepth 1000000 in
theorem bsearch_any (l : List It) (k : ByteArray) (v : Value) (w : World) (ho : w.ownsRow 0 74 2 v l.length (icl l)) (hs : Sorted l) (hl : l.length < 1000) :
    Calls Try.prog 74 #[v, .string k, .func (.func 75) #[] #[]] w fun x w' => (∃ (i : Nat) (th : Bool), x = .returned (.tuple #[.int .i64 i, .bool th]) ∧ Found l k i th) ∧ Tch (fun _ => False) w w' := by
  obtain ⟨ao, c, rfl⟩ := row_slice ho
  obtain ⟨n, hn⟩ : ∃ n, n = l.length := ⟨_, rfl⟩
  have HC : Hid (∀ W t (ht : t < l.length), Tch (fun _ => False) w W → ∃ g, ao = some ⟨g, 0, none⟩ ∧ W.cell? ⟨g, t * 2, none⟩ = some (.string l[t].1) ∧ W.cell? ⟨g, t * 2 + 1, none⟩ = some (ev l[t].2)) := fun W t ht tw => by
    obtain ⟨g, c', hv, _, _, hg, ha, _⟩ := own_at ho (by omega)
    injection hv with h1
    obtain ⟨c0, c1⟩ := icl_get l t ht
    have a0 := ha _ _ c0
    have a1 := ha _ _ c1
    rw [Nat.zero_add] at a0 a1
    exact ⟨g, h1, by rw [tw.cell (p := ⟨g, t * 2, none⟩) hg (fun h => h)]; exact a0, by rw [tw.cell (p := ⟨g, t * 2 + 1, none⟩) hg (fun h => h)]; exact a1⟩
  have HS : Hid (Sorted l) := hs
  have Hn : Hid (n = l.length) := hn
  rw [← hn]
  have hln : n < 1000 := by omega
  clear ho hs hn hl
  go_enter Try.func74, Try.ntmps74
  go_wp2_with fail
  go_loopg [9, 10] n (fun kx s9 s10 wr => ∃ lo hi : Nat, s9 = .int .i64 lo ∧ s10 = .int .i64 hi ∧ lo ≤ hi ∧ hi ≤ n ∧ hi - lo ≤ kx ∧ Hid (Tch (fun _ => False) w wr) ∧
    Hid ((∀ t (ht : t < l.length), t < lo → Lo k l[t]) ∧ (∀ t (ht : t < l.length), hi ≤ t → ¬ Lo k l[t])))
  case atStart => exact ⟨0, n, rfl, rfl, Nat.zero_le _, Nat.le_refl _, by omega, Tch.refl _ _, (⟨fun t ht h => absurd h (Nat.not_lt_zero _), fun t ht h2 => by have := Hn.out; omega⟩ : (∀ t (ht : t < l.length), t < 0 → Lo k l[t]) ∧ (∀ t (ht : t < l.length), n ≤ t → ¬ Lo k l[t]))⟩
  case round =>
    obtain ⟨lo, hi, rfl, rfl, hlh, hin, hg, T, I⟩ := hrel
    by_cases hlt : lo < hi
    · have hm : (lo + hi) / 2 < l.length := by have := Hn.out; omega
      obtain ⟨g, rfl, c0, c1⟩ := HC.out _ _ hm T.out
      obtain ⟨y, hy⟩ : ∃ y, y = l[(lo + hi) / 2] := ⟨_, rfl⟩
      rw [← hy] at c0 c1
      have Y : Hid (y = l[(lo + hi) / 2]) := hy
      clear hy
      have hc := cmpit_any y k wr
      by_cases hyx : kc y.1 k < 0
      · go_wp2_with (go_at_call 75; refine hc.mono ?_; rintro e w' ⟨rfl, t'⟩; have T' : Hid (Tch (fun _ => False) w w') := T.out.trans' t'; clear t')
        go_roundg (hi - ((lo + hi) / 2 + 1))
        case measure => omega
        case rel =>
          have I2 : Hid ((∀ t (ht : t < l.length), t < (lo + hi) / 2 + 1 → Lo k l[t]) ∧ (∀ t (ht : t < l.length), hi ≤ t → ¬ Lo k l[t])) := ⟨fun t ht h => by
            rcases Nat.lt_or_ge t ((lo + hi) / 2) with h1 | h1
            · exact Lo.of (sorted_lt HS.out h1 hm) (by rw [← Y.out]; exact hyx)
            · obtain rfl : t = (lo + hi) / 2 := by omega
              rw [← Y.out]; exact hyx, I.out.2⟩
          exact ⟨(lo + hi) / 2 + 1, hi, by rw [show ((lo : Int) + (hi : Int)) / 2 + 1 = (((lo + hi) / 2 + 1 : Nat) : Int) by omega], rfl, by omega, hin, Nat.le_refl _, T', I2⟩
      · go_wp2_with (go_at_call 75; refine hc.mono ?_; rintro e w' ⟨rfl, t'⟩; have T' : Hid (Tch (fun _ => False) w w') := T.out.trans' t'; clear t')
        go_roundg ((lo + hi) / 2 - lo)
        case measure => omega
        case rel =>
          have I2 : Hid ((∀ t (ht : t < l.length), t < lo → Lo k l[t]) ∧ (∀ t (ht : t < l.length), (lo + hi) / 2 ≤ t → ¬ Lo k l[t])) := ⟨I.out.1, fun t ht h h2 => by
            rcases Nat.lt_or_ge ((lo + hi) / 2) t with h1 | h1
            · have := Lo.of (sorted_lt HS.out h1 ht) h2
              rw [← Y.out] at this; unfold Lo at this; omega
            · obtain rfl : t = (lo + hi) / 2 := by omega
              rw [← Y.out] at h2; unfold Lo at h2; omega⟩
          exact ⟨lo, (lo + hi) / 2, rfl, by rw [show ((lo : Int) + (hi : Int)) / 2 = (((lo + hi) / 2 : Nat) : Int) by omega], by omega, by omega, Nat.le_refl _, T', I2⟩
    · obtain rfl : hi = lo := by omega
      have F1 : Hid (∀ e ∈ l.take hi, Lo k e) := fun e he => by
        obtain ⟨t, ht, rfl⟩ := List.getElem_of_mem he
        rw [List.length_take] at ht
        rw [List.getElem_take]
        exact I.out.1 t (by omega) (by omega)
      have F2 : Hid (∀ t (ht : t < l.length), hi ≤ t → 0 ≤ kc l[t].1 k) := fun t ht h => by have := I.out.2 t ht h; unfold Lo at this; omega
      by_cases hn : hi < n
      · have hm : hi < l.length := by have := Hn.out; omega
        obtain ⟨g, rfl, c0, c1⟩ := HC.out _ _ hm T.out
        obtain ⟨y, hy⟩ : ∃ y, y = l[hi] := ⟨_, rfl⟩
        rw [← hy] at c0 c1
        have Y : Hid (y = l[hi]) := hy
        clear hy
        have hc := cmpit_any y k wr
        have F3 : Hid (∀ e ∈ l.drop (hi + 1), 0 < kc e.1 k) := fun e he => by
          obtain ⟨t, ht, rfl⟩ := List.getElem_of_mem he
          rw [List.length_drop] at ht
          rw [List.getElem_drop]
          have h1 := F2.out hi hm (Nat.le_refl _)
          have h2 := sorted_lt HS.out (show hi < hi + 1 + t by omega) (by omega)
          rcases (by omega : kc l[hi].1 k = 0 ∨ 0 < kc l[hi].1 k) with h3 | h3
          · have e := kc_eq h3
            have h4 := kc_flip l[hi].1 (l[hi + 1 + t]'(by omega)).1
            unfold KL at h2
            rw [e] at h4 h2
            omega
          · exact Hi.of h2 h3
        by_cases hyx : kc y.1 k = 0
        · have hF : Hid (Found l k hi true) := ⟨by omega, F1.out, fun h => (by cases h), fun _ => ⟨y, by rw [Y.out, List.getElem?_eq_getElem hm], kc_eq hyx⟩, fun _ => F3.out⟩
          go_wp2_with (go_at_call 75; refine hc.mono ?_; rintro e w' ⟨rfl, t'⟩; have T' : Hid (Tch (fun _ => False) w w') := T.out.trans' t'; clear t')
          go_ret2
          exact ⟨⟨hi, true, by simp, hF.out⟩, T'.out⟩
        · have hF : Hid (Found l k hi false) := ⟨by omega, F1.out, fun _ e he => by
            rw [List.drop_eq_getElem_cons hm] at he
            rcases List.mem_cons.1 he with rfl | he
            · have := F2.out hi hm (Nat.le_refl _)
              rw [← Y.out] at this ⊢
              unfold Hi; omega
            · exact F3.out e he, fun h => (by cases h), fun h => (by cases h)⟩
          go_wp2_with (go_at_call 75; refine hc.mono ?_; rintro e w' ⟨rfl, t'⟩; have T' : Hid (Tch (fun _ => False) w w') := T.out.trans' t'; clear t')
          go_ret2
          exact ⟨⟨hi, false, by simp [hyx], hF.out⟩, T'.out⟩
      · have hF : Hid (Found l k hi false) := ⟨by have := Hn.out; omega, F1.out, fun _ e he => by
          rw [List.drop_eq_nil_of_le (by have := Hn.out; omega)] at he
          simp at he, fun h => (by cases h), fun h => (by cases h)⟩
        go_wp2_with fail
        go_ret2
        exact ⟨⟨hi, false, by simp, hF.out⟩, T.out⟩

/-- A node's cells. -/
def ND (w : World) (p : Nat) (iv kv : Value) (sz : Int) : Prop := w.heap[p]? = some (.cells #[iv, kv, .int .i64 sz] 68 (0, 0))
theorem ND.tch {S : Nat → Prop} {w w' : World} {p : Nat} {iv kv : Value} {sz : Int} (h : ND w p iv kv sz) (t : Tch S w w') (hp : ¬ S p) : ND w' p iv kv sz := by
  unfold ND; rw [t.block p (blk_lt h) hp]; exact h
theorem ND.cells {w : World} {p : Nat} {iv kv : Value} {sz : Int} (h : ND w p iv kv sz) : w.cell? ⟨p, 0, none⟩ = some iv ∧ w.cell? ⟨p, 1, none⟩ = some kv ∧ w.cell? ⟨p, 2, none⟩ = some (.int .i64 sz) ∧ ∀ i, w.frozen? ⟨p, i, none⟩ = false :=
  ⟨by rw [blk_cell h]; rfl, by rw [blk_cell h]; rfl, by rw [blk_cell h]; rfl, blk_frozen h⟩
set_option maxHeartbeats 1000000 in
set_option maxRecDepth 100000 in
theorem find_any (p : Nat) (l : List It) (k : ByteArray) (iv kv : Value) (sz : Int) (w : World) (hp : ND w p iv kv sz) (ho : w.ownsRow 0 74 2 iv l.length (icl l)) (hs : Sorted l) (hl : l.length < 1000) :
    Calls Try.prog 50 #[.pointer (some ⟨p, 0, none⟩), .string k] w fun x w' => (∃ (i : Nat) (th : Bool), x = .returned (.tuple #[.int .i64 i, .bool th]) ∧ Found l k i th) ∧ Tch (fun _ => False) w w' := by
  obtain ⟨c0, _, _, _⟩ := hp.cells
  have hq := bsearch_any l k iv w ho hs hl
  obtain ⟨ao, c, rfl⟩ := row_slice ho
  clear ho hp
  go_enter Try.func50, Try.ntmps50
  go_wp2_with fail
  refine hq.mono ?_
  rintro x w1 ⟨⟨i, th, rfl, hF⟩, t1⟩
  go_wp2_with fail
  go_ret2
  exact ⟨⟨i, th, rfl, hF⟩, t1⟩
end Go.Proofs.Ytnjiiebjdpipjaa
/- Nodes in the world. -/
namespace Go.Proofs.Ytnjiiebjdpipjaa
open Go.RowKit Go

abbrev pv (q : Nat) : Value := .pointer (some ⟨q, 0, none⟩)
/-- The cells of kids. -/
def pcl (qs : List Nat) : List Value := qs.map pv
theorem pcl_len (qs : List Nat) : (pcl qs).length = qs.length * 1 := by simp [pcl]
theorem pcl_one (qs : List Nat) : ∀ u ∈ pcl qs, u.oneCell' = true := fun u hu => by
  unfold pcl at hu
  rw [List.mem_map] at hu
  obtain ⟨q, _, rfl⟩ := hu
  rfl
theorem pcl_app (a b : List Nat) : pcl (a ++ b) = pcl a ++ pcl b := by simp [pcl]
theorem pcl_take (a : List Nat) (k : Nat) : (pcl a).take (k * 1) = pcl (a.take k) := by simp [pcl, List.map_take]
theorem pcl_drop (a : List Nat) (k : Nat) : (pcl a).drop (k * 1) = pcl (a.drop k) := by simp [pcl, List.map_drop]
theorem pcl_get (qs : List Nat) (k : Nat) (hk : k < qs.length) : (pcl qs)[k]? = some (pv qs[k]) := by simp [pcl, hk]
/-- The block of a row, if there is one. -/
def bl (v : Value) : List Nat := v.ownBlock.toList
/-- A node and its two rows. -/
structure FN (w : World) (p : Nat) (iv kv : Value) (l : List It) (qs : List Nat) (s : Int) : Prop where
  nd : ND w p iv kv s
  its : w.ownsRow 0 74 2 iv l.length (icl l)
  kids : w.ownsRow 0 62 1 kv qs.length (pcl qs)
/-- Its blocks. -/
def fb (p : Nat) (iv kv : Value) : List Nat := p :: (bl iv ++ bl kv)
theorem mem_bl {v : Value} {g : Nat} : g ∈ bl v ↔ v.ownBlock = some g := by
  unfold bl; cases h : v.ownBlock with
  | none => simp
  | some x => simp [eq_comm]
theorem FN.tch {S : Nat → Prop} {w w' : World} {p : Nat} {iv kv : Value} {l : List It} {qs : List Nat} {s : Int} (h : FN w p iv kv l qs s) (t : Tch S w w') (hS : ∀ b ∈ fb p iv kv, ¬ S b) : FN w' p iv kv l qs s :=
  ⟨h.nd.tch t (hS p (by simp [fb])), own_tch h.its t (fun g e => hS g (by simp [fb, mem_bl.2 e])), own_tch h.kids t (fun g e => hS g (by simp [fb, mem_bl.2 e]))⟩
theorem FN.lt {w : World} {p : Nat} {iv kv : Value} {l : List It} {qs : List Nat} {s : Int} (h : FN w p iv kv l qs s) : ∀ b ∈ fb p iv kv, b < w.heap.size := fun b hb => by
  unfold fb at hb
  simp only [List.mem_cons, List.mem_append] at hb
  rcases hb with rfl | hb | hb
  · exact blk_lt h.nd
  · exact (h.its.lt b (mem_bl.1 hb)).2
  · exact (h.kids.lt b (mem_bl.1 hb)).2
def KidsOf {h : Nat} (P : Nat → Nd It h → List Nat → Prop) (ts : List (Nd It h)) (qs FF : List Nat) : Prop := ∃ ks : List (Nat × Nd It h × List Nat), qs = ks.map (·.1) ∧ ts = ks.map (·.2.1) ∧ FF = ks.flatMap (·.2.2) ∧ ∀ k ∈ ks, P k.1 k.2.1 k.2.2
/-- A node of so many floors in the world, with all that is under it; its blocks. -/
def NW : (h : Nat) → World → Nat → Nd It h → List Nat → Prop
  | 0, w, p, t, F => ∃ iv kv, FN w p iv kv t.its [] (Nd.flat 0 t).length ∧ F = fb p iv kv ++ []
  | h + 1, w, p, t, F => ∃ iv kv qs FF, FN w p iv kv t.its qs (Nd.flat (h + 1) t).length ∧ KidsOf (NW h w) t.2 qs FF ∧ F = fb p iv kv ++ FF
def Kids : (h : Nat) → World → Nd It h → List Nat → List Nat → Prop
  | 0, _, _, qs, FF => qs = [] ∧ FF = []
  | h + 1, w, t, qs, FF => KidsOf (NW h w) t.2 qs FF
theorem NW_iff {h : Nat} {w : World} {p : Nat} {t : Nd It h} {F : List Nat} : NW h w p t F ↔ ∃ iv kv qs FF, FN w p iv kv t.its qs (Nd.flat h t).length ∧ Kids h w t qs FF ∧ F = fb p iv kv ++ FF := by
  cases h with
  | zero =>
    constructor
    · rintro ⟨iv, kv, h1, h2⟩; exact ⟨iv, kv, [], [], h1, ⟨rfl, rfl⟩, h2⟩
    · rintro ⟨iv, kv, qs, FF, h1, ⟨rfl, rfl⟩, h2⟩; exact ⟨iv, kv, h1, h2⟩
  | succ h => exact Iff.rfl
theorem NW.tch : ∀ {h : Nat} {S : Nat → Prop} {w w' : World} {p : Nat} {t : Nd It h} {F : List Nat}, NW h w p t F → Tch S w w' → (∀ b ∈ F, ¬ S b) → NW h w' p t F
  | 0, S, w, w', p, t, F, ⟨iv, kv, h1, h2⟩, tc, hS => ⟨iv, kv, h1.tch tc (fun b hb => hS b (by rw [h2]; simp [hb])), h2⟩
  | h + 1, S, w, w', p, t, F, ⟨iv, kv, qs, FF, h1, ⟨ks, e1, e2, e3, h3⟩, h2⟩, tc, hS => ⟨iv, kv, qs, FF, h1.tch tc (fun b hb => hS b (by rw [h2]; simp [hb])), ⟨ks, e1, e2, e3, fun k hk => (h3 k hk).tch tc (fun b hb => hS b (by rw [h2, e3]; simp only [List.mem_append, List.mem_flatMap]; exact Or.inr ⟨k, hk, hb⟩))⟩, h2⟩
theorem Kids.tch {h : Nat} {S : Nat → Prop} {w w' : World} {t : Nd It h} {qs FF : List Nat} (hk : Kids h w t qs FF) (tc : Tch S w w') (hS : ∀ b ∈ FF, ¬ S b) : Kids h w' t qs FF := by
  cases h with
  | zero => exact hk
  | succ h =>
    obtain ⟨ks, e1, e2, e3, h3⟩ := hk
    exact ⟨ks, e1, e2, e3, fun k hk => (h3 k hk).tch tc (fun b hb => hS b (by rw [e3]; simp only [List.mem_flatMap]; exact ⟨k, hk, hb⟩))⟩
theorem NW.lt : ∀ {h : Nat} {w : World} {p : Nat} {t : Nd It h} {F : List Nat}, NW h w p t F → ∀ b ∈ F, b < w.heap.size
  | 0, w, p, t, F, ⟨iv, kv, h1, h2⟩, b, hb => h1.lt b (by rw [h2] at hb; simpa using hb)
  | h + 1, w, p, t, F, ⟨iv, kv, qs, FF, h1, ⟨ks, e1, e2, e3, h3⟩, h2⟩, b, hb => by
    rw [h2, e3] at hb
    rcases List.mem_append.1 hb with hb | hb
    · exact h1.lt b hb
    · obtain ⟨k, hk, hb⟩ := List.mem_flatMap.1 hb
      exact (h3 k hk).lt b hb
theorem Kids.lt {h : Nat} {w : World} {t : Nd It h} {qs FF : List Nat} (hk : Kids h w t qs FF) : ∀ b ∈ FF, b < w.heap.size := fun b hb => by
  cases h with
  | zero => rw [hk.2] at hb; simp at hb
  | succ h =>
    obtain ⟨ks, e1, e2, e3, h3⟩ := hk
    rw [e3] at hb
    obtain ⟨k, hk, hb⟩ := List.mem_flatMap.1 hb
    exact (h3 k hk).lt b hb
theorem NW.mem {h : Nat} {w : World} {p : Nat} {t : Nd It h} {F : List Nat} (hn : NW h w p t F) : p ∈ F := by
  obtain ⟨iv, kv, qs, FF, _, _, rfl⟩ := NW_iff.1 hn
  simp [fb]
theorem Kids.mem {h : Nat} {w : World} {t : Nd It h} {qs FF : List Nat} (hk : Kids h w t qs FF) : ∀ q ∈ qs, q ∈ FF := fun q hq => by
  cases h with
  | zero => rw [hk.1] at hq; simp at hq
  | succ h =>
    obtain ⟨ks, rfl, e2, rfl, h3⟩ := hk
    obtain ⟨k, hk, rfl⟩ := List.mem_map.1 hq
    exact List.mem_flatMap.2 ⟨k, hk, (h3 k hk).mem⟩
theorem Kids.len {h : Nat} {w : World} {t : Nd It h} {qs FF : List Nat} (hk : Kids h w t qs FF) (he : t.even) : qs = [] ∨ qs.length = t.its.length + 1 := by
  cases h with
  | zero => exact Or.inl hk.1
  | succ h =>
    obtain ⟨ks, rfl, e2, rfl, h3⟩ := hk
    have : t.2.length = t.1.length + 1 := he
    rw [e2, List.length_map] at this
    exact Or.inr (by rw [List.length_map]; exact this)
/-- What a node's third cell says. -/
def zsz (w : World) (q : Nat) : Int := match w.cell? ⟨q, 2, none⟩ with | some (.int .i64 n) => n | _ => 0
def zsum (w : World) (qs : List Nat) : Int := (qs.map (zsz w)).sum
theorem NW.size {h : Nat} {w : World} {p : Nat} {t : Nd It h} {F : List Nat} (hn : NW h w p t F) : w.cell? ⟨p, 2, none⟩ = some (.int .i64 (Nd.flat h t).length) ∧ zsz w p = (Nd.flat h t).length := by
  obtain ⟨iv, kv, qs, FF, h1, _, _⟩ := NW_iff.1 hn
  have := h1.nd.cells.2.2.1
  exact ⟨this, by unfold zsz; rw [this]⟩
theorem sumI (ks : List Nat) : (((ks.sum : Nat)) : Int) = (ks.map (fun n : Nat => (n : Int))).sum := by
  induction ks with
  | nil => rfl
  | cons a l ih => simp only [List.sum_cons, List.map_cons, ← ih]; omega
theorem Kids.size {h : Nat} {w : World} {t : Nd It h} {qs FF : List Nat} (hk : Kids h w t qs FF) (he : t.even) : (t.its.length : Int) + zsum w qs = (Nd.flat h t).length := by
  cases h with
  | zero => rw [hk.1]; show (t.its.length : Int) + 0 = t.its.length; omega
  | succ h =>
    obtain ⟨ks, rfl, e2, rfl, h3⟩ := hk
    have hl : (t.flat (h + 1)).length = t.1.length + ((t.2.map (Nd.flat h)).map List.length).sum := mix_len t.1 (t.2.map (Nd.flat h)) (by rw [List.length_map]; exact he)
    rw [hl]
    have e : zsum w (ks.map (·.1)) = (((t.2.map (Nd.flat h)).map List.length).sum : Nat) := by
      rw [sumI, e2]
      unfold zsum
      simp only [List.map_map]
      congr 1
      exact List.map_congr_left (fun k hk => (h3 k hk).size.2)
    rw [e]
    show (t.1.length : Int) + _ = _
    omega
theorem Kids.cell {h : Nat} {w : World} {t : Nd It h} {qs FF : List Nat} (hk : Kids h w t qs FF) : ∀ q ∈ qs, w.cell? ⟨q, 2, none⟩ = some (.int .i64 (zsz w q)) ∧ 0 ≤ zsz w q := fun q hq => by
  cases h with
  | zero => rw [hk.1] at hq; simp at hq
  | succ h =>
    obtain ⟨ks, rfl, e2, rfl, h3⟩ := hk
    obtain ⟨k, hk, rfl⟩ := List.mem_map.1 hq
    have := (h3 k hk).size
    rw [this.2]
    exact ⟨this.1, by omega⟩
theorem Kids.cut {h : Nat} {w : World} {t : Nd It h} {qs FF : List Nat} (hk : Kids h w t qs FF) (i : Nat) : ∃ F1 F2, FF = F1 ++ F2 ∧ Kids h w (Nd.lo h i t) (qs.take (i + 1)) F1 ∧ Kids h w (Nd.hi h i t) (qs.drop (i + 1)) F2 := by
  cases h with
  | zero => obtain ⟨rfl, rfl⟩ := hk; exact ⟨[], [], rfl, ⟨rfl, rfl⟩, ⟨rfl, rfl⟩⟩
  | succ h =>
    obtain ⟨ks, rfl, e2, rfl, h3⟩ := hk
    refine ⟨(ks.take (i + 1)).flatMap (·.2.2), (ks.drop (i + 1)).flatMap (·.2.2), by rw [← List.flatMap_append, List.take_append_drop], ⟨ks.take (i + 1), by rw [List.map_take], ?_, rfl, fun k hk => h3 k (List.mem_of_mem_take hk)⟩, ⟨ks.drop (i + 1), by rw [List.map_drop], ?_, rfl, fun k hk => h3 k (List.mem_of_mem_drop hk)⟩⟩
    · show t.2.take (i + 1) = _
      rw [e2, List.map_take]
    · show t.2.drop (i + 1) = _
      rw [e2, List.map_drop]
theorem Kids.glue {h : Nat} {w : World} {l r : Nd It h} {ql qr Fl Fr : List Nat} (hl : Kids h w l ql Fl) (hr : Kids h w r qr Fr) (m : It) : Kids h w (Nd.glue h l m r) (ql ++ qr) (Fl ++ Fr) := by
  cases h with
  | zero => obtain ⟨rfl, rfl⟩ := hl; obtain ⟨rfl, rfl⟩ := hr; exact ⟨rfl, rfl⟩
  | succ h =>
    obtain ⟨ks, rfl, e2, rfl, h3⟩ := hl
    obtain ⟨ks', rfl, e2', rfl, h3'⟩ := hr
    refine ⟨ks ++ ks', by simp, ?_, by simp, fun k hk => (List.mem_append.1 hk).elim (h3 k) (h3' k)⟩
    show l.2 ++ r.2 = _
    rw [e2, e2', List.map_append]
/-- No block twice. -/
def Nod (F : List Nat) : Prop := ∀ b, F.count b ≤ 1
/-- Blocks that come in other ones' stead: old ones as before, new ones once. -/
def Fits (n : Nat) (F F' : List Nat) : Prop := ∀ b, (b < n → F'.count b ≤ F.count b) ∧ (n ≤ b → F'.count b ≤ 1)
theorem Fits.refl {n : Nat} {F : List Nat} (h : Nod F) : Fits n F F := fun b => ⟨fun _ => Nat.le_refl _, fun _ => h b⟩
theorem Fits.nod {n : Nat} {F F' : List Nat} (h : Fits n F F') (hF : Nod F) : Nod F' := fun b => by
  rcases Nat.lt_or_ge b n with hb | hb
  · exact Nat.le_trans ((h b).1 hb) (hF b)
  · exact (h b).2 hb
theorem Fits.trans {n m : Nat} {F F' F'' : List Nat} (h : Fits n F F') (h' : Fits m F' F'') (hnm : n ≤ m) : Fits n F F'' := fun b => by
  have h1 := h b
  have h2 := h' b
  constructor
  · intro hb; have := h1.1 hb; have := h2.1 (by omega); omega
  · intro hb
    rcases Nat.lt_or_ge b m with hm | hm
    · have := h1.2 hb; have := h2.1 hm; omega
    · exact h2.2 hm
theorem not_mem_of_count {F : List Nat} {b : Nat} (h : F.count b = 0) : b ∉ F := List.count_eq_zero.1 h
theorem Fits.old {n : Nat} {F F' : List Nat} (h : Fits n F F') {b : Nat} (hb : b ∈ F') : b ∈ F ∨ n ≤ b := by
  rcases Nat.lt_or_ge b n with hl | hl
  · have h1 := (h b).1 hl
    have h2 := List.count_pos_iff.2 hb
    exact Or.inl (List.count_pos_iff.1 (by omega))
  · exact Or.inr hl
end Go.Proofs.Ytnjiiebjdpipjaa
/- leaf, kid, count, recount. -/
namespace Go.Proofs.Ytnjiiebjdpipjaa
open Go.RowKit Go

/-- A kids' row, for reading. -/
theorem kid_at {w : World} {kv : Value} {qs : List Nat} (h : w.ownsRow 0 62 1 kv qs.length (pcl qs)) {k : Nat} (hk : k < qs.length) : ∃ g c, kv = .slice (some ⟨g, 0, none⟩) qs.length c ∧ qs.length ≤ c ∧ c ≤ 9223372036854775807 ∧ g < w.heap.size ∧ w.cell? ⟨g, k, none⟩ = some (pv qs[k]) ∧ ∀ j, w.frozen? ⟨g, j, none⟩ = false := by
  obtain ⟨g, c, hv, hc, hm, hg, ha, hf⟩ := own_at h (by omega)
  have := ha _ _ (pcl_get qs k hk)
  rw [Nat.zero_add] at this
  exact ⟨g, c, hv, hc, by unfold maxLen at hm; omega, hg, this, hf⟩
theorem it_at {w : World} {iv : Value} {l : List It} (h : w.ownsRow 0 74 2 iv l.length (icl l)) {k : Nat} (hk : k < l.length) : ∃ g c, iv = .slice (some ⟨g, 0, none⟩) l.length c ∧ l.length ≤ c ∧ c ≤ 9223372036854775807 ∧ g < w.heap.size ∧ w.cell? ⟨g, k * 2, none⟩ = some (.string l[k].1) ∧ w.cell? ⟨g, k * 2 + 1, none⟩ = some (ev l[k].2) ∧ ∀ j, w.frozen? ⟨g, j, none⟩ = false := by
  obtain ⟨g, c, hv, hc, hm, hg, ha, hf⟩ := own_at h (by omega)
  obtain ⟨c0, c1⟩ := icl_get l k hk
  have a0 := ha _ _ c0
  have a1 := ha _ _ c1
  rw [Nat.zero_add] at a0 a1
  exact ⟨g, c, hv, hc, by unfold maxLen at hm; omega, hg, a0, a1, hf⟩
theorem leaf_any (p : Nat) (iv kv : Value) (l : List It) (qs : List Nat) (s : Int) (w : World) (h : FN w p iv kv l qs s) : Calls Try.prog 51 #[pv p] w fun x w' => x = .returned (.bool qs.isEmpty) ∧ w' = w := by
  obtain ⟨_, c1, _, _⟩ := h.nd.cells
  obtain ⟨ao, c, hv⟩ := row_slice h.kids
  rw [hv] at c1
  cases qs with
  | nil =>
    clear h hv
    go_enter Try.func51, Try.ntmps51
    go_wp2
    go_ret
    exact ⟨rfl, rfl⟩
  | cons q qs =>
    obtain ⟨n, hn⟩ : ∃ n, n = (q :: qs).length := ⟨_, rfl⟩
    have hn0 : ¬ (n : Int) = 0 := by rw [hn]; simp only [List.length_cons]; omega
    rw [← hn] at c1
    clear h hv hn
    go_enter Try.func51, Try.ntmps51
    go_wp2
    go_ret
    exact ⟨by have h9 : ¬ n = 0 := by omega
              simp [h9], rfl⟩
theorem kid_none (p i : Nat) (iv kv : Value) (l : List It) (s : Int) (w : World) (h : FN w p iv kv l [] s) : Calls Try.prog 31 #[pv p, .int .i64 i] w fun x w' => x = .returned (.pointer none) ∧ w' = w := by
  have q := leaf_any p iv kv l [] s w h
  clear h
  go_enter Try.func31, Try.ntmps31
  go_wp2_with (go_at_call 51; refine q.mono ?_; rintro x w1 ⟨rfl, rfl⟩)
  go_ret
  exact ⟨rfl, rfl⟩
theorem kid_some (p i : Nat) (iv kv : Value) (l : List It) (qs : List Nat) (s : Int) (w : World) (h : FN w p iv kv l qs s) (hi : i < qs.length) (hq : qs.length < 1000) : Calls Try.prog 31 #[pv p, .int .i64 i] w fun x w' => x = .returned (pv qs[i]) ∧ w' = w := by
  have q := leaf_any p iv kv l qs s w h
  rw [show qs.isEmpty = false by cases qs with | nil => simp at hi | cons => rfl] at q
  obtain ⟨_, c1, _, _⟩ := h.nd.cells
  obtain ⟨g, c, hv, hc, hm, hg, ha, _⟩ := kid_at h.kids hi
  rw [hv] at c1
  obtain ⟨y, hy⟩ : ∃ y, y = qs[i] := ⟨_, rfl⟩
  rw [← hy] at ha ⊢
  obtain ⟨n, hn⟩ : ∃ n, n = qs.length := ⟨_, rfl⟩
  rw [← hn] at c1 hi hc hq
  have h0 : (i : Int) < n := by omega
  clear h hv hy hn hg
  go_enter Try.func31, Try.ntmps31
  go_wp2_with (go_at_call 51; refine q.mono ?_; rintro x w1 ⟨rfl, rfl⟩)
  go_ret
  exact ⟨rfl, rfl⟩
theorem count_nil (w : World) : Calls Try.prog 32 #[.pointer none] w fun x w' => x = .returned (.int .i64 0) ∧ w' = w := by
  go_enter Try.func32, Try.ntmps32
  go_wp2
  go_ret
  exact ⟨rfl, rfl⟩
theorem count_any (p : Nat) (s : Int) (w : World) (h : w.cell? ⟨p, 2, none⟩ = some (.int .i64 s)) : Calls Try.prog 32 #[pv p] w fun x w' => x = .returned (.int .i64 s) ∧ w' = w := by
  go_enter Try.func32, Try.ntmps32
  go_wp2
  go_ret
  exact ⟨rfl, rfl⟩
theorem ND.setSz {w : World} {p : Nat} {iv kv : Value} {s s' : Int} (h : ND w p iv kv s) : ND (w.setCell ⟨p, 2, none⟩ (.int .i64 s')) p iv kv s' := by
  have := blk_set (i := 2) h (.int .i64 s'); unfold ND; simpa using this
theorem ND.setI {w : World} {p : Nat} {iv kv iv' : Value} {s : Int} (h : ND w p iv kv s) : ND (w.setCell ⟨p, 0, none⟩ iv') p iv' kv s := by
  have := blk_set (i := 0) h iv'; unfold ND; simpa using this
theorem ND.setK {w : World} {p : Nat} {iv kv kv' : Value} {s : Int} (h : ND w p iv kv s) : ND (w.setCell ⟨p, 1, none⟩ kv') p iv kv' s := by
  have := blk_set (i := 1) h kv'; unfold ND; simpa using this
theorem zsum_take (w : World) (qs : List Nat) (k : Nat) (hk : k < qs.length) : zsum w (qs.take (k + 1)) = zsum w (qs.take k) + zsz w qs[k] := by
  unfold zsum
  rw [List.take_succ_eq_append_getElem hk, List.map_append, List.sum_append]
  simp
theorem zsum_nonneg (w : World) (B : Int) : ∀ (qs : List Nat), (∀ q ∈ qs, 0 ≤ zsz w q) → 0 ≤ zsum w qs
  | [], _ => by simp [zsum]
  | q :: qs, h => by
    have := zsum_nonneg w B qs (fun x hx => h x (by simp [hx]))
    have := h q (by simp)
    unfold zsum at *
    simp only [List.map_cons, List.sum_cons]
    omega
theorem zsum_le (w : World) (qs : List Nat) (k : Nat) (h : ∀ q ∈ qs, 0 ≤ zsz w q) : zsum w (qs.take k) ≤ zsum w qs := by
  have h1 : zsum w (qs.take k) + zsum w (qs.drop k) = zsum w qs := by
    unfold zsum
    rw [← List.sum_append, ← List.map_append, List.take_append_drop]
  have := zsum_nonneg w 0 (qs.drop k) (fun q hq => h q (List.mem_of_mem_drop hq))
  omega
set_option maxHeartbeats 2000000 in
set_option maxRecDepth 100000 in
theorem recount_any (p : Nat) (iv kv : Value) (l : List It) (qs : List Nat) (s : Int) (w : World) (h : FN w p iv kv l qs s) (hz : ∀ q ∈ qs, w.cell? ⟨q, 2, none⟩ = some (.int .i64 (zsz w q)) ∧ 0 ≤ zsz w q ∧ q ≠ p) (hb : zsum w qs ≤ 1000000000000000000) (hl : l.length < 1000) (hq : qs.length < 1000) (hpi : iv.ownBlock ≠ some p) (hpk : kv.ownBlock ≠ some p) :
    Calls Try.prog 81 #[pv p] w fun x w' => x = .returned (.tuple #[]) ∧ FN w' p iv kv l qs (l.length + zsum w qs) ∧ Tch (fun i => i = p) w w' := by
  obtain ⟨ao, c, hv⟩ := row_slice h.its
  obtain ⟨ko, kc', hkv⟩ := row_slice h.kids
  obtain ⟨n, hn⟩ : ∃ n, n = l.length := ⟨_, rfl⟩
  obtain ⟨m, hm⟩ : ∃ m, m = qs.length := ⟨_, rfl⟩
  have HW : Hid (∀ W, Tch (fun i => i = p) w W → ∀ k (hk : k < qs.length), ∃ g, ko = some ⟨g, 0, none⟩ ∧ W.cell? ⟨g, k, none⟩ = some (pv qs[k]) ∧ W.cell? ⟨qs[k], 2, none⟩ = some (.int .i64 (zsz w qs[k]))) := fun W tW k hk => by
    obtain ⟨g, c, e, _, _, hg, ha, _⟩ := kid_at h.kids hk
    rw [hkv] at e
    injection e with e1
    have hgp : g ≠ p := fun e => hpk (by rw [hkv, e1, e]; rfl)
    obtain ⟨z1, z2, z3⟩ := hz qs[k] (List.getElem_mem hk)
    exact ⟨g, e1, by rw [tW.cell (p := ⟨g, k, none⟩) hg hgp]; exact ha, by rw [tW.cell (p := ⟨qs[k], 2, none⟩) (cell_lt z1) z3]; exact z1⟩
  have HR : Hid (∀ W (z : Int), Tch (fun i => i = p) w W → ND W p iv kv z → FN W p iv kv l qs z) := fun W z tW hnd => ⟨hnd, own_tch h.its tW (fun g e h2 => hpi (by rw [h2] at e; exact e)), own_tch h.kids tW (fun g e h2 => hpk (by rw [h2] at e; exact e))⟩
  have HZ : Hid (∀ q ∈ qs, 0 ≤ zsz w q) := fun q hq => (hz q hq).2.1
  obtain ⟨c0, c1, c2, f0⟩ := h.nd.cells
  have f2 := f0 2
  rw [hv, ← hn] at c0
  rw [hkv, ← hm] at c1
  have Hn : Hid (n = l.length) := hn
  have Hm : Hid (m = qs.length) := hm
  have hnI : (n : Int) < 1000 := by omega
  have hmI : (m : Int) < 1000 := by omega
  obtain ⟨w1, hw1⟩ : ∃ w1, w1 = w.setCell ⟨p, 2, none⟩ (.int .i64 n) := ⟨_, rfl⟩
  have t1 : Hid (Tch (fun i => i = p) w w1) := by rw [hw1]; exact Tch.setCell _ _ _ _ rfl
  have N1 : Hid (ND w1 p iv kv n) := by rw [hw1]; exact h.nd.setSz
  have c1' : w1.cell? ⟨p, 1, none⟩ = some (.slice ko m kc') := by have := N1.out.cells.2.1; rw [this, hkv, ← hm]
  have Hw1 : Hid _ := hw1
  have Hb : Hid _ := hb
  clear h hz hw1 hb hn hm f0 hl hq
  go_enter Try.func81, Try.ntmps81
  go_wp2_with fail
  have hw1 := Hw1.out
  rw [← hw1]
  clear hw1 c0 c1 c2 f2
  go_wp2_with fail
  go_loopw [17] (fun i wr => ∃ k : Nat, i = .int .i64 k ∧ k ≤ m ∧ Hid (ND wr p iv kv (n + zsum w (qs.take k)) ∧ Tch (fun i => i = p) w wr)) (fun i _ => m - (intOf i).toNat)
  case atStart => exact ⟨0, rfl, Nat.zero_le _, by
    refine ⟨?_, t1.out⟩
    have := N1.out
    simpa [zsum] using this⟩
  case round =>
    clear N1 t1 c1'
    obtain ⟨k, rfl, hk, H⟩ := hrel
    by_cases hlt : (k : Int) < m
    · have hkq : k < qs.length := by have := Hm.out; omega
      obtain ⟨g, rfl, a0, a1⟩ := HW.out _ H.out.2 k hkq
      obtain ⟨_, _, c2, f0⟩ := H.out.1.cells
      have f2 := f0 2
      clear f0
      obtain ⟨y, hy⟩ : ∃ y, y = qs[k] := ⟨_, rfl⟩
      obtain ⟨zy, hzy⟩ : ∃ zy, zy = zsz w y := ⟨_, rfl⟩
      rw [← hy] at a0 a1
      rw [← hzy] at a1
      obtain ⟨S, hS⟩ : ∃ S, S = zsum w (qs.take k) := ⟨_, rfl⟩
      have hS1 : 0 ≤ S := by rw [hS]; exact zsum_nonneg w 0 _ (fun q hq => HZ.out q (List.mem_of_mem_take hq))
      have hS2 : S + zy = zsum w (qs.take (k + 1)) := by rw [hS, hzy, hy]; exact (zsum_take w qs k hkq).symm
      have hS3 : S + zy ≤ 1000000000000000000 := by rw [hS2]; exact Int.le_trans (zsum_le w qs (k + 1) HZ.out) Hb.out
      have hzy0 : 0 ≤ zy := by rw [hzy, hy]; exact HZ.out _ (List.getElem_mem hkq)
      rw [← hS] at c2 H
      have HS2 : Hid (S + zy = zsum w (qs.take (k + 1))) := hS2
      clear hy hzy hS hS2
      go_wp2_with fail
      go_region
      go_wp2_with fail
      go_roundw
      case rel =>
        refine ⟨k + 1, rfl, by omega, ?_⟩
        refine ⟨?_, (H.out.2.setCellR _ _ rfl).drew⟩
        rw [← HS2.out, ← Int.add_assoc]
        exact ND.setSz (w := wr) H.out.1
      case measure => simp [intOf]; omega
    · obtain rfl : k = m := by omega
      have HF : Hid (FN wr p iv kv l qs (l.length + zsum w qs)) := by
        have := H.out.1
        rw [List.take_of_length_le (by have := Hm.out; omega), Hn.out] at this
        exact HR.out _ _ H.out.2 this
      go_wp2_with fail
      go_end0
      have h9 := HF.out
      rw [hv, hkv] at h9
      exact ⟨rfl, h9, H.out.2⟩
end Go.Proofs.Ytnjiiebjdpipjaa
