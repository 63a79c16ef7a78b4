import Derived.Test.YtnjiiebjdpipjaaTOver
/- The document's map: what it does is told by the same words as the tree's; these leave no choice. -/
namespace Go.Proofs.Ytnjiiebjdpipjaa
open Go.RowKit Go

theorem split_uniq {k : ByteArray} {l X Y X2 Y2 : List It} (h1 : l = X ++ Y) (hX : ∀ e ∈ X, Lo k e) (hY : ∀ e ∈ Y, ¬ Lo k e) (h2 : l = X2 ++ Y2) (hX2 : ∀ e ∈ X2, Lo k e) (hY2 : ∀ e ∈ Y2, ¬ Lo k e) : X = X2 ∧ Y = Y2 := by
  rw [h1] at h2
  rcases List.append_eq_append_iff.1 h2 with ⟨Z, e1, e2⟩ | ⟨Z, e1, e2⟩
  · cases Z with
    | nil => simp at e1 e2; exact ⟨e1.symm, e2⟩
    | cons z Z => exact absurd (hX2 z (by rw [e1]; simp)) (hY z (by rw [e2]; simp))
  · cases Z with
    | nil => simp at e1 e2; exact ⟨e1, e2.symm⟩
    | cons z Z => exact absurd (hX z (by rw [e1]; simp)) (hY2 z (by rw [e2]; simp))
theorem Hi.nlo {k : ByteArray} {e : It} (h : Hi k e) : ¬ Lo k e := by unfold Hi at h; unfold Lo; omega
theorem self_nlo (k : ByteArray) (v : GV) : ¬ Lo k (k, v) := by unfold Lo; rw [kc_self]; omega
theorem self_nhi (k : ByteArray) (v : GV) : ¬ Hi k (k, v) := by unfold Hi; rw [kc_self]; omega
theorem nlo_cons {k : ByteArray} {v : GV} {y : List It} (h : ∀ e ∈ y, Hi k e) : ∀ e ∈ (k, v) :: y, ¬ Lo k e := fun e he => by
  rcases List.mem_cons.1 he with rfl | he
  · exact self_nlo k v
  · exact (h e he).nlo
theorem GetRel.uniq {k : ByteArray} {l : List It} {v v2 : GV} {th th2 : Bool} (h1 : GetRel k l v th) (h2 : GetRel k l v2 th2) : v = v2 ∧ th = th2 := by
  rcases h1 with ⟨rfl, x, y, e, hx, hy⟩ | ⟨rfl, rfl, x, y, e, hx, hy⟩ <;> rcases h2 with ⟨rfl, x2, y2, e2, hx2, hy2⟩ | ⟨rfl, rfl, x2, y2, e2, hx2, hy2⟩
  · obtain ⟨_, h⟩ := split_uniq e hx (nlo_cons hy) e2 hx2 (nlo_cons hy2)
    injection h with h
    injection h with _ h
    exact ⟨h, rfl⟩
  · obtain ⟨_, h⟩ := split_uniq e hx (nlo_cons hy) e2 hx2 (fun e he => (hy2 e he).nlo)
    exact absurd (hy2 (k, v) (by rw [← h]; simp)) (self_nhi k v)
  · obtain ⟨_, h⟩ := split_uniq e hx (fun e he => (hy e he).nlo) e2 hx2 (nlo_cons hy2)
    exact absurd (hy (k, v2) (by rw [h]; simp)) (self_nhi k v2)
  · exact ⟨rfl, rfl⟩
theorem PutRel.uniq {k : ByteArray} {w v v2 : GV} {l l1 l2 : List It} {th th2 : Bool} (h1 : PutRel k w l l1 v th) (h2 : PutRel k w l l2 v2 th2) : l1 = l2 ∧ v = v2 ∧ th = th2 := by
  rcases h1 with ⟨rfl, x, y, hx, hy, e, rfl⟩ | ⟨rfl, rfl, x, y, hx, hy, e, rfl⟩ <;> rcases h2 with ⟨rfl, x2, y2, hx2, hy2, e2, rfl⟩ | ⟨rfl, rfl, x2, y2, hx2, hy2, e2, rfl⟩
  · obtain ⟨h3, h⟩ := split_uniq e hx (nlo_cons hy) e2 hx2 (nlo_cons hy2)
    injection h with h h'
    injection h with _ h
    exact ⟨by rw [h3, h'], h, rfl⟩
  · obtain ⟨_, h⟩ := split_uniq e hx (nlo_cons hy) e2 hx2 (fun e he => (hy2 e he).nlo)
    exact absurd (hy2 (k, v) (by rw [← h]; simp)) (self_nhi k v)
  · obtain ⟨_, h⟩ := split_uniq e hx (fun e he => (hy e he).nlo) e2 hx2 (nlo_cons hy2)
    exact absurd (hy (k, v2) (by rw [h]; simp)) (self_nhi k v2)
  · obtain ⟨h3, h4⟩ := split_uniq e hx (fun e he => (hy e he).nlo) e2 hx2 (fun e he => (hy2 e he).nlo)
    exact ⟨by rw [h3, h4], rfl, rfl⟩
theorem RemRel.uniq {k : ByteArray} {v v2 : GV} {l l1 l2 : List It} {th th2 : Bool} (h1 : RemRel k l l1 v th) (h2 : RemRel k l l2 v2 th2) : l1 = l2 ∧ v = v2 ∧ th = th2 := by
  rcases h1 with ⟨rfl, x, y, hx, hy, rfl, e⟩ | ⟨rfl, rfl, rfl, x, y, e, hx, hy⟩ <;> rcases h2 with ⟨rfl, x2, y2, hx2, hy2, rfl, e2⟩ | ⟨rfl, rfl, rfl, x2, y2, e2, hx2, hy2⟩
  · obtain ⟨h3, h⟩ := split_uniq e hx (nlo_cons hy) e2 hx2 (nlo_cons hy2)
    injection h with h h'
    injection h with _ h
    exact ⟨by rw [h3, h'], h, rfl⟩
  · obtain ⟨_, h⟩ := split_uniq e hx (nlo_cons hy) e2 hx2 (fun e he => (hy2 e he).nlo)
    exact absurd (hy2 (k, v) (by rw [← h]; simp)) (self_nhi k v)
  · obtain ⟨_, h⟩ := split_uniq e hx (fun e he => (hy e he).nlo) e2 hx2 (nlo_cons hy2)
    exact absurd (hy (k, v2) (by rw [h]; simp)) (self_nhi k v2)
  · exact ⟨rfl, rfl, rfl⟩
theorem RankRel.uniq {k : ByteArray} {l : List It} {r r2 : Nat} (h1 : RankRel k l r) (h2 : RankRel k l r2) : r = r2 := by
  obtain ⟨X, Y, e, rfl, hX, hY⟩ := h1
  obtain ⟨X2, Y2, e2, rfl, hX2, hY2⟩ := h2
  rw [(split_uniq e hX hY e2 hX2 hY2).1]
/-- A rank leaves three cases apart. -/
theorem rank_cases {k : ByteArray} {l : List It} {r : Nat} (hs : Sorted l) (h : RankRel k l r) : r ≤ l.length ∧ (∀ e ∈ l.take r, Lo k e) ∧ ((∃ v, l[r]? = some (k, v) ∧ ∀ e ∈ l.drop (r + 1), Hi k e) ∨ ((∀ it, l[r]? = some it → it.1 ≠ k) ∧ ∀ e ∈ l.drop r, Hi k e)) := by
  obtain ⟨X, Y, e, rfl, hX, hY⟩ := h
  have h1 : l.take X.length = X := by rw [e]; simp
  have h2 : l.drop X.length = Y := by rw [e]; simp
  have h3 : l[X.length]? = Y[0]? := by rw [e, List.getElem?_append_right (Nat.le_refl _), Nat.sub_self]
  refine ⟨by rw [e]; simp, by rw [h1]; exact hX, ?_⟩
  rw [h2, h3]
  cases Y with
  | nil => exact .inr ⟨fun it h => by simp at h, fun e he => by cases he⟩
  | cons y Y =>
    have h4 : l.drop (X.length + 1) = Y := by rw [e]; simp
    rw [h4]
    rw [e] at hs
    have hp := List.pairwise_cons.1 (List.pairwise_append.1 hs).2.1
    have hy0 := hY y (by simp)
    unfold Lo at hy0
    by_cases hk : kc y.1 k = 0
    · have ek := kc_eq hk
      obtain ⟨y1, y2⟩ := y
      have ek' : y1 = k := ek
      subst ek'
      refine .inl ⟨y2, rfl, fun e he => ?_⟩
      have h9 : kc y1 e.1 < 0 := hp.1 e he
      unfold Hi
      have := kc_flip y1 e.1
      omega
    · refine .inr ⟨fun it h e => ?_, fun e he => ?_⟩
      · have h' : y = it := by simpa using h
        rw [h', e, kc_self] at hk
        exact hk rfl
      · rcases List.mem_cons.1 he with rfl | he
        · unfold Hi; omega
        · exact Hi.of (hp.1 e he) (by unfold Hi; omega)
end Go.Proofs.Ytnjiiebjdpipjaa
/- The document's map in the world: Rank, Get, Part. -/
namespace Go.Proofs.Ytnjiiebjdpipjaa
open Go.RowKit Go

theorem less_iff : ∀ (x y : List UInt8), Op.bytesLess x y = decide (Lib.compareBytes x y < 0)
  | [], [] => by simp [Op.bytesLess, Lib.compareBytes]
  | _ :: _, [] => by simp [Op.bytesLess, Lib.compareBytes]
  | [], _ :: _ => by simp [Op.bytesLess, Lib.compareBytes]
  | a :: x, b :: y => by
    unfold Op.bytesLess Lib.compareBytes
    by_cases ab : a < b
    · simp [ab]
    · by_cases ba : b < a
      · have hne : (a == b) = false := beq_eq_false_iff_ne.2 (fun e => by subst e; exact ab ba)
        simp [ab, ba, hne]
      · have e : a = b := UInt8.le_antisymm (UInt8.not_lt.1 ba) (UInt8.not_lt.1 ab)
        subst e
        simp [ab, less_iff x y]
theorem less_kc (x y : ByteArray) : Op.bytesLess x.toList y.toList = decide (kc x y < 0) := by
  rw [Lib.toList_data, Lib.toList_data]
  exact less_iff _ _
theorem str_beq (y k : ByteArray) : (y.toList == k.toList) = decide (y = k) := by
  by_cases e : y = k
  · subst e; simp
  · rw [decide_eq_false e]
    refine beq_eq_false_iff_ne.2 (fun h => e ?_)
    rw [Lib.toList_data, Lib.toList_data] at h
    obtain ⟨d⟩ := y
    obtain ⟨d'⟩ := k
    have : d = d' := Array.ext' h
    rw [this]
abbrev kcl (l : List It) : List Value := l.map (fun e => .string e.1)
abbrev vcl (l : List It) : List Value := l.map (fun e => .int .i64 e.2)
/-- The map: its keys and values, each in a row of its own. -/
structure MW (W : World) (mb : Nat) (l : List It) (F : List Nat) : Prop where
  so : Sorted l
  nod : Nod F
  rows : ∃ kv vv, W.heap[mb]? = some (.cells #[kv, vv] 51 (0, 0)) ∧ W.ownsRow 0 9 1 kv l.length (kcl l) ∧ W.ownsRow 0 3 1 vv l.length (vcl l) ∧ F = mb :: (bl kv ++ bl vv) ∧ (kv = .slice none 0 0 ↔ vv = .slice none 0 0)
theorem MW.lt {W : World} {mb : Nat} {l : List It} {F : List Nat} (h : MW W mb l F) : ∀ x ∈ F, x < W.heap.size := fun x hx => by
  obtain ⟨kv, vv, h1, h2, h3, rfl, _⟩ := h.rows
  rcases List.mem_cons.1 hx with rfl | hx
  · exact blk_lt h1
  · rcases List.mem_append.1 hx with hx | hx
    · exact (h2.lt x (mem_bl.1 hx)).2
    · exact (h3.lt x (mem_bl.1 hx)).2
theorem MW.tch {S : Nat → Prop} {W W' : World} {mb : Nat} {l : List It} {F : List Nat} (h : MW W mb l F) (t : Tch S W W') (hS : ∀ x ∈ F, ¬ S x) : MW W' mb l F := by
  obtain ⟨kv, vv, h1, h2, h3, rfl, hnn⟩ := h.rows
  exact ⟨h.so, h.nod, kv, vv, (t.block _ (blk_lt h1) (hS _ (by simp))).trans h1, own_tch h2 t (fun g hg => hS g (by simp [mem_bl, hg])), own_tch h3 t (fun g hg => hS g (by simp [mem_bl, hg])), rfl, hnn⟩
/-- What is read of a map: the two slices and their cells. -/
theorem MW.read {W : World} {mb : Nat} {l : List It} {F : List Nat} (h : MW W mb l F) : ∃ (ko vo : Option Addr) (kc' vc' : Nat), W.cell? ⟨mb, 0, none⟩ = some (.slice ko l.length kc') ∧ W.cell? ⟨mb, 1, none⟩ = some (.slice vo l.length vc') ∧
    ∀ (i : Nat) (e : It), l[i]? = some e → (∃ g, ko = some ⟨g, 0, none⟩ ∧ W.cell? ⟨g, i, none⟩ = some (.string e.1)) ∧ ∃ g, vo = some ⟨g, 0, none⟩ ∧ W.cell? ⟨g, i, none⟩ = some (.int .i64 e.2) := by
  obtain ⟨kv, vv, h1, h2, h3, rfl, _⟩ := h.rows
  obtain ⟨ko, c1, rfl⟩ := row_slice h2
  obtain ⟨vo, c2, rfl⟩ := row_slice h3
  refine ⟨ko, vo, c1, c2, by rw [blk_cell h1]; rfl, by rw [blk_cell h1]; rfl, fun i e he => ?_⟩
  have hi : i < l.length := (List.getElem?_eq_some_iff.1 he).1
  obtain ⟨g, gc, e1, _, _, _, hA, _⟩ := own_at h2 (by omega)
  obtain ⟨g', gc', e1', _, _, _, hA', _⟩ := own_at h3 (by omega)
  injection e1 with e1
  injection e1' with e1'
  refine ⟨⟨g, e1, ?_⟩, ⟨g', e1', ?_⟩⟩
  · have := hA i (.string e.1) (by rw [List.getElem?_map, he]; rfl)
    rwa [Nat.zero_add] at this
  · have := hA' i (.int .i64 e.2) (by rw [List.getElem?_map, he]; rfl)
    rwa [Nat.zero_add] at this
set_option maxHeartbeats 2000000 in
set_option maxRecDepth 100000 in
theorem rank_m (W : World) (mb : Nat) (l : List It) (F : List Nat) (k : ByteArray) (h : MW W mb l F) (hb : l.length ≤ 1000000000000000000) : Calls Try.prog 68 #[pv mb, .string k] W fun x w' => (∃ r : Nat, x = .returned (.int .i64 r) ∧ RankRel k l r) ∧ w' = W := by
  obtain ⟨ko, vo, c1, c2, y0, _, hc⟩ := h.read
  have HC : Hid (∀ (i : Nat) (e : It), l[i]? = some e → ∃ g, ko = some ⟨g, 0, none⟩ ∧ W.cell? ⟨g, i, none⟩ = some (.string e.1)) := fun i e he => (hc i e he).1
  have HS : Hid (Sorted l) := h.so
  obtain ⟨n, hn⟩ : ∃ n, n = l.length := ⟨_, rfl⟩
  have Hn : Hid (n = l.length) := hn
  have hnI : (n : Int) ≤ 1000000000000000000 := by omega
  rw [← hn] at y0
  clear h hb hc hn
  go_enter Try.func68, Try.ntmps68
  go_wp2_with fail
  go_loopw [5] (fun s5 wr => ∃ i : Nat, s5 = .int .i64 i ∧ i ≤ n ∧ Hid (∀ e ∈ l.take i, Lo k e) ∧ wr = W) (fun s5 _ => n - (intOf s5).toNat)
  case atStart => exact ⟨0, rfl, Nat.zero_le _, fun e he => (by simp at he), rfl⟩
  case round =>
    obtain ⟨i, rfl, hin, HL, rfl⟩ := hrel
    by_cases hlt : (i : Int) < n
    · obtain ⟨e, he⟩ : ∃ e, l[i]? = some e := ⟨l[i]'(by have := Hn.out; omega), List.getElem?_eq_getElem _⟩
      obtain ⟨g, rfl, hc⟩ := HC.out i e he
      have hle := less_kc e.1 k
      have He : Hid (l[i]? = some e) := he
      clear he
      by_cases hk : kc e.1 k < 0
      · rw [decide_eq_true hk] at hle
        have HL2 : Hid (∀ x ∈ l.take (i + 1), Lo k x) := fun x hx => by
          rw [List.take_add_one, He.out] at hx
          rcases List.mem_append.1 hx with hx | hx
          · exact HL.out x hx
          · have : x = e := by simpa using hx
            subst this; exact hk
        clear hk
        go_wp2_with fail
        go_roundw
        case measure => simp [intOf]; omega
        case rel => exact ⟨i + 1, by go_num, by omega, HL2, trivial⟩
      · rw [decide_eq_false hk] at hle
        have HR : Hid (RankRel k l i) := by
          refine ⟨l.take i, l.drop i, (List.take_append_drop _ _).symm, by rw [List.length_take]; have := Hn.out; omega, HL.out, fun x hx => ?_⟩
          obtain ⟨h1, h2⟩ := List.getElem?_eq_some_iff.1 He.out
          rw [List.drop_eq_getElem_cons h1, h2] at hx
          have hp := HS.out
          rw [← List.take_append_drop i l, List.drop_eq_getElem_cons h1, h2] at hp
          rcases List.mem_cons.1 hx with rfl | hx
          · exact hk
          · intro hlo
            exact hk (Lo.of ((List.pairwise_cons.1 (List.pairwise_append.1 hp).2.1).1 x hx) hlo)
        clear hk
        go_wp2_with fail
        go_ret
        exact ⟨⟨i, rfl, HR.out⟩, rfl⟩
    · have HR : Hid (RankRel k l i) := ⟨l, [], by simp, by have := Hn.out; omega, by
          have := HL.out
          rwa [List.take_of_length_le (by have := Hn.out; omega)] at this, fun e he => by cases he⟩
      go_wp2_with fail
      go_ret
      exact ⟨⟨i, rfl, HR.out⟩, rfl⟩
set_option maxHeartbeats 2000000 in
set_option maxRecDepth 100000 in
theorem get_m (W : World) (mb : Nat) (l : List It) (F : List Nat) (k : ByteArray) (h : MW W mb l F) (hb : l.length ≤ 1000000000000000000) : Calls Try.prog 69 #[pv mb, .string k] W fun x w' => (∃ v th, x = .returned (.tuple #[ev v, .bool th]) ∧ GetRel k l v th) ∧ w' = W := by
  obtain ⟨ko, vo, c1, c2, y0, y1, hc⟩ := h.read
  have q := rank_m W mb l F k h hb
  have HC : Hid _ := hc
  have HS : Hid (Sorted l) := h.so
  obtain ⟨n, hn⟩ : ∃ n, n = l.length := ⟨_, rfl⟩
  have Hn : Hid (n = l.length) := hn
  have hnI : (n : Int) ≤ 1000000000000000000 := by omega
  rw [← hn] at y0 y1
  clear h hb hc hn
  go_enter Try.func69, Try.ntmps69
  go_wp2_with fail
  refine q.mono ?_
  clear q
  rintro x w' ⟨⟨r, rfl, hr⟩, rfl⟩
  obtain ⟨hrl, hlo, hcase⟩ := rank_cases HS.out hr
  by_cases hlt : (r : Int) < n
  · obtain ⟨e, he⟩ : ∃ e, l[r]? = some e := ⟨l[r]'(by have := Hn.out; omega), List.getElem?_eq_getElem _⟩
    obtain ⟨⟨g, rfl, hc1⟩, ⟨g', rfl, hc2⟩⟩ := HC.out r e he
    have hbe := str_beq e.1 k
    obtain ⟨h1, h2⟩ := List.getElem?_eq_some_iff.1 he
    rcases hcase with ⟨v, hv, hhi⟩ | ⟨hne, hhi⟩
    · rw [he] at hv
      injection hv with hv
      subst hv
      rw [decide_eq_true rfl] at hbe
      have HR : Hid (GetRel k l v true) := .inl ⟨rfl, l.take r, l.drop (r + 1), by rw [← h2, ← List.drop_eq_getElem_cons h1, List.take_append_drop], hlo, hhi⟩
      clear hhi hlo hr he h1 h2 hrl
      go_wp2_with fail
      go_ret2
      exact ⟨⟨v, true, rfl, HR.out⟩, rfl⟩
    · rw [decide_eq_false (hne e he)] at hbe
      have HR : Hid (GetRel k l gv0 false) := .inr ⟨rfl, rfl, l.take r, l.drop r, (List.take_append_drop _ _).symm, hlo, hhi⟩
      clear hhi hlo hr he h1 h2 hrl hne
      go_wp2_with fail
      go_ret2
      exact ⟨⟨gv0, false, rfl, HR.out⟩, rfl⟩
  · have HR : Hid (GetRel k l gv0 false) := by
      refine .inr ⟨rfl, rfl, l.take r, l.drop r, (List.take_append_drop _ _).symm, hlo, fun e he => ?_⟩
      rw [List.drop_of_length_le (by have := Hn.out; omega)] at he
      cases he
    clear hlo hr hrl hcase
    go_wp2_with fail
    go_ret2
    exact ⟨⟨gv0, false, rfl, HR.out⟩, rfl⟩
/-- What Part gives. -/
def PartRel (f o : ByteArray) (l : List It) (a b : Nat) : Prop := RankRel f l a ∧ ∃ b', ((o = ⟨#[]⟩ ∧ b' = l.length) ∨ (o ≠ ⟨#[]⟩ ∧ RankRel o l b')) ∧ b = if b' < a then a else b'
theorem RankRel.parts {k : ByteArray} {l : List It} {r : Nat} (h : RankRel k l r) : r ≤ l.length ∧ (∀ e ∈ l.take r, Lo k e) ∧ ∀ e ∈ l.drop r, ¬ Lo k e := by
  obtain ⟨X, Y, e, rfl, hX, hY⟩ := h
  have h1 : l.take X.length = X := by rw [e]; simp
  have h2 : l.drop X.length = Y := by rw [e]; simp
  exact ⟨by rw [e]; simp, by rw [h1]; exact hX, by rw [h2]; exact hY⟩
theorem part_sp {f o : ByteArray} {l : List It} {a b : Nat} (h : PartRel f o l a b) : a ≤ b ∧ b ≤ l.length ∧ sp f o l = cut l a b := by
  obtain ⟨ha, b', hb, rfl⟩ := h
  obtain ⟨a1, a2, a3⟩ := ha.parts
  have hb' : b' ≤ l.length ∧ (∀ e ∈ l.take b', o = ⟨#[]⟩ ∨ kc e.1 o < 0) ∧ ∀ e ∈ l.drop b', o ≠ ⟨#[]⟩ ∧ ¬ kc e.1 o < 0 := by
    rcases hb with ⟨e, rfl⟩ | ⟨hne, hr⟩
    · exact ⟨Nat.le_refl _, fun _ _ => .inl e, fun e he => by rw [List.drop_length] at he; cases he⟩
    · obtain ⟨b1, b2, b3⟩ := hr.parts
      exact ⟨b1, fun e he => .inr (b2 e he), fun e he => ⟨hne, b3 e he⟩⟩
  obtain ⟨b1, b2, b3⟩ := hb'
  have hlo : sp f o (cut l 0 a) = [] := sp_none (fun e he => inSp_lo (a2 e (by unfold cut at he; simpa using he)))
  have hhi : sp f o (cut l b' l.length) = [] := sp_none (fun e he => by
    have := b3 e (by unfold cut at he; rwa [List.take_length] at he)
    unfold inSp
    rw [decide_eq_false this.1, decide_eq_false (p := kc e.1 o < 0) this.2]
    simp)
  by_cases hab : b' < a
  · rw [if_pos hab]
    refine ⟨Nat.le_refl _, a1, ?_⟩
    rw [cut_self]
    have h4 := cut_app l 0 a l.length (Nat.zero_le _) a1
    have h5 := cut_app l b' a l.length (by omega) a1
    rw [cut_all _ _ (Nat.le_refl _)] at h4
    rw [h5, sp_app] at hhi
    rw [h4, sp_app, hlo, (List.append_eq_nil_iff.1 hhi).2]
    rfl
  · rw [if_neg hab]
    refine ⟨by omega, b1, ?_⟩
    have h4 := cut_app l 0 a l.length (Nat.zero_le _) a1
    rw [cut_app l a b' l.length (by omega) b1, cut_all _ _ (Nat.le_refl _)] at h4
    conv => lhs; rw [h4]
    rw [sp_app, sp_app, hlo, hhi, List.nil_append, List.append_nil]
    unfold sp
    rw [List.filter_eq_self]
    intro e he
    have e1 : e ∈ l.drop a := by
      unfold cut at he
      rw [List.drop_take] at he
      exact List.mem_of_mem_take he
    have e2 : e ∈ l.take b' := by
      unfold cut at he
      exact List.mem_of_mem_drop he
    have h6 := a3 e e1
    unfold Lo at h6
    unfold inSp
    rw [decide_eq_true (p := 0 ≤ kc e.1 f) (by omega)]
    rcases b2 e e2 with h7 | h7
    · rw [decide_eq_true h7]; rfl
    · rw [decide_eq_true h7]; simp
set_option maxHeartbeats 2000000 in
set_option maxRecDepth 100000 in
theorem part_m (W : World) (mb : Nat) (l : List It) (F : List Nat) (f o : ByteArray) (h : MW W mb l F) (hb : l.length ≤ 1000000000000000000) : Calls Try.prog 47 #[pv mb, .string f, .string o] W fun x w' => (∃ a b : Nat, x = .returned (.tuple #[.int .i64 a, .int .i64 b]) ∧ PartRel f o l a b) ∧ w' = W := by
  obtain ⟨ko, vo, c1, c2, y0, y1, hc⟩ := h.read
  have q := rank_m W mb l F f h hb
  have q2 := rank_m W mb l F o h hb
  clear h hb hc y1
  go_enter Try.func47, Try.ntmps47
  go_wp2_with fail
  refine q.mono ?_
  clear q
  rintro x w' ⟨⟨a, rfl, ha⟩, rfl⟩
  have Ha : Hid (RankRel f l a) := ha
  clear ha
  by_cases ho : o = ⟨#[]⟩
  · subst ho
    clear q2
    by_cases hlt : (l.length : Int) < a
    · go_wp2_with fail
      go_ret2
      exact ⟨⟨a, a, rfl, Ha.out, l.length, .inl ⟨rfl, rfl⟩, by rw [if_pos (by omega)]⟩, rfl⟩
    · go_wp2_with fail
      go_ret2
      exact ⟨⟨a, l.length, rfl, Ha.out, l.length, .inl ⟨rfl, rfl⟩, by rw [if_neg (by omega)]⟩, rfl⟩
  · have ho2 : o.toList.isEmpty = false := by
      rw [ByteArray.toList_eq]
      cases hl : o.data.toList with
      | nil =>
        refine absurd ?_ ho
        obtain ⟨d⟩ := o
        obtain ⟨dl⟩ := d
        have hl' : dl = [] := hl
        rw [hl']
      | cons _ _ => rfl
    have Ho : Hid (o ≠ ⟨#[]⟩) := ho
    clear ho
    go_wp2_with fail
    refine q2.mono ?_
    clear q2
    rintro x w' ⟨⟨b, rfl, hb⟩, rfl⟩
    have Hb : Hid (RankRel o l b) := hb
    clear hb
    by_cases hlt : (b : Int) < a
    · go_wp2_with fail
      go_ret2
      exact ⟨⟨a, a, rfl, Ha.out, b, .inr ⟨Ho.out, Hb.out⟩, by rw [if_pos (by omega)]⟩, rfl⟩
    · go_wp2_with fail
      go_ret2
      exact ⟨⟨a, b, rfl, Ha.out, b, .inr ⟨Ho.out, Hb.out⟩, by rw [if_neg (by omega)]⟩, rfl⟩
end Go.Proofs.Ytnjiiebjdpipjaa
