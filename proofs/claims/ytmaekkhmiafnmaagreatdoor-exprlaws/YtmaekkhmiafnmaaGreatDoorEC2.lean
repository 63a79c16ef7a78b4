import Derived.Test.YtmaekkhmiafnmaaGreatDoorVN
import Derived.Test.YtmaekkhmiafnmaaGreatDoorET6
import Derived.Deep.LoopGhost
import Derived.Test.YtmaekkhmiafnmaaGreatDoorEV5
import Derived.BigQuiet
set_option maxHeartbeats 8000000
set_option maxRecDepth 100000
namespace Go.Proofs.YtmaekkhmiafnmaaGreatDoor
open Go.RowKit Go Go.Lib
abbrev intc (ks : List Int) : List Value := ks.map fun k => .int .i64 k
theorem intc_ne {ks : List Int} {k : Nat} (hk : k < ks.length) : intc ks ≠ [] := by intro e; have := congrArg List.length e; simp at this; subst this; simp at hk
theorem intc_at {w : World} {ao : Option Addr} {ks : List Int} (h : SL w ao (intc ks)) {k : Nat} (hk : k < ks.length) : ∃ g o, ao = some ⟨g, o, none⟩ ∧ w.cell? ⟨g, o + k, none⟩ = some (.int .i64 ks[k]) := by
  obtain ⟨g, o, e, ha⟩ := h (intc_ne hk)
  exact ⟨g, o, e, ha k _ (by rw [List.getElem?_map, List.getElem?_eq_getElem hk]; rfl)⟩
theorem goWith_any (k : Int) (ks : List Int) (ao : Option Addr) (c : Nat) (w : World) (h : SL w ao (intc ks)) (hl : ks.length ≤ 1000000000) :
    Calls Tryz.prog 60 #[.int .i64 k, .slice ao ks.length c] w fun x w' => x = .returned (.bool (goW k ks)) ∧ w' = w := by
  have HS : Hid _ := h
  obtain ⟨n, hn⟩ : ∃ n, n = ks.length := ⟨_, rfl⟩
  have Hn : Hid _ := hn
  rw [← hn] at hl ⊢
  clear h hn
  go_enter Tryz.func60, Tryz.ntmps60
  go_wp2
  go_loopw [9] (fun iv wr => ∃ i : Nat, iv = .int .i64 i ∧ i ≤ n ∧ wr = w ∧ Hid (goW k ks = goW k (ks.drop i))) (fun iv _ => n - (RowKit.intOf iv).toNat)
  case atStart => exact ⟨0, rfl, Nat.zero_le _, rfl, rfl⟩
  case round =>
    obtain ⟨i, rfl, hi, rfl, HR⟩ := hrel
    by_cases hlt : i < n
    · have hltI : (i : Int) < (n : Int) := by omega
      have hil : i < ks.length := by rw [← Hn.out]; exact hlt
      obtain ⟨g, o, rfl, c1⟩ := intc_at HS.out hil
      obtain ⟨x, hx⟩ : ∃ x, x = ks[i] := ⟨_, rfl⟩
      have HD : Hid (goW k ks = ((decide (x = k) || decide (x = 0)) && goW k (ks.drop (i + 1)))) := (show _ = _ from by
        rw [HR.out, List.drop_eq_getElem_cons hil, ← hx]; rfl)
      rw [← hx] at c1
      clear hx HR
      by_cases hk : x = k
      · have hkb : (x != k) = false := by simpa using hk
        have HD2 : Hid (goW k ks = goW k (ks.drop (i + 1))) := (show _ = _ from by rw [HD.out, decide_eq_true hk]; rfl)
        clear hk HD
        go_wp2_with fail
        go_roundw
        case rel => exact ⟨i + 1, by first | trivial | rfl, by omega, by first | trivial | rfl, HD2⟩
        case measure => simp [RowKit.intOf]; omega
      · have hkb : (x != k) = true := by simpa using hk
        by_cases h0 : x = 0
        · have h0b : (x != 0) = false := by simpa using h0
          have HD2 : Hid (goW k ks = goW k (ks.drop (i + 1))) := (show _ = _ from by rw [HD.out, decide_eq_true h0]; simp)
          clear hk HD h0
          go_wp2_with fail
          go_roundw
          case rel => exact ⟨i + 1, by first | trivial | rfl, by omega, by first | trivial | rfl, HD2⟩
          case measure => simp [RowKit.intOf]; omega
        · have h0b : (x != 0) = true := by simpa using h0
          have HD2 : Hid (goW k ks = false) := (show _ = _ from by rw [HD.out, decide_eq_false hk, decide_eq_false h0]; rfl)
          clear hk HD h0
          go_wp2_with fail
          go_ret
          exact ⟨by rw [HD2.out]; rfl, rfl⟩
    · have hltI : ¬ (i : Int) < (n : Int) := by omega
      have HD2 : Hid (goW k ks = true) := (show _ = _ from by rw [HR.out, List.drop_eq_nil_of_le (by rw [← Hn.out]; omega)]; rfl)
      go_wp2_with fail
      go_ret
      exact ⟨by rw [HD2.out]; rfl, rfl⟩
theorem common_any (ks : List Int) (ao : Option Addr) (c : Nat) (w : World) (h : SL w ao (intc ks)) (hl : ks.length ≤ 1000000000) :
    Calls Tryz.prog 61 #[.slice ao ks.length c] w fun x w' => x = .returned (.int .i64 (com ks)) ∧ w' = w := by
  have HS : Hid _ := h
  obtain ⟨n, hn⟩ : ∃ n, n = ks.length := ⟨_, rfl⟩
  have Hn : Hid _ := hn
  rw [← hn] at hl ⊢
  clear h hn
  go_enter Tryz.func61, Tryz.ntmps61
  go_wp2
  go_loopw [7] (fun iv wr => ∃ i : Nat, iv = .int .i64 i ∧ i ≤ n ∧ wr = w ∧ Hid (com ks = com (ks.drop i))) (fun iv _ => n - (RowKit.intOf iv).toNat)
  case atStart => exact ⟨0, rfl, Nat.zero_le _, rfl, rfl⟩
  case round =>
    obtain ⟨i, rfl, hi, rfl, HR⟩ := hrel
    by_cases hlt : i < n
    · have hltI : (i : Int) < (n : Int) := by omega
      have hil : i < ks.length := by rw [← Hn.out]; exact hlt
      obtain ⟨g, o, rfl, c1⟩ := intc_at HS.out hil
      obtain ⟨x, hx⟩ : ∃ x, x = ks[i] := ⟨_, rfl⟩
      have HD : Hid (com ks = com (x :: ks.drop (i + 1))) := (show _ = _ from by rw [HR.out, List.drop_eq_getElem_cons hil, ← hx])
      rw [← hx] at c1
      clear hx HR
      by_cases h0 : x = 0
      · have h0b : (x != 0) = false := by simpa using h0
        have HD2 : Hid (com ks = com (ks.drop (i + 1))) := (show _ = _ from by rw [HD.out]; unfold com; rw [List.find?_cons_of_neg (by simpa using h0)])
        clear HD h0
        go_wp2_with fail
        go_roundw
        case rel => exact ⟨i + 1, by first | trivial | rfl, by omega, by first | trivial | rfl, HD2⟩
        case measure => simp [RowKit.intOf]; omega
      · have h0b : (x != 0) = true := by simpa using h0
        have HD2 : Hid (com ks = x) := (show _ = _ from by rw [HD.out]; unfold com; rw [List.find?_cons_of_pos (by simpa using h0)]; rfl)
        clear HD h0
        go_wp2_with fail
        go_ret
        exact ⟨by rw [HD2.out]; rfl, rfl⟩
    · have hltI : ¬ (i : Int) < (n : Int) := by omega
      have HD2 : Hid (com ks = 0) := (show _ = _ from by rw [HR.out, List.drop_eq_nil_of_le (by rw [← Hn.out]; omega)]; rfl)
      go_wp2_with fail
      go_ret
      exact ⟨by rw [HD2.out]; rfl, rfl⟩
end Go.Proofs.YtmaekkhmiafnmaaGreatDoor
namespace Go.Proofs.YtmaekkhmiafnmaaGreatDoor
open Go.RowKit Go Go.Lib
theorem info_int : (Tryz.prog.info? 3).map (fun i => (i.zero, i.size, i.bytes)) = some (some (.int .i64 0), 1, 8) := by kernel_rfl
abbrev IR (W : World) (N : Nat) (v : Value) (ks : List Int) : Prop := W.ownsRow N 3 1 v ks.length (intc ks)
theorem int_app {w : World} {N : Nat} {ao : Option Addr} {c n : Nat} {ks : List Int} (hn : ks.length = n) (h : IR w N (.slice ao n c) ks) (hN : N ≤ w.heap.size) (hl : n ≤ 1000000000) (x : Int) :
    ∃ o c' w', (Builtin.append_ #[55, 55] 55 #[.slice ao n c, .slice (some ⟨w.heap.size, 0, none⟩) 1 1]).run Tryz.prog (w.alloc (.cells #[.int .i64 x] 3)) = .ok (.slice o ((n + 1 : Nat)) c') w' ∧
      IR w' N (.slice o (n + 1) c') (ks ++ [x]) ∧ (ks ++ [x]).length = n + 1 ∧ Tch (fun g => (Value.slice ao n c).ownBlock = some g) w w' ∧ ((Value.slice o (n + 1) c').ownBlock = (Value.slice ao n c).ownBlock ∨ ∃ g, (Value.slice o (n + 1) c').ownBlock = some g ∧ w.heap.size ≤ g) := by
  subst hn
  obtain ⟨i0, hi0, hz0, hz1, hz2⟩ := info_parts info_int
  have t6 : Tch (fun _ => False) w (w.alloc (.cells #[.int .i64 x] 3)) := Tch.alloc _ _ _
  have b6 := alloc_new w (.cells #[.int .i64 x] 3)
  have ho6 := own_tch h t6 (fun _ _ e => e)
  obtain ⟨v7, w7, hr7, hown7, hgr7, _, hat7⟩ := run_append_own_at (P := Tryz.prog) (w.alloc (.cells #[.int .i64 x] 3)) N 55 55 3 i0 _ 1 8 Tryz.underlying55 hi0 hz0 hz1 hz2 rfl (by decide) _ _ _ ho6 ⟨w.heap.size, 0, none⟩ 1 1 [.int .i64 x] rfl (fun j u hu => by rw [add_plain, Nat.zero_add, blk_cell b6, ← Array.getElem?_toList]; exact hu) (fun u hu => by rw [List.mem_singleton.1 hu]; rfl) (by unfold maxLen; omega) (by omega) (by simp; omega)
  obtain ⟨o7, c7, rfl⟩ := row_slice hown7
  have t7 : Tch (fun g => (Value.slice ao ks.length c).ownBlock = some g) (w.alloc (.cells #[.int .i64 x] 3)) w7 := Tch.of_grown hgr7 (fun g e => e)
  refine ⟨o7, c7, w7, hr7, ?_, by simp, (t6.mono (fun _ _ h => h.elim)).trans' t7, ?_⟩
  · show w7.ownsRow N 3 1 _ (ks ++ [x]).length (intc (ks ++ [x]))
    rw [List.length_append, intc, List.map_append]; exact hown7
  · rcases hat7 with e | e
    · exact Or.inl e
    · exact Or.inr ⟨_, e, by simp⟩
structure IR2 (W : World) (N : Nat) (u v : Value) (a b : List Int) : Prop where
  one : IR W N u a
  two : IR W N v b
  ap : ∀ g, u.ownBlock = some g → v.ownBlock ≠ some g
theorem IR2.swap {W : World} {N : Nat} {u v : Value} {a b : List Int} (h : IR2 W N u v a b) : IR2 W N v u b a := ⟨h.two, h.one, fun g e e2 => h.ap g e2 e⟩
theorem IR2.app {w : World} {N : Nat} {ao : Option Addr} {c n : Nat} {v : Value} {a b : List Int} (hn : a.length = n) (h : IR2 w N (.slice ao n c) v a b) (hN : N ≤ w.heap.size) (hl : n ≤ 1000000000) (x : Int) :
    ∃ o c' w', (Builtin.append_ #[55, 55] 55 #[.slice ao n c, .slice (some ⟨w.heap.size, 0, none⟩) 1 1]).run Tryz.prog (w.alloc (.cells #[.int .i64 x] 3)) = .ok (.slice o ((n + 1 : Nat)) c') w' ∧
      IR2 w' N (.slice o (n + 1) c') v (a ++ [x]) b ∧ (a ++ [x]).length = n + 1 ∧ Tch (fun g => N ≤ g) w w' := by
  obtain ⟨o, c', w', h1, h2, h3, h4, h5⟩ := int_app hn h.one hN hl x
  refine ⟨o, c', w', h1, ⟨h2, own_tch h.two h4 (fun g e e2 => h.ap g e2 e), fun g e e2 => ?_⟩, h3, h4.mono (fun g _ e => row_ge h.one e)⟩
  rcases h5 with h5 | ⟨g', h5, h6⟩
  · exact h.ap g (h5 ▸ e) e2
  · rw [h5] at e
    injection e with e
    have := (h.two.lt g e2).2
    omega
theorem IR.sl {W : World} {N n : Nat} {ao : Option Addr} {c : Nat} {ks : List Int} (hn : ks.length = n) (h : IR W N (.slice ao n c) ks) : SL W ao (intc ks) := fun hne => by
  have hp : 0 < ks.length := by
    cases ks with
    | nil => exact absurd rfl hne
    | cons a l => simp
  subst hn
  obtain ⟨g, e, _, ha⟩ := own_at h hp
  exact ⟨g, 0, e, ha⟩
theorem IR2.appN {w : World} {N : Nat} {ao : Option Addr} {c n g o d m : Nat} {v : Value} {a b l : List Int} (hn : a.length = n) (h : IR2 w N (.slice ao n c) v a b) (hN : N ≤ w.heap.size) (hl : n ≤ 1000000000) (hm : l.length = m) (hml : m ≤ 1000000000) (ha : At w g o (intc l)) :
    ∃ o' c' w', (Builtin.append_ #[55, 55] 55 #[.slice ao n c, .slice (some ⟨g, o, none⟩) m d]).run Tryz.prog w = .ok (.slice o' ((n + m : Nat)) c') w' ∧
      IR2 w' N (.slice o' (n + m) c') v (a ++ l) b ∧ (a ++ l).length = n + m ∧ Tch (fun g => N ≤ g) w w' := by
  subst hn
  subst hm
  obtain ⟨i0, hi0, hz0, hz1, hz2⟩ := info_parts info_int
  obtain ⟨v7, w7, hr7, hown7, hgr7, _, hat7⟩ := run_append_own_at (P := Tryz.prog) w N 55 55 3 i0 _ 1 8 Tryz.underlying55 hi0 hz0 hz1 hz2 rfl (by decide) _ _ _ h.one ⟨g, o, none⟩ l.length d (intc l) (by simp) (fun j u hu => by rw [add_plain]; exact ha j u hu) (fun u hu => by obtain ⟨b, _, rfl⟩ := List.mem_map.1 hu; rfl) (by unfold maxLen; omega) (by omega) hN
  obtain ⟨o7, c7, rfl⟩ := row_slice hown7
  have t7 : Tch (fun g => (Value.slice ao a.length c).ownBlock = some g) w w7 := Tch.of_grown hgr7 (fun g e => e)
  refine ⟨o7, c7, w7, hr7, ⟨?_, own_tch h.two t7 (fun g e e2 => h.ap g e2 e), fun g e e2 => ?_⟩, by simp, t7.mono (fun g _ e => row_ge h.one e)⟩
  · show w7.ownsRow N 3 1 _ (a ++ l).length (intc (a ++ l))
    rw [List.length_append, intc, List.map_append]; exact hown7
  · rcases hat7 with e3 | e3
    · exact h.ap g (e3 ▸ e) e2
    · rw [e3] at e
      injection e with e
      have := (h.two.lt g e2).2
      omega
theorem splK_two (a b : Int) (l : List Int) : splK (a :: b :: l) = (a :: (splK l).1, b :: (splK l).2) := rfl
theorem splK_end {l : List Int} (h : ¬ 1 < l.length) : splK l = ([], l) := by
  match l, h with
  | [], _ => rfl
  | [a], _ => rfl
  | a :: b :: l, h => simp at h
def ChI (ks : List Int) (w wr : World) (u v : Value) (na nb : Nat) (g o : Nat) (l : List Int) : Prop :=
  ∃ a b, a.length = na ∧ b.length = nb ∧ IR2 wr w.heap.size u v a b ∧ splK ks = (a ++ (splK l).1, b ++ (splK l).2) ∧ na + l.length ≤ ks.length ∧ nb + l.length ≤ ks.length ∧ At w g o (intc l) ∧ Tch (fun _ => False) w wr
theorem chooses_any (ks : List Int) (g o c : Nat) (w : World) (h : At w g o (intc ks)) (hl : ks.length ≤ 1000000) (hc : ks.length ≤ c) :
    Calls Tryz.prog 62 #[.slice (some ⟨g, o, none⟩) ks.length c] w fun x w' => x = .returned (.tuple #[.int .i64 (com (splK ks).2), .bool (goW 3 (splK ks).1 && goW (com (splK ks).2) (splK ks).2)]) ∧ Tch (fun _ => False) w w' := by
  have HJ : Hid (ChI ks w w (.slice none 0 0) (.slice none 0 0) 0 0 g o ks) := ⟨[], [], rfl, rfl, ⟨⟨rfl, Or.inl ⟨rfl, rfl⟩⟩, ⟨rfl, Or.inl ⟨rfl, rfl⟩⟩, fun g e => by cases e⟩, rfl, by omega, by omega, h, Tch.refl _ _⟩
  have HG : Hid (ks ≠ [] → g < w.heap.size) := fun hne => by
    cases ks with
    | nil => exact absurd rfl hne
    | cons x l => exact cell_lt (h 0 (.int .i64 x) rfl)
  obtain ⟨Rk, hRk⟩ : ∃ k, k = com (splK ks).2 := ⟨_, rfl⟩
  obtain ⟨Rb, hRb⟩ : ∃ b, b = (goW 3 (splK ks).1 && goW (com (splK ks).2) (splK ks).2) := ⟨_, rfl⟩
  rw [← hRk] at hRb ⊢
  rw [← hRb]
  have HRR : Hid (Rk = com (splK ks).2 ∧ Rb = (goW 3 (splK ks).1 && goW (com (splK ks).2) (splK ks).2)) := ⟨hRk, by rw [← hRk]; exact hRb⟩
  clear h hRk hRb
  go_enter Tryz.func62, Tryz.ntmps62
  go_wp2_with fail
  go_loopg [0, 4, 5] ks.length (fun m kv uv vv wr => ∃ (l : List Int) (n o c : Nat) (ao bo : Option Addr) (na ca nb cb : Nat), kv = .slice (some ⟨g, o, none⟩) n c ∧ n = l.length ∧ n ≤ c ∧ n ≤ m ∧ uv = .slice ao na ca ∧ vv = .slice bo nb cb ∧ Hid (ChI ks w wr (.slice ao na ca) (.slice bo nb cb) na nb g o l))
  case atStart => exact ⟨ks, ks.length, o, c, none, none, 0, 0, 0, 0, rfl, rfl, hc, Nat.le_refl _, rfl, rfl, HJ⟩
  case round =>
    obtain ⟨l, n, o2, c2, ao, bo, na, ca, nb, cb, rfl, hnl, hnc, hnm, rfl, rfl, HJ2⟩ := hrel
    have Hnl : Hid _ := hnl
    obtain ⟨a, b, ha, hb, hir, hsp, hka, hkb, hat, ht⟩ := HJ2.out
    by_cases hlt : 1 < n
    · obtain ⟨x, y, l', rfl⟩ : ∃ x y l', l = x :: y :: l' := by
        match l, hnl with
        | x :: y :: l', _ => exact ⟨x, y, l', rfl⟩
        | [x], h => simp at h; omega
        | [], h => simp at h; omega
      have hnl' : n = l'.length + 2 := by rw [hnl]; rfl
      have hltI : (1 : Int) < (n : Int) := by omega
      have hgN : g < w.heap.size := by
        refine HG.out (fun e => ?_)
        rw [e] at hka; simp at hka
      have c0 : wr.cell? ⟨g, o2, none⟩ = some (.int .i64 x) := (ht.cell (p := ⟨g, o2, none⟩) hgN (fun h => h)).trans (hat 0 (.int .i64 x) rfl)
      obtain ⟨o1, c1, w1, hr1, hi1, hl1, t1⟩ := hir.app ha ht.size (by omega) x
      have c1' : w1.cell? ⟨g, o2 + 1, none⟩ = some (.int .i64 y) := (t1.cell (p := ⟨g, o2 + 1, none⟩) (Nat.lt_of_lt_of_le hgN ht.size) (fun h => by have h : w.heap.size ≤ g := h; omega)).trans ((ht.cell (p := ⟨g, o2 + 1, none⟩) hgN (fun h => h)).trans (hat 1 (.int .i64 y) rfl))
      have T1 : Tch (fun _ => False) w w1 := ht.trans t1 (fun i hi h => by omega)
      obtain ⟨o3, c3, w3, hr3, hi3, hl3, t3⟩ := hi1.swap.app hb T1.size (by omega) y
      have HJ3 : Hid (ChI ks w w3 (.slice o1 (na + 1) c1) (.slice o3 (nb + 1) c3) (na + 1) (nb + 1) g (o2 + 2) l') := by
        refine ⟨a ++ [x], b ++ [y], hl1, hl3, hi3.swap, ?_, by simp at hka; omega, by simp at hkb; omega, fun j u hu => ?_, T1.trans t3 (fun i hi h => by omega)⟩
        · rw [hsp, splK_two]; simp
        · have := hat (j + 2) u (by simpa using hu)
          rw [show o2 + (j + 2) = o2 + 2 + j by omega] at this
          exact this
      have HN : Hid (n = l'.length + 2) := hnl'
      clear ha hb hir hsp hka hkb hat ht hnl hnl' hi1 hl1 t1 T1 hi3 hl3 t3 hgN
      go_wp2_with (at_builtin; first | refine wpList_app _ rfl _ _ 55 rfl rfl _ _ rfl rfl hr1 ?_ | refine wpList_app _ rfl _ _ 55 rfl rfl _ _ rfl rfl hr3 ?_)
      · go_roundg (gk - 2)
        case measure => omega
        case rel =>
          refine ⟨[], _, o2, _, _, _, _, _, _, _, rfl, ?_, by omega, by omega, rfl, rfl, ?_⟩
          · have := HN.out; simp; omega
          · obtain ⟨a, b, z1, z2, z3, z4, z5, z6, z7, z8⟩ := HJ3.out
            have hl0 : l' = [] := List.eq_nil_of_length_eq_zero (by have := HN.out; omega)
            subst hl0
            exact ⟨a, b, z1, z2, z3, z4, z5, z6, At.nil _ _ _, z8⟩
      · go_roundg (gk - 2)
        case measure => omega
        case rel => exact ⟨l', _, o2 + 2, _, _, _, _, _, _, _, rfl, by have := HN.out; omega, by omega, by omega, rfl, rfl, HJ3⟩
    · have hltI : ¬ (1 : Int) < (n : Int) := by omega
      have hat2 : At wr g o2 (intc l) := hat.tch ht (fun _ h => h)
      obtain ⟨o3, c3, w3, hr3, hi3, hl3, t3⟩ := hir.swap.appN (d := c2) hb ht.size (by omega) hnl.symm (by omega) hat2
      rw [splK_end (l := l) (by omega)] at hsp
      have hsp2 : splK ks = (a, b ++ l) := by rw [hsp]; simp
      have s1 := hi3.one.sl hl3
      have s2 := hi3.two.sl ha
      have T3 : Tch (fun _ => False) w w3 := ht.trans t3 (fun i hi h => by omega)
      have q1 := common_any (b ++ l) o3 c3 w3 s1 (by omega)
      have q2 := goWith_any 3 a ao ca w3 s2 (by omega)
      have q3 := goWith_any (com (b ++ l)) (b ++ l) o3 c3 w3 s1 (by omega)
      rw [hl3] at q1 q3
      rw [ha] at q2
      obtain ⟨hR1, hR2⟩ := HRR.out
      rw [hsp2] at hR1 hR2
      simp only at hR1 hR2
      rw [← hR1] at q1 q3 hR2
      obtain ⟨g1, hg1⟩ : ∃ g1, g1 = goW 3 a := ⟨_, rfl⟩
      obtain ⟨g2, hg2⟩ : ∃ g2, g2 = goW Rk (b ++ l) := ⟨_, rfl⟩
      rw [← hg1] at q2 hR2
      rw [← hg2] at q3 hR2
      have HE : Hid (Rb = (g1 && g2)) := hR2
      have HT3 : Hid _ := T3
      clear ha hb hir hsp hka hkb hat ht hat2 hi3 hl3 t3 hsp2 s1 s2 T3 hR1 hR2 hg1 hg2 hnl
      cases g1 with
      | true =>
        go_wp2_with (at_builtin; refine wpList_app _ rfl _ _ 55 rfl rfl _ _ rfl rfl hr3 ?_)
        refine q1.mono ?_
        rintro y v1 ⟨rfl, rfl⟩
        clear q1 hr3
        go_wp2_with fail
        refine q2.mono ?_
        rintro y v2 ⟨rfl, rfl⟩
        clear q2
        go_wp2_with fail
        refine q3.mono ?_
        rintro y v3 ⟨rfl, rfl⟩
        clear q3
        go_wp2_with fail
        go_ret2
        exact ⟨by rw [HE.out]; rfl, HT3.out⟩
      | false =>
        clear q3
        go_wp2_with (at_builtin; refine wpList_app _ rfl _ _ 55 rfl rfl _ _ rfl rfl hr3 ?_)
        refine q1.mono ?_
        rintro y v1 ⟨rfl, rfl⟩
        clear q1 hr3
        go_wp2_with fail
        refine q2.mono ?_
        rintro y v2 ⟨rfl, rfl⟩
        clear q2
        go_wp2_with fail
        go_ret2
        exact ⟨by rw [HE.out]; rfl, HT3.out⟩
end Go.Proofs.YtmaekkhmiafnmaaGreatDoor
namespace Go.Proofs.YtmaekkhmiafnmaaGreatDoor
open Go.RowKit Go Go.Lib
theorem holds_any (o b g c : Nat) (ks : List Int) (w : World) (ho2 : 2 ≤ o) (ha : arOk o ks.length) (h0 : w.cell? ⟨b, 0, none⟩ = some (.int .i64 (o : Nat))) (h : At w g 0 (intc ks)) (hl : ks.length ≤ 1000000) (hc : ks.length ≤ c) :
    Calls Tryz.prog 30 #[.pointer (some ⟨b, 0, none⟩), .slice (some ⟨g, 0, none⟩) ks.length c] w fun x w' => x = .returned (.tuple #[.int .i64 (hlds o ks).1, .bool (hlds o ks).2]) ∧ Tch (fun _ => False) w w' := by
  have hsl : SL w (some ⟨g, 0, none⟩) (intc ks) := fun _ => ⟨g, 0, rfl, h⟩
  have HcW : Hid (∀ m, Calls Tryz.prog 61 #[.slice (some ⟨g, 0, none⟩) ks.length c] (w.drewN m) fun x w' => x = .returned (.int .i64 (com ks)) ∧ w' = w.drewN m) := fun m => common_any ks (some ⟨g, 0, none⟩) c _ (hsl.no ((Tch.refl _ _).drewN m)) (by omega)
  have HqW : Hid (∀ k m, Calls Tryz.prog 60 #[.int .i64 k, .slice (some ⟨g, 0, none⟩) ks.length c] (w.drewN m) fun x w' => x = .returned (.bool (goW k ks)) ∧ w' = w.drewN m) := fun k m => goWith_any k ks (some ⟨g, 0, none⟩) c _ (hsl.no ((Tch.refl _ _).drewN m)) (by omega)
  have Hq : Hid (∀ k, Calls Tryz.prog 60 #[.int .i64 k, .slice (some ⟨g, 0, none⟩) ks.length c] w fun x w' => x = .returned (.bool (goW k ks)) ∧ w' = w) := fun k => goWith_any k ks (some ⟨g, 0, none⟩) c w hsl (by omega)
  have hcm := common_any ks (some ⟨g, 0, none⟩) c w hsl (by omega)
  have hch := chooses_any ks g 0 c w h hl hc
  have HA : Hid (At w g 0 (intc ks)) := h
  obtain ⟨n, hn⟩ : ∃ n, n = ks.length := ⟨_, rfl⟩
  obtain ⟨R, hR⟩ : ∃ R, R = hlds o ks := ⟨_, rfl⟩
  rw [← hR]
  rw [← hn] at HcW HqW Hq hcm hch ha hc hl ⊢
  have Hn : Hid _ := hn
  have h32 := ha.1
  clear h hsl hn
  rcases (by omega : o = 2 ∨ o = 3 ∨ o = 4 ∨ o = 5 ∨ o = 6 ∨ o = 7 ∨ o = 8 ∨ o = 9 ∨ o = 10 ∨ o = 11 ∨ o = 12 ∨ o = 13 ∨ o = 14 ∨ o = 15 ∨ o = 16 ∨ o = 17 ∨ o = 18 ∨ o = 19 ∨ o = 20 ∨ o = 21 ∨ o = 22 ∨ o = 23 ∨ o = 24 ∨ o = 25 ∨ o = 26 ∨ o = 27 ∨ o = 28 ∨ o = 29 ∨ o = 30 ∨ o = 31) with rfl | rfl | rfl | rfl | rfl | rfl | rfl | rfl | rfl | rfl | rfl | rfl | rfl | rfl | rfl | rfl | rfl | rfl | rfl | rfl | rfl | rfl | rfl | rfl | rfl | rfl | rfl | rfl | rfl | rfl
  · have HR : Hid (R = (3, goW 3 ks)) := hR
    have q := Hq.out 3
    obtain ⟨r, hr⟩ : ∃ r, r = goW 3 ks := ⟨_, rfl⟩
    rw [← hr] at q HR
    clear hR hr Hq hcm hch ha
    go_enter Tryz.func30, Tryz.ntmps30
    go_wp2_with fail
    refine q.mono ?_
    rintro y w1 ⟨rfl, rfl⟩
    clear q
    go_wp2_with fail
    go_ret2
    exact ⟨by rw [HR.out]; rfl, Tch.refl _ _⟩
  · have HR : Hid (R = (3, goW 3 ks)) := hR
    have q := Hq.out 3
    obtain ⟨r, hr⟩ : ∃ r, r = goW 3 ks := ⟨_, rfl⟩
    rw [← hr] at q HR
    clear hR hr Hq hcm hch ha
    go_enter Tryz.func30, Tryz.ntmps30
    go_wp2_with fail
    refine q.mono ?_
    rintro y w1 ⟨rfl, rfl⟩
    clear q
    go_wp2_with fail
    go_ret2
    exact ⟨by rw [HR.out]; rfl, Tch.refl _ _⟩
  · have HR : Hid (R = (3, goW 3 ks)) := hR
    have q := Hq.out 3
    obtain ⟨r, hr⟩ : ∃ r, r = goW 3 ks := ⟨_, rfl⟩
    rw [← hr] at q HR
    clear hR hr Hq hcm hch ha
    go_enter Tryz.func30, Tryz.ntmps30
    go_wp2_with fail
    refine q.mono ?_
    rintro y w1 ⟨rfl, rfl⟩
    clear q
    go_wp2_with fail
    go_ret2
    exact ⟨by rw [HR.out]; rfl, Tch.refl _ _⟩
  · have HR : Hid (R = (3, goW (com ks) ks)) := hR
    have q1 := hcm
    have q2 := Hq.out (com ks)
    obtain ⟨k, hk⟩ : ∃ k, k = com ks := ⟨_, rfl⟩
    rw [← hk] at q1 q2 HR
    obtain ⟨r, hr⟩ : ∃ r, r = goW k ks := ⟨_, rfl⟩
    rw [← hr] at q2 HR
    clear hR hr hk Hq hcm hch ha
    go_enter Tryz.func30, Tryz.ntmps30
    go_wp2_with fail
    refine q1.mono ?_
    rintro y w1 ⟨rfl, rfl⟩
    go_wp2_with fail
    refine q2.mono ?_
    rintro y w1 ⟨rfl, rfl⟩
    clear q2 q1
    go_wp2_with fail
    go_ret2
    exact ⟨by rw [HR.out]; rfl, Tch.refl _ _⟩
  · have HR : Hid (R = (3, goW (com ks) ks)) := hR
    have q1 := hcm
    have q2 := Hq.out (com ks)
    obtain ⟨k, hk⟩ : ∃ k, k = com ks := ⟨_, rfl⟩
    rw [← hk] at q1 q2 HR
    obtain ⟨r, hr⟩ : ∃ r, r = goW k ks := ⟨_, rfl⟩
    rw [← hr] at q2 HR
    clear hR hr hk Hq hcm hch ha
    go_enter Tryz.func30, Tryz.ntmps30
    go_wp2_with fail
    refine q1.mono ?_
    rintro y w1 ⟨rfl, rfl⟩
    go_wp2_with fail
    refine q2.mono ?_
    rintro y w1 ⟨rfl, rfl⟩
    clear q2 q1
    go_wp2_with fail
    go_ret2
    exact ⟨by rw [HR.out]; rfl, Tch.refl _ _⟩
  · have HR : Hid (R = (3, goW (com ks) ks)) := hR
    have q1 := hcm
    have q2 := Hq.out (com ks)
    obtain ⟨k, hk⟩ : ∃ k, k = com ks := ⟨_, rfl⟩
    rw [← hk] at q1 q2 HR
    obtain ⟨r, hr⟩ : ∃ r, r = goW k ks := ⟨_, rfl⟩
    rw [← hr] at q2 HR
    clear hR hr hk Hq hcm hch ha
    go_enter Tryz.func30, Tryz.ntmps30
    go_wp2_with fail
    refine q1.mono ?_
    rintro y w1 ⟨rfl, rfl⟩
    go_wp2_with fail
    refine q2.mono ?_
    rintro y w1 ⟨rfl, rfl⟩
    clear q2 q1
    go_wp2_with fail
    go_ret2
    exact ⟨by rw [HR.out]; rfl, Tch.refl _ _⟩
  · have HR : Hid (R = (3, goW (com ks) ks)) := hR
    have q1 := hcm
    have q2 := Hq.out (com ks)
    obtain ⟨k, hk⟩ : ∃ k, k = com ks := ⟨_, rfl⟩
    rw [← hk] at q1 q2 HR
    obtain ⟨r, hr⟩ : ∃ r, r = goW k ks := ⟨_, rfl⟩
    rw [← hr] at q2 HR
    clear hR hr hk Hq hcm hch ha
    go_enter Tryz.func30, Tryz.ntmps30
    go_wp2_with fail
    refine q1.mono ?_
    rintro y w1 ⟨rfl, rfl⟩
    go_wp2_with fail
    refine q2.mono ?_
    rintro y w1 ⟨rfl, rfl⟩
    clear q2 q1
    go_wp2_with fail
    go_ret2
    exact ⟨by rw [HR.out]; rfl, Tch.refl _ _⟩
  · have HR : Hid (R = (3, goW (com ks) ks)) := hR
    have q1 := hcm
    have q2 := Hq.out (com ks)
    obtain ⟨k, hk⟩ : ∃ k, k = com ks := ⟨_, rfl⟩
    rw [← hk] at q1 q2 HR
    obtain ⟨r, hr⟩ : ∃ r, r = goW k ks := ⟨_, rfl⟩
    rw [← hr] at q2 HR
    clear hR hr hk Hq hcm hch ha
    go_enter Tryz.func30, Tryz.ntmps30
    go_wp2_with fail
    refine q1.mono ?_
    rintro y w1 ⟨rfl, rfl⟩
    go_wp2_with fail
    refine q2.mono ?_
    rintro y w1 ⟨rfl, rfl⟩
    clear q2 q1
    go_wp2_with fail
    go_ret2
    exact ⟨by rw [HR.out]; rfl, Tch.refl _ _⟩
  · have HR : Hid (R = (3, goW (com ks) ks)) := hR
    have q1 := hcm
    have q2 := Hq.out (com ks)
    obtain ⟨k, hk⟩ : ∃ k, k = com ks := ⟨_, rfl⟩
    rw [← hk] at q1 q2 HR
    obtain ⟨r, hr⟩ : ∃ r, r = goW k ks := ⟨_, rfl⟩
    rw [← hr] at q2 HR
    clear hR hr hk Hq hcm hch ha
    go_enter Tryz.func30, Tryz.ntmps30
    go_wp2_with fail
    refine q1.mono ?_
    rintro y w1 ⟨rfl, rfl⟩
    go_wp2_with fail
    refine q2.mono ?_
    rintro y w1 ⟨rfl, rfl⟩
    clear q2 q1
    go_wp2_with fail
    go_ret2
    exact ⟨by rw [HR.out]; rfl, Tch.refl _ _⟩
  · have HR : Hid (R = (3, true)) := hR
    clear hR Hq hcm hch ha
    go_enter Tryz.func30, Tryz.ntmps30
    go_wp2_with fail
    go_ret2
    exact ⟨by rw [HR.out]; rfl, Tch.refl _ _⟩
  · have HR : Hid (R = (3, goW (com ks) ks)) := hR
    have q1 := hcm
    have q2 := Hq.out (com ks)
    obtain ⟨k, hk⟩ : ∃ k, k = com ks := ⟨_, rfl⟩
    rw [← hk] at q1 q2 HR
    obtain ⟨r, hr⟩ : ∃ r, r = goW k ks := ⟨_, rfl⟩
    rw [← hr] at q2 HR
    clear hR hr hk Hq hcm hch ha
    go_enter Tryz.func30, Tryz.ntmps30
    go_wp2_with fail
    refine q1.mono ?_
    rintro y w1 ⟨rfl, rfl⟩
    go_wp2_with fail
    refine q2.mono ?_
    rintro y w1 ⟨rfl, rfl⟩
    clear q2 q1
    go_wp2_with fail
    go_ret2
    exact ⟨by rw [HR.out]; rfl, Tch.refl _ _⟩
  · have HR : Hid (R = (3, goW (com ks) ks)) := hR
    have q1 := hcm
    have q2 := Hq.out (com ks)
    obtain ⟨k, hk⟩ : ∃ k, k = com ks := ⟨_, rfl⟩
    rw [← hk] at q1 q2 HR
    obtain ⟨r, hr⟩ : ∃ r, r = goW k ks := ⟨_, rfl⟩
    rw [← hr] at q2 HR
    clear hR hr hk Hq hcm hch ha
    go_enter Tryz.func30, Tryz.ntmps30
    go_wp2_with fail
    refine q1.mono ?_
    rintro y w1 ⟨rfl, rfl⟩
    go_wp2_with fail
    refine q2.mono ?_
    rintro y w1 ⟨rfl, rfl⟩
    clear q2 q1
    go_wp2_with fail
    go_ret2
    exact ⟨by rw [HR.out]; rfl, Tch.refl _ _⟩
  · have HR : Hid (R = (3, goW 2 ks)) := hR
    have q := Hq.out 2
    obtain ⟨r, hr⟩ : ∃ r, r = goW 2 ks := ⟨_, rfl⟩
    rw [← hr] at q HR
    clear hR hr Hq hcm hch ha
    go_enter Tryz.func30, Tryz.ntmps30
    go_wp2_with fail
    refine q.mono ?_
    rintro y w1 ⟨rfl, rfl⟩
    clear q
    go_wp2_with fail
    go_ret2
    exact ⟨by rw [HR.out]; rfl, Tch.refl _ _⟩
  · have HR : Hid (R = (2, goW 2 ks)) := hR
    have q := Hq.out 2
    obtain ⟨r, hr⟩ : ∃ r, r = goW 2 ks := ⟨_, rfl⟩
    rw [← hr] at q HR
    clear hR hr Hq hcm hch ha
    go_enter Tryz.func30, Tryz.ntmps30
    go_wp2_with fail
    refine q.mono ?_
    rintro y w1 ⟨rfl, rfl⟩
    clear q
    go_wp2_with fail
    go_ret2
    exact ⟨by rw [HR.out]; rfl, Tch.refl _ _⟩
  · have HR : Hid (R = (1, goW 1 ks)) := hR
    have q := Hq.out 1
    obtain ⟨r, hr⟩ : ∃ r, r = goW 1 ks := ⟨_, rfl⟩
    rw [← hr] at q HR
    clear hR hr Hq hcm hch ha
    go_enter Tryz.func30, Tryz.ntmps30
    go_wp2_with fail
    refine q.mono ?_
    rintro y w1 ⟨rfl, rfl⟩
    clear q
    go_wp2_with fail
    go_ret2
    exact ⟨by rw [HR.out]; rfl, Tch.refl _ _⟩
  · have HR : Hid (R = (1, goW 1 ks)) := hR
    have q := Hq.out 1
    obtain ⟨r, hr⟩ : ∃ r, r = goW 1 ks := ⟨_, rfl⟩
    rw [← hr] at q HR
    clear hR hr Hq hcm hch ha
    go_enter Tryz.func30, Tryz.ntmps30
    go_wp2_with fail
    refine q.mono ?_
    rintro y w1 ⟨rfl, rfl⟩
    clear q
    go_wp2_with fail
    go_ret2
    exact ⟨by rw [HR.out]; rfl, Tch.refl _ _⟩
  · have HR : Hid (R = (1, goW 1 ks)) := hR
    have q := Hq.out 1
    obtain ⟨r, hr⟩ : ∃ r, r = goW 1 ks := ⟨_, rfl⟩
    rw [← hr] at q HR
    clear hR hr Hq hcm hch ha
    go_enter Tryz.func30, Tryz.ntmps30
    go_wp2_with fail
    refine q.mono ?_
    rintro y w1 ⟨rfl, rfl⟩
    clear q
    go_wp2_with fail
    go_ret2
    exact ⟨by rw [HR.out]; rfl, Tch.refl _ _⟩
  · have HR : Hid (R = (1, goW 1 ks)) := hR
    have q := Hq.out 1
    obtain ⟨r, hr⟩ : ∃ r, r = goW 1 ks := ⟨_, rfl⟩
    rw [← hr] at q HR
    clear hR hr Hq hcm hch ha
    go_enter Tryz.func30, Tryz.ntmps30
    go_wp2_with fail
    refine q.mono ?_
    rintro y w1 ⟨rfl, rfl⟩
    clear q
    go_wp2_with fail
    go_ret2
    exact ⟨by rw [HR.out]; rfl, Tch.refl _ _⟩
  · have HR : Hid (R = (1, goW 1 ks)) := hR
    have q := Hq.out 1
    obtain ⟨r, hr⟩ : ∃ r, r = goW 1 ks := ⟨_, rfl⟩
    rw [← hr] at q HR
    clear hR hr Hq hcm hch ha
    go_enter Tryz.func30, Tryz.ntmps30
    go_wp2_with fail
    refine q.mono ?_
    rintro y w1 ⟨rfl, rfl⟩
    clear q
    go_wp2_with fail
    go_ret2
    exact ⟨by rw [HR.out]; rfl, Tch.refl _ _⟩
  · have HR : Hid (R = (1, goW 1 ks)) := hR
    have q := Hq.out 1
    obtain ⟨r, hr⟩ : ∃ r, r = goW 1 ks := ⟨_, rfl⟩
    rw [← hr] at q HR
    clear hR hr Hq hcm hch ha
    go_enter Tryz.func30, Tryz.ntmps30
    go_wp2_with fail
    refine q.mono ?_
    rintro y w1 ⟨rfl, rfl⟩
    clear q
    go_wp2_with fail
    go_ret2
    exact ⟨by rw [HR.out]; rfl, Tch.refl _ _⟩
  · have HR : Hid (R = (com (splK ks).2, goW 3 (splK ks).1 && goW (com (splK ks).2) (splK ks).2)) := hR
    have q := hch
    obtain ⟨k, hk⟩ : ∃ k, k = com (splK ks).2 := ⟨_, rfl⟩
    obtain ⟨r, hr⟩ : ∃ r, r = (goW 3 (splK ks).1 && goW k (splK ks).2) := ⟨_, rfl⟩
    rw [← hk, ← hr] at q HR
    clear hR hr hk Hq hcm hch ha
    go_enter Tryz.func30, Tryz.ntmps30
    go_wp2_with fail
    refine q.mono ?_
    rintro y w1 ⟨rfl, t1⟩
    clear q
    go_wp2_with fail
    go_ret2
    exact ⟨by rw [HR.out]; rfl, t1⟩
  · have HR : Hid (R = (1, goW 2 ks)) := hR
    have q := Hq.out 2
    obtain ⟨r, hr⟩ : ∃ r, r = goW 2 ks := ⟨_, rfl⟩
    rw [← hr] at q HR
    clear hR hr Hq hcm hch ha
    go_enter Tryz.func30, Tryz.ntmps30
    go_wp2_with fail
    refine q.mono ?_
    rintro y w1 ⟨rfl, rfl⟩
    clear q
    go_wp2_with fail
    go_ret2
    exact ⟨by rw [HR.out]; rfl, Tch.refl _ _⟩
  · have HR : Hid (R = (1, goW 1 ks)) := hR
    have q := Hq.out 1
    obtain ⟨r, hr⟩ : ∃ r, r = goW 1 ks := ⟨_, rfl⟩
    rw [← hr] at q HR
    clear hR hr Hq hcm hch ha
    go_enter Tryz.func30, Tryz.ntmps30
    go_wp2_with fail
    refine q.mono ?_
    rintro y w1 ⟨rfl, rfl⟩
    clear q
    go_wp2_with fail
    go_ret2
    exact ⟨by rw [HR.out]; rfl, Tch.refl _ _⟩
  · have HR : Hid (R = (2, goW 2 ks)) := hR
    have q := Hq.out 2
    obtain ⟨r, hr⟩ : ∃ r, r = goW 2 ks := ⟨_, rfl⟩
    rw [← hr] at q HR
    clear hR hr Hq hcm hch ha
    go_enter Tryz.func30, Tryz.ntmps30
    go_wp2_with fail
    refine q.mono ?_
    rintro y w1 ⟨rfl, rfl⟩
    clear q
    go_wp2_with fail
    go_ret2
    exact ⟨by rw [HR.out]; rfl, Tch.refl _ _⟩
  · have HR : Hid (R = (2, goW 2 ks)) := hR
    have q := Hq.out 2
    obtain ⟨r, hr⟩ : ∃ r, r = goW 2 ks := ⟨_, rfl⟩
    rw [← hr] at q HR
    clear hR hr Hq hcm hch ha
    go_enter Tryz.func30, Tryz.ntmps30
    go_wp2_with fail
    refine q.mono ?_
    rintro y w1 ⟨rfl, rfl⟩
    clear q
    go_wp2_with fail
    go_ret2
    exact ⟨by rw [HR.out]; rfl, Tch.refl _ _⟩
  · have hn2 : n = 2 := by
      have h : few 27 ≤ n ∧ n ≤ mst 27 := ha.2
      have e1 : few 27 = 2 := rfl
      have e2 : mst 27 = 2 := rfl
      omega
    have HR : Hid (R = (ks.headD 0, goW (com ks) ks)) := hR
    obtain ⟨x, l, hx⟩ : ∃ x l, ks = x :: l := by
      cases ks with
      | nil => have := Hn.out; simp at this; omega
      | cons x l => exact ⟨x, l, rfl⟩
    have c0 : w.cell? ⟨g, 0, none⟩ = some (.int .i64 x) := HA.out 0 (.int .i64 x) (by rw [hx]; rfl)
    have hx0 : ks.headD 0 = x := by rw [hx]; rfl
    rw [hx0] at HR
    have q1 := HcW.out
    have q2 := HqW.out (com ks)
    obtain ⟨k, hk⟩ : ∃ k, k = com ks := ⟨_, rfl⟩
    rw [← hk] at q1 q2 HR
    obtain ⟨r, hr⟩ : ∃ r, r = goW k ks := ⟨_, rfl⟩
    rw [← hr] at q2 HR
    subst hn2
    have Hq1 : Hid (∀ m, Calls Tryz.prog 61 #[.slice (some ⟨g, 0, none⟩) 2 c] (w.drewN m) fun x w' => x = .returned (.int .i64 k) ∧ w' = w.drewN m) := q1
    have Hq2 : Hid (∀ m, Calls Tryz.prog 60 #[.int .i64 k, .slice (some ⟨g, 0, none⟩) 2 c] (w.drewN m) fun x w' => x = .returned (.bool r) ∧ w' = w.drewN m) := q2
    clear hR hr hk Hq hcm hch ha hx hx0 q1 q2
    go_enter Tryz.func30, Tryz.ntmps30
    go_wp2_with fail
    go_quiet ((first | (go_at_call 61; exact Calls.quiet_of_same (Hq1.out _)) | (go_at_call 60; exact Calls.quiet_of_same (Hq2.out _))))
    go_wp2_with fail
    go_ret2
    exact ⟨by rw [HR.out]; rfl, (Tch.refl _ _).drewN _⟩
  · have hn3 : n = 3 := by
      have h : few 28 ≤ n ∧ n ≤ mst 28 := ha.2
      have e1 : few 28 = 3 := rfl
      have e2 : mst 28 = 3 := rfl
      omega
    obtain ⟨x, y, z, hx⟩ : ∃ x y z, ks = [x, y, z] := by
      have hk := Hn.out
      match ks, hk with
      | [x, y, z], _ => exact ⟨x, y, z, rfl⟩
      | [], h => simp at h; omega
      | [_], h => simp at h; omega
      | [_, _], h => simp at h; omega
      | _ :: _ :: _ :: _ :: _, h => simp at h; omega
    have HR : Hid (R = (2, goW 2 [x] && goW 1 [y, z])) := (show R = _ from by rw [hR, hx]; rfl)
    have ha := HA.out
    rw [hx] at ha
    have q1 := goWith_any 2 [x] (some ⟨g, 0, none⟩) c w (fun _ => ⟨g, 0, rfl, fun j u hu => ha j u (by
      cases j with
      | zero => exact hu
      | succ j => simp at hu)⟩) (by simp)
    have q2 := goWith_any 1 [y, z] (some ⟨g, 1, none⟩) (c - 1) w (fun _ => ⟨g, 1, rfl, fun j u hu => by
      have := ha (j + 1) u (by simpa using hu)
      rw [show 0 + (j + 1) = 1 + j by omega] at this
      exact this⟩) (by simp)
    obtain ⟨r1, hr1⟩ : ∃ r, r = goW 2 [x] := ⟨_, rfl⟩
    obtain ⟨r2, hr2⟩ : ∃ r, r = goW 1 [y, z] := ⟨_, rfl⟩
    rw [← hr1] at q1 HR
    rw [← hr2] at q2 HR
    have e1 : ([x] : List Int).length = 1 := rfl
    have e2 : ([y, z] : List Int).length = 2 := rfl
    rw [e1] at q1
    rw [e2] at q2
    subst hn3
    clear hR hr1 hr2 Hq hcm hch ha hx e1 e2
    have hc1 : ¬ c = 1 := by omega
    cases r1 with
    | true =>
      go_enter Tryz.func30, Tryz.ntmps30
      go_wp2_with fail
      refine q1.mono ?_
      rintro y w1 ⟨rfl, rfl⟩
      clear q1
      go_wp2_with fail
      refine q2.mono ?_
      rintro y w1 ⟨rfl, rfl⟩
      clear q2
      go_wp2_with fail
      go_ret2
      exact ⟨by rw [HR.out]; rfl, Tch.refl _ _⟩
    | false =>
      clear q2
      go_enter Tryz.func30, Tryz.ntmps30
      go_wp2_with fail
      refine q1.mono ?_
      rintro y w1 ⟨rfl, rfl⟩
      clear q1
      go_wp2_with fail
      go_ret2
      exact ⟨by rw [HR.out]; rfl, Tch.refl _ _⟩
  · have HR : Hid (R = (com ks, goW (com ks) ks)) := hR
    have q1 := hcm
    have q2 := Hq.out (com ks)
    obtain ⟨k, hk⟩ : ∃ k, k = com ks := ⟨_, rfl⟩
    rw [← hk] at q1 q2 HR
    obtain ⟨r, hr⟩ : ∃ r, r = goW k ks := ⟨_, rfl⟩
    rw [← hr] at q2 HR
    clear hR hr hk Hq hcm hch ha
    go_enter Tryz.func30, Tryz.ntmps30
    go_wp2_with fail
    refine q1.mono ?_
    rintro y w1 ⟨rfl, rfl⟩
    go_wp2_with fail
    refine q1.mono ?_
    rintro y w1 ⟨rfl, rfl⟩
    go_wp2_with fail
    refine q2.mono ?_
    rintro y w1 ⟨rfl, rfl⟩
    clear q2 q1
    go_wp2_with fail
    go_ret2
    exact ⟨by rw [HR.out]; rfl, Tch.refl _ _⟩
  · have HR : Hid (R = (com ks, goW (com ks) ks)) := hR
    have q1 := hcm
    have q2 := Hq.out (com ks)
    obtain ⟨k, hk⟩ : ∃ k, k = com ks := ⟨_, rfl⟩
    rw [← hk] at q1 q2 HR
    obtain ⟨r, hr⟩ : ∃ r, r = goW k ks := ⟨_, rfl⟩
    rw [← hr] at q2 HR
    clear hR hr hk Hq hcm hch ha
    go_enter Tryz.func30, Tryz.ntmps30
    go_wp2_with fail
    refine q1.mono ?_
    rintro y w1 ⟨rfl, rfl⟩
    go_wp2_with fail
    refine q1.mono ?_
    rintro y w1 ⟨rfl, rfl⟩
    go_wp2_with fail
    refine q2.mono ?_
    rintro y w1 ⟨rfl, rfl⟩
    clear q2 q1
    go_wp2_with fail
    go_ret2
    exact ⟨by rw [HR.out]; rfl, Tch.refl _ _⟩
  · have HR : Hid (R = (com ks, goW (com ks) ks)) := hR
    have q1 := hcm
    have q2 := Hq.out (com ks)
    obtain ⟨k, hk⟩ : ∃ k, k = com ks := ⟨_, rfl⟩
    rw [← hk] at q1 q2 HR
    obtain ⟨r, hr⟩ : ∃ r, r = goW k ks := ⟨_, rfl⟩
    rw [← hr] at q2 HR
    clear hR hr hk Hq hcm hch ha
    go_enter Tryz.func30, Tryz.ntmps30
    go_wp2_with fail
    refine q1.mono ?_
    rintro y w1 ⟨rfl, rfl⟩
    go_wp2_with fail
    refine q1.mono ?_
    rintro y w1 ⟨rfl, rfl⟩
    go_wp2_with fail
    refine q2.mono ?_
    rintro y w1 ⟨rfl, rfl⟩
    clear q2 q1
    go_wp2_with fail
    go_ret2
    exact ⟨by rw [HR.out]; rfl, Tch.refl _ _⟩
end Go.Proofs.YtmaekkhmiafnmaaGreatDoor
