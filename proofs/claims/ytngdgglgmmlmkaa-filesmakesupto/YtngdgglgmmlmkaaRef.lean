/- The document's disk: names; where a file stands. -/
import Derived.Test.YtngdgglgmmlmkaaLoad
import Derived.Sort.Walk0
namespace Go.Proofs.Ytngdgglgmmlmkaa
open Go.RowKit Go.ChangeMaps Go.Sort

theorem less_before : ∀ x y : List UInt8, Op.bytesLess x y = bytesBefore x y
  | [], [] => by simp [Op.bytesLess, bytesBefore]
  | _ :: _, [] => by simp [Op.bytesLess, bytesBefore]
  | [], _ :: _ => by simp [Op.bytesLess, bytesBefore]
  | a :: x, b :: y => by
    rw [Op.bytesLess, bytesBefore, less_before x y]
theorem less_b (a b : ByteArray) : Op.bytesLess a.toList b.toList = bytesBefore a.data.toList b.data.toList := by rw [Lib.toList_data, Lib.toList_data, less_before]
theorem before_lt {x y : List UInt8} : bytesBefore x y = true ↔ x < y := by
  rw [← less_before, bytesLess_eq, decide_eq_true_eq]
theorem before_irrefl (x : List UInt8) : bytesBefore x x = false := by
  cases h : bytesBefore x x
  · rfl
  · exact absurd (before_lt.1 h) (List.lt_irrefl x)
theorem before_trans {x y z : List UInt8} (h1 : bytesBefore x y = true) (h2 : bytesBefore y z = true) : bytesBefore x z = true := before_lt.2 (List.lt_trans (before_lt.1 h1) (before_lt.1 h2))
theorem before_total {x y : List UInt8} (h1 : bytesBefore x y = false) (hn : x ≠ y) : bytesBefore y x = true := by
  cases h : bytesBefore y x
  · exfalso
    have h3 : ¬ x < y := fun h' => by rw [before_lt.2 h'] at h1; cases h1
    have h4 : ¬ y < x := fun h' => by rw [before_lt.2 h'] at h; cases h
    exact hn (List.le_antisymm (List.not_lt.1 h4) (List.not_lt.1 h3))
  · rfl

set_option maxHeartbeats 1000000 in
theorem named_any (s : ByteArray) (w : World) :
    Calls Try.prog 59 #[.string s] w fun x w' => x = .returned (.bool (okN s.data.toList)) ∧ w' = w := by
  by_cases h0 : s = ⟨#[]⟩
  · subst h0
    go_enter Try.func59, Try.ntmps59
    go_wp2
    go_ret
    exact ⟨rfl, rfl⟩
  · have h1' : 1 ≤ s.size := by
      rcases Nat.lt_or_ge 0 s.size with h | h
      · exact h
      · exfalso
        apply h0
        apply ByteArray.ext
        exact Array.eq_empty_of_size_eq_zero (by simpa using h)
    have h0b : s.toList.isEmpty = false := by
      rw [Lib.toList_data, List.isEmpty_eq_false_iff]
      intro h
      have h2 : s.data.toList.length = s.size := by simp
      rw [h] at h2
      simp at h2
      omega
    by_cases h2 : 40 < (s.size : Int)
    · have HR : Hid (okN s.data.toList = false) := by
        show _ = _
        rw [← Bool.not_eq_true, okN_iff]; omega
      go_enter Try.func59, Try.ntmps59
      go_wp2
      go_ret
      exact ⟨by rw [HR.out]; rfl, rfl⟩
    · have h2' : s.size ≤ 40 := by omega
      go_enter Try.func59, Try.ntmps59
      go_wp2_with fail
      go_loopw [3] (fun i wr => ∃ k : Nat, i = .int .i64 k ∧ k ≤ s.size ∧ wr = w ∧ Hid (∀ j (h : j < s.size), j < k → okB s[j] = true)) (fun i _ => s.size - (intOf i).toNat)
      case atStart => exact ⟨0, rfl, by omega, rfl, fun _ _ h => by omega⟩
      case round =>
        obtain ⟨k, rfl, hk, rfl, hall⟩ := hrel
        by_cases hlt : k < s.size
        · have hlt' : (k : Int) < s.size := by omega
          have hc := (s[k]).toNat_lt
          cases hob : okB s[k]
          · have HR : Hid (okN s.data.toList = false) := by
              show _ = _
              rw [← Bool.not_eq_true, okN_iff]
              intro h
              have := h.2 k hlt
              rw [hob] at this; cases this
            have hob' := hob
            simp [okB] at hob'
            obtain ⟨o1, o2, o3, o4, o5⟩ := hob'
            have hcs : (s[k].toNat : Int) < 48 ∨ 57 < (s[k].toNat : Int) ∧ (s[k].toNat : Int) < 97 ∨ 122 < (s[k].toNat : Int) := by omega
            have e1 : ¬ (s[k].toNat : Int) = 46 := by omega
            have e2 : ¬ (s[k].toNat : Int) = 95 := by omega
            have e3 : ¬ (s[k].toNat : Int) = 45 := by omega
            have b1 : ((s[k].toNat : Int) == 46) = false := by rw [beq_eq_false_iff_ne]; exact e1
            have b2 : ((s[k].toNat : Int) == 95) = false := by rw [beq_eq_false_iff_ne]; exact e2
            have b3 : ((s[k].toNat : Int) == 45) = false := by rw [beq_eq_false_iff_ne]; exact e3
            clear o1 o2 o3 o4 o5 hob
            rcases hcs with hcs | ⟨hc1, hc2⟩ | hcs
            · have g1 : ¬ 97 ≤ (s[k].toNat : Int) := by omega
              have g2 : ¬ 48 ≤ (s[k].toNat : Int) := by omega
              go_wp2
              go_ret
              exact ⟨by rw [HR.out]; rfl, rfl⟩
            · have g1 : ¬ 97 ≤ (s[k].toNat : Int) := by omega
              have g2 : 48 ≤ (s[k].toNat : Int) := by omega
              have g3 : ¬ (s[k].toNat : Int) ≤ 57 := by omega
              go_wp2
              go_ret
              exact ⟨by rw [HR.out]; rfl, rfl⟩
            · have g1 : 97 ≤ (s[k].toNat : Int) := by omega
              have g2 : ¬ (s[k].toNat : Int) ≤ 122 := by omega
              have g3 : 48 ≤ (s[k].toNat : Int) := by omega
              have g4 : ¬ (s[k].toNat : Int) ≤ 57 := by omega
              go_wp2
              go_ret
              exact ⟨by rw [HR.out]; rfl, rfl⟩
          · have HO : Hid (∀ j (h : j < s.size), j < k + 1 → okB s[j] = true) := fun j hj hjk => by
              rcases Nat.lt_or_ge j k with h | h
              · exact hall.out j hj h
              · obtain rfl : j = k := by omega
                exact hob
            have hob' := hob
            simp [okB] at hob'
            have hcs : (97 ≤ (s[k].toNat : Int) ∧ (s[k].toNat : Int) ≤ 122) ∨ (48 ≤ (s[k].toNat : Int) ∧ (s[k].toNat : Int) ≤ 57) ∨ (s[k].toNat : Int) = 46 ∨ (s[k].toNat : Int) = 95 ∨ (s[k].toNat : Int) = 45 := by omega
            clear hob hob'
            rcases hcs with ⟨g1, g2⟩ | ⟨g1, g2⟩ | g1 | g1 | g1
            · go_wp2
              go_roundw
              case rel => exact ⟨k + 1, by go_num, by omega, trivial, HO⟩
              case measure => simp [intOf]; omega
            · have g3 : ¬ 97 ≤ (s[k].toNat : Int) := by omega
              go_wp2
              go_roundw
              case rel => exact ⟨k + 1, by go_num, by omega, trivial, HO⟩
              case measure => simp [intOf]; omega
            · go_wp2
              go_roundw
              case rel => exact ⟨k + 1, by go_num, by omega, trivial, HO⟩
              case measure => simp [intOf]; omega
            · go_wp2
              go_roundw
              case rel => exact ⟨k + 1, by go_num, by omega, trivial, HO⟩
              case measure => simp [intOf]; omega
            · go_wp2
              go_roundw
              case rel => exact ⟨k + 1, by go_num, by omega, trivial, HO⟩
              case measure => simp [intOf]; omega
        · have hlt' : ¬ (k : Int) < s.size := by omega
          have HR : Hid (okN s.data.toList = true) := by
            show _ = _
            rw [okN_iff]; exact ⟨⟨h1', h2'⟩, fun i hi => hall.out i hi (by omega)⟩
          go_wp2
          go_ret
          exact ⟨by rw [HR.out]; rfl, rfl⟩

theorem rowN_tch {S : Nat → Prop} {w w' : World} {base : Nat} {t : TypeId} {sz n : Nat} {v : Value} {xs : List Value} (h : w.ownsRow base t sz v n xs) (tc : Tch S w w') (hS : ∀ g, v.ownBlock = some g → ¬ S g) : w'.ownsRow base t sz v n xs := by
  obtain ⟨h1, h2⟩ := h
  refine ⟨h1, ?_⟩
  rcases h2 with h2 | ⟨g, cap, cur, hv, hg, hh, r⟩
  · exact Or.inl h2
  · exact Or.inr ⟨g, cap, cur, hv, hg, by rw [tc.block g (blk_lt hh) (hS g (by rw [hv]; rfl))]; exact hh, r⟩
theorem rowN_of {w : World} {base : Nat} {t : TypeId} {sz n : Nat} {v : Value} {xs : List Value} (h : w.ownsRow base t sz v n xs) : ∃ ao cp, v = .slice ao n cp := by
  rcases h.2 with ⟨rfl, rfl⟩ | ⟨g, cap, cur, rfl, _⟩
  · exact ⟨none, 0, rfl⟩
  · exact ⟨_, _, rfl⟩

/-- The files in their order. -/
def Up (m : List (Nm × Fl)) : Prop := m.Pairwise (fun p q => bytesBefore p.1 q.1 = true)
def rfcells (p : Nm × Fl) : List Value := [.string ⟨p.1.toArray⟩, .string ⟨p.2.bs.toArray⟩, .int .i64 p.2.la]
def rcells (m : List (Nm × Fl)) : List Value := m.flatMap rfcells
theorem rcells_cons (p : Nm × Fl) (m : List (Nm × Fl)) : rcells (p :: m) = rfcells p ++ rcells m := rfl
theorem rcells_append (m m' : List (Nm × Fl)) : rcells (m ++ m') = rcells m ++ rcells m' := by simp [rcells]
theorem rcells_len : ∀ m : List (Nm × Fl), (rcells m).length = m.length * 3
  | [] => rfl
  | p :: m => by rw [rcells_cons, List.length_append, rcells_len m]; simp [rfcells]; omega
theorem rcells_get : ∀ (m : List (Nm × Fl)) (i : Nat) (h : i < m.length), (rcells m)[i * 3]? = some (.string ⟨m[i].1.toArray⟩) ∧ (rcells m)[i * 3 + 1]? = some (.string ⟨m[i].2.bs.toArray⟩) ∧ (rcells m)[i * 3 + 2]? = some (.int .i64 m[i].2.la)
  | [], i, h => by simp at h
  | p :: m, 0, _ => ⟨rfl, rfl, rfl⟩
  | p :: m, i + 1, h => by
    have ih := rcells_get m i (by simpa using h)
    rw [rcells_cons]
    have hl : (rfcells p).length = 3 := rfl
    rw [List.getElem?_append_right (by omega), List.getElem?_append_right (by omega), List.getElem?_append_right (by omega), hl]
    rw [show (i + 1) * 3 - 3 = i * 3 by omega, show (i + 1) * 3 + 1 - 3 = i * 3 + 1 by omega, show (i + 1) * 3 + 2 - 3 = i * 3 + 2 by omega]
    exact ih
theorem rcells_take (m : List (Nm × Fl)) : ∀ i, i ≤ m.length → (rcells m).take (i * 3) = rcells (m.take i) := by
  intro i hi
  conv => lhs; rw [← List.take_append_drop i m, rcells_append]
  rw [List.take_append_of_le_length (by rw [rcells_len, List.length_take]; omega), List.take_of_length_le (by rw [rcells_len, List.length_take]; omega)]
theorem rcells_drop (m : List (Nm × Fl)) : ∀ i, i ≤ m.length → (rcells m).drop (i * 3) = rcells (m.drop i) := by
  intro i hi
  conv => lhs; rw [← List.take_append_drop i m, rcells_append]
  rw [List.drop_append_of_le_length (by rw [rcells_len, List.length_take]; omega), List.drop_of_length_le (by rw [rcells_len, List.length_take]; omega)]
  rfl

/-- Where a file stands, or would. -/
def posL (n : Nm) (m : List (Nm × Fl)) : Nat := (m.takeWhile (fun p => bytesBefore p.1 n)).length
theorem posL_le (n : Nm) (m : List (Nm × Fl)) : posL n m ≤ m.length := (List.takeWhile_sublist _).length_le
theorem posL_lt (n : Nm) : ∀ (m : List (Nm × Fl)) (i : Nat) (_ : i < posL n m) (h' : i < m.length), bytesBefore m[i].1 n = true
  | [], _, _, h' => by simp at h'
  | p :: m, i, h, h' => by
    unfold posL at h
    rw [List.takeWhile_cons] at h
    cases hb : bytesBefore p.1 n
    · rw [hb] at h; simp at h
    · rw [hb] at h
      cases i with
      | zero => exact hb
      | succ i => exact posL_lt n m i (by simpa [posL] using h) (by simpa using h')
theorem posL_at (n : Nm) : ∀ (m : List (Nm × Fl)) (h : posL n m < m.length), bytesBefore (m[posL n m]).1 n = false
  | [], h => by simp at h
  | p :: m, h => by
    cases hb : bytesBefore p.1 n
    · have e : posL n (p :: m) = 0 := by unfold posL; rw [List.takeWhile_cons, hb]; rfl
      simp only [e, List.getElem_cons_zero]
      exact hb
    · have e : posL n (p :: m) = posL n m + 1 := by unfold posL; rw [List.takeWhile_cons, hb]; rfl
      simp only [e, List.getElem_cons_succ]
      exact posL_at n m (by rw [e] at h; simpa using h)
theorem posL_there {n : Nm} : ∀ {m : List (Nm × Fl)}, Up m → (getL n m).isSome = decide (∃ h : posL n m < m.length, (m[posL n m]).1 = n)
  | [], _ => by simp [getL]
  | p :: m, hu => by
    cases hb : bytesBefore p.1 n
    · have e : posL n (p :: m) = 0 := by unfold posL; rw [List.takeWhile_cons, hb]; rfl
      simp only [e, List.getElem_cons_zero]
      by_cases hp : p.1 = n
      · have : getL n (p :: m) = some p.2 := by simp [getL, hp]
        rw [this]
        simp [hp]
      · have hn : getL n (p :: m) = none := by
          cases hg : getL n (p :: m) with
          | none => rfl
          | some a =>
            exfalso
            have hm := getL_mem hg
            rcases List.mem_cons.1 hm with h | h
            · exact hp (by rw [← h])
            · have h1 := (List.pairwise_cons.1 hu).1 _ h
              have h2 : bytesBefore p.1 n = true := h1
              rw [hb] at h2; cases h2
        rw [hn]
        simp [hp]
    · have e : posL n (p :: m) = posL n m + 1 := by unfold posL; rw [List.takeWhile_cons, hb]; rfl
      have hp : p.1 ≠ n := fun h => by rw [h, before_irrefl] at hb; cases hb
      have h2 : getL n (p :: m) = getL n m := by simp [getL, hp]
      rw [h2, posL_there (List.pairwise_cons.1 hu).2]
      simp only [e, List.getElem_cons_succ, List.length_cons, Nat.add_lt_add_iff_right]
theorem insL_pos (n : Nm) (a : Fl) : ∀ {m : List (Nm × Fl)}, Up m → getL n m = none → insL (n, a) m = m.take (posL n m) ++ (n, a) :: m.drop (posL n m)
  | [], _, _ => rfl
  | p :: m, hu, hg => by
    have hp : p.1 ≠ n := fun h => by simp [getL, h] at hg
    have hg' : getL n m = none := by simpa [getL, hp] using hg
    rw [insL]
    cases hb : bytesBefore p.1 n
    · have e : posL n (p :: m) = 0 := by unfold posL; rw [List.takeWhile_cons, hb]; rfl
      rw [e, if_pos (before_total hb hp)]; rfl
    · have e : posL n (p :: m) = posL n m + 1 := by unfold posL; rw [List.takeWhile_cons, hb]; rfl
      have hb2 : bytesBefore n p.1 = false := by
        cases h : bytesBefore n p.1
        · rfl
        · have := before_trans hb h; rw [before_irrefl] at this; cases this
      rw [e, if_neg (by rw [hb2]; simp), insL_pos n a (List.pairwise_cons.1 hu).2 hg']
      rfl
theorem Up.ins {n : Nm} {a : Fl} : ∀ {m : List (Nm × Fl)}, Up m → getL n m = none → Up (insL (n, a) m)
  | [], _, _ => List.pairwise_singleton _ _
  | p :: m, hu, hg => by
    have hp : p.1 ≠ n := fun h => by simp [getL, h] at hg
    have hg' : getL n m = none := by simpa [getL, hp] using hg
    obtain ⟨h1, h2⟩ := List.pairwise_cons.1 hu
    rw [insL]
    by_cases hb : bytesBefore n p.1 = true
    · rw [if_pos hb]
      refine List.pairwise_cons.2 ⟨fun q hq => ?_, hu⟩
      rcases List.mem_cons.1 hq with rfl | hq
      · exact hb
      · exact before_trans hb (h1 q hq)
    · rw [if_neg hb]
      refine List.pairwise_cons.2 ⟨fun q hq => ?_, Up.ins h2 hg'⟩
      rcases mem_insL.1 hq with rfl | hq
      · exact before_total (by simpa using hb) (Ne.symm hp)
      · exact h1 q hq
end Go.Proofs.Ytngdgglgmmlmkaa
