import Derived.Test.YtjambfbibeihiaaGreatLoad
import Derived.Sort.Walk0
import Derived.Laws.AppendOwnNone
import Derived.Test.YtjambfbibeihiaaGreatQTail
/- The document's disk: names; where a file stands. -/
namespace Go.Proofs.YtjambfbibeihiaaGreat
set_option maxRecDepth 100000
open Go.RowKit Go.ChangeMaps Go.Sort

theorem less_before : ∀ x y : List UInt8, Op.bytesLess x y = bytesBefore x y
  | [], [] => by simp [Op.bytesLess, bytesBefore]
  | _ :: _, [] => by simp [Op.bytesLess, bytesBefore]
  | [], _ :: _ => by simp [Op.bytesLess, bytesBefore]
  | a :: x, b :: y => by
    rw [Op.bytesLess, bytesBefore, less_before x y]
theorem less_b (a b : ByteArray) : Op.bytesLess a.toList b.toList = bytesBefore a.data.toList b.data.toList := by rw [Lib.toList_data, Lib.toList_data, less_before]
theorem before_lt {x y : List UInt8} : bytesBefore x y = true ↔ x < y := by
  rw [← less_before, bytesLess_eq, decide_eq_true_eq]
theorem before_irrefl (x : List UInt8) : bytesBefore x x = false := by
  cases h : bytesBefore x x
  · rfl
  · exact absurd (before_lt.1 h) (List.lt_irrefl x)
theorem before_trans {x y z : List UInt8} (h1 : bytesBefore x y = true) (h2 : bytesBefore y z = true) : bytesBefore x z = true := before_lt.2 (List.lt_trans (before_lt.1 h1) (before_lt.1 h2))
theorem before_total {x y : List UInt8} (h1 : bytesBefore x y = false) (hn : x ≠ y) : bytesBefore y x = true := by
  cases h : bytesBefore y x
  · exfalso
    have h3 : ¬ x < y := fun h' => by rw [before_lt.2 h'] at h1; cases h1
    have h4 : ¬ y < x := fun h' => by rw [before_lt.2 h'] at h; cases h
    exact hn (List.le_antisymm (List.not_lt.1 h4) (List.not_lt.1 h3))
  · rfl

set_option maxHeartbeats 1000000 in
theorem named_any (s : ByteArray) (w : World) :
    Calls Tryz.prog 43 #[.string s] w fun x w' => x = .returned (.bool (okN s.data.toList)) ∧ w' = w := by
  by_cases h0 : s = ⟨#[]⟩
  · subst h0
    go_enter Tryz.func43, Tryz.ntmps43
    go_wp2
    go_ret
    exact ⟨rfl, rfl⟩
  · have h1' : 1 ≤ s.size := by
      rcases Nat.lt_or_ge 0 s.size with h | h
      · exact h
      · exfalso
        apply h0
        apply ByteArray.ext
        exact Array.eq_empty_of_size_eq_zero (by simpa using h)
    have h0b : s.toList.isEmpty = false := by
      rw [Lib.toList_data, List.isEmpty_eq_false_iff]
      intro h
      have h2 : s.data.toList.length = s.size := by simp
      rw [h] at h2
      simp at h2
      omega
    by_cases h2 : 40 < (s.size : Int)
    · have HR : Hid (okN s.data.toList = false) := by
        show _ = _
        rw [← Bool.not_eq_true, okN_iff]; omega
      go_enter Tryz.func43, Tryz.ntmps43
      go_wp2
      go_ret
      exact ⟨by rw [HR.out]; rfl, rfl⟩
    · have h2' : s.size ≤ 40 := by omega
      go_enter Tryz.func43, Tryz.ntmps43
      go_wp2_with fail
      go_loopw [3] (fun i wr => ∃ k : Nat, i = .int .i64 k ∧ k ≤ s.size ∧ wr = w ∧ Hid (∀ j (h : j < s.size), j < k → okB s[j] = true)) (fun i _ => s.size - (intOf i).toNat)
      case atStart => exact ⟨0, rfl, by omega, rfl, fun _ _ h => by omega⟩
      case round =>
        obtain ⟨k, rfl, hk, rfl, hall⟩ := hrel
        by_cases hlt : k < s.size
        · have hlt' : (k : Int) < s.size := by omega
          have hc := (s[k]).toNat_lt
          cases hob : okB s[k]
          · have HR : Hid (okN s.data.toList = false) := by
              show _ = _
              rw [← Bool.not_eq_true, okN_iff]
              intro h
              have := h.2 k hlt
              rw [hob] at this; cases this
            have hob' := hob
            simp [okB] at hob'
            obtain ⟨o1, o2, o3, o4, o5⟩ := hob'
            have hcs : (s[k].toNat : Int) < 48 ∨ 57 < (s[k].toNat : Int) ∧ (s[k].toNat : Int) < 97 ∨ 122 < (s[k].toNat : Int) := by omega
            have e1 : ¬ (s[k].toNat : Int) = 46 := by omega
            have e2 : ¬ (s[k].toNat : Int) = 95 := by omega
            have e3 : ¬ (s[k].toNat : Int) = 45 := by omega
            have b1 : ((s[k].toNat : Int) == 46) = false := by rw [beq_eq_false_iff_ne]; exact e1
            have b2 : ((s[k].toNat : Int) == 95) = false := by rw [beq_eq_false_iff_ne]; exact e2
            have b3 : ((s[k].toNat : Int) == 45) = false := by rw [beq_eq_false_iff_ne]; exact e3
            clear o1 o2 o3 o4 o5 hob
            rcases hcs with hcs | ⟨hc1, hc2⟩ | hcs
            · have g1 : ¬ 97 ≤ (s[k].toNat : Int) := by omega
              have g2 : ¬ 48 ≤ (s[k].toNat : Int) := by omega
              go_wp2
              go_ret
              exact ⟨by rw [HR.out]; rfl, rfl⟩
            · have g1 : ¬ 97 ≤ (s[k].toNat : Int) := by omega
              have g2 : 48 ≤ (s[k].toNat : Int) := by omega
              have g3 : ¬ (s[k].toNat : Int) ≤ 57 := by omega
              go_wp2
              go_ret
              exact ⟨by rw [HR.out]; rfl, rfl⟩
            · have g1 : 97 ≤ (s[k].toNat : Int) := by omega
              have g2 : ¬ (s[k].toNat : Int) ≤ 122 := by omega
              have g3 : 48 ≤ (s[k].toNat : Int) := by omega
              have g4 : ¬ (s[k].toNat : Int) ≤ 57 := by omega
              go_wp2
              go_ret
              exact ⟨by rw [HR.out]; rfl, rfl⟩
          · have HO : Hid (∀ j (h : j < s.size), j < k + 1 → okB s[j] = true) := fun j hj hjk => by
              rcases Nat.lt_or_ge j k with h | h
              · exact hall.out j hj h
              · obtain rfl : j = k := by omega
                exact hob
            have hob' := hob
            simp [okB] at hob'
            have hcs : (97 ≤ (s[k].toNat : Int) ∧ (s[k].toNat : Int) ≤ 122) ∨ (48 ≤ (s[k].toNat : Int) ∧ (s[k].toNat : Int) ≤ 57) ∨ (s[k].toNat : Int) = 46 ∨ (s[k].toNat : Int) = 95 ∨ (s[k].toNat : Int) = 45 := by omega
            clear hob hob'
            rcases hcs with ⟨g1, g2⟩ | ⟨g1, g2⟩ | g1 | g1 | g1
            · go_wp2
              go_roundw
              case rel => exact ⟨k + 1, by go_num, by omega, trivial, HO⟩
              case measure => simp [intOf]; omega
            · have g3 : ¬ 97 ≤ (s[k].toNat : Int) := by omega
              go_wp2
              go_roundw
              case rel => exact ⟨k + 1, by go_num, by omega, trivial, HO⟩
              case measure => simp [intOf]; omega
            · go_wp2
              go_roundw
              case rel => exact ⟨k + 1, by go_num, by omega, trivial, HO⟩
              case measure => simp [intOf]; omega
            · go_wp2
              go_roundw
              case rel => exact ⟨k + 1, by go_num, by omega, trivial, HO⟩
              case measure => simp [intOf]; omega
            · go_wp2
              go_roundw
              case rel => exact ⟨k + 1, by go_num, by omega, trivial, HO⟩
              case measure => simp [intOf]; omega
        · have hlt' : ¬ (k : Int) < s.size := by omega
          have HR : Hid (okN s.data.toList = true) := by
            show _ = _
            rw [okN_iff]; exact ⟨⟨h1', h2'⟩, fun i hi => hall.out i hi (by omega)⟩
          go_wp2
          go_ret
          exact ⟨by rw [HR.out]; rfl, rfl⟩

theorem rowN_tch {S : Nat → Prop} {w w' : World} {base : Nat} {t : TypeId} {sz n : Nat} {v : Value} {xs : List Value} (h : w.ownsRow base t sz v n xs) (tc : Tch S w w') (hS : ∀ g, v.ownBlock = some g → ¬ S g) : w'.ownsRow base t sz v n xs := by
  obtain ⟨h1, h2⟩ := h
  refine ⟨h1, ?_⟩
  rcases h2 with h2 | ⟨g, cap, cur, hv, hg, hh, r⟩
  · exact Or.inl h2
  · exact Or.inr ⟨g, cap, cur, hv, hg, by rw [tc.block g (blk_lt hh) (hS g (by rw [hv]; rfl))]; exact hh, r⟩
theorem rowN_of {w : World} {base : Nat} {t : TypeId} {sz n : Nat} {v : Value} {xs : List Value} (h : w.ownsRow base t sz v n xs) : ∃ ao cp, v = .slice ao n cp := by
  rcases h.2 with ⟨rfl, rfl⟩ | ⟨g, cap, cur, rfl, _⟩
  · exact ⟨none, 0, rfl⟩
  · exact ⟨_, _, rfl⟩

/-- The files in their order. -/
def Up (m : List (Nm × Fl)) : Prop := m.Pairwise (fun p q => bytesBefore p.1 q.1 = true)
def rfcells (p : Nm × Fl) : List Value := [.string ⟨p.1.toArray⟩, .string ⟨p.2.bs.toArray⟩, .int .i64 p.2.la]
def rcells (m : List (Nm × Fl)) : List Value := m.flatMap rfcells
theorem rcells_cons (p : Nm × Fl) (m : List (Nm × Fl)) : rcells (p :: m) = rfcells p ++ rcells m := rfl
theorem rcells_append (m m' : List (Nm × Fl)) : rcells (m ++ m') = rcells m ++ rcells m' := by simp [rcells]
theorem rcells_len : ∀ m : List (Nm × Fl), (rcells m).length = m.length * 3
  | [] => rfl
  | p :: m => by rw [rcells_cons, List.length_append, rcells_len m]; simp [rfcells]; omega
theorem rcells_get : ∀ (m : List (Nm × Fl)) (i : Nat) (h : i < m.length), (rcells m)[i * 3]? = some (.string ⟨m[i].1.toArray⟩) ∧ (rcells m)[i * 3 + 1]? = some (.string ⟨m[i].2.bs.toArray⟩) ∧ (rcells m)[i * 3 + 2]? = some (.int .i64 m[i].2.la)
  | [], i, h => by simp at h
  | p :: m, 0, _ => ⟨rfl, rfl, rfl⟩
  | p :: m, i + 1, h => by
    have ih := rcells_get m i (by simpa using h)
    rw [rcells_cons]
    have hl : (rfcells p).length = 3 := rfl
    rw [List.getElem?_append_right (by omega), List.getElem?_append_right (by omega), List.getElem?_append_right (by omega), hl]
    rw [show (i + 1) * 3 - 3 = i * 3 by omega, show (i + 1) * 3 + 1 - 3 = i * 3 + 1 by omega, show (i + 1) * 3 + 2 - 3 = i * 3 + 2 by omega]
    exact ih
theorem rcells_take (m : List (Nm × Fl)) : ∀ i, i ≤ m.length → (rcells m).take (i * 3) = rcells (m.take i) := by
  intro i hi
  conv => lhs; rw [← List.take_append_drop i m, rcells_append]
  rw [List.take_append_of_le_length (by rw [rcells_len, List.length_take]; omega), List.take_of_length_le (by rw [rcells_len, List.length_take]; omega)]
theorem rcells_drop (m : List (Nm × Fl)) : ∀ i, i ≤ m.length → (rcells m).drop (i * 3) = rcells (m.drop i) := by
  intro i hi
  conv => lhs; rw [← List.take_append_drop i m, rcells_append]
  rw [List.drop_append_of_le_length (by rw [rcells_len, List.length_take]; omega), List.drop_of_length_le (by rw [rcells_len, List.length_take]; omega)]
  rfl

/-- Where a file stands, or would. -/
def posL (n : Nm) (m : List (Nm × Fl)) : Nat := (m.takeWhile (fun p => bytesBefore p.1 n)).length
theorem posL_le (n : Nm) (m : List (Nm × Fl)) : posL n m ≤ m.length := (List.takeWhile_sublist _).length_le
theorem posL_lt (n : Nm) : ∀ (m : List (Nm × Fl)) (i : Nat) (_ : i < posL n m) (h' : i < m.length), bytesBefore m[i].1 n = true
  | [], _, _, h' => by simp at h'
  | p :: m, i, h, h' => by
    unfold posL at h
    rw [List.takeWhile_cons] at h
    cases hb : bytesBefore p.1 n
    · rw [hb] at h; simp at h
    · rw [hb] at h
      cases i with
      | zero => exact hb
      | succ i => exact posL_lt n m i (by simpa [posL] using h) (by simpa using h')
theorem posL_at (n : Nm) : ∀ (m : List (Nm × Fl)) (h : posL n m < m.length), bytesBefore (m[posL n m]).1 n = false
  | [], h => by simp at h
  | p :: m, h => by
    cases hb : bytesBefore p.1 n
    · have e : posL n (p :: m) = 0 := by unfold posL; rw [List.takeWhile_cons, hb]; rfl
      simp only [e, List.getElem_cons_zero]
      exact hb
    · have e : posL n (p :: m) = posL n m + 1 := by unfold posL; rw [List.takeWhile_cons, hb]; rfl
      simp only [e, List.getElem_cons_succ]
      exact posL_at n m (by rw [e] at h; simpa using h)
theorem posL_there {n : Nm} : ∀ {m : List (Nm × Fl)}, Up m → (getL n m).isSome = decide (∃ h : posL n m < m.length, (m[posL n m]).1 = n)
  | [], _ => by simp [getL]
  | p :: m, hu => by
    cases hb : bytesBefore p.1 n
    · have e : posL n (p :: m) = 0 := by unfold posL; rw [List.takeWhile_cons, hb]; rfl
      simp only [e, List.getElem_cons_zero]
      by_cases hp : p.1 = n
      · have : getL n (p :: m) = some p.2 := by simp [getL, hp]
        rw [this]
        simp [hp]
      · have hn : getL n (p :: m) = none := by
          cases hg : getL n (p :: m) with
          | none => rfl
          | some a =>
            exfalso
            have hm := getL_mem hg
            rcases List.mem_cons.1 hm with h | h
            · exact hp (by rw [← h])
            · have h1 := (List.pairwise_cons.1 hu).1 _ h
              have h2 : bytesBefore p.1 n = true := h1
              rw [hb] at h2; cases h2
        rw [hn]
        simp [hp]
    · have e : posL n (p :: m) = posL n m + 1 := by unfold posL; rw [List.takeWhile_cons, hb]; rfl
      have hp : p.1 ≠ n := fun h => by rw [h, before_irrefl] at hb; cases hb
      have h2 : getL n (p :: m) = getL n m := by simp [getL, hp]
      rw [h2, posL_there (List.pairwise_cons.1 hu).2]
      simp only [e, List.getElem_cons_succ, List.length_cons, Nat.add_lt_add_iff_right]
theorem insL_pos (n : Nm) (a : Fl) : ∀ {m : List (Nm × Fl)}, Up m → getL n m = none → insL (n, a) m = m.take (posL n m) ++ (n, a) :: m.drop (posL n m)
  | [], _, _ => rfl
  | p :: m, hu, hg => by
    have hp : p.1 ≠ n := fun h => by simp [getL, h] at hg
    have hg' : getL n m = none := by simpa [getL, hp] using hg
    rw [insL]
    cases hb : bytesBefore p.1 n
    · have e : posL n (p :: m) = 0 := by unfold posL; rw [List.takeWhile_cons, hb]; rfl
      rw [e, if_pos (before_total hb hp)]; rfl
    · have e : posL n (p :: m) = posL n m + 1 := by unfold posL; rw [List.takeWhile_cons, hb]; rfl
      have hb2 : bytesBefore n p.1 = false := by
        cases h : bytesBefore n p.1
        · rfl
        · have := before_trans hb h; rw [before_irrefl] at this; cases this
      rw [e, if_neg (by rw [hb2]; simp), insL_pos n a (List.pairwise_cons.1 hu).2 hg']
      rfl
theorem Up.ins {n : Nm} {a : Fl} : ∀ {m : List (Nm × Fl)}, Up m → getL n m = none → Up (insL (n, a) m)
  | [], _, _ => List.pairwise_singleton _ _
  | p :: m, hu, hg => by
    have hp : p.1 ≠ n := fun h => by simp [getL, h] at hg
    have hg' : getL n m = none := by simpa [getL, hp] using hg
    obtain ⟨h1, h2⟩ := List.pairwise_cons.1 hu
    rw [insL]
    by_cases hb : bytesBefore n p.1 = true
    · rw [if_pos hb]
      refine List.pairwise_cons.2 ⟨fun q hq => ?_, hu⟩
      rcases List.mem_cons.1 hq with rfl | hq
      · exact hb
      · exact before_trans hb (h1 q hq)
    · rw [if_neg hb]
      refine List.pairwise_cons.2 ⟨fun q hq => ?_, Up.ins h2 hg'⟩
      rcases mem_insL.1 hq with rfl | hq
      · exact before_total (by simpa using hb) (Ne.symm hp)
      · exact h1 q hq
end Go.Proofs.YtjambfbibeihiaaGreat
/- The document's disk in the world: New, find, Free. -/
namespace Go.Proofs.YtjambfbibeihiaaGreat
set_option maxRecDepth 100000
open Go.RowKit Go.ChangeMaps Go.Sort

structure RW (w : World) (rb : Nat) (d : Dsk) (v : Value) (acts : Int) : Prop where
  blk : w.heap[rb]? = some (.cells #[.int .i64 d.cap, v, .int .i64 d.die, .int .i64 d.fail, .bool d.dead, .int .i64 acts] 91 (0, 0))
  own : w.ownsRow 0 84 3 v d.m.length (rcells d.m)
  up : Up d.m
section
variable {w : World} {rb : Nat} {d : Dsk} {v : Value} {acts : Int}
theorem RW.lt (h : RW w rb d v acts) : rb < w.heap.size := blk_lt h.blk
theorem RW.c0 (h : RW w rb d v acts) : w.cell? ⟨rb, 0, none⟩ = some (.int .i64 d.cap) := by rw [blk_cell h.blk]; rfl
theorem RW.c1 (h : RW w rb d v acts) : w.cell? ⟨rb, 1, none⟩ = some v := by rw [blk_cell h.blk]; rfl
theorem RW.tch {S : Nat → Prop} {w' : World} (h : RW w rb d v acts) (t : Tch S w w') (h1 : ¬ S rb) (h2 : ∀ g, v.ownBlock = some g → ¬ S g) : RW w' rb d v acts :=
  ⟨(t.block rb h.lt h1).trans h.blk, rowN_tch h.own t h2, h.up⟩
theorem RW.no {w' : World} (h : RW w rb d v acts) (t : Tch (fun _ => False) w w') : RW w' rb d v acts := h.tch t (fun h => h) (fun _ _ h => h)
theorem RW.drewN (h : RW w rb d v acts) (n : Nat) : RW (w.drewN n) rb d v acts := h.no ((Tch.refl _ w).drewN n)
theorem RW.row {ao : Option Addr} {cp : Nat} (h : RW w rb d (.slice ao d.m.length cp) acts) (i : Nat) (hi : i < d.m.length) : ∃ g, ao = some ⟨g, 0, none⟩ ∧ w.cell? ⟨g, i * 3, none⟩ = some (.string ⟨d.m[i].1.toArray⟩) ∧ w.cell? ⟨g, i * 3 + 1, none⟩ = some (.string ⟨d.m[i].2.bs.toArray⟩) ∧ w.cell? ⟨g, i * 3 + 2, none⟩ = some (.int .i64 d.m[i].2.la) := by
  obtain ⟨g, rfl⟩ : ∃ g, ao = some ⟨g, 0, none⟩ := by
    rcases h.own.2 with ⟨_, h2⟩ | ⟨g, _, _, h1, _⟩
    · omega
    · simp only [Value.slice.injEq] at h1
      exact ⟨g, h1.1⟩
  obtain ⟨e1, e2, e3⟩ := rcells_get d.m i hi
  have h1 := h.own.cells (g := g) rfl _ _ e1
  have h2 := h.own.cells (g := g) rfl _ _ e2
  have h3 := h.own.cells (g := g) rfl _ _ e3
  refine ⟨g, rfl, ?_, ?_, ?_⟩
  · simpa [Addr.add_lit] using h1
  · simpa [Addr.add_lit] using h2
  · simpa [Addr.add_lit] using h3
end

set_option maxHeartbeats 2000000 in
set_option maxRecDepth 100000 in
theorem rfind_any (rb : Nat) (d : Dsk) (v : Value) (acts : Int) (name : ByteArray) (w : World) (h : RW w rb d v acts) (hl : d.m.length ≤ 9223372036854775807) :
    Calls Tryz.prog 44 #[.pointer (some ⟨rb, 0, none⟩), .string name] w fun x w' => x = .returned (.tuple #[.int .i64 (posL name.data.toList d.m), .bool (getL name.data.toList d.m).isSome]) ∧ ∃ n, w' = w.drewN n := by
  obtain ⟨ao, cp, rfl⟩ := rowN_of h.own
  have c1 := h.c1
  have HR : Hid (∀ i (hi : i < d.m.length), ∃ g, ao = some ⟨g, 0, none⟩ ∧ w.cell? ⟨g, i * 3, none⟩ = some (.string ⟨d.m[i].1.toArray⟩)) := fun i hi => by
    obtain ⟨g, h1, h2, _⟩ := h.row i hi
    exact ⟨g, h1, h2⟩
  obtain ⟨pos, hpos⟩ : ∃ pos, pos = posL name.data.toList d.m := ⟨_, rfl⟩
  obtain ⟨th, hth⟩ : ∃ th, th = (getL name.data.toList d.m).isSome := ⟨_, rfl⟩
  have HL : Hid (∀ i (h' : i < d.m.length), i < pos → bytesBefore d.m[i].1 name.data.toList = true) := fun i h' hi => posL_lt _ _ i (by omega) h'
  have HA : Hid (∀ (h' : pos < d.m.length), bytesBefore (d.m[pos]).1 name.data.toList = false) := by subst hpos; exact fun h' => posL_at _ _ h'
  have HT' : Hid (th = decide (∃ h : pos < d.m.length, (d.m[pos]).1 = name.data.toList)) := by subst hpos; rw [hth]; exact posL_there h.up
  have hple := posL_le name.data.toList d.m
  rw [← hth, ← hpos]
  rw [← hpos] at hple
  obtain ⟨n, hn⟩ : ∃ n, n = d.m.length := ⟨_, rfl⟩
  rw [← hn] at c1 hl hple
  clear h hpos hth
  go_enter Tryz.func44, Tryz.ntmps44
  go_wp2_with fail
  go_loopw [6] (fun i wr => ∃ k : Nat, i = .int .i64 k ∧ k ≤ pos ∧ wr = w) (fun i _ => pos - (intOf i).toNat)
  case atStart => exact ⟨0, rfl, by omega, rfl⟩
  case round =>
    obtain ⟨k, rfl, hk, rfl⟩ := hrel
    by_cases hlt : (k : Int) < n
    · obtain ⟨g, hg, hc⟩ := HR.out k (by omega)
      subst hg
      obtain ⟨x, hx⟩ : ∃ x : ByteArray, x = ⟨(d.m[k]'(by omega)).1.toArray⟩ := ⟨_, rfl⟩
      have hxl : x.data.toList = (d.m[k]'(by omega)).1 := by rw [hx]
      rw [← hx] at hc
      have hls := less_b x name
      rw [hxl] at hls
      by_cases hkp : k < pos
      · rw [HL.out k (by omega) hkp] at hls
        clear hx hxl
        go_wp2
        go_roundw
        case rel => exact ⟨k + 1, by go_num, by omega, trivial⟩
        case measure => simp [intOf]; omega
      · obtain rfl : k = pos := by omega
        rw [HA.out (by omega)] at hls
        by_cases hth : th = true
        · have he : x = name := by
            have h1 := HT'.out
            rw [hth] at h1
            obtain ⟨_, h3⟩ := of_decide_eq_true h1.symm
            rw [← hxl] at h3
            exact ByteArray.ext (Array.ext' h3)
          subst he
          subst hth
          clear hx hxl
          go_wp2_with fail
          go_quiet (fail)
          go_wp2
          go_ret2
          exact ⟨rfl, _, rfl⟩
        · obtain rfl : th = false := by simpa using hth
          have hne : ¬ x = name := fun e => by
            have h2 := of_decide_eq_false HT'.out.symm
            exact h2 ⟨by omega, by rw [← hxl, e]⟩
          have hneb : (x.toList == name.toList) = false := by
            rw [Lib.toList_data, Lib.toList_data, beq_eq_false_iff_ne]
            exact fun e => hne (ByteArray.ext (Array.ext' e))
          clear hx hxl hth
          go_wp2_with fail
          go_quiet (fail)
          go_wp2
          go_ret2
          exact ⟨rfl, _, rfl⟩
    · obtain rfl : n = k := by omega
      have hpn : pos = n := by omega
      have hth : th = false := by
        rw [HT'.out]
        exact decide_eq_false (fun ⟨h, _⟩ => by omega)
      subst hth
      have HP : Hid (pos = d.m.length) := hpn.trans hn
      clear hpn
      go_wp2_with fail
      go_quiet (fail)
      go_wp2
      go_ret2
      exact ⟨by rw [HP.out]; rfl, _, rfl⟩

theorem rnew_any (c : Nat) (w : World) (h1 : 1 ≤ c) (h2 : c ≤ 1000000000) :
    Calls Tryz.prog 42 #[.int .i64 c] w fun x w' => ∃ b, x = .returned (.tuple #[.pointer (some ⟨b, 0, none⟩), .int .i64 0]) ∧ RW w' b (newD c) (.slice none 0 0) 0 ∧ w.heap.size ≤ b ∧ Tch (fun _ => False) w w' := by
  have h1' : ¬ (c : Int) < 1 := by omega
  have h2' : ¬ (1000000000 : Int) < c := by omega
  go_enter Tryz.func42, Tryz.ntmps42
  go_wp2
  go_ret2
  exact ⟨_, rfl, ⟨box_one w _, World.ownsRow_nil _ _ _ _, List.Pairwise.nil⟩, Nat.le_refl _, Tch.alloc _ _ _⟩
theorem rnew_arg (c : Int) (w : World) (h : c < 1 ∨ 1000000000 < c) :
    Calls Tryz.prog 42 #[.int .i64 c] w fun x w' => x = .returned (.tuple #[.pointer none, .int .i64 1]) ∧ w' = w := by
  by_cases h1 : c < 1
  · go_enter Tryz.func42, Tryz.ntmps42
    go_wp2
    go_ret2
    exact ⟨rfl, rfl⟩
  · have h2 : 1000000000 < c := by omega
    clear h
    go_enter Tryz.func42, Tryz.ntmps42
    go_wp2
    go_ret2
    exact ⟨rfl, rfl⟩

/-- The sum of the first k sizes. -/
def sumTo (m : List (Nm × Fl)) (k : Nat) : Nat := sumL lenF (m.take k)
theorem sumTo_succ (m : List (Nm × Fl)) {k : Nat} (h : k < m.length) : sumTo m (k + 1) = sumTo m k + m[k].2.bs.length := by
  unfold sumTo sumL
  rw [List.take_succ_eq_append_getElem h, List.map_append, List.sum_append]
  simp only [List.map_cons, List.map_nil, List.sum_cons, List.sum_nil, Nat.add_zero, lenF]
theorem sumTo_le (m : List (Nm × Fl)) (k : Nat) : sumTo m k ≤ sumL lenF m := by
  unfold sumTo sumL
  conv => rhs; rw [← List.take_append_drop k m, List.map_append, List.sum_append]
  omega
set_option maxHeartbeats 2000000 in
set_option maxRecDepth 100000 in
theorem rfree_any (rb : Nat) (d : Dsk) (v : Value) (acts : Int) (w : World) (h : RW w rb d v acts) (hl : d.m.length ≤ 9223372036854775807) (hu : d.used ≤ 4611686018427387904) (hc : d.cap ≤ 1000000000) :
    Calls Tryz.prog 46 #[.pointer (some ⟨rb, 0, none⟩)] w fun x w' => x = .returned (.int .i64 ((d.cap : Int) - d.used)) ∧ w' = w := by
  obtain ⟨ao, cp, rfl⟩ := rowN_of h.own
  have c0 := h.c0
  have c1 := h.c1
  have HR : Hid (∀ i (hi : i < d.m.length), ∃ g, ao = some ⟨g, 0, none⟩ ∧ w.cell? ⟨g, i * 3 + 1, none⟩ = some (.string ⟨d.m[i].2.bs.toArray⟩)) := fun i hi => by
    obtain ⟨g, h1, _, h2, _⟩ := h.row i hi
    exact ⟨g, h1, h2⟩
  have HS : Hid (∀ k (hk : k < d.m.length), sumTo d.m (k + 1) = sumTo d.m k + d.m[k].2.bs.length ∧ sumTo d.m (k + 1) ≤ d.used) := fun k hk => ⟨sumTo_succ d.m hk, sumTo_le d.m _⟩
  have HE : Hid (sumTo d.m d.m.length = d.used) := by show _ = _; unfold sumTo; rw [List.take_length]; rfl
  obtain ⟨n, hn⟩ : ∃ n, n = d.m.length := ⟨_, rfl⟩
  rw [← hn] at c1 hl
  clear h
  go_enter Tryz.func46, Tryz.ntmps46
  go_wp2_with fail
  go_loopw [3, 4] (fun f i wr => ∃ k : Nat, i = .int .i64 k ∧ k ≤ n ∧ f = .int .i64 ((d.cap : Int) - sumTo d.m k) ∧ sumTo d.m k ≤ d.used ∧ wr = w) (fun _ i _ => n - (intOf i).toNat)
  case atStart => exact ⟨0, rfl, by omega, congrArg (Value.int .i64) (by rw [show sumTo d.m 0 = 0 from rfl]; omega), Nat.zero_le _, rfl⟩
  case round =>
    obtain ⟨k, rfl, hk, rfl, hs, rfl⟩ := hrel
    by_cases hlt : (k : Int) < n
    · obtain ⟨g, hg, hc⟩ := HR.out k (by omega)
      subst hg
      obtain ⟨hs1, hs2⟩ := HS.out k (by omega)
      obtain ⟨x, hx⟩ : ∃ x : ByteArray, x = ⟨(d.m[k]'(by omega)).2.bs.toArray⟩ := ⟨_, rfl⟩
      have hxl : x.size = (d.m[k]'(by omega)).2.bs.length := by rw [hx]; exact List.size_toArray
      rw [← hx] at hc
      rw [← hxl] at hs1
      clear hx hxl
      have HS1 : Hid (sumTo d.m (k + 1) = sumTo d.m k + x.size) := hs1
      have hxb : sumTo d.m k + x.size ≤ 4611686018427387904 := by omega
      have HS3 : Hid (sumTo d.m k + x.size ≤ d.used) := by show _ ≤ _; omega
      clear hs1
      go_wp2
      go_roundw
      case rel => exact ⟨k + 1, by go_num, by omega, by rw [HS1.out]; go_num, by rw [HS1.out]; exact HS3.out, trivial⟩
      case measure => simp only [intOf]; omega
    · obtain rfl : n = k := by omega
      have HE2 : Hid ((d.cap : Int) - sumTo d.m d.m.length = (d.cap : Int) - d.used) := by show _ = _; rw [HE.out]
      go_wp2
      go_ret
      exact ⟨ret_int HE2.out, rfl⟩
end Go.Proofs.YtjambfbibeihiaaGreat
/- The document's disk: put. -/
namespace Go.Proofs.YtjambfbibeihiaaGreat
set_option maxRecDepth 100000
open Go.RowKit Go.ChangeMaps Go.Sort

theorem info_rfile : (Tryz.prog.info? 84).map (fun i => (i.zero, i.size, i.bytes)) = some (some (.agg #[.string ⟨#[]⟩, .string ⟨#[]⟩, .int .i64 0]), 3, 40) := by kernel_rfl
theorem cell_three_new (w : World) (a b c : Value) (t : TypeId) : ∀ j u, [a, b, c][j]? = some u → (w.alloc (.cells #[a, b, c] t)).cell? ((⟨w.heap.size, 0, none⟩ : Addr).add j) = some u := by
  intro j u hu
  have hb := box_one w (.cells #[a, b, c] t)
  match j, hu with
  | 0, hu => simp at hu; subst hu; rw [Addr.add_lit, blk_cell hb]; rfl
  | 1, hu => simp at hu; subst hu; rw [Addr.add_lit, blk_cell hb]; rfl
  | 2, hu => simp at hu; subst hu; rw [Addr.add_lit, blk_cell hb]; rfl
  | j + 3, hu => simp at hu

theorem rcells_one (m : List (Nm × Fl)) : ∀ u ∈ rcells m, u.oneCell' = true := by
  intro u hu
  unfold rcells at hu
  obtain ⟨p, _, hp⟩ := List.mem_flatMap.1 hu
  simp [rfcells] at hp
  rcases hp with rfl | rfl | rfl <;> rfl

theorem putL_pos {n : Nm} {a : Fl} {m : List (Nm × Fl)} (hu : Up m) (hg : getL n m = none) : putL n a m = m.take (posL n m) ++ (n, a) :: m.drop (posL n m) := by
  rw [putL, delL_none hg, insL_pos n a hu hg]
theorem rput_end {w w3 : World} {rb : Nat} {d : Dsk} {v v3 : Value} {acts : Int} {nm s : ByteArray} {la k : Nat} (h : RW w rb d v acts) (hg : getL nm.data.toList d.m = none) (T3 : Tch (fun i => w.heap.size ≤ i) w w3)
    (hk : k = d.m.length + 1) (ho : w3.ownsRow w.heap.size 84 3 v3 k (rcells (d.m.take (posL nm.data.toList d.m)) ++ [.string nm, .string s, .int .i64 la] ++ rcells (d.m.drop (posL nm.data.toList d.m)))) :
    (w3.cell? ⟨rb, 1, none⟩ = some v ∧ w3.frozen? ⟨rb, 1, none⟩ = false) ∧ ∃ v', RW (w3.setCell ⟨rb, 1, none⟩ v3) rb { d with m := putL nm.data.toList ⟨s.data.toList, la⟩ d.m } v' acts ∧ (∀ g, v'.ownBlock = some g → w.heap.size ≤ g) ∧ Tch (fun i => i = rb) w (w3.setCell ⟨rb, 1, none⟩ v3) := by
  have hrl := h.lt
  have hb : w3.heap[rb]? = _ := (T3.block rb hrl (by omega)).trans h.blk
  have hp := putL_pos (a := ⟨s.data.toList, la⟩) h.up hg
  refine ⟨⟨by rw [blk_cell hb]; rfl, blk_frozen hb 1⟩, v3, ⟨?_, ?_, ?_⟩, fun g hg' => (ho.lt g hg').1, ?_⟩
  · exact blk_set hb v3
  · have h1 := rowN_tch ho (Tch.setCell (fun i => i = rb) w3 ⟨rb, 1, none⟩ v3 rfl) (fun g hg' e => by have := (ho.lt g hg').1; omega)
    have e1 : (putL nm.data.toList (⟨s.data.toList, la⟩ : Fl) d.m).length = k := by
      rw [hp, hk]
      have := posL_le nm.data.toList d.m
      simp only [List.length_append, List.length_cons, List.length_take, List.length_drop]
      omega
    show World.ownsRow _ 0 _ 3 v3 (putL nm.data.toList _ d.m).length (rcells (putL nm.data.toList _ d.m))
    rw [e1, hp, rcells_append, rcells_cons]
    have e2 : rfcells (nm.data.toList, (⟨s.data.toList, la⟩ : Fl)) = [.string nm, .string s, .int .i64 la] := by simp [rfcells]
    rw [e2, ← List.append_assoc]
    obtain ⟨h2, h3⟩ := h1
    refine ⟨h2, ?_⟩
    rcases h3 with h3 | ⟨g, cap, cur, h4, h5, h6⟩
    · exact Or.inl h3
    · exact Or.inr ⟨g, cap, cur, h4, Nat.zero_le _, h6⟩
  · show Up (putL nm.data.toList _ d.m)
    rw [putL, delL_none hg]
    exact h.up.ins hg
  · exact (T3.mono (T := fun i => i = rb) (fun i hi h => by omega)).setCellR _ _ rfl

set_option maxHeartbeats 4000000 in
set_option maxRecDepth 100000 in
theorem rput_any (rb : Nat) (d : Dsk) (v : Value) (acts : Int) (nm s : ByteArray) (la : Nat) (w : World) (h : RW w rb d v acts) (hl : (d.m.length + 1) * 40 ≤ 140737488355328) (hg : getL nm.data.toList d.m = none) :
    Calls Tryz.prog 45 #[.pointer (some ⟨rb, 0, none⟩), .agg #[.string nm, .string s, .int .i64 la]] w fun x w' => x = .returned (.tuple #[]) ∧ ∃ v', RW w' rb { d with m := putL nm.data.toList ⟨s.data.toList, la⟩ d.m } v' acts ∧ (∀ g, v'.ownBlock = some g → w.heap.size ≤ g) ∧ Tch (fun i => i = rb) w w' := by
  obtain ⟨ao, cp, rfl⟩ := rowN_of h.own
  obtain ⟨wA, hwA⟩ : ∃ wA, wA = w.alloc (.cells #[.string nm, .string s, .int .i64 la] 84) := ⟨_, rfl⟩
  have tA : Tch (fun _ => False) w wA := by rw [hwA]; exact Tch.alloc _ _ _
  have hA := h.no tA
  have hbx : wA.heap[w.heap.size]? = some (.cells #[.string nm, .string s, .int .i64 la] 84 (0, 0)) := by rw [hwA]; exact box_one w _
  have a0 : wA.cell? ⟨w.heap.size, 0, none⟩ = some (.string nm) := by rw [blk_cell hbx]; rfl
  have hf := rfind_any rb d _ acts nm wA hA (by omega)
  rw [hg] at hf
  obtain ⟨i0, hi0, hz0, hz1, hz2⟩ := info_parts info_rfile
  have hrl := h.lt
  go_enter Tryz.func45, Tryz.ntmps45
  go_wp2_with fail
  rw [← hwA]
  refine hf.mono ?_
  rintro x wB ⟨rfl, kB, hwB⟩
  have tB : Tch (fun _ => False) w wB := by rw [hwB]; exact tA.drewN kB
  have hB := h.no tB
  have hbB : wB.heap[w.heap.size]? = some (.cells #[.string nm, .string s, .int .i64 la] 84 (0, 0)) := by rw [hwB]; exact hbx
  clear hwB hwA hf hA a0 hbx tA
  obtain ⟨p, hp⟩ : ∃ p, p = posL nm.data.toList d.m := ⟨_, rfl⟩
  have hpl := posL_le nm.data.toList d.m
  have hbl : w.heap.size < wB.heap.size := blk_lt hbB
  have HE : Hid (∀ w3 v3 k, Tch (fun i => w.heap.size ≤ i) w w3 → k = d.m.length + 1 → w3.ownsRow w.heap.size 84 3 v3 k (rcells (d.m.take p) ++ [.string nm, .string s, .int .i64 la] ++ rcells (d.m.drop p)) → _) := fun w3 v3 k T3 hk ho => rput_end h hg T3 hk (by rw [← hp]; exact ho)
  rw [← hp] at hpl ⊢
  clear hp
  have TB : Tch (fun i => w.heap.size ≤ i) w wB := tB.mono (fun _ _ h => h.elim)
  have c1 := hB.c1
  have f0 : wB.cell? ⟨w.heap.size, 0, none⟩ = some (.string nm) := by rw [blk_cell hbB]; rfl
  have f1 : wB.cell? ⟨w.heap.size, 1, none⟩ = some (.string s) := by rw [blk_cell hbB]; rfl
  have f2 : wB.cell? ⟨w.heap.size, 2, none⟩ = some (.int .i64 la) := by rw [blk_cell hbB]; rfl
  rcases h.own.2 with ⟨hnil, hn0⟩ | ⟨g, cap, cur, hv, _, hgb, hcap, hmax, hcs, _⟩
  · simp only [Value.slice.injEq] at hnil
    obtain ⟨rfl, _, rfl⟩ := hnil
    have hm0 : d.m = [] := List.eq_nil_of_length_eq_zero hn0
    rw [hn0] at c1 hpl
    obtain rfl : p = 0 := by omega
    have e0' : rcells (d.m.take 0) = [] := by simp [rcells]
    have e1' : rcells (d.m.drop 0) = [] := by rw [hm0]; rfl
    have HE' : Hid (∀ w3 v3 k, Tch (fun i => w.heap.size ≤ i) w w3 → k = 1 → w3.ownsRow w.heap.size 84 3 v3 k [.string nm, .string s, .int .i64 la] → _) := fun w3 v3 k T3 hk ho => HE.out w3 v3 k T3 (by omega) (by rw [e0', e1']; simpa using ho)
    clear HE e0' e1' hm0 hn0 hB h hg
    go_wp2_with (first
      | (at_builtin; refine wpList_append_own _ rfl (.tmp 22) (.tmp 24) 89 rfl w.heap.size 84 i0 (.agg #[.string ⟨#[]⟩, .string ⟨#[]⟩, .int .i64 0]) 3 40 Tryz.underlying89 hi0 hz0 hz1 hz2 rfl (by decide) _ 0 [] rfl (World.ownsRow_nil _ _ _ _) ⟨_, 0, none⟩ 1 1 [.string nm, .string s, .int .i64 la] rfl rfl (cell_three_new _ _ _ _ _) (fun x hx => by simp at hx; rcases hx with rfl | rfl | rfl <;> rfl) (by unfold maxLen; omega) (by omega) (by simp; omega) ?_; intro v2 w2 hown2 hgrow2 _
         have t2 : Tch (fun i => w.heap.size ≤ i) wB w2 := (Tch.alloc _ _ _).trans' (Tch.of_grown hgrow2 (fun g e => by cases e))
         have T2 := TB.trans t2 (fun i hi h => h)
         simp only [Nat.zero_add, List.nil_append] at hown2
         have c1'' := (t2.cell (p := ⟨rb, 1, none⟩) (cell_lt c1) (by show ¬ w.heap.size ≤ rb; omega)).trans c1
         obtain ⟨ao3, cp3, hv3⟩ := rowN_of hown2
         subst hv3
         obtain ⟨⟨e1, e2⟩, hend⟩ := HE'.out w2 _ _ T2 (by omega) hown2
         have HEND : Hid _ := hend
         clear hgrow2 hend c1 f0 f1 f2 e1)
      | (at_builtin; refine wpList_append_own_none rfl (.tmp 26) (.tmp 32) 89 rfl w.heap.size 84 i0 3 Tryz.underlying89 hi0 _ _ _ rfl hown2 rfl ?_)
      | fail)
    go_end0
    exact ⟨rfl, HEND.out⟩
  · simp only [Value.slice.injEq, true_and] at hv
    obtain ⟨rfl, rfl⟩ := hv
    have hgl := blk_lt hgb
    have hn1 : ∀ j u, (rcells (d.m.take p))[j]? = some u → wB.cell? ((⟨g, 0, none⟩ : Addr).add j) = some u := fun j u hu => hB.own.cells rfl j u (by
      rw [← rcells_take _ p hpl] at hu
      have hj := (List.getElem?_eq_some_iff.1 hu).1
      rw [List.length_take] at hj
      rw [List.getElem?_take_of_lt (by omega)] at hu
      exact hu)
    have hn3 : ∀ j u, (rcells (d.m.drop p))[j]? = some u → wB.cell? ((⟨g, p * 3, none⟩ : Addr).add j) = some u := fun j u hu => by
      rw [← rcells_drop _ p hpl, List.getElem?_drop] at hu
      have := hB.own.cells rfl _ _ hu
      rw [Addr.add_lit] at this ⊢
      simpa [Nat.add_assoc] using this
    obtain ⟨off, hoff, hn4⟩ : ∃ off, (if cp = p then some (⟨g, 0, none⟩ : Addr) else some ⟨g, p * 3, none⟩) = some ⟨g, off, none⟩ ∧ ∀ j u, (rcells (d.m.drop p))[j]? = some u → wB.cell? ((⟨g, off, none⟩ : Addr).add j) = some u := by
      by_cases e : cp = p
      · refine ⟨0, if_pos e, fun j u hu => ?_⟩
        rw [List.drop_of_length_le (by omega)] at hu
        simp [rcells] at hu
      · exact ⟨p * 3, if_neg e, hn3⟩
    have HN3 : Hid (∀ w1 w2, Tch (fun _ => False) wB w1 → Tch (fun i => w.heap.size ≤ i) w1 w2 → ∀ j u, (rcells (d.m.drop p))[j]? = some u → w2.cell? ((⟨g, off, none⟩ : Addr).add j) = some u) := fun w1 w2 tn t2 j u hu => by
      have h1 := hn4 j u hu
      have hs1 := tn.size
      rw [Addr.add_lit] at h1 ⊢
      exact (t2.cell (p := ⟨g, _, none⟩) (by show g < _; omega) (by show ¬ w.heap.size ≤ g; omega)).trans ((tn.cell (p := ⟨g, _, none⟩) (cell_lt h1) (fun h => h)).trans h1)
    clear hn3 hn4
    have hl1 : (rcells (d.m.take p)).length = p * 3 := by rw [rcells_len, List.length_take]; omega
    have hl3 : (rcells (d.m.drop p)).length = (d.m.length - p) * 3 := by rw [rcells_len, List.length_drop]
    have ho1 := rcells_one (d.m.take p)
    have ho3 := rcells_one (d.m.drop p)
    clear hgb hcs
    have hcap' : p ≤ cp := by omega
    go_wp2_with (first
      | (at_builtin; refine wpList_append_own _ rfl (.tmp 14) (.tmp 20) 89 rfl w.heap.size 84 i0 (.agg #[.string ⟨#[]⟩, .string ⟨#[]⟩, .int .i64 0]) 3 40 Tryz.underlying89 hi0 hz0 hz1 hz2 rfl (by decide) _ 0 [] rfl (World.ownsRow_nil _ _ _ _) ⟨g, 0, none⟩ p cp (rcells (d.m.take p)) rfl hl1 hn1 ho1 (by unfold maxLen; omega) (by omega) (by omega) ?_; intro v1 w1 hown1 hgrow1 _
         have t1 : Tch (fun i => w.heap.size ≤ i) wB w1 := Tch.of_grown hgrow1 (fun g e => by cases e)
         have T1 := TB.trans' t1
         have tn : Tch (fun _ => False) wB w1 := Tch.of_grown hgrow1 (fun g e => by cases e)
         have c1' := (tn.cell (p := ⟨rb, 1, none⟩) (cell_lt c1) (fun h => h)).trans c1
         have f0' := (tn.cell (p := ⟨w.heap.size, 0, none⟩) (cell_lt f0) (fun h => h)).trans f0
         have f1' := (tn.cell (p := ⟨w.heap.size, 1, none⟩) (cell_lt f1) (fun h => h)).trans f1
         have f2' := (tn.cell (p := ⟨w.heap.size, 2, none⟩) (cell_lt f2) (fun h => h)).trans f2
         have hs1 := tn.size
         simp only [Nat.zero_add, List.nil_append] at hown1
         clear c1 f0 f1 f2 hgrow1 t1 hn1)
      | (at_builtin; refine wpList_append_own _ rfl (.tmp 22) (.tmp 24) 89 rfl w.heap.size 84 i0 (.agg #[.string ⟨#[]⟩, .string ⟨#[]⟩, .int .i64 0]) 3 40 Tryz.underlying89 hi0 hz0 hz1 hz2 rfl (by decide) _ _ _ rfl (hown1.alloc _) ⟨w1.heap.size, 0, none⟩ 1 1 [.string nm, .string s, .int .i64 la] rfl rfl (cell_three_new _ _ _ _ _) (fun x hx => by simp at hx; rcases hx with rfl | rfl | rfl <;> rfl) (by unfold maxLen; omega) (by omega) (by simp; omega) ?_; intro v2 w2 hown2 hgrow2 _
         have t2 : Tch (fun i => w.heap.size ≤ i) w1 w2 := (Tch.alloc _ _ _).trans' (Tch.of_grown hgrow2 (fun g e => (hown1.lt g e).1))
         have T2 := T1.trans t2 (fun i hi h => h)
         have c1'' := (t2.cell (p := ⟨rb, 1, none⟩) (cell_lt c1') (by show ¬ w.heap.size ≤ rb; omega)).trans c1'
         have hs2 := t2.size
         clear c1' f0' f1' f2' hgrow2)
      | (at_builtin; refine wpList_append_own _ rfl (.tmp 26) (.tmp 32) 89 rfl w.heap.size 84 i0 (.agg #[.string ⟨#[]⟩, .string ⟨#[]⟩, .int .i64 0]) 3 40 Tryz.underlying89 hi0 hz0 hz1 hz2 rfl (by decide) _ _ _ rfl hown2 ⟨g, off, none⟩ (d.m.length - p) (cp - p) (rcells (d.m.drop p)) rfl hl3 (HN3.out _ _ tn t2) ho3 (by unfold maxLen; omega) (by omega) (by omega) ?_; intro v3 w3 hown3 hgrow3 _
         obtain ⟨ao3, cp3, hv3⟩ := rowN_of hown3
         subst hv3
         have t3 : Tch (fun i => w.heap.size ≤ i) w2 w3 := Tch.of_grown hgrow3 (fun g e => (hown2.lt g e).1)
         obtain ⟨⟨e1, e2⟩, hend⟩ := HE.out w3 _ _ (T2.trans t3 (fun i hi h => h)) (by omega) hown3
         have HEND : Hid _ := hend
         clear hown3 hgrow3 hown2 hown1 hend c1'')
      | fail)
    go_end0
    exact ⟨rfl, HEND.out⟩
end Go.Proofs.YtjambfbibeihiaaGreat
/- The document's disk: Load. -/
namespace Go.Proofs.YtjambfbibeihiaaGreat
set_option maxRecDepth 100000
open Go.RowKit Go.ChangeMaps Go.Sort

theorem Up.get_lt {x : Nm} : ∀ {m : List (Nm × Fl)}, (∀ p ∈ m, bytesBefore x p.1 = true) → getL x m = none := fun {m} h => by
  cases hg : getL x m with
  | none => rfl
  | some a =>
    have := h _ (getL_mem hg)
    rw [before_irrefl] at this
    cases this
theorem up_ext : ∀ {m m' : List (Nm × Fl)}, Up m → Up m' → (∀ x, getL x m = getL x m') → m = m'
  | [], [], _, _, _ => rfl
  | [], q :: s, _, _, h => by
    have := h q.1
    simp [getL] at this
  | p :: r, [], _, _, h => by
    have := h p.1
    simp [getL] at this
  | p :: r, q :: s, h1, h2, h => by
    obtain ⟨a1, a2⟩ := List.pairwise_cons.1 h1
    obtain ⟨b1, b2⟩ := List.pairwise_cons.1 h2
    have e : p.1 = q.1 := by
      cases hb : bytesBefore p.1 q.1
      · by_cases hn : p.1 = q.1
        · exact hn
        · exfalso
          have hq := before_total hb hn
          have h3 : getL q.1 (p :: r) = none := Up.get_lt (fun y hy => by
            rcases List.mem_cons.1 hy with rfl | hy
            · exact hq
            · exact before_trans hq (a1 y hy))
          have := h q.1
          rw [h3] at this
          simp [getL] at this
      · exfalso
        have h3 : getL p.1 (q :: s) = none := Up.get_lt (fun y hy => by
          rcases List.mem_cons.1 hy with rfl | hy
          · exact hb
          · exact before_trans hb (b1 y hy))
        have := h p.1
        rw [h3] at this
        simp [getL] at this
    have e2 : p.2 = q.2 := by
      have := h p.1
      rw [show getL p.1 (p :: r) = some p.2 by simp [getL], e, show getL q.1 (q :: s) = some q.2 by simp [getL]] at this
      exact Option.some.inj this
    have e3 : p = q := Prod.ext e e2
    subst e3
    congr 1
    refine up_ext a2 b2 (fun x => ?_)
    by_cases hx : p.1 = x
    · rw [← hx, Up.get_lt a1, Up.get_lt b1]
    · have := h x
      simpa [getL, hx] using this
theorem Up.put {m : List (Nm × Fl)} (h : Up m) (n : Nm) (a : Fl) : Up (putL n a m) := Up.ins (List.Pairwise.filter _ h) (getL_delL_same n m)
theorem up_names {m m' : List (Nm × Fl)} (h : Up m) (e : m'.map (·.1) = m.map (·.1)) : Up m' := by
  unfold Up at *
  have h1 : (m.map (·.1)).Pairwise (fun x y => bytesBefore x y = true) := List.pairwise_map.2 h
  rw [← e] at h1
  exact List.pairwise_map.1 h1
theorem Up.set {m : List (Nm × Fl)} (h : Up m) (n : Nm) (a : Fl) : Up (setL n a m) := up_names h (names_setL n a m)
theorem up_mk2 (nm : Nat → ByteArray) : ∀ k, Up (mk2 nm k)
  | 0 => List.Pairwise.nil
  | k + 1 => (up_mk2 nm k).put _ _
theorem up_mk3 (nm bs : Nat → ByteArray) (n : Nat) : ∀ k, Up (mk3 nm bs n k)
  | 0 => up_mk2 nm n
  | k + 1 => (up_mk3 nm bs n k).set _ _
theorem mk3_names (nm bs : Nat → ByteArray) (n : Nat) : ∀ k, (mk3 nm bs n k).map (·.1) = (mk2 nm n).map (·.1)
  | 0 => rfl
  | k + 1 => by rw [mk3, names_setL, mk3_names nm bs n k]
/-- The document's own way. -/
def mkr (nm bs : Nat → ByteArray) : Nat → List (Nm × Fl)
  | 0 => []
  | k + 1 => putL (nm k).data.toList ⟨(bs k).data.toList, (bs k).size⟩ (mkr nm bs k)
theorem up_mkr (nm bs : Nat → ByteArray) : ∀ k, Up (mkr nm bs k)
  | 0 => List.Pairwise.nil
  | k + 1 => (up_mkr nm bs k).put _ _
theorem length_mkr (nm bs : Nat → ByteArray) : ∀ k, (mkr nm bs k).length ≤ k
  | 0 => Nat.le_refl _
  | k + 1 => Nat.le_trans (length_putL_le _ _ _) (Nat.succ_le_succ (length_mkr nm bs k))
theorem mkr_mem (nm bs : Nat → ByteArray) : ∀ k {p : Nm × Fl}, p ∈ mkr nm bs k → ∃ i, i < k ∧ p.1 = (nm i).data.toList
  | 0, _, h => by cases h
  | k + 1, p, h => by
    rcases mem_putL.1 h with rfl | ⟨h, _⟩
    · exact ⟨k, by omega, rfl⟩
    · obtain ⟨i, hi, h2⟩ := mkr_mem nm bs k h
      exact ⟨i, by omega, h2⟩
theorem mkr_has (nm bs : Nat → ByteArray) : ∀ k i, i < k → getL (nm i).data.toList (mkr nm bs k) ≠ none
  | 0, _, h => by omega
  | k + 1, i, h => by
    by_cases e : (nm i).data.toList = (nm k).data.toList
    · rw [mkr, e, getL_putL_same]; exact fun h => by cases h
    · rw [mkr, getL_putL_other e]
      refine mkr_has nm bs k i ?_
      rcases Nat.lt_or_ge i k with h1 | h1
      · exact h1
      · obtain rfl : i = k := by omega
        exact absurd rfl e
theorem mkr_twice (nm bs : Nat → ByteArray) (k : Nat) : (getL (nm k).data.toList (mkr nm bs k)).isSome = (getL (nm k).data.toList (mk2 nm k)).isSome := by
  cases h1 : getL (nm k).data.toList (mkr nm bs k) with
  | some a =>
    obtain ⟨i, hi, e⟩ := mkr_mem nm bs k (getL_mem h1)
    have e' : (nm k).data.toList = (nm i).data.toList := e
    rw [e', mk2_has nm k i hi]
    rfl
  | none =>
    cases h2 : getL (nm k).data.toList (mk2 nm k) with
    | none => rfl
    | some a =>
      obtain ⟨_, i, hi, e⟩ := mk2_mem nm k (getL_mem h2)
      have e' : (nm k).data.toList = (nm i).data.toList := e
      rw [e'] at h1
      exact absurd h1 (mkr_has nm bs k i hi)
theorem mkr_get {nm : Nat → ByteArray} (bs : Nat → ByteArray) {n : Nat} (h : ∀ i, i < n → getL (nm i).data.toList (mk2 nm i) = none) : ∀ k, k ≤ n → ∀ i, i < k → getL (nm i).data.toList (mkr nm bs k) = some ⟨(bs i).data.toList, (bs i).size⟩
  | 0, _, i, hi => by omega
  | k + 1, hk, i, hi => by
    by_cases e : i = k
    · subst e; rw [mkr]; exact getL_putL_same _ _ _
    · have hne := mk2_apart h (show i < k by omega) (by omega)
      rw [mkr, getL_putL_other hne]
      exact mkr_get bs h k (by omega) i (by omega)
theorem mkr_mk3 {nm : Nat → ByteArray} (bs : Nat → ByteArray) {n : Nat} (h : ∀ i, i < n → getL (nm i).data.toList (mk2 nm i) = none) : mkr nm bs n = mk3 nm bs n n := by
  refine up_ext (up_mkr nm bs n) (up_mk3 nm bs n n) (fun x => ?_)
  by_cases hx : ∃ i, i < n ∧ x = (nm i).data.toList
  · obtain ⟨i, hi, rfl⟩ := hx
    rw [mkr_get bs h n (Nat.le_refl _) i hi, mk3_get bs h n (Nat.le_refl _) i hi, if_pos hi]
    simp
  · have h1 : getL x (mkr nm bs n) = none := by
      cases hg : getL x (mkr nm bs n) with
      | none => rfl
      | some a => exact absurd (mkr_mem nm bs n (getL_mem hg)) hx
    have h2 : getL x (mk3 nm bs n n) = none := by
      cases hg : getL x (mk3 nm bs n n) with
      | none => rfl
      | some a =>
        have h3 : x ∈ (mk3 nm bs n n).map (·.1) := List.mem_map.2 ⟨_, getL_mem hg, rfl⟩
        rw [mk3_names] at h3
        obtain ⟨p, hp, e⟩ := List.mem_map.1 h3
        obtain ⟨_, i, hi, e2⟩ := mk2_mem nm n hp
        exact absurd ⟨i, hi, by rw [← e]; exact e2⟩ hx
    rw [h1, h2]
theorem lens_mono (bs : Nat → ByteArray) : ∀ {i j : Nat}, i ≤ j → lens bs i ≤ lens bs j
  | i, 0, h => by obtain rfl : i = 0 := by omega
                  exact Nat.le_refl _
  | i, j + 1, h => by
    by_cases e : i = j + 1
    · rw [e]; exact Nat.le_refl _
    · rw [lens]
      exact Nat.le_trans (lens_mono bs (show i ≤ j by omega)) (Nat.le_add_right _ _)
theorem LoadsBad.uniq {c : Int} {n : Nat} {nm bs : Nat → ByteArray} {e e' : Int} (h : LoadsBad c n nm bs e) (h' : LoadsBad c n nm bs e') : e = e' := by
  rcases h with ⟨h1, rfl⟩ | ⟨h1, ⟨⟨i, hi, h2⟩, rfl⟩ | ⟨h2, ⟨⟨i, hi, h3⟩, rfl⟩ | ⟨h3, _, rfl⟩⟩⟩ <;>
    rcases h' with ⟨g1, rfl⟩ | ⟨g1, ⟨⟨j, hj, g2⟩, rfl⟩ | ⟨g2, ⟨⟨j, hj, g3⟩, rfl⟩ | ⟨g3, _, rfl⟩⟩⟩ <;> first
    | rfl
    | omega
    | exact absurd (g3 i hi) h3
    | exact absurd (h3 j hj) g3
    | exact absurd ((g2 i hi).symm.trans h2) Bool.noConfusion
    | exact absurd ((h2 j hj).symm.trans g2) Bool.noConfusion
theorem LoadsBad.not {c n : Nat} {nm bs : Nat → ByteArray} {e : Int} (h : LoadsBad c n nm bs e) (h' : LoadsOk c n nm bs) : False := by
  have := h'.c1
  have := h'.c2
  rcases h with ⟨h1, _⟩ | ⟨_, ⟨⟨i, hi, h2⟩, _⟩ | ⟨_, ⟨⟨i, hi, h3⟩, _⟩ | ⟨_, ⟨i, hi, h4⟩, _⟩⟩⟩
  · omega
  · rw [h'.ok i hi] at h2; cases h2
  · exact h3 (h'.once i hi)
  · have := h'.room i hi; omega
theorem LoadsBad.ne0 {c : Int} {n : Nat} {nm bs : Nat → ByteArray} {e : Int} (h : LoadsBad c n nm bs e) : e ≠ 0 := by
  rcases h with ⟨_, rfl⟩ | ⟨_, ⟨_, rfl⟩ | ⟨_, ⟨_, rfl⟩ | ⟨_, _, rfl⟩⟩⟩ <;> decide

set_option maxHeartbeats 4000000 in
set_option maxRecDepth 100000 in
theorem rload_any (c : Nat) (ao : Option Addr) (n cap : Nat) (nm bs : Nat → ByteArray) (w : World) (h1 : 1 ≤ c) (h2 : c ≤ 1000000000) (hL : FLs w ao n nm bs) (hn : (n + 1) * 40 ≤ 140737488355328) (hs : lens bs n ≤ 4611686018427387904) :
    Calls Tryz.prog 10 #[.int .i64 c, .slice ao n cap] w fun x w' => ((∃ e, LoadsBad c n nm bs e ∧ x = .returned (.tuple #[.pointer none, .int .i64 e])) ∨ LoadsOk c n nm bs ∧ ∃ rb v, x = .returned (.tuple #[.pointer (some ⟨rb, 0, none⟩), .int .i64 0]) ∧ RW w' rb (mkD c (mk3 nm bs n n)) v 0 ∧ w.heap.size ≤ rb ∧ ∀ g, v.ownBlock = some g → w.heap.size ≤ g) ∧ Tch (fun _ => False) w w' := by
  have hn63 : n ≤ 9223372036854775807 := by omega
  have HL : Hid (∀ W, Tch (fun _ => False) w W → FLs W ao n nm bs) := fun W t => hL.no t
  clear hL
  go_enter Tryz.func10, Tryz.ntmps10
  go_wp2_with fail
  refine (rnew_any c _ h1 h2).mono ?_
  rintro x w1 ⟨rb, rfl, hR1, hrb, t1⟩
  have HT1 : Hid (Tch (fun _ => False) w w1) := t1
  have HR1 : Hid (RW w1 rb (newD c) (.slice none 0 0) 0) := hR1
  clear t1 hR1
  go_wp2_with fail
  go_loopw [8] (fun i wr => ∃ k : Nat, i = .int .i64 k ∧ k ≤ n ∧ Hid (∀ i, i < k → okN (nm i).data.toList = true) ∧ wr = w1) (fun i _ => n - (intOf i).toNat)
  case atStart => exact ⟨0, rfl, by omega, fun i hi => by omega, rfl⟩
  case round =>
    obtain ⟨k, rfl, hk, hok, hwr⟩ := hrel
    subst hwr
    by_cases hlt : (k : Int) < n
    · obtain ⟨ab, off, rfl, c0, c1⟩ := HL.out wr HT1.out k (by omega)
      have hi := named_any (nm k) wr
      cases ho : okN (nm k).data.toList
      · rw [ho] at hi
        have HB : Hid (LoadsBad c n nm bs 20) := Or.inr ⟨by omega, Or.inl ⟨⟨k, by omega, ho⟩, rfl⟩⟩
        go_wp2_with fail
        refine hi.mono ?_
        rintro x w5 ⟨rfl, hw5⟩
        subst hw5
        go_wp2
        go_ret2
        exact ⟨Or.inl ⟨20, HB.out, rfl⟩, HT1.out⟩
      · rw [ho] at hi
        have HO : Hid (∀ i, i < k + 1 → okN (nm i).data.toList = true) := fun i hi => by
          rcases Nat.lt_or_ge i k with h | h
          · exact hok.out i h
          · obtain rfl : i = k := by omega
            exact ho
        go_wp2_with fail
        refine hi.mono ?_
        rintro x w5 ⟨rfl, hw5⟩
        subst hw5
        go_wp2
        go_roundw
        case rel => exact ⟨k + 1, by go_num, by omega, HO, trivial⟩
        case measure => simp [intOf]; omega
    · obtain rfl : n = k := by omega
      have hOK := hok
      go_wp2_with fail
      go_loopw [10] (fun i wr => ∃ (k : Nat) (v : Value), i = .int .i64 k ∧ k ≤ n ∧ Hid (∀ i, i < k → getL (nm i).data.toList (mk2 nm i) = none) ∧ RW wr rb (mkD c (mkr nm bs k)) v 0 ∧ Hid (∀ g, v.ownBlock = some g → w.heap.size ≤ g) ∧ Tch (fun _ => False) w wr) (fun i _ => n - (intOf i).toNat)
      case atStart => exact ⟨0, .slice none 0 0, rfl, by omega, fun i hi => by omega, HR1.out, fun g e => (by cases e), HT1.out⟩
      case round =>
        obtain ⟨k, v, rfl, hk, hno, hR, hv, hT⟩ := hrel
        by_cases hlt : (k : Int) < n
        · obtain ⟨ab, off, rfl, c0, c1⟩ := HL.out wr hT k (by omega)
          have hlm := length_mkr nm bs k
          have hf := rfind_any rb _ v 0 (nm k) wr hR (by show (mkr nm bs k).length ≤ _; omega)
          rw [show (mkD c (mkr nm bs k)).m = mkr nm bs k from rfl, mkr_twice] at hf
          obtain ⟨pos, hpos⟩ : ∃ pos, pos = posL (nm k).data.toList (mkr nm bs k) := ⟨_, rfl⟩
          rw [← hpos] at hf
          clear hpos
          cases hg : getL (nm k).data.toList (mk2 nm k) with
          | some a =>
            rw [hg] at hf
            have HB : Hid (LoadsBad c n nm bs 22) := Or.inr ⟨by omega, Or.inr ⟨hOK.out, Or.inl ⟨⟨k, by omega, by rw [hg]; exact fun h => by cases h⟩, rfl⟩⟩⟩
            have HT : Hid (∀ m, Tch (fun _ => False) w (wr.drewN m)) := fun m => hT.drewN m
            clear hR hT hlm
            go_wp2_with fail
            refine hf.mono ?_
            rintro x w5 ⟨rfl, m5, hw5⟩
            subst hw5
            go_wp2
            go_ret2
            exact ⟨Or.inl ⟨22, HB.out, rfl⟩, HT.out _⟩
          | none =>
            have hgr : getL (nm k).data.toList (mkr nm bs k) = none := by
              have := mkr_twice nm bs k
              rw [hg] at this
              cases h3 : getL (nm k).data.toList (mkr nm bs k) with
              | none => rfl
              | some a => rw [h3] at this; cases this
            rw [hg] at hf
            have HNO : Hid (∀ i, i < k + 1 → getL (nm i).data.toList (mk2 nm i) = none) := fun i hi => by
              rcases Nat.lt_or_ge i k with h | h
              · exact hno.out i h
              · obtain rfl : i = k := by omega
                exact hg
            have HP : Hid (∀ m, Calls Tryz.prog 45 #[.pointer (some ⟨rb, 0, none⟩), .agg #[.string (nm k), .string (bs k), .int .i64 ((bs k).size : Nat)]] (wr.drewN m) fun x w' => x = .returned (.tuple #[]) ∧ ∃ v', RW w' rb (mkD c (mkr nm bs (k + 1))) v' 0 ∧ (∀ g, v'.ownBlock = some g → (wr.drewN m).heap.size ≤ g) ∧ Tch (fun i => i = rb) (wr.drewN m) w') := fun m =>
              rput_any rb (mkD c (mkr nm bs k)) v 0 (nm k) (bs k) (bs k).size (wr.drewN m) (hR.drewN m) (by show ((mkr nm bs k).length + 1) * 40 ≤ _; omega) hgr
            have HC : Hid (∀ m, (wr.drewN m).cell? ⟨ab, off + k * 2, none⟩ = some (.string (nm k)) ∧ (wr.drewN m).cell? ⟨ab, off + k * 2 + 1, none⟩ = some (.string (bs k))) := fun m => ⟨by rw [← c0]; exact ((Tch.refl (fun _ => False) wr).drewN m).cell (p := ⟨ab, _, none⟩) (cell_lt c0) (fun h => h), by rw [← c1]; exact ((Tch.refl (fun _ => False) wr).drewN m).cell (p := ⟨ab, _, none⟩) (cell_lt c1) (fun h => h)⟩
            have HT : Hid (∀ m, Tch (fun _ => False) w (wr.drewN m)) := fun m => hT.drewN m
            clear hR hT hlm hgr
            go_wp2_with fail
            refine hf.mono ?_
            rintro x w5 ⟨rfl, m5, hw5⟩
            have d0 := (HC.out m5).1
            have d1 := (HC.out m5).2
            rw [← hw5] at d0 d1
            have HP5 : Hid (∀ m, _) := fun m => HP.out (m5 + m)
            have HT5 : Hid (∀ m, _) := fun m => HT.out (m5 + m)
            simp only [← World.drewN_drewN, ← hw5] at HP5 HT5
            clear hw5 c0 c1 hf
            go_wp2_with fail
            refine wp_region_drew_tail 18 (by kernel_rfl) (by kernel_rfl) ?_
            simp only [List.take_succ_cons, List.take_zero, List.drop_succ_cons, List.drop_zero]
            repeat (quiet_step (fail))
            refine wpQuiet_nil ?_
            rintro w6 ⟨m, rfl⟩
            go_wp2_with fail
            refine (HP5.out m).mono ?_
            rintro x w7 ⟨rfl, v', hR7, hv7, t7⟩
            have hT6 := HT5.out m
            have HV : Hid (∀ g, v'.ownBlock = some g → w.heap.size ≤ g) := fun g hg => Nat.le_trans hT6.size (hv7 g hg)
            have T7 : Tch (fun _ => False) w w7 := hT6.trans t7 (fun i hi e => by omega)
            clear t7 hv7 hT6
            go_wp2
            go_roundw
            case rel => exact ⟨k + 1, v', by go_num, by omega, HNO, hR7, HV, T7⟩
            case measure => simp [intOf]; omega
        · obtain rfl : n = k := by omega
          have hmm := mkr_mk3 bs hno.out
          have hu : (mkD c (mkr nm bs n)).used = lens bs n := by
            show sumL lenF (mkr nm bs n) = _
            rw [hmm]; exact mk3_sum bs hno.out n (Nat.le_refl _)
          have hlm := length_mkr nm bs n
          have hfr := rfree_any rb _ v 0 wr hR (by show (mkr nm bs n).length ≤ _; omega) (by rw [hu]; exact hs) h2
          rw [hu, show (mkD c (mkr nm bs n)).cap = c from rfl] at hfr
          rw [hmm] at hR
          by_cases hful : (c : Int) - lens bs n < 0
          · have HB : Hid (LoadsBad c n nm bs 23) := Or.inr ⟨by omega, Or.inr ⟨hOK.out, Or.inr ⟨hno.out, by
              cases n with
              | zero => exfalso; simp [lens] at hful; omega
              | succ j => exact ⟨⟨j, by omega, by omega⟩, rfl⟩⟩⟩⟩
            clear hu hmm
            go_wp2_with fail
            refine hfr.mono ?_
            rintro x w5 ⟨rfl, hw5⟩
            subst hw5
            go_wp2
            go_ret2
            exact ⟨Or.inl ⟨23, HB.out, rfl⟩, hT⟩
          · have HO : Hid (LoadsOk c n nm bs) := ⟨h1, h2, hOK.out, hno.out, fun i hi => by have := lens_mono bs (show i + 1 ≤ n by omega); omega⟩
            clear hu hmm
            go_wp2_with fail
            refine hfr.mono ?_
            rintro x w5 ⟨rfl, hw5⟩
            subst hw5
            go_wp2
            go_ret2
            exact ⟨Or.inr ⟨HO.out, rb, v, rfl, hR, hrb, hv.out⟩, hT⟩
end Go.Proofs.YtjambfbibeihiaaGreat
