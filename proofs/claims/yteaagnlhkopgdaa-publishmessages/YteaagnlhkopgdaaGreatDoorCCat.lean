import Derived.Test.YteaagnlhkopgdaaGreatDoorCRow
import Derived.Test.YteaagnlhkopgdaaGreatDoorCName
import Derived.Test.YteaagnlhkopgdaaGreatDoorCRight2
set_option maxHeartbeats 2000000
set_option maxRecDepth 100000
namespace Go.Proofs.YteaagnlhkopgdaaGreatDoor.C
open Go.RowKit Go
end Go.Proofs.YteaagnlhkopgdaaGreatDoor.C
namespace Go.Proofs.YteaagnlhkopgdaaGreatDoor.C
open Go.RowKit
set_option maxRecDepth 100000
theorem named_any (s : ByteArray) (w : World) :
    Calls Tryz.prog 56 #[.string s] w fun x w' => x = .returned (.bool (nmOk s)) ∧ w' = w := by
  by_cases h0 : s.size = 0
  · have HR : Hid (nmOk s = false) := nm_no (by omega)
    have h0b := empty_of_size h0
    clear h0
    go_enter Tryz.func56, Tryz.ntmps56
    go_wp2
    go_ret
    exact ⟨by rw [HR.out]; rfl, rfl⟩
  have h0b := nonempty_of_size (r := s) (by omega)
  by_cases h1 : 16 < (s.size : Int)
  · have HR : Hid (nmOk s = false) := nm_no (by omega)
    go_enter Tryz.func56, Tryz.ntmps56
    go_wp2
    go_ret
    exact ⟨by rw [HR.out]; rfl, rfl⟩
  have hp : 0 < s.size := by omega
  go_enter Tryz.func56, Tryz.ntmps56
  go_wp2_with fail
  go_loopw [3] (fun i wr => ∃ k : Nat, i = .int .i64 k ∧ k ≤ s.size ∧ wr = w ∧ Hid ((0 < k → ∀ h : 0 < s.size, ltr s[0] = true) ∧ ∀ j (h : j < s.size), j < k → sgn s[j] = true)) (fun i _ => s.size - (intOf i).toNat)
  case atStart => exact ⟨0, rfl, by omega, rfl, fun h => by omega, fun _ _ h => by omega⟩
  case round =>
    obtain ⟨k, rfl, hk, rfl, hall⟩ := hrel
    by_cases hlt : k < s.size
    · have hlt' : (k : Int) < s.size := by omega
      have hc := (s[k]).toNat_lt
      have HB : Hid ((sgn s[k] = false ∨ (k = 0 ∧ ltr s[k] = false)) → nmOk s = false) := fun h => nm_no (fun h' => by
        rcases h with h | ⟨rfl, h⟩
        · have := h'.2.2 k hlt; rw [h] at this; simp at this
        · have := h'.2.1 hlt; rw [h] at this; simp at this)
      have HG : Hid (sgn s[k] = true ∧ (k = 0 → ltr s[k] = true) → (0 < k + 1 → ∀ h : 0 < s.size, ltr s[0] = true) ∧ ∀ j (h : j < s.size), j < k + 1 → sgn s[j] = true) := fun h => by
        refine ⟨fun _ _ => ?_, fun j hj hjk => ?_⟩
        · rcases Nat.eq_zero_or_pos k with rfl | hk0
          · exact h.2 rfl
          · exact hall.out.1 hk0 hp
        · rcases Nat.lt_or_ge j k with h1 | h1
          · exact hall.out.2 j hj h1
          · obtain rfl : j = k := by omega
            exact h.1
      have HD : Hid ((sgn s[k] = true ↔ ((97 ≤ (s[k]).toNat ∧ (s[k]).toNat ≤ 122) ∨ (48 ≤ (s[k]).toNat ∧ (s[k]).toNat ≤ 57)) ∨ (s[k]).toNat = 95) ∧ (ltr s[k] = true ↔ 97 ≤ (s[k]).toNat ∧ (s[k]).toNat ≤ 122)) := by
        show _ ∧ _
        simp [sgn, ltr, dgt]
      clear hall
      have main : ∀ z : Int, z = (s[k]).toNat → (97 ≤ z ∧ z ≤ 122) ∨ (¬ 48 ≤ z ∧ ¬ 97 ≤ z ∧ z ≠ 95) ∨ (48 ≤ z ∧ z ≤ 57 ∧ ¬ 97 ≤ z) ∨ (¬ z ≤ 57 ∧ ¬ 97 ≤ z ∧ z = 95) ∨ (¬ z ≤ 57 ∧ ¬ 97 ≤ z ∧ z ≠ 95) ∨ (¬ z ≤ 122 ∧ ¬ z ≤ 57 ∧ z ≠ 95) := fun z hz => by omega
      have hh := main _ rfl
      clear main
      by_cases hk0 : k = 0
      · subst hk0
        rcases hh with ⟨e1, e2⟩ | ⟨e1, e2, e3⟩ | ⟨e1, e2, e3⟩ | ⟨e1, e2, e3⟩ | ⟨e1, e2, e3⟩ | ⟨e1, e2, e3⟩
        all_goals go_wp2_with fail
        all_goals first
          | (have HE : Hid _ := HG.out (by first | exact ⟨by rw [HD.out.1]; omega, fun h => by rw [HD.out.2]; omega⟩ | (rw [HD.out.1]; omega))
             go_roundw
             case rel => exact ⟨1, by go_num, by omega, by first | rfl | trivial, HE⟩
             case measure => simp [intOf]; omega)
          | (have HE : Hid (nmOk s = false) := HB.out (by first | (left; rw [← Bool.not_eq_true, HD.out.1]; omega) | (right; exact ⟨by first | rfl | trivial, by rw [← Bool.not_eq_true, HD.out.2]; omega⟩))
             go_ret
             exact ⟨by rw [HE.out]; rfl, rfl⟩)
      · have hk0' : ¬ (k : Int) = 0 := by omega
        rcases hh with ⟨e1, e2⟩ | ⟨e1, e2, e3⟩ | ⟨e1, e2, e3⟩ | ⟨e1, e2, e3⟩ | ⟨e1, e2, e3⟩ | ⟨e1, e2, e3⟩
        · have HE : Hid _ := HG.out ⟨by rw [HD.out.1]; omega, fun h => absurd h hk0⟩
          clear HG HB HD
          go_wp2_with fail
          go_roundw
          case rel => exact ⟨k + 1, by go_num, by omega, by first | rfl | trivial, HE⟩
          case measure => simp [intOf]; omega
        · have HE : Hid (nmOk s = false) := HB.out (by left; rw [← Bool.not_eq_true, HD.out.1]; omega)
          have e4 : (((s[k]).toNat : Int) == 95) = false := beq_eq_false_iff_ne.2 e3
          have e5 : ((k : Int) == 0) = false := beq_eq_false_iff_ne.2 hk0'
          clear HG HB HD e3
          go_wp2_with fail
          go_ret
          exact ⟨by rw [HE.out]; rfl, rfl⟩
        · have HE : Hid _ := HG.out ⟨by rw [HD.out.1]; omega, fun h => absurd h hk0⟩
          clear HG HB HD
          go_wp2_with fail
          go_roundw
          case rel => exact ⟨k + 1, by go_num, by omega, by first | rfl | trivial, HE⟩
          case measure => simp [intOf]; omega
        · have HE : Hid _ := HG.out ⟨by rw [HD.out.1]; omega, fun h => absurd h hk0⟩
          clear HG HB HD
          go_wp2_with fail
          go_roundw
          case rel => exact ⟨k + 1, by go_num, by omega, by first | rfl | trivial, HE⟩
          case measure => simp [intOf]; omega
        · have HE : Hid (nmOk s = false) := HB.out (by left; rw [← Bool.not_eq_true, HD.out.1]; omega)
          have e4 : (((s[k]).toNat : Int) == 95) = false := beq_eq_false_iff_ne.2 e3
          have e5 : ((k : Int) == 0) = false := beq_eq_false_iff_ne.2 hk0'
          clear HG HB HD e3
          go_wp2_with fail
          go_ret
          exact ⟨by rw [HE.out]; rfl, rfl⟩
        · have HE : Hid (nmOk s = false) := HB.out (by left; rw [← Bool.not_eq_true, HD.out.1]; omega)
          have e4 : (((s[k]).toNat : Int) == 95) = false := beq_eq_false_iff_ne.2 e3
          have e5 : ((k : Int) == 0) = false := beq_eq_false_iff_ne.2 hk0'
          clear HG HB HD e3
          go_wp2_with fail
          go_ret
          exact ⟨by rw [HE.out]; rfl, rfl⟩
    · have hlt' : ¬ (k : Int) < s.size := by omega
      have HR : Hid (nmOk s = true) := by
        show _ = _
        rw [nmOk_iff]; exact ⟨by omega, fun h => hall.out.1 (by omega) h, fun i hi => hall.out.2 i hi (by omega)⟩
      go_wp2
      go_ret
      exact ⟨by rw [HR.out]; rfl, rfl⟩
end Go.Proofs.YteaagnlhkopgdaaGreatDoor.C
namespace Go.Proofs.YteaagnlhkopgdaaGreatDoor.C
open Go.RowKit
set_option maxRecDepth 100000
def keyE (l : List Col) (key : Int) : Int := if keyOk l key = false then 56 else 0
theorem rkind_any (k : Int) (w : World) :
    Calls Tryz.prog 69 #[.int .i64 k] w fun x w' => x = .returned (.bool (kdOk k)) ∧ w' = w := by
  go_enter Tryz.func69, Tryz.ntmps69
  go_wp2
  all_goals (go_ret; refine ⟨vret_bool ?_, rfl⟩; rw [Bool.eq_iff_iff]; simp [kdOk] at *; try omega)
theorem rkey_any (l : List Col) (ao : Option Addr) (c : Nat) (key : Int) (w : World) (h : SL w ao (ccl l)) :
    Calls Tryz.prog 58 #[.slice ao l.length c, .int .i64 key] w fun x w' => x = .returned (.int .i64 (keyE l key)) ∧ w' = w := by
  by_cases h0 : 0 ≤ key
  · by_cases h1 : key < l.length
    · obtain ⟨hk, he⟩ := keyOk_in h0 h1
      obtain ⟨g, o, rfl, ha⟩ := h.col hk
      obtain ⟨c0, c1, c2⟩ := ha.col key.toNat hk
      obtain ⟨⟨xn, xk, xl⟩, hx⟩ : ∃ x, x = l[key.toNat] := ⟨_, rfl⟩
      rw [← hx] at he c0 c1 c2
      obtain ⟨k, rfl⟩ : ∃ k : Nat, key = k := ⟨key.toNat, by omega⟩
      simp only [Int.toNat_natCast] at c0 c1 c2
      simp only at he c0 c1 c2
      have HE : Hid (keyOk l k = (decide (xk ≠ 3) && !xl)) := he
      have h0' : ¬ (k : Int) < 0 := by omega
      have h1' : ¬ (l.length : Int) ≤ k := by omega
      clear ha hx he h h0 h1
      go_enter Tryz.func58, Tryz.ntmps58
      by_cases h3 : xk = 3
      · have HR : Hid (keyE l k = 56) := by show _ = _; unfold keyE; rw [HE.out]; simp [h3]
        subst h3
        go_wp2
        go_ret
        exact ⟨by rw [HR.out]; rfl, rfl⟩
      · cases xl with
        | true =>
          have HR : Hid (keyE l k = 56) := by show _ = _; unfold keyE; rw [HE.out]; simp
          have h3' : (xk == 3) = false := beq_eq_false_iff_ne.2 h3
          clear h3
          go_wp2
          go_ret
          exact ⟨by rw [HR.out]; rfl, rfl⟩
        | false =>
          have HR : Hid (keyE l k = 0) := by show _ = _; unfold keyE; rw [HE.out]; simp [h3]
          have h3' : (xk == 3) = false := beq_eq_false_iff_ne.2 h3
          clear h3
          go_wp2
          go_ret
          exact ⟨by rw [HR.out]; rfl, rfl⟩
    · have HR : Hid (keyE l key = 56) := if_pos (keyOk_out (l := l) (key := key) (by omega))
      have h0' : ¬ key < 0 := by omega
      have h1' : (l.length : Int) ≤ key := by omega
      clear h h0 h1
      go_enter Tryz.func58, Tryz.ntmps58
      go_wp2
      go_ret
      exact ⟨by rw [HR.out]; rfl, rfl⟩
  · have HR : Hid (keyE l key = 56) := if_pos (keyOk_out (l := l) (key := key) (by omega))
    have h0' : key < 0 := by omega
    clear h h0
    go_enter Tryz.func58, Tryz.ntmps58
    go_wp2
    go_ret
    exact ⟨by rw [HR.out]; rfl, rfl⟩
theorem rcolumns_any (l : List Col) (ao : Option Addr) (c : Nat) (w : World) (h : SL w ao (ccl l)) :
    Calls Tryz.prog 57 #[.slice ao l.length c] w fun x w' => x = .returned (.int .i64 (colsE l)) ∧ Tch (fun _ => False) w w' := by
  by_cases h0 : (l.length : Int) < 1
  · have HR : Hid (colsE l = 55) := if_pos (by omega)
    clear h
    go_enter Tryz.func57, Tryz.ntmps57
    go_wp2
    go_ret
    exact ⟨by rw [HR.out]; rfl, Tch.refl _ _⟩
  by_cases h1 : 8 < (l.length : Int)
  · have HR : Hid (colsE l = 55) := if_pos (by omega)
    clear h
    go_enter Tryz.func57, Tryz.ntmps57
    go_wp2
    go_ret
    exact ⟨by rw [HR.out]; rfl, Tch.refl _ _⟩
  have HS : Hid (∀ W, Tch (fun _ => False) w W → SL W ao (ccl l)) := fun W t => h.no t
  have HC : Hid (colsE l = colsGo (l.take 0) (l.drop 0)) := if_neg (by omega)
  clear h
  go_enter Tryz.func57, Tryz.ntmps57
  go_wp2_with fail
  go_loopw [3] (fun i wr => ∃ k : Nat, i = .int .i64 k ∧ k ≤ l.length ∧ Tch (fun _ => False) w wr ∧ Hid (colsE l = colsGo (l.take k) (l.drop k))) (fun i _ => l.length - (intOf i).toNat)
  case atStart => exact ⟨0, rfl, by omega, Tch.refl _ _, HC⟩
  case round =>
    clear HC
    obtain ⟨k, rfl, hk, hT, HC⟩ := hrel
    obtain ⟨wV, hwV⟩ : ∃ wV, wV = wr := ⟨_, rfl⟩
    subst hwV
    by_cases hlt : (k : Int) < l.length
    · have hkl : k < l.length := by omega
      obtain ⟨g, o, rfl, ha⟩ := (HS.out _ hT).col hkl
      obtain ⟨c0, c1, c2⟩ := ha.col k hkl
      obtain ⟨x, hx⟩ : ∃ x, x = l[k] := ⟨_, rfl⟩
      obtain ⟨E, hE⟩ : ∃ E, E = colE (l.take k) x := ⟨_, rfl⟩
      have HE : Hid (colsE l = if E ≠ 0 then E else colsGo (l.take (k + 1)) (l.drop (k + 1))) := by
        show _ = _
        rw [HC.out, colsGo_step l k hkl, hE, hx]
      rw [← hx] at c0 c1 c2
      have HX : Hid (x = l[k]) := hx
      have HA : Hid (∀ W, Tch (fun _ => False) w W → ∀ j (hj : j < l.length), W.cell? ⟨g, o + j * 3, none⟩ = some (.string l[j].nm) ∧ W.cell? ⟨g, o + j * 3 + 1, none⟩ = some (.int .i64 l[j].k)) := fun W t j hj => by
        obtain ⟨g', o', e, h'⟩ := (HS.out W t).col hj
        injection e with e; injection e with e1 e2; subst e1 e2
        obtain ⟨q0, q1, _⟩ := h'.col j hj
        exact ⟨q0, q1⟩
      have q1 := named_any x.nm wV
      clear ha hx HC HS
      cases hn : nmOk x.nm
      · rw [hn] at q1
        have HR : Hid (colsE l = 50) := by
          show _ = _
          have e1 : E = 50 := by rw [hE]; unfold colE; rw [if_pos hn]
          rw [HE.out, e1, if_pos (by decide)]
        clear hn hE HE
        go_wp2_with fail
        refine q1.mono ?_
        rintro y w1 ⟨rfl, hw1⟩
        obtain rfl := hw1.symm
        clear hw1 q1
        go_wp2_with fail
        go_ret
        exact ⟨by rw [HR.out]; rfl, hT⟩
      · rw [hn] at q1
        have q3 := fun W => rkind_any x.k W
        have HN : Hid (nmOk x.nm = true) := hn
        have HEE : Hid (E = colE (l.take k) x) := hE
        clear hn hE
        go_wp2_with fail
        refine q1.mono ?_
        rintro y w1 ⟨rfl, hw1⟩
        obtain rfl := hw1.symm
        clear hw1 q1
        go_wp2_with fail
        go_loopw [5] (fun i wr => ∃ m : Nat, i = .int .i64 m ∧ m ≤ k ∧ Tch (fun _ => False) w wr ∧ Hid (∀ j (h : j < l.length), j < m → l[j].nm ≠ x.nm)) (fun i _ => k - (intOf i).toNat)
        case atStart => exact ⟨0, rfl, by omega, hT, fun _ _ h => by omega⟩
        case round =>
          obtain ⟨m, rfl, hm, hT2, HM⟩ := hrel
          by_cases hmk : (m : Int) < k
          · have hml : m < l.length := by omega
            have hml' : (m : Int) < l.length := by omega
            have hmk2 : m < k := by omega
            obtain ⟨d0, _⟩ := HA.out _ hT2 m hml
            obtain ⟨e0, _⟩ := HA.out _ hT2 k hkl
            rw [← HX.out] at e0
            obtain ⟨y, hy⟩ : ∃ y, y = l[m].nm := ⟨_, rfl⟩
            rw [← hy] at d0
            have HY : Hid (y = l[m].nm) := hy
            clear hy c0 c1 c2
            by_cases he : y = x.nm
            · have HR : Hid (colsE l = 54) := by
                show _ = _
                have hh : (l.take k).any (fun a => decide (a.nm = x.nm)) = true := by
                  rw [List.any_eq_true]
                  have hmt : m < (l.take k).length := by rw [List.length_take]; omega
                  refine ⟨(l.take k)[m], List.getElem_mem _, ?_⟩
                  rw [List.getElem_take, ← HY.out]; simpa using he
                have e1 : E = 54 := by rw [HEE.out]; unfold colE; rw [if_neg (by simp [HN.out]), if_pos (by simp [hh])]
                rw [HE.out, e1, if_pos (by decide)]
              subst he
              go_wp2_with fail
              go_quiet (fail)
              go_wp2_with fail
              go_ret
              exact ⟨by rw [HR.out]; rfl, hT2.drewN _⟩
            · have HM2 : Hid (∀ j (h : j < l.length), j < m + 1 → l[j].nm ≠ x.nm) := fun j hj hjm => by
                rcases Nat.lt_or_ge j m with h1 | h1
                · exact HM.out j hj h1
                · obtain rfl : j = m := by omega
                  rw [← HY.out]; exact he
              have hne := str_ne he
              clear he
              go_wp2_with fail
              go_quiet (fail)
              go_wp2_with fail
              go_roundw
              case rel => exact ⟨m + 1, by go_num, by omega, hT2.drewN _, HM2⟩
              case measure => simp [intOf]; omega
          · have hh : (l.take k).any (fun a => decide (a.nm = x.nm)) = false := by
              rw [List.any_eq_false]
              intro a ha
              obtain ⟨i, hi, rfl⟩ := List.getElem_of_mem ha
              rw [List.length_take] at hi
              rw [List.getElem_take]
              simpa using HM.out i (by omega) (by omega)
            obtain ⟨_, e1⟩ := HA.out _ hT2 k hkl
            rw [← HX.out] at e1
            clear c0 c1 c2
            cases hd : kdOk x.k
            · rw [hd] at q3
              have HR : Hid (colsE l = 1) := by
                show _ = _
                have e1 : E = 1 := by rw [HEE.out]; unfold colE; rw [if_neg (by simp [HN.out]), if_neg (by simp [hh]), if_pos hd]
                rw [HE.out, e1, if_pos (by decide)]
              clear hh hd
              go_wp2_with (go_at_call 69; refine (q3 _).mono ?_; rintro y w1 ⟨rfl, hw1⟩; obtain rfl := hw1.symm; clear hw1)
              go_ret
              exact ⟨by rw [HR.out]; rfl, hT2⟩
            · rw [hd] at q3
              have HR : Hid (colsE l = colsGo (l.take (k + 1)) (l.drop (k + 1))) := by
                show _ = _
                have e1 : E = 0 := by rw [HEE.out]; unfold colE; rw [if_neg (by simp [HN.out]), if_neg (by simp [hh]), if_neg (by simp [hd])]
                rw [HE.out, e1, if_neg (by simp)]
              clear hh hd
              go_wp2_with (go_at_call 69; refine (q3 _).mono ?_; rintro y w1 ⟨rfl, hw1⟩; obtain rfl := hw1.symm; clear hw1)
              go_roundw
              case rel => exact ⟨k + 1, by go_num, by omega, hT2, HR⟩
              case measure => simp [intOf]; omega
    · have HR : Hid (colsE l = 0) := by
        show _ = _
        obtain rfl : k = l.length := by omega
        rw [HC.out, colsGo_end]
      go_wp2_with fail
      go_ret
      exact ⟨by rw [HR.out]; rfl, hT⟩
theorem rright_any (t : Tbl) (ao : Option Addr) (c : Nat) (w : World) (h : SL w ao (ccl t.cols)) :
    Calls Tryz.prog 37 #[tA t.id t.ver t.nm (.slice ao t.cols.length c) t.key] w fun x w' => x = .returned (.int .i64 (rightE t)) ∧ Tch (fun _ => False) w w' := by
  obtain ⟨w0, hw0⟩ : ∃ w0, w0 = w.alloc (.cells #[.int .i64 t.id, .int .i64 t.ver, .string t.nm, .slice ao t.cols.length c, .int .i64 t.key] 24) := ⟨_, rfl⟩
  have T0 : Tch (fun _ => False) w w0 := by rw [hw0]; exact Tch.alloc _ _ _
  obtain ⟨N, hN⟩ : ∃ N, N = w.heap.size := ⟨_, rfl⟩
  have HB : Hid (∀ W, Tch (fun _ => False) w0 W → W.cell? ⟨N, 0, none⟩ = some (.int .i64 t.id) ∧ W.cell? ⟨N, 1, none⟩ = some (.int .i64 t.ver) ∧ W.cell? ⟨N, 2, none⟩ = some (.string t.nm) ∧ W.cell? ⟨N, 3, none⟩ = some (.slice ao t.cols.length c) ∧ W.cell? ⟨N, 4, none⟩ = some (.int .i64 t.key)) := fun W tw => by
    rw [hw0] at tw; rw [hN]; exact box5 tw
  have HS : Hid (∀ W, Tch (fun _ => False) w0 W → SL W ao (ccl t.cols)) := fun W tw => h.no (T0.trans' tw)
  obtain ⟨b0, b1, b2, b3, b4⟩ := HB.out w0 (Tch.refl _ _)
  have q3 := named_any t.nm w0
  have q4 := rcolumns_any t.cols ao c w0 (HS.out w0 (Tch.refl _ _))
  have q5 := fun W tw => rkey_any t.cols ao c t.key W (HS.out W tw)
  obtain ⟨n3, e3⟩ : ∃ n3, n3 = nmOk t.nm := ⟨_, rfl⟩
  obtain ⟨n4, e4⟩ : ∃ n4, n4 = colsE t.cols := ⟨_, rfl⟩
  obtain ⟨n5, e5⟩ : ∃ n5 : Int, n5 = keyE t.cols t.key := ⟨_, rfl⟩
  have HR : Hid (rightE t = if numOk t.id = false ∨ numOk t.ver = false then 1 else if n3 = false then 50 else if n4 ≠ 0 then n4 else n5) := by
    show _ = _
    rw [e3, e4, e5]; rfl
  rw [← e3] at q3
  rw [← e4] at q4
  rw [← e5] at q5
  have Hw0 : Hid _ := hw0
  have HN : Hid _ := hN
  clear h e3 e4 e5 HS hw0 hN
  go_enter Tryz.func37, Tryz.ntmps37
  by_cases hbad : (t.id < 1 ∨ 2147483647 < t.id) ∨ t.ver < 1 ∨ 2147483647 < t.ver
  · have HR2 : Hid (rightE t = 1) := by
      show _ = _
      rw [HR.out, if_pos (by simp [numOk]; omega)]
    rcases hbad with (hb | hb) | hb | hb
    all_goals go_wp2
    all_goals (go_ret; exact ⟨by rw [HR2.out]; rfl, by have hw0 := Hw0.out; rw [← hw0]; exact T0⟩)
  · have HR2 : Hid (rightE t = if n3 = false then 50 else if n4 ≠ 0 then n4 else n5) := by
      show _ = _
      rw [HR.out, if_neg (by simp [numOk]; omega)]
    have k0 : ¬ t.id < 1 := by omega
    have k1 : ¬ 2147483647 < t.id := by omega
    have k2 : ¬ t.ver < 1 := by omega
    have k3 : ¬ 2147483647 < t.ver := by omega
    clear hbad HR
    go_wp2_with fail
    rw [← HN.out]
    have hw0 := Hw0.out
    rw [← hw0]
    clear hw0
    refine q3.mono ?_
    rintro y w1 ⟨rfl, hw1⟩
    obtain rfl := hw1.symm
    clear hw1 q3
    cases n3 with
    | false =>
      go_wp2_with fail
      go_ret
      exact ⟨by rw [HR2.out]; rfl, T0⟩
    | true =>
      by_cases h4 : n4 = 0
      · subst h4
        go_wp2_with (first | (go_at_call 57; refine q4.mono ?_; rintro y w2 ⟨rfl, t2⟩; obtain ⟨b0, b1, b2, b3, b4⟩ := HB.out w2 t2) | (go_at_call 58; refine (q5 w2 t2).mono ?_; rintro y w3 ⟨rfl, hw1⟩; obtain rfl := hw1.symm; clear hw1))
        go_ret
        exact ⟨by rw [HR2.out]; rfl, T0.trans' t2⟩
      · have HR3 : Hid (rightE t = n4) := by
          show _ = _
          rw [HR2.out, if_neg (by simp), if_pos h4]
        have hb4 : (n4 != 0) = true := by simpa using h4
        clear h4 HR2
        go_wp2_with (go_at_call 57; refine q4.mono ?_; rintro y w2 ⟨rfl, t2⟩; obtain ⟨b0, b1, b2, b3, b4⟩ := HB.out w2 t2)
        go_ret
        exact ⟨by rw [HR3.out]; rfl, T0.trans' t2⟩
end Go.Proofs.YteaagnlhkopgdaaGreatDoor.C
namespace Go.Proofs.YteaagnlhkopgdaaGreatDoor.C
open Go.RowKit Go
theorem row_ge {w : World} {base : Nat} {t : TypeId} {sz n : Nat} {v : Value} {xs : List Value} (h : w.ownsRow base t sz v n xs) {k : Nat} (hk : v.ownBlock = some k) : base ≤ k := (h.lt k hk).1
theorem own_low {W : World} {N N' sz n : Nat} {t : TypeId} {v : Value} {xs : List Value} (h : W.ownsRow N t sz v n xs) (hN : N' ≤ N) : W.ownsRow N' t sz v n xs := by
  obtain ⟨h1, h2⟩ := h
  refine ⟨h1, ?_⟩
  rcases h2 with h2 | ⟨g, c, cur, hv, hb, hr⟩
  · exact Or.inl h2
  · exact Or.inr ⟨g, c, cur, hv, Nat.le_trans hN hb, hr⟩
end Go.Proofs.YteaagnlhkopgdaaGreatDoor.C
namespace Go.Proofs.YteaagnlhkopgdaaGreatDoor.C
open Go.RowKit
theorem own_sl {W : World} {base sz n : Nat} {t : TypeId} {ao : Option Addr} {c : Nat} {xs : List Value} (h : W.ownsRow base t sz (.slice ao n c) n xs) : SL W ao xs := fun hx => by
  have hn : 0 < n := by
    rcases Nat.eq_zero_or_pos n with rfl | h'
    · have := h.1; simp at this; exact absurd this hx
    · exact h'
  obtain ⟨g, e, _, ha⟩ := own_at h hn
  exact ⟨g, 0, e, ha⟩
end Go.Proofs.YteaagnlhkopgdaaGreatDoor.C
namespace Go.Proofs.YteaagnlhkopgdaaGreatDoor.C
open Go.RowKit Go
end Go.Proofs.YteaagnlhkopgdaaGreatDoor.C
namespace Go.Proofs.YteaagnlhkopgdaaGreatDoor.C
open Go.RowKit Go
structure CK (W : World) (F : Nat → Prop) (p : Tbl × Value) (co : Option Addr) (cc : Nat) : Prop where
  eq : p.2 = .slice co p.1.cols.length cc
  sl : SL W co (ccl p.1.cols)
  no : co = none → p.1.cols = [] ∧ cc = 0
  cap : p.1.cols.length ≤ cc
  nf : p.1.cols ≠ [] → ∀ g o, co = some ⟨g, o, none⟩ → ¬ F g ∧ g < W.heap.size
theorem CK.tch {S F : Nat → Prop} {W W' : World} {p : Tbl × Value} {co : Option Addr} {cc : Nat} (h : CK W F p co cc) (t : Tch S W W') (hS : ∀ i, i < W.heap.size → S i → F i) : CK W' F p co cc :=
  ⟨h.eq, fun hc => by
    obtain ⟨g, o, e, ha⟩ := h.sl hc
    have hne : p.1.cols ≠ [] := fun e0 => hc (by rw [e0]; rfl)
    exact ⟨g, o, e, ha.tch t (fun _ hs => (h.nf hne g o e).1 (hS g (h.nf hne g o e).2 hs))⟩, h.no, h.cap, fun hne g o e => ⟨(h.nf hne g o e).1, Nat.lt_of_lt_of_le (h.nf hne g o e).2 t.size⟩⟩
end Go.Proofs.YteaagnlhkopgdaaGreatDoor.C
