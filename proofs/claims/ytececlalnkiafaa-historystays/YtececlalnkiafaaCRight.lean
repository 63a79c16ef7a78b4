import Derived.Test.YtececlalnkiafaaCName
import Derived.Test.YtececlalnkiafaaCMem
import Derived.Deep.RegionHeld3
/- Columns that are right, keys, tables: the code's. -/
namespace Go.Proofs.Ytececlalnkiafaa
open Go.RowKit
set_option maxRecDepth 100000

theorem kind_any (k : Int) (w : World) :
    Calls Try.prog 57 #[.int .i64 k] w fun x w' => x = .returned (.bool (kdOk k)) ∧ w' = w := by
  go_enter Try.func57, Try.ntmps57
  go_wp2
  all_goals (go_ret; refine ⟨vret_bool ?_, rfl⟩; rw [Bool.eq_iff_iff]; simp [kdOk] at *; try omega)
theorem number_any (k : Int) (w : World) :
    Calls Try.prog 43 #[.int .i64 k] w fun x w' => x = .returned (.bool (numOk k)) ∧ w' = w := by
  go_enter Try.func43, Try.ntmps43
  go_wp2
  all_goals (go_ret; refine ⟨vret_bool ?_, rfl⟩; rw [Bool.eq_iff_iff]; simp [numOk] at *; try omega)
theorem str_ne {x y : ByteArray} (h : x ≠ y) : (x.toList == y.toList) = false := by
  rw [beq_eq_false_iff_ne, ne_eq]
  rw [ByteArray.toList_eq, ByteArray.toList_eq]
  exact fun h' => h (ByteArray.ext (Array.ext' h'))
set_option maxHeartbeats 1000000 in
theorem hasColumn_any (l : List Col) (ao : Option Addr) (c : Nat) (nm : ByteArray) (w : World) (h : SL w ao (ccl l)) (hl : l.length ≤ 9223372036854775807) :
    Calls Try.prog 56 #[.slice ao l.length c, .string nm] w fun x w' => x = .returned (.bool (l.any (fun a => decide (a.nm = nm)))) ∧ Tch (fun _ => False) w w' := by
  have HS : Hid (∀ W, Tch (fun _ => False) w W → SL W ao (ccl l)) := fun W t => h.no t
  clear h
  go_enter Try.func56, Try.ntmps56
  go_wp2_with fail
  go_loopw [9] (fun i wr => ∃ k : Nat, i = .int .i64 k ∧ k ≤ l.length ∧ Tch (fun _ => False) w wr ∧ Hid (∀ j (h : j < l.length), j < k → l[j].nm ≠ nm)) (fun i _ => l.length - (intOf i).toNat)
  case atStart => exact ⟨0, rfl, by omega, Tch.refl _ _, fun _ _ h => by omega⟩
  case round =>
    obtain ⟨k, rfl, hk, hT, HA⟩ := hrel
    by_cases hlt : (k : Int) < l.length
    · have hkl : k < l.length := by omega
      obtain ⟨g, o, rfl, ha⟩ := (HS.out _ hT).col hkl
      obtain ⟨c0, c1, c2⟩ := ha.col k hkl
      obtain ⟨x, hx⟩ : ∃ x, x = l[k] := ⟨_, rfl⟩
      rw [← hx] at c0 c1 c2
      have HX : Hid (x = l[k]) := hx
      clear ha hx
      by_cases he : x.nm = nm
      · have HR : Hid (l.any (fun a => decide (a.nm = nm)) = true) := by
          show _ = _
          rw [List.any_eq_true]
          exact ⟨x, by rw [HX.out]; exact List.getElem_mem _, by simpa using he⟩
        rw [he] at c0
        clear he
        go_wp2_with fail
        go_ret
        exact ⟨by rw [HR.out]; rfl, hT.allocR _⟩
      · have HE : Hid (∀ j (h : j < l.length), j < k + 1 → l[j].nm ≠ nm) := fun j hj hjk => by
          rcases Nat.lt_or_ge j k with h1 | h1
          · exact HA.out j hj h1
          · obtain rfl : j = k := by omega
            rw [← HX.out]; exact he
        have hne := str_ne he
        clear he
        go_wp2_with fail
        go_roundw
        case rel => exact ⟨k + 1, by go_num, by omega, hT.allocR _, HE⟩
        case measure => simp [intOf]; omega
    · have HR : Hid (l.any (fun a => decide (a.nm = nm)) = false) := by
        show _ = _
        rw [List.any_eq_false]
        intro a ha
        obtain ⟨i, hi, rfl⟩ := List.getElem_of_mem ha
        simpa using HA.out i hi (by omega)
      go_wp2_with fail
      go_ret
      exact ⟨by rw [HR.out]; rfl, hT⟩

set_option maxHeartbeats 2000000 in
theorem wrongColumns_any (l : List Col) (ao : Option Addr) (c : Nat) (w : World) (h : SL w ao (ccl l)) (hc : l.length ≤ c) (hl : l.length ≤ 9223372036854775807) :
    Calls Try.prog 45 #[.slice ao l.length c] w fun x w' => x = .returned (.int .i64 (colsE l)) ∧ Tch (fun _ => False) w w' := by
  by_cases h0 : (l.length : Int) < 1
  · have HR : Hid (colsE l = 55) := if_pos (by omega)
    clear h
    go_enter Try.func45, Try.ntmps45
    go_wp2
    go_ret
    exact ⟨by rw [HR.out]; rfl, Tch.refl _ _⟩
  by_cases h1 : 8 < (l.length : Int)
  · have HR : Hid (colsE l = 55) := if_pos (by omega)
    clear h
    go_enter Try.func45, Try.ntmps45
    go_wp2
    go_ret
    exact ⟨by rw [HR.out]; rfl, Tch.refl _ _⟩
  have HS : Hid (∀ W, Tch (fun _ => False) w W → SL W ao (ccl l)) := fun W t => h.no t
  have HC : Hid (colsE l = colsGo (l.take 0) (l.drop 0)) := if_neg (by omega)
  clear h
  go_enter Try.func45, Try.ntmps45
  go_wp2_with fail
  go_loopw [15] (fun i wr => ∃ k : Nat, i = .int .i64 k ∧ k ≤ l.length ∧ Tch (fun _ => False) w wr ∧ Hid (colsE l = colsGo (l.take k) (l.drop k))) (fun i _ => l.length - (intOf i).toNat)
  case atStart => exact ⟨0, rfl, by omega, Tch.refl _ _, HC⟩
  case round =>
    clear HC
    obtain ⟨k, rfl, hk, hT, HC⟩ := hrel
    by_cases hlt : (k : Int) < l.length
    · have hkl : k < l.length := by omega
      have hkc : (k : Int) ≤ c := by omega
      obtain ⟨g, o, rfl, ha⟩ := (HS.out _ hT).col hkl
      obtain ⟨c0, c1, c2⟩ := ha.col k hkl
      obtain ⟨x, hx⟩ : ∃ x, x = l[k] := ⟨_, rfl⟩
      obtain ⟨E, hE⟩ : ∃ E, E = colE (l.take k) x := ⟨_, rfl⟩
      have HE : Hid (colsE l = if E ≠ 0 then E else colsGo (l.take (k + 1)) (l.drop (k + 1))) := by
        show _ = _
        rw [HC.out, colsGo_step l k hkl, hE, hx]
      rw [← hx] at c0 c1 c2
      obtain ⟨wa, hwa⟩ : ∃ wa, wa = wr.alloc (.cells #[.string x.nm, .int .i64 x.k, .bool x.nl] 80) := ⟨_, rfl⟩
      have hTa : Tch (fun _ => False) w wa := by rw [hwa]; exact hT.allocR _
      have q1 := isName_any x.nm wa
      obtain ⟨b0, b1, b2⟩ := box_cells wr (.string x.nm) (.int .i64 x.k) (.bool x.nl) 80
      rw [← hwa] at b0 b1 b2
      have HWA : Hid _ := hwa
      clear ha hx HC
      obtain ⟨B, hB⟩ : ∃ B, B = wr.heap.size := ⟨_, rfl⟩
      have HBB : Hid (B = wr.heap.size) := hB
      rw [← hB] at b0 b1 b2
      clear hwa hB
      cases hn : nmOk x.nm
      · rw [hn] at q1
        have HR : Hid (colsE l = 50) := by
          show _ = _
          have e1 : E = 50 := by rw [hE]; unfold colE; rw [if_pos hn]
          rw [HE.out, e1, if_pos (by decide)]
        clear hn hE HE
        go_wp2_with fail
        rw [← HBB.out]
        have hwa := HWA.out
        rw [← hwa]
        clear hwa
        refine q1.mono ?_
        rintro y w1 ⟨rfl, hw1⟩
        obtain rfl := hw1.symm
        clear hw1 q1
        go_wp2_with fail
        go_ret
        exact ⟨by rw [HR.out]; rfl, hTa⟩
      · rw [hn] at q1
        have htk : (l.take k).length = k := by rw [List.length_take]; omega
        have q2 := fun W (t : Tch (fun _ => False) wa W) => hasColumn_any (l.take k) (some ⟨g, o, none⟩) c x.nm W ((HS.out _ (hTa.trans' t)).takeC k) (by omega)
        rw [htk] at q2
        have q3 := fun W => kind_any x.k W
        clear htk
        cases hh : (l.take k).any (fun a => decide (a.nm = x.nm))
        · rw [hh] at q2
          have Hq2 : Hid _ := q2
          clear q2
          cases hd : kdOk x.k
          · rw [hd] at q3
            have HR : Hid (colsE l = 1) := by
              show _ = _
              have e1 : E = 1 := by rw [hE]; unfold colE; rw [if_neg (by simp [hn]), if_neg (by simp [hh]), if_pos hd]
              rw [HE.out, e1, if_pos (by decide)]
            clear hn hE HE hh hd
            go_wp2_with fail
            rw [← HBB.out]
            have hwa := HWA.out
            rw [← hwa]
            clear hwa
            refine q1.mono ?_
            rintro y w1 ⟨rfl, hw1⟩
            obtain rfl := hw1.symm
            clear hw1 q1
            have HS3 : Hid (∀ W, Tch (fun _ => False) wa W → Tch (fun _ => False) wa W ∧ W.cell? ⟨B, 0, none⟩ = some (.string x.nm)) := fun W t => ⟨t, by rw [t.cell (p := ⟨B, 0, none⟩) (cell_lt b0) (fun h => h)]; exact b0⟩
            have HB2 : Hid (∀ W, Tch (fun _ => False) wa W → W.cell? ⟨B, 0, none⟩ = some (.string x.nm) ∧ W.cell? ⟨B, 1, none⟩ = some (.int .i64 x.k)) := fun W t => ⟨by rw [t.cell (p := ⟨B, 0, none⟩) (cell_lt b0) (fun h => h)]; exact b0, by rw [t.cell (p := ⟨B, 1, none⟩) (cell_lt b1) (fun h => h)]; exact b1⟩
            go_wp2_with fail
            go_region_held3 (fun W => Tch (fun _ => False) wa W ∧ W.cell? ⟨B, 0, none⟩ = some (.string x.nm))
              ((refine HS3.out _ ?_; first | assumption | exact (Tch.refl _ _).drew))
              ((go_at_call 56; refine (Hq2.out _ (show _ ∧ _ by assumption).1).mono ?_; rintro y w2 ⟨rfl, t2⟩; have V2 := Tch.trans' (show _ ∧ _ by assumption).1 t2))
            have hT2 : Tch (fun _ => False) w w2 := hTa.trans' V2
            obtain ⟨b0, b1⟩ := HB2.out _ V2
            go_wp2_with fail
            refine (q3 w2).mono ?_
            rintro y w3 ⟨rfl, hw1⟩
            obtain rfl := hw1.symm
            clear hw1 q3
            go_wp2_with fail
            go_ret
            exact ⟨by rw [HR.out]; rfl, hT2⟩
          · rw [hd] at q3
            have HR : Hid (colsE l = colsGo (l.take (k + 1)) (l.drop (k + 1))) := by
              show _ = _
              have e1 : E = 0 := by rw [hE]; unfold colE; rw [if_neg (by simp [hn]), if_neg (by simp [hh]), if_neg (by simp [hd])]
              rw [HE.out, e1, if_neg (by simp)]
            clear hn hE HE hh hd
            go_wp2_with fail
            rw [← HBB.out]
            have hwa := HWA.out
            rw [← hwa]
            clear hwa
            refine q1.mono ?_
            rintro y w1 ⟨rfl, hw1⟩
            obtain rfl := hw1.symm
            clear hw1 q1
            have HS3 : Hid (∀ W, Tch (fun _ => False) wa W → Tch (fun _ => False) wa W ∧ W.cell? ⟨B, 0, none⟩ = some (.string x.nm)) := fun W t => ⟨t, by rw [t.cell (p := ⟨B, 0, none⟩) (cell_lt b0) (fun h => h)]; exact b0⟩
            have HB2 : Hid (∀ W, Tch (fun _ => False) wa W → W.cell? ⟨B, 0, none⟩ = some (.string x.nm) ∧ W.cell? ⟨B, 1, none⟩ = some (.int .i64 x.k)) := fun W t => ⟨by rw [t.cell (p := ⟨B, 0, none⟩) (cell_lt b0) (fun h => h)]; exact b0, by rw [t.cell (p := ⟨B, 1, none⟩) (cell_lt b1) (fun h => h)]; exact b1⟩
            go_wp2_with fail
            go_region_held3 (fun W => Tch (fun _ => False) wa W ∧ W.cell? ⟨B, 0, none⟩ = some (.string x.nm))
              ((refine HS3.out _ ?_; first | assumption | exact (Tch.refl _ _).drew))
              ((go_at_call 56; refine (Hq2.out _ (show _ ∧ _ by assumption).1).mono ?_; rintro y w2 ⟨rfl, t2⟩; have V2 := Tch.trans' (show _ ∧ _ by assumption).1 t2))
            have hT2 : Tch (fun _ => False) w w2 := hTa.trans' V2
            obtain ⟨b0, b1⟩ := HB2.out _ V2
            go_wp2_with fail
            refine (q3 w2).mono ?_
            rintro y w3 ⟨rfl, hw1⟩
            obtain rfl := hw1.symm
            clear hw1 q3
            go_wp2_with fail
            go_roundw
            case rel => exact ⟨k + 1, by go_num, by omega, hT2, HR⟩
            case measure => simp [intOf]; omega
        · rw [hh] at q2
          have Hq2 : Hid _ := q2
          clear q2
          have HR : Hid (colsE l = 54) := by
            show _ = _
            have e1 : E = 54 := by rw [hE]; unfold colE; rw [if_neg (by simp [hn]), if_pos (by simp [hh])]
            rw [HE.out, e1, if_pos (by decide)]
          clear hn hE HE hh q3
          go_wp2_with fail
          rw [← HBB.out]
          have hwa := HWA.out
          rw [← hwa]
          clear hwa
          refine q1.mono ?_
          rintro y w1 ⟨rfl, hw1⟩
          obtain rfl := hw1.symm
          clear hw1 q1
          have HS3 : Hid (∀ W, Tch (fun _ => False) wa W → Tch (fun _ => False) wa W ∧ W.cell? ⟨B, 0, none⟩ = some (.string x.nm)) := fun W t => ⟨t, by rw [t.cell (p := ⟨B, 0, none⟩) (cell_lt b0) (fun h => h)]; exact b0⟩
          have HB2 : Hid (∀ W, Tch (fun _ => False) wa W → W.cell? ⟨B, 0, none⟩ = some (.string x.nm) ∧ W.cell? ⟨B, 1, none⟩ = some (.int .i64 x.k)) := fun W t => ⟨by rw [t.cell (p := ⟨B, 0, none⟩) (cell_lt b0) (fun h => h)]; exact b0, by rw [t.cell (p := ⟨B, 1, none⟩) (cell_lt b1) (fun h => h)]; exact b1⟩
          go_wp2_with fail
          go_region_held3 (fun W => Tch (fun _ => False) wa W ∧ W.cell? ⟨B, 0, none⟩ = some (.string x.nm))
            ((refine HS3.out _ ?_; first | assumption | exact (Tch.refl _ _).drew))
            ((go_at_call 56; refine (Hq2.out _ (show _ ∧ _ by assumption).1).mono ?_; rintro y w2 ⟨rfl, t2⟩; have V2 := Tch.trans' (show _ ∧ _ by assumption).1 t2))
          have hT2 : Tch (fun _ => False) w w2 := hTa.trans' V2
          obtain ⟨b0, b1⟩ := HB2.out _ V2
          go_wp2_with fail
          go_ret
          exact ⟨by rw [HR.out]; rfl, hT2⟩
    · have HR : Hid (colsE l = 0) := by
        show _ = _
        obtain rfl : k = l.length := by omega
        rw [HC.out, colsGo_end]
      go_wp2_with fail
      go_ret
      exact ⟨by rw [HR.out]; rfl, hT⟩
end Go.Proofs.Ytececlalnkiafaa
