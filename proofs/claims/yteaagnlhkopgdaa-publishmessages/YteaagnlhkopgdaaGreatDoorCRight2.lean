import Derived.Test.YteaagnlhkopgdaaGreatDoorVEnc
import Derived.Test.YteaagnlhkopgdaaGreatDoorCName
import Derived.Deep.DeepHandedRow
import Derived.Deep.RegionHeld3
set_option maxHeartbeats 2000000
set_option maxRecDepth 100000
namespace Go.Proofs.YteaagnlhkopgdaaGreatDoor.C
open Go.RowKit
def At (w : World) (g o : Nat) (cs : List Value) : Prop := ∀ j u, cs[j]? = some u → w.cell? ⟨g, o + j, none⟩ = some u
theorem At.lt {w : World} {g o : Nat} {cs : List Value} (h : At w g o cs) (hc : cs ≠ []) : g < w.heap.size := by
  cases cs with
  | nil => exact absurd rfl hc
  | cons a l => exact cell_lt (h 0 a rfl)
theorem At.tch {S : Nat → Prop} {w w' : World} {g o : Nat} {cs : List Value} (h : At w g o cs) (t : Tch S w w') (hg : cs ≠ [] → ¬ S g) : At w' g o cs := fun j u hu => by
  have hc : cs ≠ [] := by rintro rfl; simp at hu
  rw [t.cell (p := ⟨g, o + j, none⟩) (h.lt hc) (hg hc)]; exact h j u hu
def SL (w : World) (ao : Option Addr) (cs : List Value) : Prop := cs ≠ [] → ∃ g o, ao = some ⟨g, o, none⟩ ∧ At w g o cs
theorem SL.tch {S : Nat → Prop} {w w' : World} {ao : Option Addr} {cs : List Value} (h : SL w ao cs) (t : Tch S w w') (hS : ∀ g o, ao = some ⟨g, o, none⟩ → ¬ S g) : SL w' ao cs := fun hc => by
  obtain ⟨g, o, e, ha⟩ := h hc
  exact ⟨g, o, e, ha.tch t (fun _ => hS g o e)⟩
theorem SL.no {w w' : World} {ao : Option Addr} {cs : List Value} (h : SL w ao cs) (t : Tch (fun _ => False) w w') : SL w' ao cs := h.tch t (fun _ _ _ h => h)
theorem SL.nil (w : World) (ao : Option Addr) : SL w ao [] := fun h => absurd rfl h
section
variable {α : Type} (f g h : α → Value)
def f3 (l : List α) : List Value := l.flatMap (fun a => [f a, g a, h a])
theorem f3_len : ∀ l : List α, (f3 f g h l).length = l.length * 3
  | [] => rfl
  | a :: l => by
    have := f3_len l
    unfold f3 at this ⊢
    simp only [List.flatMap_cons, List.length_append, List.length_cons, List.length_nil, this]; omega
theorem f3_get : ∀ (l : List α) (k : Nat) (hk : k < l.length), (f3 f g h l)[k * 3]? = some (f l[k]) ∧ (f3 f g h l)[k * 3 + 1]? = some (g l[k]) ∧ (f3 f g h l)[k * 3 + 2]? = some (h l[k])
  | [], k, hk => by simp at hk
  | a :: l, 0, _ => by simp [f3]
  | a :: l, k + 1, hk => by
    have := f3_get l k (by simpa using hk)
    unfold f3 at this ⊢
    have e1 : (k + 1) * 3 = k * 3 + 3 := by omega
    simp only [List.flatMap_cons, List.getElem_cons_succ]
    rw [e1]
    refine ⟨?_, ?_, ?_⟩
    · rw [List.getElem?_append_right (by simp)]; simpa using this.1
    · rw [List.getElem?_append_right (by simp)]; simpa using this.2.1
    · rw [List.getElem?_append_right (by simp)]; simpa using this.2.2
theorem f3_append (l m : List α) : f3 f g h (l ++ m) = f3 f g h l ++ f3 f g h m := by simp [f3]
theorem f3_one (hf : ∀ a, (f a).oneCell' = true ∧ (g a).oneCell' = true ∧ (h a).oneCell' = true) (l : List α) : ∀ u ∈ f3 f g h l, u.oneCell' = true := fun u hu => by
  unfold f3 at hu
  rw [List.mem_flatMap] at hu
  obtain ⟨a, _, hu⟩ := hu
  simp only [List.mem_cons, List.not_mem_nil, or_false] at hu
  rcases hu with rfl | rfl | rfl
  · exact (hf a).1
  · exact (hf a).2.1
  · exact (hf a).2.2
theorem f3_nil {l : List α} (hl : l ≠ []) : f3 f g h l ≠ [] := fun e => by
  have := f3_len f g h l
  rw [e] at this
  have := List.length_pos_iff.2 hl
  simp at *; omega
theorem f3_take (l : List α) (k : Nat) : f3 f g h (l.take k) = (f3 f g h l).take (k * 3) := by
  induction l generalizing k with
  | nil => simp [f3]
  | cons a l ih =>
    cases k with
    | zero => simp [f3]
    | succ k =>
      have := ih k
      unfold f3 at this ⊢
      rw [List.take_succ_cons, List.flatMap_cons, List.flatMap_cons, this, show (k + 1) * 3 = k * 3 + 1 + 1 + 1 by omega]
      simp
end
def vcl (l : List Val) : List Value := f3 (fun v => .int .i64 v.k) (fun v => .int .i64 v.n) (fun v => .string v.s) l
def ccl (l : List Col) : List Value := f3 (fun c => .string c.nm) (fun c => .int .i64 c.k) (fun c => .bool c.nl) l
theorem vcl_len (l : List Val) : (vcl l).length = l.length * 3 := f3_len ..
theorem ccl_len (l : List Col) : (ccl l).length = l.length * 3 := f3_len ..
theorem vcl_one (l : List Val) : ∀ u ∈ vcl l, u.oneCell' = true := f3_one _ _ _ (fun _ => ⟨rfl, rfl, rfl⟩) l
theorem ccl_one (l : List Col) : ∀ u ∈ ccl l, u.oneCell' = true := f3_one _ _ _ (fun _ => ⟨rfl, rfl, rfl⟩) l
theorem At.val {w : World} {g o : Nat} {l : List Val} (h : At w g o (vcl l)) (k : Nat) (hk : k < l.length) : w.cell? ⟨g, o + k * 3, none⟩ = some (.int .i64 l[k].k) ∧ w.cell? ⟨g, o + k * 3 + 1, none⟩ = some (.int .i64 l[k].n) ∧ w.cell? ⟨g, o + k * 3 + 2, none⟩ = some (.string l[k].s) := by
  obtain ⟨h0, h1, h2⟩ := f3_get (fun v : Val => Value.int .i64 v.k) (fun v => .int .i64 v.n) (fun v => .string v.s) l k hk
  exact ⟨h _ _ h0, by have := h _ _ h1; rwa [← Nat.add_assoc] at this, by have := h _ _ h2; rwa [← Nat.add_assoc] at this⟩
theorem At.col {w : World} {g o : Nat} {l : List Col} (h : At w g o (ccl l)) (k : Nat) (hk : k < l.length) : w.cell? ⟨g, o + k * 3, none⟩ = some (.string l[k].nm) ∧ w.cell? ⟨g, o + k * 3 + 1, none⟩ = some (.int .i64 l[k].k) ∧ w.cell? ⟨g, o + k * 3 + 2, none⟩ = some (.bool l[k].nl) := by
  obtain ⟨h0, h1, h2⟩ := f3_get (fun c : Col => Value.string c.nm) (fun c => .int .i64 c.k) (fun c => .bool c.nl) l k hk
  exact ⟨h _ _ h0, by have := h _ _ h1; rwa [← Nat.add_assoc] at this, by have := h _ _ h2; rwa [← Nat.add_assoc] at this⟩
theorem SL.col {w : World} {ao : Option Addr} {l : List Col} (h : SL w ao (ccl l)) {k : Nat} (hk : k < l.length) : ∃ g o, ao = some ⟨g, o, none⟩ ∧ At w g o (ccl l) := h (f3_nil _ _ _ (by rintro rfl; simp at hk))
theorem SL.val {w : World} {ao : Option Addr} {l : List Val} (h : SL w ao (vcl l)) {k : Nat} (hk : k < l.length) : ∃ g o, ao = some ⟨g, o, none⟩ ∧ At w g o (vcl l) := h (f3_nil _ _ _ (by rintro rfl; simp at hk))
theorem SL.takeC {w : World} {ao : Option Addr} {l : List Col} (h : SL w ao (ccl l)) (k : Nat) : SL w ao (ccl (l.take k)) := fun hc => by
  have e : ccl (l.take k) = (ccl l).take (k * 3) := f3_take ..
  rw [e] at hc ⊢
  obtain ⟨g, o, h1, h2⟩ := h (by rintro e; rw [e] at hc; simp at hc)
  refine ⟨g, o, h1, fun j u hu => h2 j u ?_⟩
  rw [List.getElem?_take] at hu
  split at hu
  · exact hu
  · simp at hu
abbrev tA (id ver : Int) (nm : ByteArray) (cv : Value) (key : Int) : Value := .agg #[.int .i64 id, .int .i64 ver, .string nm, cv, .int .i64 key]
end Go.Proofs.YteaagnlhkopgdaaGreatDoor.C
namespace Go.Proofs.YteaagnlhkopgdaaGreatDoor.C
open Go.RowKit
set_option maxRecDepth 100000
theorem kind_any (k : Int) (w : World) :
    Calls Tryz.prog 133 #[.int .i64 k] w fun x w' => x = .returned (.bool (kdOk k)) ∧ w' = w := by
  go_enter Tryz.func133, Tryz.ntmps133
  go_wp2
  all_goals (go_ret; refine ⟨vret_bool ?_, rfl⟩; rw [Bool.eq_iff_iff]; simp [kdOk] at *; try omega)
theorem number_any (k : Int) (w : World) :
    Calls Tryz.prog 123 #[.int .i64 k] w fun x w' => x = .returned (.bool (numOk k)) ∧ w' = w := by
  go_enter Tryz.func123, Tryz.ntmps123
  go_wp2
  all_goals (go_ret; refine ⟨vret_bool ?_, rfl⟩; rw [Bool.eq_iff_iff]; simp [numOk] at *; try omega)
theorem str_ne {x y : ByteArray} (h : x ≠ y) : (x.toList == y.toList) = false := by
  rw [beq_eq_false_iff_ne, ne_eq]
  rw [ByteArray.toList_eq, ByteArray.toList_eq]
  exact fun h' => h (ByteArray.ext (Array.ext' h'))
theorem hasColumn_any (l : List Col) (ao : Option Addr) (c : Nat) (nm : ByteArray) (w : World) (h : SL w ao (ccl l)) (hl : l.length ≤ 9223372036854775807) :
    Calls Tryz.prog 132 #[.slice ao l.length c, .string nm] w fun x w' => x = .returned (.bool (l.any (fun a => decide (a.nm = nm)))) ∧ Tch (fun _ => False) w w' := by
  have HS : Hid (∀ W, Tch (fun _ => False) w W → SL W ao (ccl l)) := fun W t => h.no t
  clear h
  go_enter Tryz.func132, Tryz.ntmps132
  go_wp2_with fail
  go_loopw [9] (fun i wr => ∃ k : Nat, i = .int .i64 k ∧ k ≤ l.length ∧ Tch (fun _ => False) w wr ∧ Hid (∀ j (h : j < l.length), j < k → l[j].nm ≠ nm)) (fun i _ => l.length - (intOf i).toNat)
  case atStart => exact ⟨0, rfl, by omega, Tch.refl _ _, fun _ _ h => by omega⟩
  case round =>
    obtain ⟨k, rfl, hk, hT, HA⟩ := hrel
    by_cases hlt : (k : Int) < l.length
    · have hkl : k < l.length := by omega
      obtain ⟨g, o, rfl, ha⟩ := (HS.out _ hT).col hkl
      obtain ⟨c0, c1, c2⟩ := ha.col k hkl
      obtain ⟨x, hx⟩ : ∃ x, x = l[k] := ⟨_, rfl⟩
      rw [← hx] at c0 c1 c2
      have HX : Hid (x = l[k]) := hx
      clear ha hx
      by_cases he : x.nm = nm
      · have HR : Hid (l.any (fun a => decide (a.nm = nm)) = true) := by
          show _ = _
          rw [List.any_eq_true]
          exact ⟨x, by rw [HX.out]; exact List.getElem_mem _, by simpa using he⟩
        rw [he] at c0
        clear he
        go_wp2_with fail
        go_ret
        exact ⟨by rw [HR.out]; rfl, hT.allocR _⟩
      · have HE : Hid (∀ j (h : j < l.length), j < k + 1 → l[j].nm ≠ nm) := fun j hj hjk => by
          rcases Nat.lt_or_ge j k with h1 | h1
          · exact HA.out j hj h1
          · obtain rfl : j = k := by omega
            rw [← HX.out]; exact he
        have hne := str_ne he
        clear he
        go_wp2_with fail
        go_roundw
        case rel => exact ⟨k + 1, by go_num, by omega, hT.allocR _, HE⟩
        case measure => simp [intOf]; omega
    · have HR : Hid (l.any (fun a => decide (a.nm = nm)) = false) := by
        show _ = _
        rw [List.any_eq_false]
        intro a ha
        obtain ⟨i, hi, rfl⟩ := List.getElem_of_mem ha
        simpa using HA.out i hi (by omega)
      go_wp2_with fail
      go_ret
      exact ⟨by rw [HR.out]; rfl, hT⟩
theorem wrongColumns_any (l : List Col) (ao : Option Addr) (c : Nat) (w : World) (h : SL w ao (ccl l)) (hc : l.length ≤ c) (hl : l.length ≤ 9223372036854775807) :
    Calls Tryz.prog 125 #[.slice ao l.length c] w fun x w' => x = .returned (.int .i64 (colsE l)) ∧ Tch (fun _ => False) w w' := by
  by_cases h0 : (l.length : Int) < 1
  · have HR : Hid (colsE l = 55) := if_pos (by omega)
    clear h
    go_enter Tryz.func125, Tryz.ntmps125
    go_wp2
    go_ret
    exact ⟨by rw [HR.out]; rfl, Tch.refl _ _⟩
  by_cases h1 : 8 < (l.length : Int)
  · have HR : Hid (colsE l = 55) := if_pos (by omega)
    clear h
    go_enter Tryz.func125, Tryz.ntmps125
    go_wp2
    go_ret
    exact ⟨by rw [HR.out]; rfl, Tch.refl _ _⟩
  have HS : Hid (∀ W, Tch (fun _ => False) w W → SL W ao (ccl l)) := fun W t => h.no t
  have HC : Hid (colsE l = colsGo (l.take 0) (l.drop 0)) := if_neg (by omega)
  clear h
  go_enter Tryz.func125, Tryz.ntmps125
  go_wp2_with fail
  go_loopw [15] (fun i wr => ∃ k : Nat, i = .int .i64 k ∧ k ≤ l.length ∧ Tch (fun _ => False) w wr ∧ Hid (colsE l = colsGo (l.take k) (l.drop k))) (fun i _ => l.length - (intOf i).toNat)
  case atStart => exact ⟨0, rfl, by omega, Tch.refl _ _, HC⟩
  case round =>
    clear HC
    obtain ⟨k, rfl, hk, hT, HC⟩ := hrel
    by_cases hlt : (k : Int) < l.length
    · have hkl : k < l.length := by omega
      have hkc : (k : Int) ≤ c := by omega
      obtain ⟨g, o, rfl, ha⟩ := (HS.out _ hT).col hkl
      obtain ⟨c0, c1, c2⟩ := ha.col k hkl
      obtain ⟨x, hx⟩ : ∃ x, x = l[k] := ⟨_, rfl⟩
      obtain ⟨E, hE⟩ : ∃ E, E = colE (l.take k) x := ⟨_, rfl⟩
      have HE : Hid (colsE l = if E ≠ 0 then E else colsGo (l.take (k + 1)) (l.drop (k + 1))) := by
        show _ = _
        rw [HC.out, colsGo_step l k hkl, hE, hx]
      rw [← hx] at c0 c1 c2
      obtain ⟨wa, hwa⟩ : ∃ wa, wa = wr.alloc (.cells #[.string x.nm, .int .i64 x.k, .bool x.nl] 54) := ⟨_, rfl⟩
      have hTa : Tch (fun _ => False) w wa := by rw [hwa]; exact hT.allocR _
      have q1 := isName_any x.nm wa
      obtain ⟨b0, b1, b2⟩ := box_cells wr (.string x.nm) (.int .i64 x.k) (.bool x.nl) 54
      rw [← hwa] at b0 b1 b2
      have HWA : Hid _ := hwa
      clear ha hx HC
      obtain ⟨B, hB⟩ : ∃ B, B = wr.heap.size := ⟨_, rfl⟩
      have HBB : Hid (B = wr.heap.size) := hB
      rw [← hB] at b0 b1 b2
      clear hwa hB
      cases hn : nmOk x.nm
      · rw [hn] at q1
        have HR : Hid (colsE l = 50) := by
          show _ = _
          have e1 : E = 50 := by rw [hE]; unfold colE; rw [if_pos hn]
          rw [HE.out, e1, if_pos (by decide)]
        clear hn hE HE
        go_wp2_with fail
        rw [← HBB.out]
        have hwa := HWA.out
        rw [← hwa]
        clear hwa
        refine q1.mono ?_
        rintro y w1 ⟨rfl, hw1⟩
        obtain rfl := hw1.symm
        clear hw1 q1
        go_wp2_with fail
        go_ret
        exact ⟨by rw [HR.out]; rfl, hTa⟩
      · rw [hn] at q1
        have htk : (l.take k).length = k := by rw [List.length_take]; omega
        have q2 := fun W (t : Tch (fun _ => False) wa W) => hasColumn_any (l.take k) (some ⟨g, o, none⟩) c x.nm W ((HS.out _ (hTa.trans' t)).takeC k) (by omega)
        rw [htk] at q2
        have q3 := fun W => kind_any x.k W
        clear htk
        cases hh : (l.take k).any (fun a => decide (a.nm = x.nm))
        · rw [hh] at q2
          have Hq2 : Hid _ := q2
          clear q2
          cases hd : kdOk x.k
          · rw [hd] at q3
            have HR : Hid (colsE l = 1) := by
              show _ = _
              have e1 : E = 1 := by rw [hE]; unfold colE; rw [if_neg (by simp [hn]), if_neg (by simp [hh]), if_pos hd]
              rw [HE.out, e1, if_pos (by decide)]
            clear hn hE HE hh hd
            go_wp2_with fail
            rw [← HBB.out]
            have hwa := HWA.out
            rw [← hwa]
            clear hwa
            refine q1.mono ?_
            rintro y w1 ⟨rfl, hw1⟩
            obtain rfl := hw1.symm
            clear hw1 q1
            have HS3 : Hid (∀ W, Tch (fun _ => False) wa W → Tch (fun _ => False) wa W ∧ W.cell? ⟨B, 0, none⟩ = some (.string x.nm)) := fun W t => ⟨t, by rw [t.cell (p := ⟨B, 0, none⟩) (cell_lt b0) (fun h => h)]; exact b0⟩
            have HB2 : Hid (∀ W, Tch (fun _ => False) wa W → W.cell? ⟨B, 0, none⟩ = some (.string x.nm) ∧ W.cell? ⟨B, 1, none⟩ = some (.int .i64 x.k)) := fun W t => ⟨by rw [t.cell (p := ⟨B, 0, none⟩) (cell_lt b0) (fun h => h)]; exact b0, by rw [t.cell (p := ⟨B, 1, none⟩) (cell_lt b1) (fun h => h)]; exact b1⟩
            go_wp2_with fail
            go_region_held3 (fun W => Tch (fun _ => False) wa W ∧ W.cell? ⟨B, 0, none⟩ = some (.string x.nm))
              ((refine HS3.out _ ?_; first | assumption | exact (Tch.refl _ _).drew))
              ((go_at_call 132; refine (Hq2.out _ (show _ ∧ _ by assumption).1).mono ?_; rintro y w2 ⟨rfl, t2⟩; have V2 := Tch.trans' (show _ ∧ _ by assumption).1 t2))
            have hT2 : Tch (fun _ => False) w w2 := hTa.trans' V2
            obtain ⟨b0, b1⟩ := HB2.out _ V2
            go_wp2_with fail
            refine (q3 w2).mono ?_
            rintro y w3 ⟨rfl, hw1⟩
            obtain rfl := hw1.symm
            clear hw1 q3
            go_wp2_with fail
            go_ret
            exact ⟨by rw [HR.out]; rfl, hT2⟩
          · rw [hd] at q3
            have HR : Hid (colsE l = colsGo (l.take (k + 1)) (l.drop (k + 1))) := by
              show _ = _
              have e1 : E = 0 := by rw [hE]; unfold colE; rw [if_neg (by simp [hn]), if_neg (by simp [hh]), if_neg (by simp [hd])]
              rw [HE.out, e1, if_neg (by simp)]
            clear hn hE HE hh hd
            go_wp2_with fail
            rw [← HBB.out]
            have hwa := HWA.out
            rw [← hwa]
            clear hwa
            refine q1.mono ?_
            rintro y w1 ⟨rfl, hw1⟩
            obtain rfl := hw1.symm
            clear hw1 q1
            have HS3 : Hid (∀ W, Tch (fun _ => False) wa W → Tch (fun _ => False) wa W ∧ W.cell? ⟨B, 0, none⟩ = some (.string x.nm)) := fun W t => ⟨t, by rw [t.cell (p := ⟨B, 0, none⟩) (cell_lt b0) (fun h => h)]; exact b0⟩
            have HB2 : Hid (∀ W, Tch (fun _ => False) wa W → W.cell? ⟨B, 0, none⟩ = some (.string x.nm) ∧ W.cell? ⟨B, 1, none⟩ = some (.int .i64 x.k)) := fun W t => ⟨by rw [t.cell (p := ⟨B, 0, none⟩) (cell_lt b0) (fun h => h)]; exact b0, by rw [t.cell (p := ⟨B, 1, none⟩) (cell_lt b1) (fun h => h)]; exact b1⟩
            go_wp2_with fail
            go_region_held3 (fun W => Tch (fun _ => False) wa W ∧ W.cell? ⟨B, 0, none⟩ = some (.string x.nm))
              ((refine HS3.out _ ?_; first | assumption | exact (Tch.refl _ _).drew))
              ((go_at_call 132; refine (Hq2.out _ (show _ ∧ _ by assumption).1).mono ?_; rintro y w2 ⟨rfl, t2⟩; have V2 := Tch.trans' (show _ ∧ _ by assumption).1 t2))
            have hT2 : Tch (fun _ => False) w w2 := hTa.trans' V2
            obtain ⟨b0, b1⟩ := HB2.out _ V2
            go_wp2_with fail
            refine (q3 w2).mono ?_
            rintro y w3 ⟨rfl, hw1⟩
            obtain rfl := hw1.symm
            clear hw1 q3
            go_wp2_with fail
            go_roundw
            case rel => exact ⟨k + 1, by go_num, by omega, hT2, HR⟩
            case measure => simp [intOf]; omega
        · rw [hh] at q2
          have Hq2 : Hid _ := q2
          clear q2
          have HR : Hid (colsE l = 54) := by
            show _ = _
            have e1 : E = 54 := by rw [hE]; unfold colE; rw [if_neg (by simp [hn]), if_pos (by simp [hh])]
            rw [HE.out, e1, if_pos (by decide)]
          clear hn hE HE hh q3
          go_wp2_with fail
          rw [← HBB.out]
          have hwa := HWA.out
          rw [← hwa]
          clear hwa
          refine q1.mono ?_
          rintro y w1 ⟨rfl, hw1⟩
          obtain rfl := hw1.symm
          clear hw1 q1
          have HS3 : Hid (∀ W, Tch (fun _ => False) wa W → Tch (fun _ => False) wa W ∧ W.cell? ⟨B, 0, none⟩ = some (.string x.nm)) := fun W t => ⟨t, by rw [t.cell (p := ⟨B, 0, none⟩) (cell_lt b0) (fun h => h)]; exact b0⟩
          have HB2 : Hid (∀ W, Tch (fun _ => False) wa W → W.cell? ⟨B, 0, none⟩ = some (.string x.nm) ∧ W.cell? ⟨B, 1, none⟩ = some (.int .i64 x.k)) := fun W t => ⟨by rw [t.cell (p := ⟨B, 0, none⟩) (cell_lt b0) (fun h => h)]; exact b0, by rw [t.cell (p := ⟨B, 1, none⟩) (cell_lt b1) (fun h => h)]; exact b1⟩
          go_wp2_with fail
          go_region_held3 (fun W => Tch (fun _ => False) wa W ∧ W.cell? ⟨B, 0, none⟩ = some (.string x.nm))
            ((refine HS3.out _ ?_; first | assumption | exact (Tch.refl _ _).drew))
            ((go_at_call 132; refine (Hq2.out _ (show _ ∧ _ by assumption).1).mono ?_; rintro y w2 ⟨rfl, t2⟩; have V2 := Tch.trans' (show _ ∧ _ by assumption).1 t2))
          have hT2 : Tch (fun _ => False) w w2 := hTa.trans' V2
          obtain ⟨b0, b1⟩ := HB2.out _ V2
          go_wp2_with fail
          go_ret
          exact ⟨by rw [HR.out]; rfl, hT2⟩
    · have HR : Hid (colsE l = 0) := by
        show _ = _
        obtain rfl : k = l.length := by omega
        rw [HC.out, colsGo_end]
      go_wp2_with fail
      go_ret
      exact ⟨by rw [HR.out]; rfl, hT⟩
end Go.Proofs.YteaagnlhkopgdaaGreatDoor.C
namespace Go.Proofs.YteaagnlhkopgdaaGreatDoor.C
open Go.RowKit
set_option maxRecDepth 100000
theorem keyOk_in {l : List Col} {key : Int} (h0 : 0 ≤ key) (h1 : key < l.length) : ∃ (h : key.toNat < l.length), keyOk l key = (decide (l[key.toNat].k ≠ 3) && !l[key.toNat].nl) := by
  have h : key.toNat < l.length := by omega
  refine ⟨h, ?_⟩
  unfold keyOk
  rw [List.getElem?_eq_getElem h]
  simp [h0]
theorem keyOk_out {l : List Col} {key : Int} (h : ¬ (0 ≤ key ∧ key < l.length)) : keyOk l key = false := by
  unfold keyOk
  by_cases h0 : 0 ≤ key
  · rw [List.getElem?_eq_none (by omega)]; simp
  · simp [h0]
theorem isKey_any (l : List Col) (ao : Option Addr) (c : Nat) (key : Int) (w : World) (h : SL w ao (ccl l)) :
    Calls Tryz.prog 126 #[.slice ao l.length c, .int .i64 key] w fun x w' => x = .returned (.bool (keyOk l key)) ∧ w' = w := by
  by_cases h0 : 0 ≤ key
  · by_cases h1 : key < l.length
    · obtain ⟨hk, he⟩ := keyOk_in h0 h1
      obtain ⟨g, o, rfl, ha⟩ := h.col hk
      obtain ⟨c0, c1, c2⟩ := ha.col key.toNat hk
      obtain ⟨x, hx⟩ : ∃ x, x = l[key.toNat] := ⟨_, rfl⟩
      rw [← hx] at he c0 c1 c2
      obtain ⟨k, rfl⟩ : ∃ k : Nat, key = k := ⟨key.toNat, by omega⟩
      simp only [Int.toNat_natCast] at c0 c1 c2
      have HE : Hid _ := he
      clear ha hx he h
      go_enter Tryz.func126, Tryz.ntmps126
      go_wp2
      all_goals (go_ret; refine ⟨vret_bool ?_, rfl⟩; rw [HE.out, Bool.eq_iff_iff]; simp at *; try simp_all)
    · have HE : Hid _ := keyOk_out (l := l) (key := key) (by omega)
      clear h
      go_enter Tryz.func126, Tryz.ntmps126
      go_wp2
      go_ret
      exact ⟨by rw [HE.out]; rfl, rfl⟩
  · have HE : Hid _ := keyOk_out (l := l) (key := key) (by omega)
    clear h
    go_enter Tryz.func126, Tryz.ntmps126
    go_wp2
    go_ret
    exact ⟨by rw [HE.out]; rfl, rfl⟩
theorem box5 {w w1 : World} {a b c d e : Value} {t : TypeId} (h : Tch (fun _ => False) (w.alloc (.cells #[a, b, c, d, e] t)) w1) : w1.cell? ⟨w.heap.size, 0, none⟩ = some a ∧ w1.cell? ⟨w.heap.size, 1, none⟩ = some b ∧ w1.cell? ⟨w.heap.size, 2, none⟩ = some c ∧ w1.cell? ⟨w.heap.size, 3, none⟩ = some d ∧ w1.cell? ⟨w.heap.size, 4, none⟩ = some e := by
  have key : ∀ j v, (w.alloc (.cells #[a, b, c, d, e] t)).cell? ⟨w.heap.size, j, none⟩ = some v → w1.cell? ⟨w.heap.size, j, none⟩ = some v := fun j v hv => (h.cell (p := ⟨_, _, none⟩) (by simp) (fun h => h)).trans hv
  exact ⟨key 0 _ (by simp), key 1 _ (by simp), key 2 _ (by simp), key 3 _ (by simp), key 4 _ (by simp)⟩
theorem right_any (t : Tbl) (ao : Option Addr) (c : Nat) (w : World) (h : SL w ao (ccl t.cols)) (hc : t.cols.length ≤ c) (hl : t.cols.length ≤ 9223372036854775807) :
    Calls Tryz.prog 120 #[tA t.id t.ver t.nm (.slice ao t.cols.length c) t.key] w fun x w' => x = .returned (.int .i64 (rightE t)) ∧ Tch (fun _ => False) w w' := by
  obtain ⟨w0, hw0⟩ : ∃ w0, w0 = w.alloc (.cells #[.int .i64 t.id, .int .i64 t.ver, .string t.nm, .slice ao t.cols.length c, .int .i64 t.key] 24) := ⟨_, rfl⟩
  have T0 : Tch (fun _ => False) w w0 := by rw [hw0]; exact Tch.alloc _ _ _
  obtain ⟨N, hN⟩ : ∃ N, N = w.heap.size := ⟨_, rfl⟩
  have HB : Hid (∀ W, Tch (fun _ => False) w0 W → W.cell? ⟨N, 0, none⟩ = some (.int .i64 t.id) ∧ W.cell? ⟨N, 1, none⟩ = some (.int .i64 t.ver) ∧ W.cell? ⟨N, 2, none⟩ = some (.string t.nm) ∧ W.cell? ⟨N, 3, none⟩ = some (.slice ao t.cols.length c) ∧ W.cell? ⟨N, 4, none⟩ = some (.int .i64 t.key)) := fun W tw => by
    rw [hw0] at tw; rw [hN]; exact box5 tw
  have HS : Hid (∀ W, Tch (fun _ => False) w0 W → SL W ao (ccl t.cols)) := fun W tw => h.no (T0.trans' tw)
  obtain ⟨b0, b1, b2, b3, b4⟩ := HB.out w0 (Tch.refl _ _)
  have q1 := number_any t.id w0
  have q2 := number_any t.ver w0
  have q3 := isName_any t.nm w0
  have q4 := wrongColumns_any t.cols ao c w0 (HS.out w0 (Tch.refl _ _)) hc hl
  have q5 := fun W tw => isKey_any t.cols ao c t.key W (HS.out W tw)
  obtain ⟨n1, e1⟩ : ∃ n1, n1 = numOk t.id := ⟨_, rfl⟩
  obtain ⟨n2, e2⟩ : ∃ n2, n2 = numOk t.ver := ⟨_, rfl⟩
  obtain ⟨n3, e3⟩ : ∃ n3, n3 = nmOk t.nm := ⟨_, rfl⟩
  obtain ⟨n4, e4⟩ : ∃ n4, n4 = colsE t.cols := ⟨_, rfl⟩
  obtain ⟨n5, e5⟩ : ∃ n5, n5 = keyOk t.cols t.key := ⟨_, rfl⟩
  have HR : Hid (rightE t = if n1 = false ∨ n2 = false then 1 else if n3 = false then 50 else if n4 ≠ 0 then n4 else if n5 = false then 56 else 0) := by
    show _ = _
    rw [e1, e2, e3, e4, e5]; rfl
  rw [← e1] at q1
  rw [← e2] at q2
  rw [← e3] at q3
  rw [← e4] at q4
  rw [← e5] at q5
  have Hw0 : Hid _ := hw0
  have HN : Hid _ := hN
  clear h e1 e2 e3 e4 e5 HS hw0 hN
  go_enter Tryz.func120, Tryz.ntmps120
  go_wp2_with fail
  rw [← HN.out]
  have hw0 := Hw0.out
  rw [← hw0]
  clear hw0
  cases n1 with
  | false =>
    refine q1.mono ?_
    rintro y w1 ⟨rfl, hw1⟩
    obtain rfl := hw1.symm
    go_wp2_with fail
    go_ret
    exact ⟨by rw [HR.out]; rfl, T0⟩
  | true =>
    refine q1.mono ?_
    rintro y w1 ⟨rfl, hw1⟩
    obtain rfl := hw1.symm
    clear hw1 q1
    cases n2 with
    | false =>
      go_wp2_with (go_at_call 123; refine q2.mono ?_; rintro y w1 ⟨rfl, hw1⟩; obtain rfl := hw1.symm; clear hw1 q2)
      go_ret
      exact ⟨by rw [HR.out]; rfl, T0⟩
    | true =>
      cases n3 with
      | false =>
        go_wp2_with (first | (go_at_call 123; refine q2.mono ?_; rintro y w1 ⟨rfl, hw1⟩; obtain rfl := hw1.symm; clear hw1 q2) | (go_at_call 124; refine q3.mono ?_; rintro y w1 ⟨rfl, hw1⟩; obtain rfl := hw1.symm; clear hw1 q3))
        go_ret
        exact ⟨by rw [HR.out]; rfl, T0⟩
      | true =>
        by_cases h4 : n4 = 0
        · subst h4
          cases n5 with
          | false =>
            go_wp2_with (first | (go_at_call 123; refine q2.mono ?_; rintro y w1 ⟨rfl, hw1⟩; obtain rfl := hw1.symm; clear hw1 q2) | (go_at_call 124; refine q3.mono ?_; rintro y w1 ⟨rfl, hw1⟩; obtain rfl := hw1.symm; clear hw1 q3) | (go_at_call 125; refine q4.mono ?_; rintro y w2 ⟨rfl, t2⟩; obtain ⟨b0, b1, b2, b3, b4⟩ := HB.out w2 t2) | (go_at_call 126; refine (q5 w2 t2).mono ?_; rintro y w3 ⟨rfl, hw1⟩; obtain rfl := hw1.symm; clear hw1))
            go_ret
            exact ⟨by rw [HR.out]; rfl, T0.trans' t2⟩
          | true =>
            go_wp2_with (first | (go_at_call 123; refine q2.mono ?_; rintro y w1 ⟨rfl, hw1⟩; obtain rfl := hw1.symm; clear hw1 q2) | (go_at_call 124; refine q3.mono ?_; rintro y w1 ⟨rfl, hw1⟩; obtain rfl := hw1.symm; clear hw1 q3) | (go_at_call 125; refine q4.mono ?_; rintro y w2 ⟨rfl, t2⟩; obtain ⟨b0, b1, b2, b3, b4⟩ := HB.out w2 t2) | (go_at_call 126; refine (q5 w2 t2).mono ?_; rintro y w3 ⟨rfl, hw1⟩; obtain rfl := hw1.symm; clear hw1))
            go_ret
            exact ⟨by rw [HR.out]; rfl, T0.trans' t2⟩
        · have HR2 : Hid (rightE t = n4) := by
            show _ = _
            rw [HR.out, if_neg (by simp), if_neg (by simp), if_pos h4]
          have hb4 : (n4 != 0) = true := by simpa using h4
          clear h4 HR
          go_wp2_with (first | (go_at_call 123; refine q2.mono ?_; rintro y w1 ⟨rfl, hw1⟩; obtain rfl := hw1.symm; clear hw1 q2) | (go_at_call 124; refine q3.mono ?_; rintro y w1 ⟨rfl, hw1⟩; obtain rfl := hw1.symm; clear hw1 q3) | (go_at_call 125; refine q4.mono ?_; rintro y w2 ⟨rfl, t2⟩; obtain ⟨b0, b1, b2, b3, b4⟩ := HB.out w2 t2))
          go_ret
          exact ⟨by rw [HR2.out]; rfl, T0.trans' t2⟩
end Go.Proofs.YteaagnlhkopgdaaGreatDoor.C
