import Derived.Test.YtececlalnkiafaaCRight
/- Right, of the code. -/
namespace Go.Proofs.Ytececlalnkiafaa
open Go.RowKit
set_option maxRecDepth 100000

theorem keyOk_in {l : List Col} {key : Int} (h0 : 0 ≤ key) (h1 : key < l.length) : ∃ (h : key.toNat < l.length), keyOk l key = (decide (l[key.toNat].k ≠ 3) && !l[key.toNat].nl) := by
  have h : key.toNat < l.length := by omega
  refine ⟨h, ?_⟩
  unfold keyOk
  rw [List.getElem?_eq_getElem h]
  simp [h0]
theorem keyOk_out {l : List Col} {key : Int} (h : ¬ (0 ≤ key ∧ key < l.length)) : keyOk l key = false := by
  unfold keyOk
  by_cases h0 : 0 ≤ key
  · rw [List.getElem?_eq_none (by omega)]; simp
  · simp [h0]
set_option maxHeartbeats 1000000 in
theorem isKey_any (l : List Col) (ao : Option Addr) (c : Nat) (key : Int) (w : World) (h : SL w ao (ccl l)) :
    Calls Try.prog 46 #[.slice ao l.length c, .int .i64 key] w fun x w' => x = .returned (.bool (keyOk l key)) ∧ w' = w := by
  by_cases h0 : 0 ≤ key
  · by_cases h1 : key < l.length
    · obtain ⟨hk, he⟩ := keyOk_in h0 h1
      obtain ⟨g, o, rfl, ha⟩ := h.col hk
      obtain ⟨c0, c1, c2⟩ := ha.col key.toNat hk
      obtain ⟨x, hx⟩ : ∃ x, x = l[key.toNat] := ⟨_, rfl⟩
      rw [← hx] at he c0 c1 c2
      obtain ⟨k, rfl⟩ : ∃ k : Nat, key = k := ⟨key.toNat, by omega⟩
      simp only [Int.toNat_natCast] at c0 c1 c2
      have HE : Hid _ := he
      clear ha hx he h
      go_enter Try.func46, Try.ntmps46
      go_wp2
      all_goals (go_ret; refine ⟨vret_bool ?_, rfl⟩; rw [HE.out, Bool.eq_iff_iff]; simp at *; try simp_all)
    · have HE : Hid _ := keyOk_out (l := l) (key := key) (by omega)
      clear h
      go_enter Try.func46, Try.ntmps46
      go_wp2
      go_ret
      exact ⟨by rw [HE.out]; rfl, rfl⟩
  · have HE : Hid _ := keyOk_out (l := l) (key := key) (by omega)
    clear h
    go_enter Try.func46, Try.ntmps46
    go_wp2
    go_ret
    exact ⟨by rw [HE.out]; rfl, rfl⟩
theorem box5 {w w1 : World} {a b c d e : Value} {t : TypeId} (h : Tch (fun _ => False) (w.alloc (.cells #[a, b, c, d, e] t)) w1) : w1.cell? ⟨w.heap.size, 0, none⟩ = some a ∧ w1.cell? ⟨w.heap.size, 1, none⟩ = some b ∧ w1.cell? ⟨w.heap.size, 2, none⟩ = some c ∧ w1.cell? ⟨w.heap.size, 3, none⟩ = some d ∧ w1.cell? ⟨w.heap.size, 4, none⟩ = some e := by
  have key : ∀ j v, (w.alloc (.cells #[a, b, c, d, e] t)).cell? ⟨w.heap.size, j, none⟩ = some v → w1.cell? ⟨w.heap.size, j, none⟩ = some v := fun j v hv => (h.cell (p := ⟨_, _, none⟩) (by simp) (fun h => h)).trans hv
  exact ⟨key 0 _ (by simp), key 1 _ (by simp), key 2 _ (by simp), key 3 _ (by simp), key 4 _ (by simp)⟩

set_option maxHeartbeats 2000000 in
theorem right_any (t : Tbl) (ao : Option Addr) (c : Nat) (w : World) (h : SL w ao (ccl t.cols)) (hc : t.cols.length ≤ c) (hl : t.cols.length ≤ 9223372036854775807) :
    Calls Try.prog 24 #[tA t.id t.ver t.nm (.slice ao t.cols.length c) t.key] w fun x w' => x = .returned (.int .i64 (rightE t)) ∧ Tch (fun _ => False) w w' := by
  obtain ⟨w0, hw0⟩ : ∃ w0, w0 = w.alloc (.cells #[.int .i64 t.id, .int .i64 t.ver, .string t.nm, .slice ao t.cols.length c, .int .i64 t.key] 36) := ⟨_, rfl⟩
  have T0 : Tch (fun _ => False) w w0 := by rw [hw0]; exact Tch.alloc _ _ _
  obtain ⟨N, hN⟩ : ∃ N, N = w.heap.size := ⟨_, rfl⟩
  have HB : Hid (∀ W, Tch (fun _ => False) w0 W → W.cell? ⟨N, 0, none⟩ = some (.int .i64 t.id) ∧ W.cell? ⟨N, 1, none⟩ = some (.int .i64 t.ver) ∧ W.cell? ⟨N, 2, none⟩ = some (.string t.nm) ∧ W.cell? ⟨N, 3, none⟩ = some (.slice ao t.cols.length c) ∧ W.cell? ⟨N, 4, none⟩ = some (.int .i64 t.key)) := fun W tw => by
    rw [hw0] at tw; rw [hN]; exact box5 tw
  have HS : Hid (∀ W, Tch (fun _ => False) w0 W → SL W ao (ccl t.cols)) := fun W tw => h.no (T0.trans' tw)
  obtain ⟨b0, b1, b2, b3, b4⟩ := HB.out w0 (Tch.refl _ _)
  have q1 := number_any t.id w0
  have q2 := number_any t.ver w0
  have q3 := isName_any t.nm w0
  have q4 := wrongColumns_any t.cols ao c w0 (HS.out w0 (Tch.refl _ _)) hc hl
  have q5 := fun W tw => isKey_any t.cols ao c t.key W (HS.out W tw)
  obtain ⟨n1, e1⟩ : ∃ n1, n1 = numOk t.id := ⟨_, rfl⟩
  obtain ⟨n2, e2⟩ : ∃ n2, n2 = numOk t.ver := ⟨_, rfl⟩
  obtain ⟨n3, e3⟩ : ∃ n3, n3 = nmOk t.nm := ⟨_, rfl⟩
  obtain ⟨n4, e4⟩ : ∃ n4, n4 = colsE t.cols := ⟨_, rfl⟩
  obtain ⟨n5, e5⟩ : ∃ n5, n5 = keyOk t.cols t.key := ⟨_, rfl⟩
  have HR : Hid (rightE t = if n1 = false ∨ n2 = false then 1 else if n3 = false then 50 else if n4 ≠ 0 then n4 else if n5 = false then 56 else 0) := by
    show _ = _
    rw [e1, e2, e3, e4, e5]; rfl
  rw [← e1] at q1
  rw [← e2] at q2
  rw [← e3] at q3
  rw [← e4] at q4
  rw [← e5] at q5
  have Hw0 : Hid _ := hw0
  have HN : Hid _ := hN
  clear h e1 e2 e3 e4 e5 HS hw0 hN
  go_enter Try.func24, Try.ntmps24
  go_wp2_with fail
  rw [← HN.out]
  have hw0 := Hw0.out
  rw [← hw0]
  clear hw0
  cases n1 with
  | false =>
    refine q1.mono ?_
    rintro y w1 ⟨rfl, hw1⟩
    obtain rfl := hw1.symm
    go_wp2_with fail
    go_ret
    exact ⟨by rw [HR.out]; rfl, T0⟩
  | true =>
    refine q1.mono ?_
    rintro y w1 ⟨rfl, hw1⟩
    obtain rfl := hw1.symm
    clear hw1 q1
    cases n2 with
    | false =>
      go_wp2_with (go_at_call 43; refine q2.mono ?_; rintro y w1 ⟨rfl, hw1⟩; obtain rfl := hw1.symm; clear hw1 q2)
      go_ret
      exact ⟨by rw [HR.out]; rfl, T0⟩
    | true =>
      cases n3 with
      | false =>
        go_wp2_with (first | (go_at_call 43; refine q2.mono ?_; rintro y w1 ⟨rfl, hw1⟩; obtain rfl := hw1.symm; clear hw1 q2) | (go_at_call 44; refine q3.mono ?_; rintro y w1 ⟨rfl, hw1⟩; obtain rfl := hw1.symm; clear hw1 q3))
        go_ret
        exact ⟨by rw [HR.out]; rfl, T0⟩
      | true =>
        by_cases h4 : n4 = 0
        · subst h4
          cases n5 with
          | false =>
            go_wp2_with (first | (go_at_call 43; refine q2.mono ?_; rintro y w1 ⟨rfl, hw1⟩; obtain rfl := hw1.symm; clear hw1 q2) | (go_at_call 44; refine q3.mono ?_; rintro y w1 ⟨rfl, hw1⟩; obtain rfl := hw1.symm; clear hw1 q3) | (go_at_call 45; refine q4.mono ?_; rintro y w2 ⟨rfl, t2⟩; obtain ⟨b0, b1, b2, b3, b4⟩ := HB.out w2 t2) | (go_at_call 46; refine (q5 w2 t2).mono ?_; rintro y w3 ⟨rfl, hw1⟩; obtain rfl := hw1.symm; clear hw1))
            go_ret
            exact ⟨by rw [HR.out]; rfl, T0.trans' t2⟩
          | true =>
            go_wp2_with (first | (go_at_call 43; refine q2.mono ?_; rintro y w1 ⟨rfl, hw1⟩; obtain rfl := hw1.symm; clear hw1 q2) | (go_at_call 44; refine q3.mono ?_; rintro y w1 ⟨rfl, hw1⟩; obtain rfl := hw1.symm; clear hw1 q3) | (go_at_call 45; refine q4.mono ?_; rintro y w2 ⟨rfl, t2⟩; obtain ⟨b0, b1, b2, b3, b4⟩ := HB.out w2 t2) | (go_at_call 46; refine (q5 w2 t2).mono ?_; rintro y w3 ⟨rfl, hw1⟩; obtain rfl := hw1.symm; clear hw1))
            go_ret
            exact ⟨by rw [HR.out]; rfl, T0.trans' t2⟩
        · have HR2 : Hid (rightE t = n4) := by
            show _ = _
            rw [HR.out, if_neg (by simp), if_neg (by simp), if_pos h4]
          have hb4 : (n4 != 0) = true := by simpa using h4
          clear h4 HR
          go_wp2_with (first | (go_at_call 43; refine q2.mono ?_; rintro y w1 ⟨rfl, hw1⟩; obtain rfl := hw1.symm; clear hw1 q2) | (go_at_call 44; refine q3.mono ?_; rintro y w1 ⟨rfl, hw1⟩; obtain rfl := hw1.symm; clear hw1 q3) | (go_at_call 45; refine q4.mono ?_; rintro y w2 ⟨rfl, t2⟩; obtain ⟨b0, b1, b2, b3, b4⟩ := HB.out w2 t2))
          go_ret
          exact ⟨by rw [HR2.out]; rfl, T0.trans' t2⟩
end Go.Proofs.Ytececlalnkiafaa
