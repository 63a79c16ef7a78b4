import Derived.Test.YtjbehnoococelaaMWn
import Derived.Test.YtjbehnoococelaaMGet
/- The heap's face; small functions of the law. -/
namespace Go.Proofs.Ytjbehnoococelaa
open Go.RowKit Go Go.Sort Go.Maps

theorem pick9_any (c : Int) (n : Nat) (w : World) (h1 : -9223372036854775808 ≤ c) (h2 : c ≤ 9223372036854775807) (hn : 0 < n) (hn2 : n ≤ 9223372036854775807) : Calls Try.prog 10 #[.int .i64 c, .int .i64 n] w fun x w' => x = .returned (.int .i64 (pkN c n)) ∧ w' = w := by
  have hn0 : ¬ (n : Int) = 0 := by omega
  have hnb : ((n : Int) == 0) = false := by simp; omega
  by_cases hc : c < 0
  · obtain ⟨d, hd⟩ : ∃ d : Nat, -(c + 1) = d := ⟨(-(c + 1)).toNat, by omega⟩
    obtain ⟨rfl⟩ : c = -(d : Int) - 1 := by omega
    have HE : Hid (((d : Int) % n) = (pkN (-(d : Int) - 1) n : Nat)) := by
      show _ = _
      have e : (if (-(d : Int) - 1) < 0 then -((-(d : Int) - 1) + 1) else (-(d : Int) - 1)) = (d : Int) := by rw [if_pos hc]; omega
      simp only [pkN, e]
      have := Int.emod_nonneg (d : Int) (show (n : Int) ≠ 0 by omega)
      omega
    clear hd
    go_enter Try.func10, Try.ntmps10
    go_wp2
    go_ret
    exact ⟨by rw [← HE.out]; rfl, rfl⟩
  · obtain ⟨d, rfl⟩ : ∃ d : Nat, c = d := ⟨c.toNat, by omega⟩
    have HE : Hid (((d : Int) % n) = (pkN (d : Int) n : Nat)) := by
      show _ = _
      have e : (if (d : Int) < 0 then -((d : Int) + 1) else (d : Int)) = (d : Int) := if_neg (by omega)
      simp only [pkN, e]
      have := Int.emod_nonneg (d : Int) (show (n : Int) ≠ 0 by omega)
      omega
    go_enter Try.func10, Try.ntmps10
    go_wp2
    go_ret
    exact ⟨by rw [← HE.out]; rfl, rfl⟩


section
variable {w : World} {hb mb : Nat} {m : Mg} {L : HL} {F : Nat → Prop} {q : Nat}
theorem HS.fw (h : HS w hb mb m L F q) : ∀ i, F i → i < w.heap.size := by
  obtain ⟨_, _, _, _, _, _, _, _, _, h5⟩ := h
  exact fun i hi => (h5 i hi).2
theorem HS.more (h : HS w hb mb m L F q) {q' : Nat} (hq : q ≤ q') : HS w hb mb m L F q' := by
  obtain ⟨tb, T, E, C, σ, h1, h2⟩ := h
  exact ⟨tb, T, E, C, σ, h1.more hq, h2⟩
theorem HS.mono (h : HS w hb mb m L F q) {G : Nat → Prop} (hG : ∀ i, G i → F i) : HS w hb mb m L G q := by
  obtain ⟨tb, T, E, C, σ, h1, h2, h3, h4, h5⟩ := h
  exact ⟨tb, T, E, C, σ, h1, h2, h3, h4.mono (fun i hi => hi.imp (hG i) id), fun i hi => h5 i (hG i hi)⟩
/-- New blocks are nobody's. -/
theorem HS.fresh {w' : World} (h : HS w hb mb m L F q) (t : Tch (fun _ => False) w w') : HS w' hb mb m L (fun i => F i ∨ w.heap.size ≤ i ∧ i < w'.heap.size) q := by
  obtain ⟨tb, T, E, C, σ, h1, h2, h3, h4, h5⟩ := h
  refine ⟨tb, T, E, C, σ, h1.no t, h2, h3, (h4.fresh t).mono (fun i hi => ?_), fun i hi => ?_⟩
  · rcases hi with (hi | hi) | hi
    · exact .inl (.inl hi)
    · exact .inr hi
    · exact .inl (.inr hi)
  · rcases hi with hi | hi
    · exact ⟨(h5 i hi).1, Nat.lt_of_lt_of_le (h5 i hi).2 t.size⟩
    · refine ⟨?_, hi.2⟩
      cases hs : σ i with
      | none => rfl
      | some a => exact absurd (h1.dom i (by rw [hs]; exact fun h => by cases h)) (by omega)
/-- What is turned is F's. -/
theorem HS.tch {S : Nat → Prop} {w' : World} (h : HS w hb mb m L F q) (t : Tch S w w') (hS : ∀ i, i < w.heap.size → S i → F i) : HS w' hb mb m L F q := by
  obtain ⟨tb, T, E, C, σ, h1, h2, h3, h4, h5⟩ := h
  exact ⟨tb, T, E, C, σ, h1.tch t (fun i hi hs => (h5 i (hS i hi hs)).1), h2, h3, h4.tch t (fun i hi hs => .inl (hS i hi hs)), fun i hi => ⟨(h5 i hi).1, Nat.lt_of_lt_of_le (h5 i hi).2 t.size⟩⟩
theorem hs_turn {f : FuncId} {args : Array Value} {X : Ending → Prop} {m' : Mg} (h : HS w hb mb m L F q) (hc : ∀ F', MF w mb m F' → Calls Try.prog f args w fun x w' => X x ∧ MF w' mb m' F' ∧ Kept F' w w') : Calls Try.prog f args w fun x w' => X x ∧ HS w' hb mb m' L F q ∧ Kept F w w' := by
  obtain ⟨tb, T, E, C, σ, h1, h2, h3, h4, h5⟩ := h
  refine (hc _ h4).mono ?_
  rintro x w' ⟨hx, hM, t⟩
  refine ⟨hx, ⟨tb, T, E, C, σ, h1.tch t (fun i _ hs => ?_), h2, h3, hM, fun i hi => ⟨(h5 i hi).1, Nat.lt_of_lt_of_le (h5 i hi).2 t.size⟩⟩, t.mono (fun i _ hs hf => hs (.inl hf))⟩
  cases hs' : σ i with
  | none => rfl
  | some a => exact absurd (Or.inr (by rw [hs']; exact fun h => by cases h)) hs
theorem HS.mf (h : HS w hb mb m L F q) : ∃ F', MF w mb m F' := by
  obtain ⟨tb, T, E, C, σ, h1, h2, h3, h4, h5⟩ := h
  exact ⟨_, h4⟩
theorem begin_h (h : HS w hb mb m L F q) (hn : m.nx ≤ 2147483647) : Calls Try.prog 7 #[.pointer (some ⟨mb, 0, none⟩)] w fun x w' => x = .returned (.tuple #[.int .i64 m.nx, .int .i64 0]) ∧ HS w' hb mb m.begin L F q ∧ Kept F w w' := hs_turn (X := fun x => x = .returned (.tuple #[.int .i64 m.nx, .int .i64 0])) h (fun F' hM => begin_f mb m w F' hM hn)
theorem snapshot_h (h : HS w hb mb m L F q) : Calls Try.prog 6 #[.pointer (some ⟨mb, 0, none⟩)] w fun x w' => SnapOut m w x w' := by
  obtain ⟨F', hM⟩ := h.mf
  exact snapshot_f mb m w F' hM
theorem part_h (h : HS w hb mb m L F q) {k : Int} {t : Tx} {i : Int} (hf : fnd m.tx k = some (t, i)) (hp : partE m t i = 0) (h1 : -9223372036854775808 ≤ k) (h2 : k ≤ 9223372036854775807) : Calls Try.prog 8 #[.pointer (some ⟨mb, 0, none⟩), .int .i64 k] w fun x w' => x = .returned (.tuple #[.int .i64 m.nx, .int .i64 0]) ∧ HS w' hb mb (m.part t i) L F q ∧ Kept F w w' := hs_turn (X := fun x => x = .returned (.tuple #[.int .i64 m.nx, .int .i64 0])) h (fun F' hM => (part_f mb m w F' hM k h1 h2).mono (fun _ _ ⟨_, ho⟩ => (ho.2 t i hf).2 hp))
theorem back_h (h : HS w hb mb m L F q) {k : Int} {t : Tx} {i : Nat} (hf : fnd m.tx k = some (t, (i : Int))) (hp : may t i = true) (h1 : -9223372036854775808 ≤ k) (h2 : k ≤ 9223372036854775807) : Calls Try.prog 14 #[.pointer (some ⟨mb, 0, none⟩), .int .i64 k] w fun x w' => x = .returned (.int .i64 0) ∧ HS w' hb mb (m.endp t.x i 2) L F q ∧ Kept F w w' := hs_turn (X := fun x => x = .returned (.int .i64 0)) h (fun F' hM => (back_f mb m w F' hM k h1 h2).mono (fun _ _ ⟨_, ho⟩ => ho.2 t i hf hp))
theorem commit_h (h : HS w hb mb m L F q) {k : Int} {t : Tx} (hf : fnd m.tx k = some (t, -1)) (hp : t.st < 3) (h1 : -9223372036854775808 ≤ k) (h2 : k ≤ 9223372036854775807) : Calls Try.prog 19 #[.pointer (some ⟨mb, 0, none⟩), .int .i64 k] w fun x w' => x = .returned (.int .i64 0) ∧ HS w' hb mb (m.fin t.x 3) L F q ∧ Kept F w w' := hs_turn (X := fun x => x = .returned (.int .i64 0)) h (fun F' hM => (commit_f mb m w F' hM k h1 h2).mono (fun _ _ ⟨_, ho⟩ => (ho.2 t hf).2 (by omega)))
theorem get_f (h : HS w hb mb m L F q) (hq : q ≤ 2000) (k : Int) (h1 : -9223372036854775808 ≤ k) (h2 : k ≤ 9223372036854775807) (S : ByteArray) (hS : S.size ≤ maxLen) (mn mx : Int) (l : List Int) (so : Option Addr) (sc : Nat) (own : Int) (h3 : -9223372036854775808 ≤ own) (h4 : own ≤ 9223372036854775807) (hl : l.length ≤ 9223372036854775807) (hi : IR w so l) :
    Calls Try.prog 17 #[.pointer (some ⟨hb, 0, none⟩), .agg #[.int .i64 mn, .int .i64 mx, .slice so l.length sc], .int .i64 own, .int .i64 k, .string S] w fun x w' => GetOut w (getV m mn mx l own (chL L k S.data.toList)) x w' := by
  obtain ⟨tb, T, E, C, σ, hw, rfl, _, hM, _⟩ := h
  exact get_w w hb mb tb T E C σ q hw hq m _ hM k h1 h2 S hS mn mx l so sc own h3 h4 hl hi
theorem written_f (h : HS w hb mb m L F q) (hq : q ≤ 1000000) (k : Int) (h1 : -9223372036854775808 ≤ k) (h2 : k ≤ 9223372036854775807) (xid : Int) (h3 : -9223372036854775808 ≤ xid) (h4 : xid ≤ 9223372036854775807) :
    Calls Try.prog 9 #[.pointer (some ⟨hb, 0, none⟩), .int .i64 k, .int .i64 xid] w fun x w' => x = .returned (.bool (wrtL m L k xid)) ∧ Tch (fun _ => False) w w' := by
  obtain ⟨tb, T, E, C, σ, hw, rfl, _, hM, _⟩ := h
  exact written_w w hb mb tb T E C σ q hw hq m _ hM k h1 h2 xid h3 h4
theorem versions_f (h : HS w hb mb m L F q) (hN : (L.map (fun p => p.2.length)).sum ≤ 1000000) :
    Calls Try.prog 15 #[.pointer (some ⟨hb, 0, none⟩)] w fun x w' => x = .returned (.int .i64 ((L.map (fun p => p.2.length)).sum : Nat)) ∧ Tch (fun _ => False) w w' := by
  obtain ⟨tb, T, E, C, σ, hw, rfl, _, hM, _⟩ := h
  rw [← cnt_all] at hN ⊢
  exact versions_w w hb mb tb T E C σ q hw hN
end
/-- A key of the law's. -/
def keyB (k : Nat) : ByteArray := ⟨#[107, UInt8.ofNat (97 + k)]⟩
theorem cv_byte (n : Nat) (hn : n < 256) (w : World) : (convert 90 9 (.slice (some ⟨w.heap.size, 0, none⟩) 1 1)).run Try.prog (w.alloc (.cells #[.int .u8 (n : Int)] 5)) = .ok (.string ⟨#[UInt8.ofNat n]⟩) (w.alloc (.cells #[.int .u8 (n : Int)] 5)) := by
  have := run_convert_bytes_back (P := Try.prog) (w.alloc (.cells #[.int .u8 (n : Int)] 5)) 90 9 5 ⟨w.heap.size, 0, none⟩ 1 [UInt8.ofNat n] Try.underlying90 Try.underlying5 Try.underlying9 (fun j hj => by
    have e : j = 0 := by simpa using hj
    subst e
    rw [add_plain, blk_cell (alloc_new _ _)]
    simp [Nat.mod_eq_of_lt hn])
  exact this
set_option maxRecDepth 100000 in
theorem keyOf_any (k : Nat) (hk : k < 6) (w : World) : Calls Try.prog 12 #[.int .i64 k] w fun x w' => x = .returned (.string (keyB k)) ∧ Tch (fun _ => False) w w' := by
  rcases (by omega : k = 0 ∨ k = 1 ∨ k = 2 ∨ k = 3 ∨ k = 4 ∨ k = 5) with rfl | rfl | rfl | rfl | rfl | rfl
  · have hcv : (convert 90 9 (.slice (some ⟨w.heap.size, 0, none⟩) 1 1)).run Try.prog (w.alloc (.cells #[.int .u8 97] 5)) = .ok (.string ⟨#[97]⟩) (w.alloc (.cells #[.int .u8 97] 5)) := cv_byte 97 (by decide) w
    go_enter Try.func12, Try.ntmps12
    go_wp2
    go_ret
    exact ⟨rfl, Tch.alloc _ _ _⟩
  · have hcv : (convert 90 9 (.slice (some ⟨w.heap.size, 0, none⟩) 1 1)).run Try.prog (w.alloc (.cells #[.int .u8 98] 5)) = .ok (.string ⟨#[98]⟩) (w.alloc (.cells #[.int .u8 98] 5)) := cv_byte 98 (by decide) w
    go_enter Try.func12, Try.ntmps12
    go_wp2
    go_ret
    exact ⟨rfl, Tch.alloc _ _ _⟩
  · have hcv : (convert 90 9 (.slice (some ⟨w.heap.size, 0, none⟩) 1 1)).run Try.prog (w.alloc (.cells #[.int .u8 99] 5)) = .ok (.string ⟨#[99]⟩) (w.alloc (.cells #[.int .u8 99] 5)) := cv_byte 99 (by decide) w
    go_enter Try.func12, Try.ntmps12
    go_wp2
    go_ret
    exact ⟨rfl, Tch.alloc _ _ _⟩
  · have hcv : (convert 90 9 (.slice (some ⟨w.heap.size, 0, none⟩) 1 1)).run Try.prog (w.alloc (.cells #[.int .u8 100] 5)) = .ok (.string ⟨#[100]⟩) (w.alloc (.cells #[.int .u8 100] 5)) := cv_byte 100 (by decide) w
    go_enter Try.func12, Try.ntmps12
    go_wp2
    go_ret
    exact ⟨rfl, Tch.alloc _ _ _⟩
  · have hcv : (convert 90 9 (.slice (some ⟨w.heap.size, 0, none⟩) 1 1)).run Try.prog (w.alloc (.cells #[.int .u8 101] 5)) = .ok (.string ⟨#[101]⟩) (w.alloc (.cells #[.int .u8 101] 5)) := cv_byte 101 (by decide) w
    go_enter Try.func12, Try.ntmps12
    go_wp2
    go_ret
    exact ⟨rfl, Tch.alloc _ _ _⟩
  · have hcv : (convert 90 9 (.slice (some ⟨w.heap.size, 0, none⟩) 1 1)).run Try.prog (w.alloc (.cells #[.int .u8 102] 5)) = .ok (.string ⟨#[102]⟩) (w.alloc (.cells #[.int .u8 102] 5)) := cv_byte 102 (by decide) w
    go_enter Try.func12, Try.ntmps12
    go_wp2
    go_ret
    exact ⟨rfl, Tch.alloc _ _ _⟩
/-- A row of the law's. -/
def rowC (c : Int) : List Value := [.int .i64 1, .int .i64 c, .string ⟨#[]⟩]
theorem row_any (c : Int) (w : World) : Calls Try.prog 13 #[.int .i64 c] w fun x w' => x = .returned (.slice (some ⟨w.heap.size, 0, none⟩) 1 1) ∧ w' = w.alloc (.cells #[.int .i64 1, .int .i64 c, .string ⟨#[]⟩] 92) := by
  go_enter Try.func13, Try.ntmps13
  go_wp2
  go_ret
  exact ⟨rfl, rfl⟩
theorem row_rd (c : Int) (w : World) : RdR (w.alloc (.cells #[.int .i64 1, .int .i64 c, .string ⟨#[]⟩] 92)) (some ⟨w.heap.size, 0, none⟩) 1 1 (rowC c) := by
  refine ⟨rfl, by simp [rowC, Value.oneCell'], by omega, .inr ⟨_, _, rfl, by simp, fun j u hu => ?_⟩⟩
  rw [blk_cell (alloc_new _ _)]
  simpa [rowC] using hu
theorem number_any (ao : Option Addr) (c : Nat) (k : Nat) (w : World) (hk : k ≤ 1000) (h : RdR w ao 1 c (rowC k)) : Calls Try.prog 18 #[.slice ao 1 c, .int .i64 0] w fun x w' => x = .returned (.int .i64 (k + 1 : Nat)) ∧ w' = w := by
  rcases h.at' with ⟨_, h0, _⟩ | ⟨g, o, rfl, hg, hc⟩
  · cases h0
  have c0 := hc 0 _ rfl
  have c1 := hc 1 _ rfl
  have c0' : w.cell? ⟨g, o, none⟩ = some (.int .i64 1) := c0
  have hwp : wrap64 ((k : Int) + 1) = ((k + 1 : Nat) : Int) := by unfold wrap64; omega
  clear h hc c0
  go_enter Try.func18, Try.ntmps18
  go_wp2
  go_ret
  exact ⟨rfl, rfl⟩
end Go.Proofs.Ytjbehnoococelaa
