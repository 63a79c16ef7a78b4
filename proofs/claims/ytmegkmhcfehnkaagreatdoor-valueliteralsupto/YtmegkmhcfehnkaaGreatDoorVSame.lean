import Derived.Test.YtmegkmhcfehnkaaGreatDoorVDec2
import Derived.BigQuiet
/- Rows that are the same. -/
namespace Go.Proofs.YtmegkmhcfehnkaaGreatDoor
open Go.RowKit

theorem Val.ext' {a b : Val} (h : a.k = b.k ∧ a.n = b.n ∧ a.s = b.s) : a = b := by
  obtain ⟨ak, an, sa⟩ := a
  obtain ⟨bk, bn, sb⟩ := b
  simp at h
  simp [h]
/-- A row that is handed in: where it lies if it isn't empty. -/
def RowOf (w : World) (ao : Option Addr) (vs : List Val) : Prop := vs ≠ [] → ∃ g o, ao = some ⟨g, o, none⟩ ∧ RowAt w g o vs
theorem RowOf.tch {S : Nat → Prop} {w w' : World} {ao : Option Addr} {vs : List Val} (h : RowOf w ao vs) (t : Tch S w w') (hS : ∀ g o, ao = some ⟨g, o, none⟩ → ¬ S g) : RowOf w' ao vs := by
  intro hv
  obtain ⟨g, o, ha, hr⟩ := h hv
  exact ⟨g, o, ha, hr.tch t (fun _ => hS g o ha)⟩
theorem RowOf.no {w w' : World} {ao : Option Addr} {vs : List Val} (h : RowOf w ao vs) (t : Tch (fun _ => False) w w') : RowOf w' ao vs := h.tch t (fun _ _ _ h => h)

theorem eq_val (a b : Val) : ∃ d : Bool, (d = true ↔ a = b) ∧ ∀ w, (Op.equalIn 10000 23 (.agg #[.int .i64 a.k, .int .i64 a.n, .string a.s]) (.agg #[.int .i64 b.k, .int .i64 b.n, .string b.s])).run Tryz.prog w = .ok d w := by
  have u3 := Tryz.underlying3
  have u9 := Tryz.underlying9
  have hS : Tryz.prog.underlying 23 = some (.struct (Tryz.prog.fieldsOf 23)) := by kernel_rfl
  have hp : Tryz.prog.stoodInHeld 23 = false := by kernel_rfl
  refine ⟨decide (a.k = b.k ∧ a.n = b.n ∧ a.s = b.s), ?_, fun w => ?_⟩
  · simp only [decide_eq_true_eq]
    exact ⟨Val.ext', fun h => by subst h; exact ⟨rfl, rfl, rfl⟩⟩
  · rw [show (10000 : Nat) = 9999 + 1 from rfl, run_equalIn_agg w 9999 23 _ _ hS hp]
    simp only [Program.fieldsOf, Tryz.underlying23]
    go_simp
    have hs : (a.s.toList = b.s.toList) ↔ a.s = b.s := by
      rw [ByteArray.toList_eq, ByteArray.toList_eq]
      exact ⟨fun h => ByteArray.ext (Array.ext' h), fun h => by rw [h]⟩
    by_cases h1 : a.k = b.k <;> by_cases h2 : a.n = b.n <;> by_cases h3 : a.s = b.s <;> simp [h1, h2, h3, hs]
theorem ne_val (a b : Val) : ∃ d : Bool, (d = true ↔ a ≠ b) ∧ ∀ w, (binOp .neq 23 (.agg #[.int .i64 a.k, .int .i64 a.n, .string a.s]) (.agg #[.int .i64 b.k, .int .i64 b.n, .string b.s])).run Tryz.prog w = .ok (.bool d) w := by
  obtain ⟨d, h1, h2⟩ := eq_val a b
  refine ⟨!d, ?_, fun w => ?_⟩
  · cases d <;> simp_all
  · rw [run_neq_struct, h2]; rfl
theorem eql_val (a b : Val) : ∃ d : Bool, (d = true ↔ a = b) ∧ ∀ w, (binOp .eql 23 (.agg #[.int .i64 a.k, .int .i64 a.n, .string a.s]) (.agg #[.int .i64 b.k, .int .i64 b.n, .string b.s])).run Tryz.prog w = .ok (.bool d) w := by
  obtain ⟨d, h1, h2⟩ := eq_val a b
  refine ⟨d, h1, fun w => ?_⟩
  rw [run_eql_struct, h2]; rfl

def EqOut (xs ys : List Val) (w : World) (x : Ending) (w' : World) : Prop := ∃ b : Bool, x = .returned (.bool b) ∧ (b = true ↔ xs = ys) ∧ ∃ m, w' = w.drewN m
set_option maxHeartbeats 2000000 in
set_option maxRecDepth 100000 in
theorem equal_any (xs ys : List Val) (ao bo : Option Addr) (ca cb : Nat) (w : World) (ha : RowOf w ao xs) (hb : RowOf w bo ys) (h1 : xs.length ≤ 9223372036854775807) :
    Calls Tryz.prog 28 #[.slice ao xs.length ca, .slice bo ys.length cb] w fun x w' => EqOut xs ys w x w' := by
  by_cases hl : xs.length = ys.length
  · have HA : Hid (∀ m, RowOf (w.drewN m) ao xs) := fun m => ha.no ((Tch.refl _ w).drewN m)
    have HB : Hid (∀ m, RowOf (w.drewN m) bo ys) := fun m => hb.no ((Tch.refl _ w).drewN m)
    have HL : Hid (xs.length = ys.length) := hl
    obtain ⟨n, hn⟩ : ∃ n, n = xs.length := ⟨_, rfl⟩
    have hn2 : n = ys.length := by omega
    rw [← hn, ← hn2]
    have HN : Hid (n = xs.length ∧ n = ys.length) := ⟨hn, hn2⟩
    rw [← hn] at h1
    clear ha hb hl hn hn2
    go_enter Tryz.func28, Tryz.ntmps28
    go_wp2_with fail
    go_loopw [13] (fun i wr => ∃ (k m : Nat), i = .int .i64 k ∧ k ≤ n ∧ Hid (∀ j (h1 : j < xs.length) (h2 : j < ys.length), j < k → xs[j] = ys[j]) ∧ wr = w.drewN m) (fun i _ => n - (intOf i).toNat)
    case atStart => exact ⟨0, 0, rfl, by omega, fun j _ _ h => by omega, rfl⟩
    case round =>
      obtain ⟨k, m, rfl, hk, HE, hwr⟩ := hrel
      by_cases hlt : (k : Int) < n
      · have hA := HA.out m
        have hB := HB.out m
        rw [← hwr] at hA hB
        have hx : k < xs.length := by have := HN.out.1; omega
        have hy : k < ys.length := by have := HN.out.2; omega
        obtain ⟨ga, oa, rfl, hra⟩ := hA (by intro e; rw [e] at hx; simp at hx)
        obtain ⟨gb, ob, rfl, hrb⟩ := hB (by intro e; rw [e] at hy; simp at hy)
        obtain ⟨a0, a1, a2⟩ := hra k hx
        obtain ⟨b0, b1, b2⟩ := hrb k hy
        have HW : Hid (wr = w.drewN m) := hwr
        obtain ⟨u, hu⟩ : ∃ u, u = xs[k] := ⟨_, rfl⟩
        obtain ⟨v, hv⟩ : ∃ v, v = ys[k] := ⟨_, rfl⟩
        rw [← hu] at a0 a1 a2
        rw [← hv] at b0 b1 b2
        have HU : Hid (u = xs[k] ∧ v = ys[k]) := ⟨hu, hv⟩
        clear hA hB hra hrb hwr hu hv
        obtain ⟨d, hd1, hd⟩ := ne_val u v
        have HD : Hid (d = true ↔ u ≠ v) := hd1
        clear hd1
        cases d with
        | true =>
          go_wp2_with fail
          go_quiet (fail)
          go_wp2
          go_ret
          refine ⟨false, rfl, ⟨fun h => by simp at h, fun h => ?_⟩, m + nq, by rw [HW.out, World.drewN_drewN]⟩
          exact absurd (by rw [HU.out.1, HU.out.2]; subst h; rfl) (HD.out.1 (by trivial))
        | false =>
          have HE2 : Hid (∀ j (h1 : j < xs.length) (h2 : j < ys.length), j < k + 1 → xs[j] = ys[j]) := fun j h1 h2 hj => by
            rcases Nat.lt_or_ge j k with h | h
            · exact HE.out j h1 h2 h
            · obtain rfl : j = k := by omega
              rw [← HU.out.1, ← HU.out.2]
              exact Classical.byContradiction fun hne => by have := HD.out.2 hne; simp at this
          go_wp2_with fail
          go_quiet (fail)
          go_wp2
          go_roundw
          case rel => exact ⟨k + 1, m + nq, by go_num, by omega, HE2, by rw [HW.out, World.drewN_drewN]⟩
          case measure => simp [intOf]; omega
      · have HW : Hid (wr = w.drewN m) := hwr
        clear hwr
        go_wp2
        go_ret
        refine ⟨true, rfl, ⟨fun _ => ?_, fun _ => rfl⟩, m, HW.out⟩
        exact List.ext_getElem HL.out (fun j h1 h2 => HE.out j h1 h2 (by have := HN.out.1; omega))
  · have hl' : ((xs.length : Int) != ys.length) = true := by simp; omega
    clear ha hb
    go_enter Tryz.func28, Tryz.ntmps28
    go_wp2
    go_ret
    exact ⟨false, rfl, ⟨fun h => by simp at h, fun h => absurd (by rw [h]) hl⟩, 0, rfl⟩
theorem same_any (xs ys : List Val) (ao bo : Option Addr) (ca cb : Nat) (w : World) (ha : RowOf w ao xs) (hb : RowOf w bo ys) (h1 : xs.length ≤ 9223372036854775807) :
    Calls Tryz.prog 11 #[.slice ao xs.length ca, .slice bo ys.length cb] w fun x w' => EqOut xs ys w x w' := by
  have hq := equal_any xs ys ao bo ca cb w ha hb h1
  clear ha hb
  go_enter Tryz.func11, Tryz.ntmps11
  go_wp2_with fail
  refine hq.mono ?_
  rintro x w1 ⟨b, rfl, hb, m, rfl⟩
  have HB : Hid (b = true ↔ xs = ys) := hb
  clear hb hq
  go_wp2_with fail
  go_ret
  exact ⟨b, rfl, HB.out, m, rfl⟩
end Go.Proofs.YtmegkmhcfehnkaaGreatDoor
