/- Each call, said of the manager and of what it leaves alone. -/
import Derived.Test.YtkokmgoplldcfaaXOwn0
namespace Go.Proofs.Ytkokmgoplldcfaa
open Go.RowKit Go Go.Sort

/-- Which of n things. -/
def pkN (c : Int) (n : Nat) : Nat := ((if c < 0 then -(c + 1) else c) % (n : Int)).toNat
theorem pkN_lt (c : Int) {n : Nat} (h : 0 < n) : pkN c n < n := by
  unfold pkN
  have h1 := Int.emod_nonneg (if c < 0 then -(c + 1) else c) (show (n : Int) ≠ 0 by omega)
  have h2 := Int.emod_lt_of_pos (if c < 0 then -(c + 1) else c) (show (0 : Int) < n by omega)
  omega
theorem pick_any (c : Int) (n : Nat) (w : World) (h1 : -9223372036854775808 ≤ c) (h2 : c ≤ 9223372036854775807) (hn : 0 < n) (hn2 : n ≤ 9223372036854775807) : Calls Try.prog 9 #[.int .i64 c, .int .i64 n] w fun x w' => x = .returned (.int .i64 (pkN c n)) ∧ w' = w := by
  have hn0 : ¬ (n : Int) = 0 := by omega
  have hnb : ((n : Int) == 0) = false := by simp; omega
  by_cases hc : c < 0
  · obtain ⟨d, hd⟩ : ∃ d : Nat, -(c + 1) = d := ⟨(-(c + 1)).toNat, by omega⟩
    obtain ⟨rfl⟩ : c = -(d : Int) - 1 := by omega
    have HE : Hid (((d : Int) % n) = (pkN (-(d : Int) - 1) n : Nat)) := by
      show _ = _
      have e : (if (-(d : Int) - 1) < 0 then -((-(d : Int) - 1) + 1) else (-(d : Int) - 1)) = (d : Int) := by rw [if_pos hc]; omega
      simp only [pkN, e]
      have := Int.emod_nonneg (d : Int) (show (n : Int) ≠ 0 by omega)
      omega
    clear hd
    go_enter Try.func9, Try.ntmps9
    go_wp2
    go_ret
    exact ⟨by rw [← HE.out]; rfl, rfl⟩
  · obtain ⟨d, rfl⟩ : ∃ d : Nat, c = d := ⟨c.toNat, by omega⟩
    have HE : Hid (((d : Int) % n) = (pkN (d : Int) n : Nat)) := by
      show _ = _
      have e : (if (d : Int) < 0 then -((d : Int) + 1) else (d : Int)) = (d : Int) := if_neg (by omega)
      simp only [pkN, e]
      have := Int.emod_nonneg (d : Int) (show (n : Int) ≠ 0 by omega)
      omega
    go_enter Try.func9, Try.ntmps9
    go_wp2
    go_ret
    exact ⟨by rw [← HE.out]; rfl, rfl⟩

section
variable (b : Nat) (m : Mg) (w : World) (F : Nat → Prop) (h : MF w b m F)
include h
theorem begin_f (hn : m.nx ≤ 2147483647) : Calls Try.prog 7 #[.pointer (some ⟨b, 0, none⟩)] w fun x w' => x = .returned (.tuple #[.int .i64 m.nx, .int .i64 0]) ∧ MF w' b m.begin F ∧ Kept F w w' := by
  obtain ⟨σ, mb, bl, h, hF⟩ := h
  exact (begin_ok b m σ mb bl w h hn).mono fun x w' ⟨hx, σ', bl', h', s'⟩ => ⟨hx, MF.stp hF h' s'⟩
theorem next_f : Calls Try.prog 14 #[.pointer (some ⟨b, 0, none⟩)] w fun x w' => x = .returned (.int .i64 m.nx) ∧ w' = w := by
  obtain ⟨σ, mb, bl, h, hF⟩ := h
  exact next_any b m σ mb bl w h
theorem state_f (k : Int) (h1 : -9223372036854775808 ≤ k) (h2 : k ≤ 9223372036854775807) : Calls Try.prog 19 #[.pointer (some ⟨b, 0, none⟩), .int .i64 k] w fun x w' => x = .returned (.int .i64 (m.state k)) ∧ Tch (fun _ => False) w w' := by
  obtain ⟨σ, mb, bl, h, hF⟩ := h
  exact state_any b m σ mb bl w h k h1 h2
theorem snapshot_f : Calls Try.prog 13 #[.pointer (some ⟨b, 0, none⟩)] w fun x w' => SnapOut m w x w' := by
  obtain ⟨σ, mb, bl, h, hF⟩ := h
  exact snapshot_any b m σ mb bl w h
theorem parts_f (k : Int) (h1 : -9223372036854775808 ≤ k) (h2 : k ≤ 9223372036854775807) {t : Tx} (hf : fnd m.tx k = some (t, -1)) : Calls Try.prog 8 #[.pointer (some ⟨b, 0, none⟩), .int .i64 k] w fun x w' => (∃ v', x = .returned (.tuple #[v', .int .i64 0]) ∧ w'.ownsRow w.heap.size 3 1 v' (survL t.st t.ps).length (icl (survL t.st t.ps))) ∧ Tch (fun _ => False) w w' := by
  obtain ⟨σ, mb, bl, h, hF⟩ := h
  exact parts_some b m σ mb bl w h k h1 h2 hf
theorem sees_f (mn mx : Int) (l : List Int) (ao : Option Addr) (c : Nat) (hl : l.length ≤ 9223372036854775807) (hI : IR w ao l) (own x : Int) (h1 : -9223372036854775808 ≤ x) (h2 : x ≤ 9223372036854775807) (h3 : -9223372036854775808 ≤ own) (h4 : own ≤ 9223372036854775807) :
    Calls Try.prog 15 #[.pointer (some ⟨b, 0, none⟩), .agg #[.int .i64 mn, .int .i64 mx, .slice ao l.length c], .int .i64 own, .int .i64 x] w fun y w' => y = .returned (.bool (m.sees mn mx l own x)) ∧ Tch (fun _ => False) w w' := by
  obtain ⟨σ, mb, bl, h, hF⟩ := h
  cases hf : fnd m.tx x with
  | none => exact sees_none b m σ mb bl w h mn mx l _ own x h1 h2 hf
  | some a =>
    obtain ⟨t, i⟩ := a
    exact sees_some b m σ mb bl w h mn mx l ao c hl hI own x h1 h2 h3 h4 hf
/-- What Part gives. -/
def PartOut (m : Mg) (b : Nat) (k : Int) (w : World) (F : Nat → Prop) (x : Ending) (w' : World) : Prop :=
  (fnd m.tx k = none → x = .returned (.tuple #[.int .i64 0, .int .i64 70]) ∧ Tch (fun _ => False) w w') ∧
  (∀ t i, fnd m.tx k = some (t, i) → (partE m t i ≠ 0 → x = .returned (.tuple #[.int .i64 0, .int .i64 (partE m t i)]) ∧ Tch (fun _ => False) w w') ∧ (partE m t i = 0 → x = .returned (.tuple #[.int .i64 m.nx, .int .i64 0]) ∧ MF w' b (m.part t i) F ∧ Kept F w w'))
theorem part_f (k : Int) (h1 : -9223372036854775808 ≤ k) (h2 : k ≤ 9223372036854775807) : Calls Try.prog 10 #[.pointer (some ⟨b, 0, none⟩), .int .i64 k] w fun x w' => (∃ y e : Nat, x = .returned (.tuple #[.int .i64 y, .int .i64 e])) ∧ PartOut m b k w F x w' := by
  obtain ⟨σ, mb, bl, h, hF⟩ := h
  cases hf : fnd m.tx k with
  | none =>
    refine (part_none b m σ mb bl w h k h1 h2 hf).mono fun x w' ⟨hx, t⟩ => ⟨⟨0, 70, hx⟩, fun _ => ⟨hx, t⟩, fun t i e => ?_⟩
    rw [hf] at e; cases e
  | some a =>
    obtain ⟨t, i⟩ := a
    refine (part_some b m σ mb bl w h k h1 h2 hf).mono fun x w' ⟨hA, hB⟩ => ?_
    by_cases hE : partE m t i = 0
    · obtain ⟨hx, σ', h', s'⟩ := hB hE
      refine ⟨⟨m.nx, 0, hx⟩, (fun e => by rw [hf] at e; cases e), fun u j e => ?_⟩
      rw [hf] at e
      injection e with e
      injection e with e1 e2
      subst e1 e2
      exact ⟨fun hn => absurd hE hn, fun _ => ⟨hx, MF.stp hF h' s'⟩⟩
    · obtain ⟨hx, tt⟩ := hA hE
      refine ⟨⟨0, partE m t i, hx⟩, (fun e => by rw [hf] at e; cases e), fun u j e => ?_⟩
      rw [hf] at e
      injection e with e
      injection e with e1 e2
      subst e1 e2
      exact ⟨fun _ => ⟨hx, tt⟩, fun hn => absurd hn hE⟩
end
/-- What is below stays. -/
theorem low_trans {w wr w1 : World} {N : Nat} (hN : N = w.heap.size) (t : Tch (fun _ => False) w wr) (k : Kept (fun i => i < N) wr w1) : Tch (fun _ => False) w w1 := t.trans k (fun i hi hn => hn (by omega))
theorem kept_of {w w1 : World} {F : Nat → Prop} (t : Tch (fun _ => False) w w1) : Kept F w w1 := t.mono (fun _ _ h => h.elim)
end Go.Proofs.Ytkokmgoplldcfaa
