import Derived.Test.YtokgihmigkplaaaGreatXFin2
import Derived.Lib.SlMapFilter
import Derived.Laws.IdiomRangeMap
import Derived.Deep.LoopGhost
namespace Go.Proofs.YtokgihmigkplaaaGreat
open Go.RowKit Go Go.Sort
section
variable {ps : List Pt} (s : Nat) (on : List Nat)
end
end Go.Proofs.YtokgihmigkplaaaGreat
namespace Go.Proofs.YtokgihmigkplaaaGreat
open Go.RowKit Go Go.Sort
def pkN (c : Int) (n : Nat) : Nat := ((if c < 0 then -(c + 1) else c) % (n : Int)).toNat
theorem pkN_lt (c : Int) {n : Nat} (h : 0 < n) : pkN c n < n := by
  unfold pkN
  have h1 := Int.emod_nonneg (if c < 0 then -(c + 1) else c) (show (n : Int) ≠ 0 by omega)
  have h2 := Int.emod_lt_of_pos (if c < 0 then -(c + 1) else c) (show (0 : Int) < n by omega)
  omega
section
variable (b : Nat) (m : Mg) (w : World) (F : Nat → Prop) (h : MF w b m F)
include h
theorem begin_f (hn : m.nx ≤ 2147483647) : Calls Tryz.prog 17 #[.pointer (some ⟨b, 0, none⟩)] w fun x w' => x = .returned (.tuple #[.int .i64 m.nx, .int .i64 0]) ∧ MF w' b m.begin F ∧ Kept F w w' := by
  obtain ⟨σ, mb, bl, h, hF⟩ := h
  exact (begin_ok b m σ mb bl w h hn).mono fun x w' ⟨hx, σ', bl', h', s'⟩ => ⟨hx, MF.stp hF h' s'⟩
theorem state_f (k : Int) (h1 : -9223372036854775808 ≤ k) (h2 : k ≤ 9223372036854775807) : Calls Tryz.prog 91 #[.pointer (some ⟨b, 0, none⟩), .int .i64 k] w fun x w' => x = .returned (.int .i64 (m.state k)) ∧ Tch (fun _ => False) w w' := by
  obtain ⟨σ, mb, bl, h, hF⟩ := h
  exact state_any b m σ mb bl w h k h1 h2
theorem snapshot_f : Calls Tryz.prog 12 #[.pointer (some ⟨b, 0, none⟩)] w fun x w' => SnapOut m w x w' := by
  obtain ⟨σ, mb, bl, h, hF⟩ := h
  exact snapshot_any b m σ mb bl w h
theorem sees_f (mn mx : Int) (l : List Int) (ao : Option Addr) (c : Nat) (hl : l.length ≤ 9223372036854775807) (hI : IR w ao l) (own x : Int) (h1 : -9223372036854775808 ≤ x) (h2 : x ≤ 9223372036854775807) (h3 : -9223372036854775808 ≤ own) (h4 : own ≤ 9223372036854775807) :
    Calls Tryz.prog 60 #[.pointer (some ⟨b, 0, none⟩), .agg #[.int .i64 mn, .int .i64 mx, .slice ao l.length c], .int .i64 own, .int .i64 x] w fun y w' => y = .returned (.bool (m.sees mn mx l own x)) ∧ Tch (fun _ => False) w w' := by
  obtain ⟨σ, mb, bl, h, hF⟩ := h
  cases hf : fnd m.tx x with
  | none => exact sees_none b m σ mb bl w h mn mx l _ own x h1 h2 hf
  | some a =>
    obtain ⟨t, i⟩ := a
    exact sees_some b m σ mb bl w h mn mx l ao c hl hI own x h1 h2 h3 h4 hf
def PartOut (m : Mg) (b : Nat) (k : Int) (w : World) (F : Nat → Prop) (x : Ending) (w' : World) : Prop :=
  (fnd m.tx k = none → x = .returned (.tuple #[.int .i64 0, .int .i64 70]) ∧ Tch (fun _ => False) w w') ∧
  (∀ t i, fnd m.tx k = some (t, i) → (partE m t i ≠ 0 → x = .returned (.tuple #[.int .i64 0, .int .i64 (partE m t i)]) ∧ Tch (fun _ => False) w w') ∧ (partE m t i = 0 → x = .returned (.tuple #[.int .i64 m.nx, .int .i64 0]) ∧ MF w' b (m.part t i) F ∧ Kept F w w'))
theorem part_f (k : Int) (h1 : -9223372036854775808 ≤ k) (h2 : k ≤ 9223372036854775807) : Calls Tryz.prog 46 #[.pointer (some ⟨b, 0, none⟩), .int .i64 k] w fun x w' => (∃ y e : Nat, x = .returned (.tuple #[.int .i64 y, .int .i64 e])) ∧ PartOut m b k w F x w' := by
  obtain ⟨σ, mb, bl, h, hF⟩ := h
  cases hf : fnd m.tx k with
  | none =>
    refine (part_none b m σ mb bl w h k h1 h2 hf).mono fun x w' ⟨hx, t⟩ => ⟨⟨0, 70, hx⟩, fun _ => ⟨hx, t⟩, fun t i e => ?_⟩
    rw [hf] at e; cases e
  | some a =>
    obtain ⟨t, i⟩ := a
    refine (part_some b m σ mb bl w h k h1 h2 hf).mono fun x w' ⟨hA, hB⟩ => ?_
    by_cases hE : partE m t i = 0
    · obtain ⟨hx, σ', h', s'⟩ := hB hE
      refine ⟨⟨m.nx, 0, hx⟩, (fun e => by rw [hf] at e; cases e), fun u j e => ?_⟩
      rw [hf] at e
      injection e with e
      injection e with e1 e2
      subst e1 e2
      exact ⟨fun hn => absurd hE hn, fun _ => ⟨hx, MF.stp hF h' s'⟩⟩
    · obtain ⟨hx, tt⟩ := hA hE
      refine ⟨⟨0, partE m t i, hx⟩, (fun e => by rw [hf] at e; cases e), fun u j e => ?_⟩
      rw [hf] at e
      injection e with e
      injection e with e1 e2
      subst e1 e2
      exact ⟨fun _ => ⟨hx, tt⟩, fun hn => absurd hn hE⟩
end
theorem kept_of {w w1 : World} {F : Nat → Prop} (t : Tch (fun _ => False) w w1) : Kept F w w1 := t.mono (fun _ _ h => h.elim)
end Go.Proofs.YtokgihmigkplaaaGreat
namespace Go.Proofs.YtokgihmigkplaaaGreat
open Go.RowKit Go Go.Sort Go.Maps
def lastX (t : Tx) : Nat := match t.ps.getLast? with
  | some p => p.x
  | none => t.x
def goneT (t : Tx) (below : Int) : Bool := decide (3 ≤ t.st) && decide ((lastX t : Int) < below)
end Go.Proofs.YtokgihmigkplaaaGreat
namespace Go.Proofs.YtokgihmigkplaaaGreat
open Go.RowKit Go Go.Sort Go.Maps
def Mg.forget (m : Mg) (below : Int) : Mg := ⟨m.nx, m.on, m.tx.filter (fun t => !goneT t below)⟩
def goneN (m : Mg) (below : Int) (j : Nat) : Bool := match fnd m.tx (j : Int) with
  | some (t, _) => goneT t below
  | none => false
def Mg.many (m : Mg) (below : Int) : Nat := ((List.range m.nx).filter (goneN m below)).length
end Go.Proofs.YtokgihmigkplaaaGreat
