import Derived.Test.YteaagnlhkopgdaaGreatDoorCRow
import Derived.Test.YteaagnlhkopgdaaGreatDoorPlainAgain
import Derived.Test.YteaagnlhkopgdaaGreatDoorCCat
import Derived.Handy
import Derived.StillTail
import Derived.Deep.Quiet
namespace Go.Proofs.YteaagnlhkopgdaaGreatDoor.C
open Go.RowKit
theorem SL.row {w : World} {ao : Option Addr} {vs : List Val} (h : SL w ao (vcl vs)) : RowOf w ao vs := fun hv => by
  obtain ⟨g, o, e, ha⟩ := h (f3_nil _ _ _ hv)
  exact ⟨g, o, e, fun j hj => ha.val j hj⟩
theorem bd {b : Bool} {p : Prop} [Decidable p] (h : b = true ↔ p) : b = decide p := by
  cases b
  · symm; rw [decide_eq_false_iff_not]; intro hp; exact absurd (h.2 hp) (by simp)
  · symm; rw [decide_eq_true_iff]; exact h.1 rfl
theorem isNumber_any (n : Int) (w : World) : Calls Tryz.prog 109 #[.int .i64 n] w fun x w' => x = .returned (.bool (decide (rtN n))) ∧ w' = w := by
  go_enter Tryz.func109, Tryz.ntmps109
  go_wp2
  all_goals (go_ret; refine ⟨vret_bool (bd ?_), rfl⟩; unfold rtN; simp; omega)
theorem encode_row (vs : List Val) (ao : Option Addr) (c : Nat) (w : World) (hg : HE w) (h : SL w ao (vcl vs)) (hi : ∀ v ∈ vs, v.i64) (hl : vs.length ≤ 9223372036854775807) :
    Calls Tryz.prog 147 #[.slice ao vs.length c] w fun x w' => x = .returned (.tuple #[.string ⟨(encR vs).1.toArray⟩, .int .i64 (encR vs).2]) ∧ Tch (fun _ => False) w w' := by
  by_cases hv : vs = []
  · subst hv
    exact encode_any [] ao 0 0 c w hg (fun h => absurd rfl h) (fun j hj => by simp at hj) hi hl
  · obtain ⟨g, o, e, ha⟩ := h.row hv
    exact encode_any vs ao g o c w hg (fun _ => e) ha hi hl
theorem isRow_any (vs : List Val) (ao : Option Addr) (c : Nat) (w : World) (hg : HE w) (h : SL w ao (vcl vs)) (hi : ∀ v ∈ vs, v.i64) (hl : vs.length ≤ 9223372036854775807) :
    Calls Tryz.prog 144 #[.slice ao vs.length c] w fun x w' => x = .returned (.bool (decide (rtRow vs))) ∧ Tch (fun _ => False) w w' := by
  have q := encode_row vs ao c w hg h hi hl
  obtain ⟨E, hE⟩ : ∃ E, E = (encR vs).2 := ⟨_, rfl⟩
  obtain ⟨s, hs⟩ : ∃ s : ByteArray, s = ⟨(encR vs).1.toArray⟩ := ⟨_, rfl⟩
  rw [← hE, ← hs] at q
  obtain ⟨n, hn⟩ : ∃ n, n = vs.length := ⟨_, rfl⟩
  have HN : Hid (n = vs.length ∧ E = (encR vs).2) := ⟨hn, hE⟩
  rw [← hn] at q ⊢
  clear hn hE hs
  go_enter Tryz.func144, Tryz.ntmps144
  go_wp2_with (go_at_call 147; refine q.mono ?_; rintro x w1 ⟨rfl, t1⟩)
  all_goals
    have h1 := HN.out.1
    have h2 := HN.out.2
    go_ret
    refine ⟨vret_bool (bd ?_), t1⟩
    unfold rtRow
    have h3 : vs ≠ [] ↔ 0 < n := by rw [h1]; exact List.length_pos_iff.symm
    rw [h3, ← h2]
    simp
    omega
theorem nullByte_any (b : Bool) (w : World) : Calls Tryz.prog 128 #[.bool b] w fun x w' => x = .returned (.int .i64 (nb b)) ∧ w' = w := by
  cases b
  all_goals
    go_enter Tryz.func128, Tryz.ntmps128
    go_wp2
    go_ret
    exact ⟨rfl, rfl⟩
end Go.Proofs.YteaagnlhkopgdaaGreatDoor.C
namespace Go.Proofs.YteaagnlhkopgdaaGreatDoor
open Go
def YS (P : Program) (o : Oper) (a : Act) (C : World → Prop) (W : World) (v : Value) : Prop :=
  ∀ (b : Act) (K : Act → World → Prop) (Q : Exit → Act → World → Prop), (∀ W', C W' → K (b.put o.dst v) W') → o.upon P b K Q ((execOp a.eval o).run P W)
theorem YS.same {P : Program} {o : Oper} {a a' : Act} {C : World → Prop} {W : World} {v : Value} (h : YS P o a C W v) (he : execOp a'.eval o = execOp a.eval o) : YS P o a' C W v := by
  unfold YS at *
  rw [he]; exact h
end Go.Proofs.YteaagnlhkopgdaaGreatDoor
namespace Go.Proofs.YteaagnlhkopgdaaGreatDoor
open Go
end Go.Proofs.YteaagnlhkopgdaaGreatDoor
