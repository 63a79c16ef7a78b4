import Derived.StillTail
import Derived.Deep.Quiet
namespace Go.Proofs.YtmaekkhmiafnmaaGreatDoor
open Go
def YS (P : Program) (o : Oper) (a : Act) (C : World → Prop) (W : World) (v : Value) : Prop :=
  ∀ (b : Act) (K : Act → World → Prop) (Q : Exit → Act → World → Prop), (∀ W', C W' → K (b.put o.dst v) W') → o.upon P b K Q ((execOp a.eval o).run P W)
theorem YS.same {P : Program} {o : Oper} {a a' : Act} {C : World → Prop} {W : World} {v : Value} (h : YS P o a C W v) (he : execOp a'.eval o = execOp a.eval o) : YS P o a' C W v := by
  unfold YS at *
  rw [he]; exact h
end Go.Proofs.YtmaekkhmiafnmaaGreatDoor
namespace Go.Proofs.YtmaekkhmiafnmaaGreatDoor
open Go
end Go.Proofs.YtmaekkhmiafnmaaGreatDoor
