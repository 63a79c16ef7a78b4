import Derived.Test.YtokgihmigkplaaaGreatXList
import Derived.StillTail
import Derived.Deep.Quiet
namespace Go.Proofs.YtokgihmigkplaaaGreat
open Go.RowKit Go Go.Sort
theorem icl_snoc (l : List Nat) (x : Nat) : icl (l ++ [x]) = icl l ++ [.int .i64 x] := by simp [icl]
end Go.Proofs.YtokgihmigkplaaaGreat
namespace Go.Proofs.YtokgihmigkplaaaGreat
open Go
def YS (P : Program) (o : Oper) (a : Act) (C : World → Prop) (W : World) (v : Value) : Prop :=
  ∀ (b : Act) (K : Act → World → Prop) (Q : Exit → Act → World → Prop), (∀ W', C W' → K (b.put o.dst v) W') → o.upon P b K Q ((execOp a.eval o).run P W)
theorem YS.same {P : Program} {o : Oper} {a a' : Act} {C : World → Prop} {W : World} {v : Value} (h : YS P o a C W v) (he : execOp a'.eval o = execOp a.eval o) : YS P o a' C W v := by
  unfold YS at *
  rw [he]; exact h
end Go.Proofs.YtokgihmigkplaaaGreat
namespace Go.Proofs.YtokgihmigkplaaaGreat
open Go
def barFrom (md : Region.Mode) (ops : Array Oper) (S : List Nat) : Nat → Nat → Array Bool → Bool
  | 0, _, _ => true
  | f + 1, p, listed => (!S.contains p || Region.ready md ops listed == [p]) && barFrom md ops S f (p + 1) (listed.setIfInBounds p true)
end Go.Proofs.YtokgihmigkplaaaGreat
