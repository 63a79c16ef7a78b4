/- A block of a function's body. -/
import Derived.Test.YtkokmgoplldcfaaXLoops
namespace Go.Proofs.Ytkokmgoplldcfaa
open Go.RowKit Go

def blockAt (n : Nat) : Code → Option Code
  | .loop c => blockAt n c
  | .seq a b => match blockAt n a with
    | some c => some c
    | none => blockAt n b
  | .block k c => if k = n then some (.block k c) else blockAt n c
  | .scope c => blockAt n c
  | .cond _ a b => match blockAt n a with
    | some c => some c
    | none => blockAt n b
  | _ => none

noncomputable def sw1 : Code := (Try.f4.body.bind (blockAt 2)).getD .skip
end Go.Proofs.Ytkokmgoplldcfaa
