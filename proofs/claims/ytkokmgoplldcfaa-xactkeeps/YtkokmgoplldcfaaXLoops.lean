/- The loops of a function's body, in the text's order. -/
import Derived.Test.YtkokmgoplldcfaaXKeep1
namespace Go.Proofs.Ytkokmgoplldcfaa
open Go.RowKit Go

def loops : Code → List Code
  | .loop c => c :: loops c
  | .seq a b => loops a ++ loops b
  | .block _ c => loops c
  | .scope c => loops c
  | .cond _ a b => loops a ++ loops b
  | _ => []

noncomputable def keepLoops : List Code := (Try.f4.body.elim [] loops)
noncomputable def body4 : Code := keepLoops.getD 3 .skip
noncomputable def body5 : Code := keepLoops.getD 4 .skip
noncomputable def body3 : Code := keepLoops.getD 2 .skip
noncomputable def body1 : Code := keepLoops.getD 0 .skip
noncomputable def body2 : Code := keepLoops.getD 1 .skip
noncomputable def body6 : Code := keepLoops.getD 5 .skip
noncomputable def body7 : Code := keepLoops.getD 6 .skip
noncomputable def body8 : Code := keepLoops.getD 7 .skip
end Go.Proofs.Ytkokmgoplldcfaa
