import Derived.Test.YtjbehnoococelaaMSw
/- The loops of the law's body; more of the state. -/
namespace Go.Proofs.Ytjbehnoococelaa
open Go.RowKit Go Go.Sort

def loopsOf : Code → List Code
  | .loop c => c :: loopsOf c
  | .seq a b => loopsOf a ++ loopsOf b
  | .block _ c => loopsOf c
  | .scope c => loopsOf c
  | .cond _ a b => loopsOf a ++ loopsOf b
  | _ => []
noncomputable def empLoops : List Code := (Try.f3.body.elim [] loopsOf)
noncomputable def emp1 : Code := empLoops.getD 0 .skip
noncomputable def emp2 : Code := empLoops.getD 1 .skip
theorem SW.more {w0 w : World} {base hb mb : Nat} {m : Mg} {L : HL} {q : Nat} {bx : List (Nat × Obj)} {v : Value} {l : List Nat} (h : SW w0 w base hb mb m L q bx v l) {q' : Nat} (hq : q ≤ q') : SW w0 w base hb mb m L q' bx v l := by
  obtain ⟨h1, h2, h3, h4, nb, h5, h6⟩ := h
  exact ⟨h1, h2, h3, h4, nb, h5.more hq, h6⟩
end Go.Proofs.Ytjbehnoococelaa
