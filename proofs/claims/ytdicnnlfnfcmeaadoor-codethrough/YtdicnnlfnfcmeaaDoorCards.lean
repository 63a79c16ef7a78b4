/-
  DERIVED. GIVEN WITH THE SEED: THE CARDS: each row of YtdicnnlfnfcmeaaDoorRows.lean that lists a variable, with what it lists TIED to the program's text (the seventh form; the later family's looks); each row that meets fmt, with fmt's text TOLD by the authors' own Lean function (tested against real Go, not proved from fmt's source: count such statements apart). THE CARD IS WHAT COUNTS. Prove the row's statement (the work); the ties are given (YtdicnnlfnfcmeaaDoorTie.lean); close each card by the builder's one call (the guide's Derived/Test/ToyasCard.lean, 'card_holds'). Laid BY PROGRAM, IN A SANDBOX (cutbox-door.mjs). By AI agents, Wed Nov 11 2026. No macro, syntax, notation, axiom, sorry.
-/
import Derived.Test.YtdicnnlfnfcmeaaDoorRows
import GoSem.ClaimSeven
namespace Go.Proofs.YtdicnnlfnfcmeaaDoor
namespace Rows

/-- THE TIED CARD OF 'confluencelaw1.CodeAgain'. -/
def codeAgainCard : Claim7 := { stood := { row := codeAgainRow, standIns := [], harness := (true, "79c647616e33b312a4929894b7fd12c45a5357a74bdd3fa8d6b80c62be6d11ce"), looks := true }, kinds := [], alts := [], laidByText := true, laidKinds := [.handle], laidTests := true, laidLooks := .later }
def CodeAgainCardSaid : Prop := Claim7.holds Tryd.pinned (.plain (OpenSpec.ofChange codeAgainSpec)) codeAgainCard

/-- THE TIED CARD OF 'confluencelaw1.CodeThrough'. -/
def codeThroughCard : Claim7 := { stood := { row := codeThroughRow, standIns := [], harness := (true, "79c647616e33b312a4929894b7fd12c45a5357a74bdd3fa8d6b80c62be6d11ce"), looks := true }, kinds := [], alts := [], laidByText := true, laidKinds := [.handle], laidTests := true, laidLooks := .later }
def CodeThroughCardSaid : Prop := Claim7.holds Tryd.pinned (.plain (OpenSpec.ofChange codeThroughSpec)) codeThroughCard

/-- THE SECOND FORM's CARD OF 'confluencelaw1.CodeAgain'. -/
def codeAgainUptoCard : Claim7 := { stood := { row := codeAgainUptoRow, standIns := [], harness := (true, "79c647616e33b312a4929894b7fd12c45a5357a74bdd3fa8d6b80c62be6d11ce"), looks := true }, kinds := [], alts := [], laidByText := true, laidKinds := [.handle], laidTests := true, laidLooks := .later }
def CodeAgainUptoCardSaid : Prop := Claim7.holds Tryd.pinned (.plain (OpenSpec.upto codeAgainSpec)) codeAgainUptoCard

/-- THE SECOND FORM's CARD OF 'confluencelaw1.CodeThrough'. -/
def codeThroughUptoCard : Claim7 := { stood := { row := codeThroughUptoRow, standIns := [], harness := (true, "79c647616e33b312a4929894b7fd12c45a5357a74bdd3fa8d6b80c62be6d11ce"), looks := true }, kinds := [], alts := [], laidByText := true, laidKinds := [.handle], laidTests := true, laidLooks := .later }
def CodeThroughUptoCardSaid : Prop := Claim7.holds Tryd.pinned (.plain (OpenSpec.upto codeThroughSpec)) codeThroughUptoCard
end Rows
end Go.Proofs.YtdicnnlfnfcmeaaDoor
