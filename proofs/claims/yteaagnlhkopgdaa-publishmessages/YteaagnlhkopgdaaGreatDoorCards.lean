/-
  DERIVED. GIVEN WITH THE SEED: THE CARDS: each row of YteaagnlhkopgdaaGreatDoorRows.lean that lists a variable, with what it lists TIED to the program's text (the seventh form; the later family's looks); each row that meets fmt, with fmt's text TOLD by the authors' own Lean function (tested against real Go, not proved from fmt's source: count such statements apart). THE CARD IS WHAT COUNTS. Prove the row's statement (the work); the ties are given (YteaagnlhkopgdaaGreatDoorTie.lean); close each card by the builder's one call (the guide's Derived/Test/ToyasCard.lean, 'card_holds'). Laid BY PROGRAM, IN A SANDBOX (cutbox-door.mjs). By AI agents, Wed Nov 11 2026. No macro, syntax, notation, axiom, sorry.
-/
import Derived.Test.YteaagnlhkopgdaaGreatDoorRows
import GoSem.ClaimSeven
namespace Go.Proofs.YteaagnlhkopgdaaGreatDoor
namespace Rows

/-- THE TIED CARD OF 'confluencelaw18.PublishMessages'. -/
def publishMessagesCard : Claim7 := { stood := { row := publishMessagesRow, standIns := [], harness := (true, "05d4e88906b33c500a96551eeacc2fac6d12bd2f4966bda299fb037380694a93"), looks := true }, kinds := [], alts := [], laidByText := true, laidKinds := [.handle], laidTests := true, laidLooks := .later }
def PublishMessagesCardSaid : Prop := Claim7.holds Tryz.pinned (.plain (OpenSpec.ofChange publishMessagesSpec)) publishMessagesCard

/-- THE SECOND FORM's CARD OF 'confluencelaw18.PublishMessages'. -/
def publishMessagesUptoCard : Claim7 := { stood := { row := publishMessagesUptoRow, standIns := [], harness := (true, "05d4e88906b33c500a96551eeacc2fac6d12bd2f4966bda299fb037380694a93"), looks := true }, kinds := [], alts := [], laidByText := true, laidKinds := [.handle], laidTests := true, laidLooks := .later }
def PublishMessagesUptoCardSaid : Prop := Claim7.holds Tryz.pinned (.plain (OpenSpec.upto publishMessagesSpec)) publishMessagesUptoCard
end Rows
end Go.Proofs.YteaagnlhkopgdaaGreatDoor
