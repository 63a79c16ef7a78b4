/-
  DERIVED. GIVEN WITH THE SEED: THE CARDS: each row of YtmegkmhcfehnkaaGreatDoorRows.lean that lists a variable, with what it lists TIED to the program's text (the seventh form; the later family's looks); each row that meets fmt, with fmt's text TOLD by the authors' own Lean function (tested against real Go, not proved from fmt's source: count such statements apart). THE CARD IS WHAT COUNTS. Prove the row's statement (the work); the ties are given (YtmegkmhcfehnkaaGreatDoorTie.lean); close each card by the builder's one call (the guide's Derived/Test/ToyasCard.lean, 'card_holds'). Laid BY PROGRAM, IN A SANDBOX (cutbox-door.mjs). By AI agents, Wed Nov 11 2026. No macro, syntax, notation, axiom, sorry.
-/
import Derived.Test.YtmegkmhcfehnkaaGreatDoorRows
import GoSem.ClaimSeven
namespace Go.Proofs.YtmegkmhcfehnkaaGreatDoor
namespace Rows

/-- THE TIED CARD OF 'confluencelaw4.ValueLiterals'. -/
def valueLiteralsCard : Claim7 := { stood := { row := valueLiteralsRow, standIns := [], harness := (true, "4d23fce7e5d971364820b126322fbb080657a0580996900319d0e2ba4060735c"), looks := true }, kinds := [], alts := [], laidByText := true, laidKinds := [.data, .data, .data, .handle, .sentinel, .sentinel, .data], laidTests := true, laidLooks := .later }
def ValueLiteralsCardSaid : Prop := Claim7.holds Tryz.pinned (.plain (OpenSpec.ofChange valueLiteralsSpec)) valueLiteralsCard

/-- THE SECOND FORM's CARD OF 'confluencelaw4.ValueLiterals'. -/
def valueLiteralsUptoCard : Claim7 := { stood := { row := valueLiteralsUptoRow, standIns := [], harness := (true, "4d23fce7e5d971364820b126322fbb080657a0580996900319d0e2ba4060735c"), looks := true }, kinds := [], alts := [], laidByText := true, laidKinds := [.data, .data, .data, .handle, .sentinel, .sentinel, .data], laidTests := true, laidLooks := .later }
def ValueLiteralsUptoCardSaid : Prop := Claim7.holds Tryz.pinned (.plain (OpenSpec.upto valueLiteralsSpec)) valueLiteralsUptoCard
end Rows
end Go.Proofs.YtmegkmhcfehnkaaGreatDoor
