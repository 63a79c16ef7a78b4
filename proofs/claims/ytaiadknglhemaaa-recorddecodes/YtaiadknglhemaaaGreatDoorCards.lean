/-
  DERIVED. GIVEN WITH THE SEED: THE CARDS: each row of YtaiadknglhemaaaGreatDoorRows.lean that lists a variable, with what it lists TIED to the program's text (the seventh form; the later family's looks); each row that meets fmt, with fmt's text TOLD by the authors' own Lean function (tested against real Go, not proved from fmt's source: count such statements apart). THE CARD IS WHAT COUNTS. Prove the row's statement (the work); the ties are given (YtaiadknglhemaaaGreatDoorTie.lean); close each card by the builder's one call (the guide's Derived/Test/ToyasCard.lean, 'card_holds'). Laid BY PROGRAM, IN A SANDBOX (cutbox-door.mjs). By AI agents, Wed Nov 11 2026. No macro, syntax, notation, axiom, sorry.
-/
import Derived.Test.YtaiadknglhemaaaGreatDoorRows
import GoSem.ClaimSeven
namespace Go.Proofs.YtaiadknglhemaaaGreatDoor
namespace Rows

/-- THE TIED CARD OF 'confluencelaw6.RecordRows'. -/
def recordRowsCard : Claim7 := { stood := { row := recordRowsRow, standIns := [], harness := (true, "fd8b36fe068dd1d743bcc6ec50c46f94c71adcb9ac3264d2f815eb4583a783ec"), looks := true }, kinds := [], alts := [], laidByText := true, laidKinds := [.data, .data, .data, .handle, .data, .data], laidTests := true, laidLooks := .later }
def RecordRowsCardSaid : Prop := Claim7.holds Tryz.pinned (.plain (OpenSpec.ofChange recordRowsSpec)) recordRowsCard

/-- THE TIED CARD OF 'confluencelaw6.RecordEncodes'. -/
def recordEncodesCard : Claim7 := { stood := { row := recordEncodesRow, standIns := [], harness := (true, "fd8b36fe068dd1d743bcc6ec50c46f94c71adcb9ac3264d2f815eb4583a783ec"), looks := true }, kinds := [], alts := [], laidByText := true, laidKinds := [.data, .data, .data, .handle, .data, .data], laidTests := true, laidLooks := .later }
def RecordEncodesCardSaid : Prop := Claim7.holds Tryz.pinned (.plain (OpenSpec.ofChange recordEncodesSpec)) recordEncodesCard

/-- THE TIED CARD OF 'confluencelaw6.RecordDecodes'. -/
def recordDecodesCard : Claim7 := { stood := { row := recordDecodesRow, standIns := [], harness := (true, "fd8b36fe068dd1d743bcc6ec50c46f94c71adcb9ac3264d2f815eb4583a783ec"), looks := true }, kinds := [], alts := [], laidByText := true, laidKinds := [.data, .data, .data, .handle, .data, .data], laidTests := true, laidLooks := .later }
def RecordDecodesCardSaid : Prop := Claim7.holds Tryz.pinned (.plain (OpenSpec.ofChange recordDecodesSpec)) recordDecodesCard

/-- THE SECOND FORM's CARD OF 'confluencelaw6.RecordRows'. -/
def recordRowsUptoCard : Claim7 := { stood := { row := recordRowsUptoRow, standIns := [], harness := (true, "fd8b36fe068dd1d743bcc6ec50c46f94c71adcb9ac3264d2f815eb4583a783ec"), looks := true }, kinds := [], alts := [], laidByText := true, laidKinds := [.data, .data, .data, .handle, .data, .data], laidTests := true, laidLooks := .later }
def RecordRowsUptoCardSaid : Prop := Claim7.holds Tryz.pinned (.plain (OpenSpec.upto recordRowsSpec)) recordRowsUptoCard

/-- THE SECOND FORM's CARD OF 'confluencelaw6.RecordEncodes'. -/
def recordEncodesUptoCard : Claim7 := { stood := { row := recordEncodesUptoRow, standIns := [], harness := (true, "fd8b36fe068dd1d743bcc6ec50c46f94c71adcb9ac3264d2f815eb4583a783ec"), looks := true }, kinds := [], alts := [], laidByText := true, laidKinds := [.data, .data, .data, .handle, .data, .data], laidTests := true, laidLooks := .later }
def RecordEncodesUptoCardSaid : Prop := Claim7.holds Tryz.pinned (.plain (OpenSpec.upto recordEncodesSpec)) recordEncodesUptoCard

/-- THE SECOND FORM's CARD OF 'confluencelaw6.RecordDecodes'. -/
def recordDecodesUptoCard : Claim7 := { stood := { row := recordDecodesUptoRow, standIns := [], harness := (true, "fd8b36fe068dd1d743bcc6ec50c46f94c71adcb9ac3264d2f815eb4583a783ec"), looks := true }, kinds := [], alts := [], laidByText := true, laidKinds := [.data, .data, .data, .handle, .data, .data], laidTests := true, laidLooks := .later }
def RecordDecodesUptoCardSaid : Prop := Claim7.holds Tryz.pinned (.plain (OpenSpec.upto recordDecodesSpec)) recordDecodesUptoCard
end Rows
end Go.Proofs.YtaiadknglhemaaaGreatDoor
