/-
  No cell of these rows narrows 'for every input' (looked for: loops, veiled, ifaces, maps, wideKeys, modest, calm, conditions, laid).
  DERIVED. THE GIVEN ROWS OF THIS SEAT. 4 by the template 'for every input the law returns true; each argument reads behind the call as it read before'; 0 by the template 'total and deterministic' (their statements: YtngdgglgmmlmkaaTotals.lean).
  GIVEN WITH THE SEED: the statements are not yours to turn. If you find one false, say at which input.
  Laid BY PROGRAM, IN A SANDBOX (cutbox-rows.mjs): the forced cells as the released guide's own fill.sh prints them over the translation 9f736a26ef7a4cda… (all of the seat's roots in one cut). By AI agents, Wed Nov 11 2026. No macro, syntax, notation, axiom, sorry.
-/
import Derived.Test.YtngdgglgmmlmkaaChecked
import GoSem.Claim
import GoSem.ClaimJoined
import GoSem.ClaimMapViews
import Derived.JoinedTies
import Derived.KernelRfl
namespace Go.Proofs.Ytngdgglgmmlmkaa
/- THE CELL 'sum', in the pinned program and in every row, IS THE sha256 OF THE DUMP (.gsa) THAT YtngdgglgmmlmkaaProg.lean LOADS. Nothing in Lean hashes anything: it is a label: what it is worth is what the hold of that sum in a sandbox is worth. -/
noncomputable def Try.pinned : Pinned := { name := "ytngdgglgmmlmkaa", sum := "9f736a26ef7a4cda05ff031179cf667a44bc8e6082c519a2e3a09e1413bcbf6e", checked := Try.checked }
namespace Rows
def none {H : Type} : Left H := { results := [], args := [] }

/-- 'confluencelaw2.FilesDies': WHATEVER THE INPUT: true; the input reads as it did. -/
def filesDiesSpec : ChangeSpec := { name := "filesDies", fn := fun _ => fun
  | [d1, d2, d3] => { results := [.lit (.bool true)], args := [d1, d2, d3] }
  | _ => none }
def filesDiesRow : OpenClaim := { program := "ytngdgglgmmlmkaa", sum := "9f736a26ef7a4cda05ff031179cf667a44bc8e6082c519a2e3a09e1413bcbf6e", func := "confluence/confluencelaw2.FilesDies", spec := "filesDies", unfollowed := true, recurses := true, apart := false }
def FilesDiesSaid : Prop := filesDiesRow.holds Try.pinned (OpenSpec.ofChange filesDiesSpec)

/-- ITS FALSE NEIGHBOUR: 'it returns false'. Refute it at one input. -/
def filesDiesWrong : ChangeSpec := { name := "filesDies", fn := fun _ => fun
  | [d1, d2, d3] => { results := [.lit (.bool false)], args := [d1, d2, d3] }
  | _ => none }
def FilesDiesWrongFalsely : Prop := filesDiesRow.holds Try.pinned (OpenSpec.ofChange filesDiesWrong)

/-- 'confluencelaw2.FilesRoom': WHATEVER THE INPUT: true; the input reads as it did. -/
def filesRoomSpec : ChangeSpec := { name := "filesRoom", fn := fun _ => fun
  | [d1, d2] => { results := [.lit (.bool true)], args := [d1, d2] }
  | _ => none }
def filesRoomRow : OpenClaim := { program := "ytngdgglgmmlmkaa", sum := "9f736a26ef7a4cda05ff031179cf667a44bc8e6082c519a2e3a09e1413bcbf6e", func := "confluence/confluencelaw2.FilesRoom", spec := "filesRoom", unfollowed := true, recurses := true, apart := false }
def FilesRoomSaid : Prop := filesRoomRow.holds Try.pinned (OpenSpec.ofChange filesRoomSpec)

/-- ITS FALSE NEIGHBOUR: 'it returns false'. Refute it at one input. -/
def filesRoomWrong : ChangeSpec := { name := "filesRoom", fn := fun _ => fun
  | [d1, d2] => { results := [.lit (.bool false)], args := [d1, d2] }
  | _ => none }
def FilesRoomWrongFalsely : Prop := filesRoomRow.holds Try.pinned (OpenSpec.ofChange filesRoomWrong)

/-- 'confluencelaw2.FilesMakes': WHATEVER THE INPUT: true; the input reads as it did. -/
def filesMakesSpec : ChangeSpec := { name := "filesMakes", fn := fun _ => fun
  | [d1, d2] => { results := [.lit (.bool true)], args := [d1, d2] }
  | _ => none }
def filesMakesRow : OpenClaim := { program := "ytngdgglgmmlmkaa", sum := "9f736a26ef7a4cda05ff031179cf667a44bc8e6082c519a2e3a09e1413bcbf6e", func := "confluence/confluencelaw2.FilesMakes", spec := "filesMakes", unfollowed := true, recurses := true, apart := false }
def FilesMakesSaid : Prop := filesMakesRow.holds Try.pinned (OpenSpec.ofChange filesMakesSpec)

/-- ITS FALSE NEIGHBOUR: 'it returns false'. Refute it at one input. -/
def filesMakesWrong : ChangeSpec := { name := "filesMakes", fn := fun _ => fun
  | [d1, d2] => { results := [.lit (.bool false)], args := [d1, d2] }
  | _ => none }
def FilesMakesWrongFalsely : Prop := filesMakesRow.holds Try.pinned (OpenSpec.ofChange filesMakesWrong)

/-- 'confluencelaw2.FilesLasts': WHATEVER THE INPUT: true; the input reads as it did. -/
def filesLastsSpec : ChangeSpec := { name := "filesLasts", fn := fun _ => fun
  | [d1, d2] => { results := [.lit (.bool true)], args := [d1, d2] }
  | _ => none }
def filesLastsRow : OpenClaim := { program := "ytngdgglgmmlmkaa", sum := "9f736a26ef7a4cda05ff031179cf667a44bc8e6082c519a2e3a09e1413bcbf6e", func := "confluence/confluencelaw2.FilesLasts", spec := "filesLasts", unfollowed := true, recurses := true, apart := false }
def FilesLastsSaid : Prop := filesLastsRow.holds Try.pinned (OpenSpec.ofChange filesLastsSpec)

/-- ITS FALSE NEIGHBOUR: 'it returns false'. Refute it at one input. -/
def filesLastsWrong : ChangeSpec := { name := "filesLasts", fn := fun _ => fun
  | [d1, d2] => { results := [.lit (.bool false)], args := [d1, d2] }
  | _ => none }
def FilesLastsWrongFalsely : Prop := filesLastsRow.holds Try.pinned (OpenSpec.ofChange filesLastsWrong)

/- THE SECOND FORM. 'bulk': how many values and letters a reading holds, each counted each time it is reached (what is shared counts as often as it is met; a slice's spare places count too). A statement '..UptoSaid' is the law's where the arguments, and the package variables that the reading takes, are together of bulk at most 1048576: NARROWER than '..Said'. Prove '..Said' where nothing that the law and all that it calls make is longer than what came in: it says more and counts as full. Else prove '..UptoSaid'. A law counts once. -/
mutual
def uptoBulk {H : Type} : DataW H → Nat
  | .lit (.string bytes) => bytes.length + 1
  | .lit _ => 1
  | .nil => 1
  | .ptr d => uptoBulk d + 1
  | .slice elems spare => uptoBulkAll elems + uptoBulkAll spare + 1
  | .agg parts => uptoBulkAll parts + 1
  | .iface _ d => uptoBulk d + 1
  | .map entries => uptoBulkEntries entries + 1
  | .held _ => 1
def uptoBulkAll {H : Type} : List (DataW H) → Nat
  | [] => 0
  | d :: r => uptoBulk d + uptoBulkAll r
def uptoBulkEntries {H : Type} : List (Lit × DataW H) → Nat
  | [] => 0
  | x :: r => uptoBulkEntry x + uptoBulkEntries r
def uptoBulkEntry {H : Type} : Lit × DataW H → Nat
  | (.string bytes, d) => bytes.length + uptoBulk d + 1
  | (_, d) => uptoBulk d + 1
 end
def uptoSmall : (H : Type) → List (DataW H) → Bool := fun _ ds => decide (uptoBulkAll ds ≤ 1048576)
def OpenSpec.upto (s : _root_.Go.ChangeSpec) : _root_.Go.OpenSpec := { _root_.Go.OpenSpec.ofChange s with cond := some uptoSmall }

/-- 'confluencelaw2.FilesDies', WHERE WHAT IT READS IS OF BULK AT MOST 1048576: true; the input reads as it did. -/
def filesDiesUptoRow : OpenClaim := { program := "ytngdgglgmmlmkaa", sum := "9f736a26ef7a4cda05ff031179cf667a44bc8e6082c519a2e3a09e1413bcbf6e", func := "confluence/confluencelaw2.FilesDies", spec := "filesDies", unfollowed := true, recurses := true, apart := false, narrowed := true }
def FilesDiesUptoSaid : Prop := filesDiesUptoRow.holds Try.pinned (OpenSpec.upto filesDiesSpec)

/-- 'confluencelaw2.FilesRoom', WHERE WHAT IT READS IS OF BULK AT MOST 1048576: true; the input reads as it did. -/
def filesRoomUptoRow : OpenClaim := { program := "ytngdgglgmmlmkaa", sum := "9f736a26ef7a4cda05ff031179cf667a44bc8e6082c519a2e3a09e1413bcbf6e", func := "confluence/confluencelaw2.FilesRoom", spec := "filesRoom", unfollowed := true, recurses := true, apart := false, narrowed := true }
def FilesRoomUptoSaid : Prop := filesRoomUptoRow.holds Try.pinned (OpenSpec.upto filesRoomSpec)

/-- 'confluencelaw2.FilesMakes', WHERE WHAT IT READS IS OF BULK AT MOST 1048576: true; the input reads as it did. -/
def filesMakesUptoRow : OpenClaim := { program := "ytngdgglgmmlmkaa", sum := "9f736a26ef7a4cda05ff031179cf667a44bc8e6082c519a2e3a09e1413bcbf6e", func := "confluence/confluencelaw2.FilesMakes", spec := "filesMakes", unfollowed := true, recurses := true, apart := false, narrowed := true }
def FilesMakesUptoSaid : Prop := filesMakesUptoRow.holds Try.pinned (OpenSpec.upto filesMakesSpec)

/-- 'confluencelaw2.FilesLasts', WHERE WHAT IT READS IS OF BULK AT MOST 1048576: true; the input reads as it did. -/
def filesLastsUptoRow : OpenClaim := { program := "ytngdgglgmmlmkaa", sum := "9f736a26ef7a4cda05ff031179cf667a44bc8e6082c519a2e3a09e1413bcbf6e", func := "confluence/confluencelaw2.FilesLasts", spec := "filesLasts", unfollowed := true, recurses := true, apart := false, narrowed := true }
def FilesLastsUptoSaid : Prop := filesLastsUptoRow.holds Try.pinned (OpenSpec.upto filesLastsSpec)

end Rows
end Go.Proofs.Ytngdgglgmmlmkaa
