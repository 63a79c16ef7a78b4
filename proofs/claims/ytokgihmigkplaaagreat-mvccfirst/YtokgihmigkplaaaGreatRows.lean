/-
  No cell of these rows narrows 'for every input' (looked for: loops, veiled, ifaces, maps, wideKeys, modest, calm, conditions, laid).
  DERIVED. THE GIVEN ROWS OF THIS SEAT. 2 by the template 'for every input the law returns true; each argument reads behind the call as it read before'; 0 by the template 'total and deterministic' (their statements: YtokgihmigkplaaaGreatTotals.lean).
  GIVEN WITH THE SEED: the statements are not yours to turn. If you find one false, say at which input.
  Laid BY PROGRAM, IN A SANDBOX (cutbox-rows.mjs): the forced cells as the released guide's own fill.sh prints them over the translation 715c46b19a5bc57e… (all of the seat's roots in one cut). By AI agents, Wed Nov 11 2026. No macro, syntax, notation, axiom, sorry.
-/
import Derived.Test.YtokgihmigkplaaaGreatChecked
import GoSem.Claim
import GoSem.ClaimJoined
import GoSem.ClaimMapViews
import Derived.JoinedTies
import Derived.KernelRfl
namespace Go.Proofs.YtokgihmigkplaaaGreat
/- THE CELL 'sum', in the pinned program and in every row, IS THE sha256 OF THE DUMP (.gsa) THAT YtokgihmigkplaaaGreatProg.lean LOADS. Nothing in Lean hashes anything: it is a label: what it is worth is what the hold of that sum in a sandbox is worth. -/
noncomputable def Tryz.pinned : Pinned := { name := "ytokgihmigkplaaagreat", sum := "715c46b19a5bc57e01dba6027f6b1581d6f9d172e11db057eca2222812f6922b", checked := Tryz.checked }
namespace Rows
def none {H : Type} : Left H := { results := [], args := [] }

/-- 'confluencelaw9.MvccFirst': WHATEVER THE INPUT: true; the input reads as it did. -/
def mvccFirstSpec : ChangeSpec := { name := "mvccFirst", fn := fun _ => fun
  | [d] => { results := [.lit (.bool true)], args := [d] }
  | _ => none }
def mvccFirstRow : OpenClaim := { program := "ytokgihmigkplaaagreat", sum := "715c46b19a5bc57e01dba6027f6b1581d6f9d172e11db057eca2222812f6922b", func := "confluence/confluencelaw9.MvccFirst", spec := "mvccFirst", inPlace := ["internal/bytealg.abigen_runtime_cmpstring", "slices.overlaps[confluence/tree.item[confluence/api.Row]]", "slices.overlaps[*confluence/tree.node[confluence/api.Row]]"], unfollowed := true, recurses := true, apart := false }
def MvccFirstSaid : Prop := mvccFirstRow.holds Tryz.pinned (OpenSpec.ofChange mvccFirstSpec)

/-- ITS FALSE NEIGHBOUR: 'it returns false'. Refute it at one input. -/
def mvccFirstWrong : ChangeSpec := { name := "mvccFirst", fn := fun _ => fun
  | [d] => { results := [.lit (.bool false)], args := [d] }
  | _ => none }
def MvccFirstWrongFalsely : Prop := mvccFirstRow.holds Tryz.pinned (OpenSpec.ofChange mvccFirstWrong)

/-- 'confluencelaw9.MvccSnapshots': WHATEVER THE INPUT: true; the input reads as it did. -/
def mvccSnapshotsSpec : ChangeSpec := { name := "mvccSnapshots", fn := fun _ => fun
  | [d1, d2] => { results := [.lit (.bool true)], args := [d1, d2] }
  | _ => none }
def mvccSnapshotsRow : OpenClaim := { program := "ytokgihmigkplaaagreat", sum := "715c46b19a5bc57e01dba6027f6b1581d6f9d172e11db057eca2222812f6922b", func := "confluence/confluencelaw9.MvccSnapshots", spec := "mvccSnapshots", inPlace := ["internal/bytealg.abigen_runtime_cmpstring", "slices.overlaps[confluence/tree.item[confluence/api.Row]]", "slices.overlaps[*confluence/tree.node[confluence/api.Row]]"], unfollowed := true, recurses := true, apart := false }
def MvccSnapshotsSaid : Prop := mvccSnapshotsRow.holds Tryz.pinned (OpenSpec.ofChange mvccSnapshotsSpec)

/-- ITS FALSE NEIGHBOUR: 'it returns false'. Refute it at one input. -/
def mvccSnapshotsWrong : ChangeSpec := { name := "mvccSnapshots", fn := fun _ => fun
  | [d1, d2] => { results := [.lit (.bool false)], args := [d1, d2] }
  | _ => none }
def MvccSnapshotsWrongFalsely : Prop := mvccSnapshotsRow.holds Tryz.pinned (OpenSpec.ofChange mvccSnapshotsWrong)

/- THE SECOND FORM. 'bulk': how many values and letters a reading holds, each counted each time it is reached (what is shared counts as often as it is met; a slice's spare places count too). A statement '..UptoSaid' is the law's where the arguments, and the package variables that the reading takes, are together of bulk at most 1048576: NARROWER than '..Said'. Prove '..Said' where nothing that the law and all that it calls make is longer than what came in: it says more and counts as full. Else prove '..UptoSaid'. A law counts once. -/
mutual
def uptoBulk {H : Type} : DataW H → Nat
  | .lit (.string bytes) => bytes.length + 1
  | .lit _ => 1
  | .nil => 1
  | .ptr d => uptoBulk d + 1
  | .slice elems spare => uptoBulkAll elems + uptoBulkAll spare + 1
  | .agg parts => uptoBulkAll parts + 1
  | .iface _ d => uptoBulk d + 1
  | .map entries => uptoBulkEntries entries + 1
  | .held _ => 1
def uptoBulkAll {H : Type} : List (DataW H) → Nat
  | [] => 0
  | d :: r => uptoBulk d + uptoBulkAll r
def uptoBulkEntries {H : Type} : List (Lit × DataW H) → Nat
  | [] => 0
  | x :: r => uptoBulkEntry x + uptoBulkEntries r
def uptoBulkEntry {H : Type} : Lit × DataW H → Nat
  | (.string bytes, d) => bytes.length + uptoBulk d + 1
  | (_, d) => uptoBulk d + 1
 end
def uptoSmall : (H : Type) → List (DataW H) → Bool := fun _ ds => decide (uptoBulkAll ds ≤ 1048576)
def OpenSpec.upto (s : _root_.Go.ChangeSpec) : _root_.Go.OpenSpec := { _root_.Go.OpenSpec.ofChange s with cond := some uptoSmall }

/-- 'confluencelaw9.MvccFirst', WHERE WHAT IT READS IS OF BULK AT MOST 1048576: true; the input reads as it did. -/
def mvccFirstUptoRow : OpenClaim := { program := "ytokgihmigkplaaagreat", sum := "715c46b19a5bc57e01dba6027f6b1581d6f9d172e11db057eca2222812f6922b", func := "confluence/confluencelaw9.MvccFirst", spec := "mvccFirst", inPlace := ["internal/bytealg.abigen_runtime_cmpstring", "slices.overlaps[confluence/tree.item[confluence/api.Row]]", "slices.overlaps[*confluence/tree.node[confluence/api.Row]]"], unfollowed := true, recurses := true, apart := false, narrowed := true }
def MvccFirstUptoSaid : Prop := mvccFirstUptoRow.holds Tryz.pinned (OpenSpec.upto mvccFirstSpec)

/-- 'confluencelaw9.MvccSnapshots', WHERE WHAT IT READS IS OF BULK AT MOST 1048576: true; the input reads as it did. -/
def mvccSnapshotsUptoRow : OpenClaim := { program := "ytokgihmigkplaaagreat", sum := "715c46b19a5bc57e01dba6027f6b1581d6f9d172e11db057eca2222812f6922b", func := "confluence/confluencelaw9.MvccSnapshots", spec := "mvccSnapshots", inPlace := ["internal/bytealg.abigen_runtime_cmpstring", "slices.overlaps[confluence/tree.item[confluence/api.Row]]", "slices.overlaps[*confluence/tree.node[confluence/api.Row]]"], unfollowed := true, recurses := true, apart := false, narrowed := true }
def MvccSnapshotsUptoSaid : Prop := mvccSnapshotsUptoRow.holds Tryz.pinned (OpenSpec.upto mvccSnapshotsSpec)

end Rows
end Go.Proofs.YtokgihmigkplaaaGreat
