/-
  No cell of these rows narrows 'for every input' (looked for: loops, veiled, ifaces, maps, wideKeys, modest, calm, conditions, laid).
  DERIVED. THE GIVEN ROWS OF THIS SEAT. 3 by the template 'for every input the law returns true; each argument reads behind the call as it read before'; 0 by the template 'total and deterministic' (their statements: YtkokmgoplldcfaaTotals.lean).
  GIVEN WITH THE SEED: the statements are not yours to turn. If you find one false, say at which input.
  Laid BY PROGRAM, IN A SANDBOX (cutbox-rows.mjs): the forced cells as the released guide's own fill.sh prints them over the translation 1eb145ddb5889a1c… (all of the seat's roots in one cut). By AI agents, Wed Nov 11 2026. No macro, syntax, notation, axiom, sorry.
-/
import Derived.Test.YtkokmgoplldcfaaChecked
import GoSem.Claim
import GoSem.ClaimJoined
import GoSem.ClaimMapViews
import Derived.JoinedTies
import Derived.KernelRfl
namespace Go.Proofs.Ytkokmgoplldcfaa
/- THE CELL 'sum', in the pinned program and in every row, IS THE sha256 OF THE DUMP (.gsa) THAT YtkokmgoplldcfaaProg.lean LOADS. Nothing in Lean hashes anything: it is a label: what it is worth is what the hold of that sum in a sandbox is worth. -/
noncomputable def Try.pinned : Pinned := { name := "ytkokmgoplldcfaa", sum := "1eb145ddb5889a1c3b41fa38964255daf5382f5f1bc8a9928f6b917ad55657b4", checked := Try.checked }
namespace Rows
def none {H : Type} : Left H := { results := [], args := [] }

/-- 'confluencelaw7.XactOwn': WHATEVER THE INPUT: true; the input reads as it did. -/
def xactOwnSpec : ChangeSpec := { name := "xactOwn", fn := fun _ => fun
  | [d1, d2, d3] => { results := [.lit (.bool true)], args := [d1, d2, d3] }
  | _ => none }
def xactOwnRow : OpenClaim := { program := "ytkokmgoplldcfaa", sum := "1eb145ddb5889a1c3b41fa38964255daf5382f5f1bc8a9928f6b917ad55657b4", func := "confluence/confluencelaw7.XactOwn", spec := "xactOwn", apart := false }
def XactOwnSaid : Prop := xactOwnRow.holds Try.pinned (OpenSpec.ofChange xactOwnSpec)

/-- ITS FALSE NEIGHBOUR: 'it returns false'. Refute it at one input. -/
def xactOwnWrong : ChangeSpec := { name := "xactOwn", fn := fun _ => fun
  | [d1, d2, d3] => { results := [.lit (.bool false)], args := [d1, d2, d3] }
  | _ => none }
def XactOwnWrongFalsely : Prop := xactOwnRow.holds Try.pinned (OpenSpec.ofChange xactOwnWrong)

/-- 'confluencelaw7.XactKeeps': WHATEVER THE INPUT: true; the input reads as it did. -/
def xactKeepsSpec : ChangeSpec := { name := "xactKeeps", fn := fun _ => fun
  | [d1, d2] => { results := [.lit (.bool true)], args := [d1, d2] }
  | _ => none }
def xactKeepsRow : OpenClaim := { program := "ytkokmgoplldcfaa", sum := "1eb145ddb5889a1c3b41fa38964255daf5382f5f1bc8a9928f6b917ad55657b4", func := "confluence/confluencelaw7.XactKeeps", spec := "xactKeeps", unfollowed := true, recurses := true, apart := false }
def XactKeepsSaid : Prop := xactKeepsRow.holds Try.pinned (OpenSpec.ofChange xactKeepsSpec)

/-- ITS FALSE NEIGHBOUR: 'it returns false'. Refute it at one input. -/
def xactKeepsWrong : ChangeSpec := { name := "xactKeeps", fn := fun _ => fun
  | [d1, d2] => { results := [.lit (.bool false)], args := [d1, d2] }
  | _ => none }
def XactKeepsWrongFalsely : Prop := xactKeepsRow.holds Try.pinned (OpenSpec.ofChange xactKeepsWrong)

/-- 'confluencelaw7.XactPlays': WHATEVER THE INPUT: true; the input reads as it did. -/
def xactPlaysSpec : ChangeSpec := { name := "xactPlays", fn := fun _ => fun
  | [d1, d2, d3] => { results := [.lit (.bool true)], args := [d1, d2, d3] }
  | _ => none }
def xactPlaysRow : OpenClaim := { program := "ytkokmgoplldcfaa", sum := "1eb145ddb5889a1c3b41fa38964255daf5382f5f1bc8a9928f6b917ad55657b4", func := "confluence/confluencelaw7.XactPlays", spec := "xactPlays", unfollowed := true, recurses := true, apart := false }
def XactPlaysSaid : Prop := xactPlaysRow.holds Try.pinned (OpenSpec.ofChange xactPlaysSpec)

/-- ITS FALSE NEIGHBOUR: 'it returns false'. Refute it at one input. -/
def xactPlaysWrong : ChangeSpec := { name := "xactPlays", fn := fun _ => fun
  | [d1, d2, d3] => { results := [.lit (.bool false)], args := [d1, d2, d3] }
  | _ => none }
def XactPlaysWrongFalsely : Prop := xactPlaysRow.holds Try.pinned (OpenSpec.ofChange xactPlaysWrong)

/- THE SECOND FORM. 'bulk': how many values and letters a reading holds, each counted each time it is reached (what is shared counts as often as it is met; a slice's spare places count too). A statement '..UptoSaid' is the law's where the arguments, and the package variables that the reading takes, are together of bulk at most 1048576: NARROWER than '..Said'. Prove '..Said' where nothing that the law and all that it calls make is longer than what came in: it says more and counts as full. Else prove '..UptoSaid'. A law counts once. -/
mutual
def uptoBulk {H : Type} : DataW H → Nat
  | .lit (.string bytes) => bytes.length + 1
  | .lit _ => 1
  | .nil => 1
  | .ptr d => uptoBulk d + 1
  | .slice elems spare => uptoBulkAll elems + uptoBulkAll spare + 1
  | .agg parts => uptoBulkAll parts + 1
  | .iface _ d => uptoBulk d + 1
  | .map entries => uptoBulkEntries entries + 1
  | .held _ => 1
def uptoBulkAll {H : Type} : List (DataW H) → Nat
  | [] => 0
  | d :: r => uptoBulk d + uptoBulkAll r
def uptoBulkEntries {H : Type} : List (Lit × DataW H) → Nat
  | [] => 0
  | x :: r => uptoBulkEntry x + uptoBulkEntries r
def uptoBulkEntry {H : Type} : Lit × DataW H → Nat
  | (.string bytes, d) => bytes.length + uptoBulk d + 1
  | (_, d) => uptoBulk d + 1
 end
def uptoSmall : (H : Type) → List (DataW H) → Bool := fun _ ds => decide (uptoBulkAll ds ≤ 1048576)
def OpenSpec.upto (s : _root_.Go.ChangeSpec) : _root_.Go.OpenSpec := { _root_.Go.OpenSpec.ofChange s with cond := some uptoSmall }

/-- 'confluencelaw7.XactOwn', WHERE WHAT IT READS IS OF BULK AT MOST 1048576: true; the input reads as it did. -/
def xactOwnUptoRow : OpenClaim := { program := "ytkokmgoplldcfaa", sum := "1eb145ddb5889a1c3b41fa38964255daf5382f5f1bc8a9928f6b917ad55657b4", func := "confluence/confluencelaw7.XactOwn", spec := "xactOwn", apart := false, narrowed := true }
def XactOwnUptoSaid : Prop := xactOwnUptoRow.holds Try.pinned (OpenSpec.upto xactOwnSpec)

/-- 'confluencelaw7.XactKeeps', WHERE WHAT IT READS IS OF BULK AT MOST 1048576: true; the input reads as it did. -/
def xactKeepsUptoRow : OpenClaim := { program := "ytkokmgoplldcfaa", sum := "1eb145ddb5889a1c3b41fa38964255daf5382f5f1bc8a9928f6b917ad55657b4", func := "confluence/confluencelaw7.XactKeeps", spec := "xactKeeps", unfollowed := true, recurses := true, apart := false, narrowed := true }
def XactKeepsUptoSaid : Prop := xactKeepsUptoRow.holds Try.pinned (OpenSpec.upto xactKeepsSpec)

/-- 'confluencelaw7.XactPlays', WHERE WHAT IT READS IS OF BULK AT MOST 1048576: true; the input reads as it did. -/
def xactPlaysUptoRow : OpenClaim := { program := "ytkokmgoplldcfaa", sum := "1eb145ddb5889a1c3b41fa38964255daf5382f5f1bc8a9928f6b917ad55657b4", func := "confluence/confluencelaw7.XactPlays", spec := "xactPlays", unfollowed := true, recurses := true, apart := false, narrowed := true }
def XactPlaysUptoSaid : Prop := xactPlaysUptoRow.holds Try.pinned (OpenSpec.upto xactPlaysSpec)

end Rows
end Go.Proofs.Ytkokmgoplldcfaa
