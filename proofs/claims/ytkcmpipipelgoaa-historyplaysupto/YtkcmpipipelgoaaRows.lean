/-
  No cell of these rows narrows 'for every input' (looked for: loops, veiled, ifaces, maps, wideKeys, modest, calm, conditions, laid).
  DERIVED. THE GIVEN ROWS OF THIS SEAT. 3 by the template 'for every input the law returns true; each argument reads behind the call as it read before'; 0 by the template 'total and deterministic' (their statements: YtkcmpipipelgoaaTotals.lean).
  GIVEN WITH THE SEED: the statements are not yours to turn. If you find one false, say at which input.
  Laid BY PROGRAM, IN A SANDBOX (cutbox-rows.mjs): the forced cells as the released guide's own fill.sh prints them over the translation 2312bafc54595c20… (all of the seat's roots in one cut). By AI agents, Wed Nov 11 2026. No macro, syntax, notation, axiom, sorry.
-/
import Derived.Test.YtkcmpipipelgoaaChecked
import GoSem.Claim
import GoSem.ClaimJoined
import GoSem.ClaimMapViews
import Derived.JoinedTies
import Derived.KernelRfl
namespace Go.Proofs.Ytkcmpipipelgoaa
/- THE CELL 'sum', in the pinned program and in every row, IS THE sha256 OF THE DUMP (.gsa) THAT YtkcmpipipelgoaaProg.lean LOADS. Nothing in Lean hashes anything: it is a label: what it is worth is what the hold of that sum in a sandbox is worth. -/
noncomputable def Try.pinned : Pinned := { name := "ytkcmpipipelgoaa", sum := "2312bafc54595c20528fcf9f98b3b9292579688f86f3d4ca83aabe2420c95e56", checked := Try.checked }
namespace Rows
def none {H : Type} : Left H := { results := [], args := [] }

/-- 'confluencelaw17.HistoryStays': WHATEVER THE INPUT: true; the input reads as it did. -/
def historyStaysSpec : ChangeSpec := { name := "historyStays", fn := fun _ => fun
  | [d] => { results := [.lit (.bool true)], args := [d] }
  | _ => none }
def historyStaysRow : OpenClaim := { program := "ytkcmpipipelgoaa", sum := "2312bafc54595c20528fcf9f98b3b9292579688f86f3d4ca83aabe2420c95e56", func := "confluence/confluencelaw17.HistoryStays", spec := "historyStays", unfollowed := true, recurses := true, plainKeys := false, apart := false }
def HistoryStaysSaid : Prop := historyStaysRow.holds Try.pinned (OpenSpec.ofChange historyStaysSpec)

/-- ITS FALSE NEIGHBOUR: 'it returns false'. Refute it at one input. -/
def historyStaysWrong : ChangeSpec := { name := "historyStays", fn := fun _ => fun
  | [d] => { results := [.lit (.bool false)], args := [d] }
  | _ => none }
def HistoryStaysWrongFalsely : Prop := historyStaysRow.holds Try.pinned (OpenSpec.ofChange historyStaysWrong)

/-- 'confluencelaw17.HistoryTrims': WHATEVER THE INPUT: true; the input reads as it did. -/
def historyTrimsSpec : ChangeSpec := { name := "historyTrims", fn := fun _ => fun
  | [d1, d2] => { results := [.lit (.bool true)], args := [d1, d2] }
  | _ => none }
def historyTrimsRow : OpenClaim := { program := "ytkcmpipipelgoaa", sum := "2312bafc54595c20528fcf9f98b3b9292579688f86f3d4ca83aabe2420c95e56", func := "confluence/confluencelaw17.HistoryTrims", spec := "historyTrims", unfollowed := true, recurses := true, plainKeys := false, apart := false }
def HistoryTrimsSaid : Prop := historyTrimsRow.holds Try.pinned (OpenSpec.ofChange historyTrimsSpec)

/-- ITS FALSE NEIGHBOUR: 'it returns false'. Refute it at one input. -/
def historyTrimsWrong : ChangeSpec := { name := "historyTrims", fn := fun _ => fun
  | [d1, d2] => { results := [.lit (.bool false)], args := [d1, d2] }
  | _ => none }
def HistoryTrimsWrongFalsely : Prop := historyTrimsRow.holds Try.pinned (OpenSpec.ofChange historyTrimsWrong)

/-- 'confluencelaw17.HistoryPlays': WHATEVER THE INPUT: true; the input reads as it did. -/
def historyPlaysSpec : ChangeSpec := { name := "historyPlays", fn := fun _ => fun
  | [d1, d2, d3] => { results := [.lit (.bool true)], args := [d1, d2, d3] }
  | _ => none }
def historyPlaysRow : OpenClaim := { program := "ytkcmpipipelgoaa", sum := "2312bafc54595c20528fcf9f98b3b9292579688f86f3d4ca83aabe2420c95e56", func := "confluence/confluencelaw17.HistoryPlays", spec := "historyPlays", unfollowed := true, recurses := true, plainKeys := false, apart := false }
def HistoryPlaysSaid : Prop := historyPlaysRow.holds Try.pinned (OpenSpec.ofChange historyPlaysSpec)

/-- ITS FALSE NEIGHBOUR: 'it returns false'. Refute it at one input. -/
def historyPlaysWrong : ChangeSpec := { name := "historyPlays", fn := fun _ => fun
  | [d1, d2, d3] => { results := [.lit (.bool false)], args := [d1, d2, d3] }
  | _ => none }
def HistoryPlaysWrongFalsely : Prop := historyPlaysRow.holds Try.pinned (OpenSpec.ofChange historyPlaysWrong)

/- THE SECOND FORM. 'bulk': how many values and letters a reading holds, each counted each time it is reached (what is shared counts as often as it is met; a slice's spare places count too). A statement '..UptoSaid' is the law's where the arguments, and the package variables that the reading takes, are together of bulk at most 1048576: NARROWER than '..Said'. Prove '..Said' where nothing that the law and all that it calls make is longer than what came in: it says more and counts as full. Else prove '..UptoSaid'. A law counts once. -/
mutual
def uptoBulk {H : Type} : DataW H → Nat
  | .lit (.string bytes) => bytes.length + 1
  | .lit _ => 1
  | .nil => 1
  | .ptr d => uptoBulk d + 1
  | .slice elems spare => uptoBulkAll elems + uptoBulkAll spare + 1
  | .agg parts => uptoBulkAll parts + 1
  | .iface _ d => uptoBulk d + 1
  | .map entries => uptoBulkEntries entries + 1
  | .held _ => 1
def uptoBulkAll {H : Type} : List (DataW H) → Nat
  | [] => 0
  | d :: r => uptoBulk d + uptoBulkAll r
def uptoBulkEntries {H : Type} : List (Lit × DataW H) → Nat
  | [] => 0
  | x :: r => uptoBulkEntry x + uptoBulkEntries r
def uptoBulkEntry {H : Type} : Lit × DataW H → Nat
  | (.string bytes, d) => bytes.length + uptoBulk d + 1
  | (_, d) => uptoBulk d + 1
 end
def uptoSmall : (H : Type) → List (DataW H) → Bool := fun _ ds => decide (uptoBulkAll ds ≤ 1048576)
def OpenSpec.upto (s : _root_.Go.ChangeSpec) : _root_.Go.OpenSpec := { _root_.Go.OpenSpec.ofChange s with cond := some uptoSmall }

/-- 'confluencelaw17.HistoryStays', WHERE WHAT IT READS IS OF BULK AT MOST 1048576: true; the input reads as it did. -/
def historyStaysUptoRow : OpenClaim := { program := "ytkcmpipipelgoaa", sum := "2312bafc54595c20528fcf9f98b3b9292579688f86f3d4ca83aabe2420c95e56", func := "confluence/confluencelaw17.HistoryStays", spec := "historyStays", unfollowed := true, recurses := true, plainKeys := false, apart := false, narrowed := true }
def HistoryStaysUptoSaid : Prop := historyStaysUptoRow.holds Try.pinned (OpenSpec.upto historyStaysSpec)

/-- 'confluencelaw17.HistoryTrims', WHERE WHAT IT READS IS OF BULK AT MOST 1048576: true; the input reads as it did. -/
def historyTrimsUptoRow : OpenClaim := { program := "ytkcmpipipelgoaa", sum := "2312bafc54595c20528fcf9f98b3b9292579688f86f3d4ca83aabe2420c95e56", func := "confluence/confluencelaw17.HistoryTrims", spec := "historyTrims", unfollowed := true, recurses := true, plainKeys := false, apart := false, narrowed := true }
def HistoryTrimsUptoSaid : Prop := historyTrimsUptoRow.holds Try.pinned (OpenSpec.upto historyTrimsSpec)

/-- 'confluencelaw17.HistoryPlays', WHERE WHAT IT READS IS OF BULK AT MOST 1048576: true; the input reads as it did. -/
def historyPlaysUptoRow : OpenClaim := { program := "ytkcmpipipelgoaa", sum := "2312bafc54595c20528fcf9f98b3b9292579688f86f3d4ca83aabe2420c95e56", func := "confluence/confluencelaw17.HistoryPlays", spec := "historyPlays", unfollowed := true, recurses := true, plainKeys := false, apart := false, narrowed := true }
def HistoryPlaysUptoSaid : Prop := historyPlaysUptoRow.holds Try.pinned (OpenSpec.upto historyPlaysSpec)

end Rows
end Go.Proofs.Ytkcmpipipelgoaa
