import Derived.Test.YtclfaflmjgpbhaaUMlW
/- MergeLists, whole. -/
namespace Go.Proofs.Ytclfaflmjgpbhaa
theorem lists_holds : Rows.MergeListsUptoSaid := ml_of ml_law
#print axioms lists_holds
end Go.Proofs.Ytclfaflmjgpbhaa
