import Derived.Test.YtclfaflmjgpbhaaVPlW
import Derived.Test.YtclfaflmjgpbhaaVPlL
/- MergePlays, whole. -/
namespace Go.Proofs.Ytclfaflmjgpbhaa
theorem plays_holds : Rows.MergePlaysUptoSaid := pl_of pl_law
#print axioms plays_holds
end Go.Proofs.Ytclfaflmjgpbhaa
