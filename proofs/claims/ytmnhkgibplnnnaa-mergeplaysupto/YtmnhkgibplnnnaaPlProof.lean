import Derived.Test.YtmnhkgibplnnnaaVPlW
import Derived.Test.YtmnhkgibplnnnaaVPlL
/- MergePlays, whole. -/
namespace Go.Proofs.Ytmnhkgibplnnnaa
theorem plays_holds : Rows.MergePlaysUptoSaid := pl_of pl_law
#print axioms plays_holds
end Go.Proofs.Ytmnhkgibplnnnaa
