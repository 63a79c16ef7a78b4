import Derived.Test.YtaiadknglhemaaaGreatDoorCWid
namespace Go.Proofs.YtaiadknglhemaaaGreatDoor.C
open Go.RowKit Go
theorem TO.tch2 {S:Nat→Prop} {W W':World} {base:Nat} {tv:Value} {P:List (Tbl×Value)} (h:TO W base tv P) (t:Tch S W W') (h1: ∀g,tv.ownBlock=some g→ ¬S g) (h2: ∀i (hi:i<P.length) g,P[i].2.ownBlock=some g→ ¬S g):TO W' base tv P:=
 ⟨own_tch h.own t h1,fun i hi=>own_tch (h.col i hi) t (h2 i hi),h.sep,h.dis⟩
end Go.Proofs.YtaiadknglhemaaaGreatDoor.C
