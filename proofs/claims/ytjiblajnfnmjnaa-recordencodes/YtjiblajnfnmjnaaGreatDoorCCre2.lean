import Derived.Test.YtjiblajnfnmjnaaGreatDoorRS0
namespace Go.Proofs.YtjiblajnfnmjnaaGreatDoor.C
open Go.RowKit Go
end Go.Proofs.YtjiblajnfnmjnaaGreatDoor.C
