import Derived.Test.YtaiadknglhemaaaGreatDoorCWid2
namespace Go.Proofs.YtaiadknglhemaaaGreatDoor.C
open Go.RowKit Go
theorem new_any (w:World):Calls Tryz.prog 7 #[] w fun x w'=>x= .returned (.pointer (some ⟨w.heap.size,0,none⟩))∧w'=w.alloc (.cells #[.slice none 0 0,.int .i64 0] 60):=by
 go_enter Tryz.func7,Tryz.ntmps7
 go_wp2
 go_ret
 exact⟨rfl,rfl⟩
def IS (l:List Int):List Value:=l.map (fun n=>.int .i64 n)
end Go.Proofs.YtaiadknglhemaaaGreatDoor.C
