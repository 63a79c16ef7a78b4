import Derived.Test.YtjiblajnfnmjnaaGreatDoorRS0
namespace Go.Proofs.YtjiblajnfnmjnaaGreatDoor.C
open Go.RowKit Go
theorem TL.fresh {F F' : Nat → Prop} {W : World} {to : Option Addr} {P : List (Tbl × Value)} (h : TL W F to P) (hF : ∀ i, i < W.heap.size → F' i → F i) : TL W F' to P := by
  refine ⟨h.sl, fun hP g o e hf => ?_, fun i hi => ?_⟩
  · obtain ⟨g', o', e', ha⟩ := h.sl (tcl_nil hP)
    rw [e'] at e; injection e with e; injection e with e1 e2; subst e1
    exact h.nf hP g' o' e' (hF g' (ha.lt (tcl_nil hP)) hf)
  · obtain ⟨co, cc, hck⟩ := h.col i hi
    exact ⟨co, cc, hck.eq, hck.sl, hck.no, hck.cap, fun hne g o e => ⟨fun hf => (hck.nf hne g o e).1 (hF g (hck.nf hne g o e).2 hf), (hck.nf hne g o e).2⟩⟩
theorem CA.fresh {F F' : Nat → Prop} {W : World} {b : Nat} {L : List Tbl} {gv : Int} {P : List (Tbl × Value)} {to : Option Addr} {tc : Nat} (h : CA W F b L gv P to tc) (hF : ∀ i, i < W.heap.size → F' i → F i) : CA W F' b L gv P to tc :=
  ⟨h.blk, h.eq, h.tl.fresh (fun i hi h' => h'.imp (hF i hi) id), fun hf => h.nb (hF b (blk_lt h.blk) hf)⟩
end Go.Proofs.YtjiblajnfnmjnaaGreatDoor.C
