import Derived.Test.YtjiblajnfnmjnaaGreatDoorVLift
import Derived.Lib.Bytealg
import Derived.StillTail
import Derived.Deep.Quiet
namespace Go.Proofs.YtjiblajnfnmjnaaGreatDoor
open Go.RowKit
def kd4 (k : Int) : Int := (if k < 0 then -(k + 1) else k) % 4
def cutS (s : ByteArray) : ByteArray := if 200 < s.size then s.extract 0 200 else s
def rt (v : Val) : Val := if kd4 v.k = 1 then ⟨1, v.n, ⟨#[]⟩⟩ else if kd4 v.k = 2 then ⟨2, 0, cutS v.s⟩ else if kd4 v.k = 3 then ⟨3, v.n % 2, ⟨#[]⟩⟩ else ⟨0, 0, ⟨#[]⟩⟩
open Go
def YS (P : Program) (o : Oper) (a : Act) (C : World → Prop) (W : World) (v : Value) : Prop :=
  ∀ (b : Act) (K : Act → World → Prop) (Q : Exit → Act → World → Prop), (∀ W', C W' → K (b.put o.dst v) W') → o.upon P b K Q ((execOp a.eval o).run P W)
theorem YS.same {P : Program} {o : Oper} {a a' : Act} {C : World → Prop} {W : World} {v : Value} (h : YS P o a C W v) (he : execOp a'.eval o = execOp a.eval o) : YS P o a' C W v := by
  unfold YS at *
  rw [he]; exact h
end Go.Proofs.YtjiblajnfnmjnaaGreatDoor
