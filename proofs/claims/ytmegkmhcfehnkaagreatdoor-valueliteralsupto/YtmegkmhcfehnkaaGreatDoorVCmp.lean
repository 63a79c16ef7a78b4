import Derived.Test.YtmegkmhcfehnkaaGreatDoorVSame
import Derived.Test.YtmegkmhcfehnkaaGreatDoorQTail
import Derived.Lib.Bytealg
/- The order of values, by the code and by the document. -/
namespace Go.Proofs.YtmegkmhcfehnkaaGreatDoor
open Go.RowKit

/-- The order of two kinds. -/
def cmpK (a b : Int) : Int := if Lib.compareInt (rk a) (rk b) = 0 then Lib.compareInt a b else Lib.compareInt (rk a) (rk b)
theorem cmpInt0 {a b : Int} : Lib.compareInt a b = 0 ↔ a = b := by
  unfold Lib.compareInt; (repeat' split) <;> omega
theorem cmpV_k {a b : Val} (h : a.k ≠ b.k) : cmpV a b = cmpK a.k b.k := by
  unfold cmpV cmpK
  by_cases h1 : rk a.k = rk b.k
  · rw [if_neg (by simpa using h1), if_pos h, if_pos (cmpInt0.2 h1)]
  · rw [if_pos h1, if_neg (fun e => h1 (cmpInt0.1 e))]
theorem cmpV_n {a b : Val} (h : a.k = b.k) (h2 : a.n ≠ b.n) : cmpV a b = Lib.compareInt a.n b.n := by
  unfold cmpV; rw [if_neg (by rw [h]; simp), if_neg (by simpa using h), if_pos h2]
theorem cmpV_s {a b : Val} (h : a.k = b.k) (h2 : a.n = b.n) : cmpV a b = Lib.compareBytes a.s.data.toList b.s.data.toList := by
  unfold cmpV; rw [if_neg (by rw [h]; simp), if_neg (by simpa using h), if_neg (by simpa using h2)]

end Go.Proofs.YtmegkmhcfehnkaaGreatDoor
