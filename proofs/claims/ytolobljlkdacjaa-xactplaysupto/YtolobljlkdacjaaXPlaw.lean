import Derived.Test.YtolobljlkdacjaaXPlaw1
import Derived.Test.YtolobljlkdacjaaXPlaw2
/- XactPlays: the law. -/
namespace Go.Proofs.Ytolobljlkdacjaa
open Go.RowKit Go

theorem plays_law (one two : Int) (ao : Option Addr) (len cap : Nat) (w : World) (b1 : -9223372036854775808 ≤ one) (b2 : one ≤ 9223372036854775807) (b3 : -9223372036854775808 ≤ two) (b4 : two ≤ 9223372036854775807) (hlen : len ≤ 1048576) (ops : Nat → Opv) (hops : ∀ k, k < len → ∃ g off, ao = some ⟨g, off, none⟩ ∧ OpAt w g (off + k * 7) (ops k) ∧ (ops k).ok w) :
    Calls Try.prog 3 #[.int .i64 one, .int .i64 two, .slice ao len cap] w fun x w' => x = .returned (.bool true) ∧ Tch (fun _ => False) w w' := by
  by_cases hr : 1 ≤ one ∧ one ≤ 2147483648
  · exact plays_law1 one two ao len cap w b1 b2 b3 b4 hlen ops hops hr
  · exact plays_law2 one two ao len cap w b1 b2 b3 b4 hlen ops hops (by omega)
end Go.Proofs.Ytolobljlkdacjaa
