/- CodeAgain over no step, walked. -/
import Derived.Test.YtdicnnlfnfcmeaaDoorAgain2
namespace Go.Proofs.YtdicnnlfnfcmeaaDoor
open Go.RowKit

set_option maxHeartbeats 16000000 in
set_option maxRecDepth 100000 in
theorem again_zero (S : ByteArray) (ao : Option Addr) (cap : Nat) (w : World) (hg : HE w) :
    Calls Tryd.prog 3 #[.string S, .slice ao 0 cap] w fun x w' => x = .returned (.bool true) ∧ Tch (fun _ => False) w w' := by
  go_enter Tryd.func3, Tryd.ntmps3
  go_wp2_with fail
  refine (known_any _ hg).mono ?_
  rintro x w1 ⟨rfl, t1⟩
  have T1 := no_mono (S := fun i => w.heap.size ≤ i) t1
  have hN := t1.size
  clear t1 hg
  go_wp2_with fail
  refine (newReader_any _ _).mono ?_
  rintro x w2 ⟨rfl, r2, t2, z2⟩
  have T2 := T1.trans' (no_mono t2)
  obtain ⟨N, hNe⟩ : ∃ N, N = w1.heap.size := ⟨_, rfl⟩
  rw [← hNe] at r2 z2 hN ⊢
  clear hNe t2 T1
  go_wp2_with fail
  refine (newWriter_any _).mono ?_
  rintro x w3 ⟨rfl, h3, t3, z3⟩
  have T3 := T2.trans' (no_mono t3)
  have r3 := r2.tch t3 (fun h => h)
  rw [z2] at h3 ⊢
  have A3 : AG w3 N S 0 := ⟨r3, h3⟩
  clear r2 t3 T2 z2 z3 r3 h3
  go_wp2_with fail
  go_loopw [8] (fun i wr => ∃ k a : Nat, i = .int .i64 k ∧ k ≤ 0 ∧ a ≤ S.size ∧ AG wr N S a ∧ Tch (fun i => w.heap.size ≤ i) w wr) (fun i _ => 0 - (intOf i).toNat)
  case atStart => exact ⟨0, 0, rfl, Nat.zero_le _, Nat.zero_le _, A3, T3⟩
  case round =>
    obtain ⟨k, a, rfl, hk, ha, hA, hT⟩ := hrel
    clear A3 T3
    obtain rfl : k = 0 := by omega
    go_wp2
    go_ret
    exact ⟨rfl, ge_new hT⟩
end Go.Proofs.YtdicnnlfnfcmeaaDoor
