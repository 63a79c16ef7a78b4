/- CodeThrough over no step, walked. -/
import Derived.Test.YtdicnnlfnfcmeaaDoorThrough3
namespace Go.Proofs.YtdicnnlfnfcmeaaDoor
open Go.RowKit Go.Deep

set_option maxHeartbeats 4000000 in
set_option maxRecDepth 100000 in
theorem laid_zero (ao : Option Addr) (cap bw : Nat) (w : World) (hg : HE w) (hW0 : WS w bw [] 0) :
    Calls Tryd.prog 22 #[.slice ao 0 cap, .pointer (some ⟨bw, 0, none⟩)] w fun x w' => x = .returned (.bool true) ∧ WS w' bw [] 0 ∧ Tch (fun _ => False) w w' := by
  go_enter Tryd.func22, Tryd.ntmps22
  go_wp2_with fail
  go_loopw [5] (fun i wr => i = .int .i64 0 ∧ wr = w) (fun i _ => 0 - (intOf i).toNat)
  case atStart => exact ⟨rfl, rfl⟩
  case round =>
    obtain ⟨rfl, hwr⟩ := hrel
    subst hwr
    go_wp2_with fail
    refine (wdone_any bw [] 0 _ hW0 hg).mono ?_
    rintro x w3 ⟨rfl, t3⟩
    have hW3 := hW0.tch t3 (fun _ _ _ h => h)
    go_wp2
    go_ret
    exact ⟨rfl, hW3, t3⟩

set_option maxHeartbeats 4000000 in
set_option maxRecDepth 100000 in
theorem through_zero (ao : Option Addr) (cap : Nat) (w : World) (hg : HE w) :
    Calls Tryd.prog 4 #[.slice ao 0 cap] w fun x w' => x = .returned (.bool true) ∧ Tch (fun _ => False) w w' := by
  have HG : Hid (∀ W, Tch (fun _ => False) w W → HE W) := fun W t => hg.tch t (fun h => h)
  go_enter Tryd.func4, Tryd.ntmps4
  go_wp2_with fail
  refine (known_any _ hg).mono ?_
  rintro x w1 ⟨rfl, T1⟩
  clear hg
  go_wp2_with fail
  refine (newWriter_any _).mono ?_
  rintro x w2 ⟨rfl, h2, t2, z2⟩
  have T2 := T1.trans' t2
  clear t2 T1 z2
  go_wp2_with fail
  refine (laid_zero ao cap _ _ (HG.out _ T2) h2).mono ?_
  rintro x w3 ⟨rfl, h3, t3⟩
  have T3 := T2.trans' t3
  clear h2 t3 T2
  go_wp2_with fail
  refine (wdone_any _ [] 0 _ h3 (HG.out _ T3)).mono ?_
  rintro x w4 ⟨rfl, t4⟩
  have T4 := T3.trans' t4
  clear h3 t4 T3
  go_wp2_with fail
  refine (newReader_any _ _).mono ?_
  rintro x w5 ⟨rfl, r5, t5, z5⟩
  have T5 := T4.trans' t5
  clear t5 T4 z5
  go_wp2_with fail
  go_loopw [5, 9] (fun ok i wr => ok = .bool true ∧ i = .int .i64 0 ∧ wr = w5) (fun _ i _ => 0 - (intOf i).toNat)
  case atStart => exact ⟨rfl, rfl, rfl⟩
  case round =>
    obtain ⟨rfl, rfl, hwr⟩ := hrel
    subst hwr
    have hd := rdone_q w4.heap.size ⟨[].toArray⟩ 0 0 _ r5 (HG.out _ T5)
    rw [show doneE 0 ((⟨[].toArray⟩ : ByteArray).size - 0) = 0 from rfl] at hd
    go_wp2_with fail
    refine hd.mono ?_
    rintro y w6 ⟨rfl, t6⟩
    have hR6 := r5.tch t6 (fun h => h)
    have T6 := T5.trans' t6
    clear hd r5 T5 t6
    go_wp2_with fail
    refine (left_q w4.heap.size ⟨[].toArray⟩ 0 0 _ hR6).mono ?_
    rintro y w7 ⟨rfl, hw7⟩
    subst hw7
    go_wp2
    go_ret
    exact ⟨rfl, T6⟩
end Go.Proofs.YtdicnnlfnfcmeaaDoor
