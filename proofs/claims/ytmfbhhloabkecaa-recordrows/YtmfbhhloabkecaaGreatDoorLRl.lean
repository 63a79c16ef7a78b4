import Derived.Test.YtmfbhhloabkecaaGreatDoorLR0
import Derived.Test.YtmfbhhloabkecaaGreatDoorLR000
import Derived.Test.YtmfbhhloabkecaaGreatDoorLR001
import Derived.Test.YtmfbhhloabkecaaGreatDoorLR002
import Derived.Test.YtmfbhhloabkecaaGreatDoorLR010
import Derived.Test.YtmfbhhloabkecaaGreatDoorLR011
import Derived.Test.YtmfbhhloabkecaaGreatDoorLR012
import Derived.Test.YtmfbhhloabkecaaGreatDoorLR100
import Derived.Test.YtmfbhhloabkecaaGreatDoorLR101
import Derived.Test.YtmfbhhloabkecaaGreatDoorLR102
import Derived.Test.YtmfbhhloabkecaaGreatDoorLR110
import Derived.Test.YtmfbhhloabkecaaGreatDoorLR111
import Derived.Test.YtmfbhhloabkecaaGreatDoorLR112
set_option maxHeartbeats 4000000
set_option maxRecDepth 100000
namespace Go.Proofs.YtmfbhhloabkecaaGreatDoor.C
open Go.RowKit Go Go.Sort
theorem rows_none (nm : ByteArray) (cols : List Col) (co : Option Addr) (cc : Nat) (key : Int) (vs : List Val) (ro : Option Addr) (rc : Nat) (xid : Int) (w : World) (hg : HE w) (hvb : HVB w) (hv : HP w) (hwd : HWd w) (hc : SL w co (ccl cols)) (hno : co = none → cols = [] ∧ cc = 0) (hcap : cols.length ≤ cc) (hcl : cols.length ≤ 9223372036854775807)
    (hE : creE [] 0 nm cols key ≠ 0) :
    Calls Tryz.prog 3 #[.string nm, .slice co cols.length cc, .int .i64 key, .slice ro vs.length rc, .int .i64 xid] w fun x w' => x = .returned (.bool true) ∧ Tch (fun _ => False) w w' := by
  have hq0 := known_any w hg hvb hv hwd
  obtain ⟨E, hEE⟩ : ∃ E, E = creE [] 0 nm cols key := ⟨_, rfl⟩
  rw [← hEE] at hE
  have HCR : Hid (∀ w1, Tch (fun _ => False) w w1 → Calls Tryz.prog 8 #[.pointer (some ⟨w1.heap.size, 0, none⟩), .string nm, .slice co cols.length cc, .int .i64 key] (w1.alloc (.cells #[.slice none 0 0, .int .i64 0] 60)) fun x w' => x = .returned (.tuple #[zA, .int .i64 E]) ∧ Tch (fun _ => False) (w1.alloc (.cells #[.slice none 0 0, .int .i64 0] 60)) w') := fun w1 t => by
    have hb1 := heap_new w1 (.cells #[.slice none 0 0, .int .i64 0] 60)
    have hCA : CA (w1.alloc (.cells #[.slice none 0 0, .int .i64 0] 60)) (fun _ => False) w1.heap.size [] 0 [] none 0 := ⟨hb1, rfl, ⟨SL.nil _ _, fun h => absurd rfl h, fun i hi => by simp at hi⟩, fun h => h⟩
    have q := create_any w1.heap.size [] 0 [] none 0 (fun _ => False) nm cols co cc key _ hCA (by simp) (fun i hi => by simp at hi) (fun _ h => h.elim) ((hc.no t).no (Tch.alloc _ _ _)) hno hcap hcl (by omega) (by omega) (fun g o e hne => by
      obtain ⟨g', o', e', ha⟩ := hc (f3_nil _ _ _ hne)
      rw [e] at e'; injection e' with e'; injection e' with e1 e2
      have := ha.lt (f3_nil _ _ _ hne)
      have := t.size
      omega)
    rw [← hEE] at q
    exact q.mono (fun y w' h => h.2 hE)
  have HE0 : Hid (E ≠ 0) := hE
  obtain ⟨cn, hcn⟩ : ∃ cn, cn = cols.length := ⟨_, rfl⟩
  rw [← hcn] at HCR ⊢
  obtain ⟨rn, hrn⟩ : ∃ rn, rn = vs.length := ⟨_, rfl⟩
  rw [← hrn]
  clear hEE hc hno hcap hcl hE hg hvb hv hwd hcn hrn
  go_enter Tryz.func3, Tryz.ntmps3
  go_wp2_with fail
  refine hq0.mono ?_
  rintro y w1 ⟨rfl, t1⟩
  clear hq0
  go_wp2_with fail
  refine (new_any w1).mono ?_
  rintro y w2 ⟨rfl, hw2⟩
  have t2 : Tch (fun _ => False) w1 w2 := by rw [hw2]; exact Tch.alloc _ _ _
  have q2 := HCR.out w1 t1
  rw [← hw2] at q2
  have T2 := t1.trans' t2
  obtain ⟨B, hB⟩ : ∃ B, B = w1.heap.size := ⟨_, rfl⟩
  rw [← hB] at q2 ⊢
  clear hw2 t2 t1 hB HCR
  go_wp2_with fail
  refine q2.mono ?_
  rintro y w3 ⟨rfl, t3⟩
  clear q2
  have T3 := T2.trans' t3
  have hE := HE0.out
  clear HE0
  unfold zA tA
  go_wp2_with fail
  go_ret
  exact ⟨rfl, T3.allocR _⟩
end Go.Proofs.YtmfbhhloabkecaaGreatDoor.C
namespace Go.Proofs.YtmfbhhloabkecaaGreatDoor.C
open Go.RowKit Go Go.Sort
theorem rows_law (nm : ByteArray) (cols : List Col) (co : Option Addr) (cc : Nat) (key : Int) (vs : List Val) (ro : Option Addr) (rc : Nat) (xid : Int) (w : World) (hg : HE w) (hvb : HVB w) (hv : HP w) (hwd : HWd w) (hc : SL w co (ccl cols)) (hno : co = none → cols = [] ∧ cc = 0) (hcap : cols.length ≤ cc) (hcl : cols.length ≤ 9223372036854775807) (hr : SL w ro (vcl vs)) (hro : ro = none → rc = 0) (hvi : ∀ v ∈ vs, v.i64) :
    Calls Tryz.prog 3 #[.string nm, .slice co cols.length cc, .int .i64 key, .slice ro vs.length rc, .int .i64 xid] w fun x w' => x = .returned (.bool true) ∧ Tch (fun _ => False) w w' := by
  by_cases hE : creE [] 0 nm cols key = 0
  · by_cases hW : widE (creT 0 nm cols key) zC = 0
    · by_cases hF : (fitR (creT 0 nm cols key) vs).2 = 0
      · by_cases h1 : xid < 1
        · exact rows_111 _ _ _ _ _ _ _ _ _ _ hg hvb hv hwd hc hno hcap hcl hr hro hvi h1 hE hW hF
        · by_cases h2 : 2147483646 < xid
          · exact rows_112 _ _ _ _ _ _ _ _ _ _ hg hvb hv hwd hc hno hcap hcl hr hro hvi h2 hE hW hF
          · exact rows_110 _ _ _ _ _ _ _ _ _ _ hg hvb hv hwd hc hno hcap hcl hr hro hvi ⟨by omega, by omega⟩ hE hW hF
      · by_cases h1 : xid < 1
        · exact rows_101 _ _ _ _ _ _ _ _ _ _ hg hvb hv hwd hc hno hcap hcl hr hro hvi h1 hE hW hF
        · by_cases h2 : 2147483646 < xid
          · exact rows_102 _ _ _ _ _ _ _ _ _ _ hg hvb hv hwd hc hno hcap hcl hr hro hvi h2 hE hW hF
          · exact rows_100 _ _ _ _ _ _ _ _ _ _ hg hvb hv hwd hc hno hcap hcl hr hro hvi ⟨by omega, by omega⟩ hE hW hF
    · by_cases hF : (fitR (creT 0 nm cols key) vs).2 = 0
      · by_cases h1 : xid < 1
        · exact rows_011 _ _ _ _ _ _ _ _ _ _ hg hvb hv hwd hc hno hcap hcl hr hro hvi h1 hE hW hF
        · by_cases h2 : 2147483646 < xid
          · exact rows_012 _ _ _ _ _ _ _ _ _ _ hg hvb hv hwd hc hno hcap hcl hr hro hvi h2 hE hW hF
          · exact rows_010 _ _ _ _ _ _ _ _ _ _ hg hvb hv hwd hc hno hcap hcl hr hro hvi ⟨by omega, by omega⟩ hE hW hF
      · by_cases h1 : xid < 1
        · exact rows_001 _ _ _ _ _ _ _ _ _ _ hg hvb hv hwd hc hno hcap hcl hr hro hvi h1 hE hW hF
        · by_cases h2 : 2147483646 < xid
          · exact rows_002 _ _ _ _ _ _ _ _ _ _ hg hvb hv hwd hc hno hcap hcl hr hro hvi h2 hE hW hF
          · exact rows_000 _ _ _ _ _ _ _ _ _ _ hg hvb hv hwd hc hno hcap hcl hr hro hvi ⟨by omega, by omega⟩ hE hW hF
  · exact rows_none nm cols co cc key vs ro rc xid w hg hvb hv hwd hc hno hcap hcl hE
end Go.Proofs.YtmfbhhloabkecaaGreatDoor.C
