import Derived.Test.YtjbehnoococelaaXFace
import Derived.RangeFuncNested
import Derived.RangeFuncBound
import Derived.RangeFuncCalls
import Derived.RangeFuncLeaves
import Derived.Shelf.Abstract
import Derived.Shelf.RegionOpen
import Derived.WalkKit
import Derived.OwnWalkIn
import Derived.TacticsInMore
import Derived.LoopNIn
import Derived.LoopIn
/- Versions; slices.Backward over them. -/
namespace Go.Proofs.Ytjbehnoococelaa
open Go.RowKit Go Go.Shelf
attribute [local go_sem] Oper.semAt_some

/-- A version: its writer, whether the row is there, how many values it has, their cells. -/
structure Ver where
  wr : Int
  th : Bool
  n : Nat
  cs : List Value
/-- A version, and the row as it stands in the world. -/
abbrev VV := Ver × (Option Addr × Nat)
/-- Versions for reading, in a block below n₀. -/
def VRd (n₀ : Nat) (w : World) (ao : Option Addr) (zs : List VV) : Prop :=
  (zs = [] ∧ ao = none) ∨ ∃ g, ao = some ⟨g, 0, none⟩ ∧ g < n₀ ∧ ∀ (k : Nat) z, zs[k]? = some z → w.cell? ⟨g, k * 3, none⟩ = some (.int .i64 z.1.wr) ∧ w.cell? ⟨g, k * 3 + 1, none⟩ = some (.bool z.1.th) ∧ w.cell? ⟨g, k * 3 + 2, none⟩ = some (.slice z.2.1 z.1.n z.2.2)
theorem VRd.below {n₀ : Nat} {A B : World} (h : Below n₀ A B) {ao : Option Addr} {zs : List VV} : VRd n₀ A ao zs → VRd n₀ B ao zs
  | .inl e => .inl e
  | .inr ⟨g, e, hg, hc⟩ => .inr ⟨g, e, hg, fun k z hz => by
      obtain ⟨c0, c1, c2⟩ := hc k z hz
      exact ⟨(h.cell (p := ⟨g, k * 3, none⟩) hg).trans c0, (h.cell (p := ⟨g, k * 3 + 1, none⟩) hg).trans c1, (h.cell (p := ⟨g, k * 3 + 2, none⟩) hg).trans c2⟩⟩
/-- What has come, from the last one on, when r are left. -/
def dn (zs : List VV) (r : Nat) : List (Nat × VV) := ((zs.mapIdx (fun i z => (i, z))).drop r).reverse
theorem dn_all (zs : List VV) : dn zs zs.length = [] := by simp [dn]
theorem dn_step (zs : List VV) (r : Nat) (z : VV) (h : zs[r]? = some z) : dn zs r = dn zs (r + 1) ++ [(r, z)] := by
  have hr : r < zs.length := (List.getElem?_eq_some_iff.1 h).1
  have hz : zs[r] = z := (List.getElem?_eq_some_iff.1 h).2
  unfold dn
  rw [List.drop_eq_getElem_cons (i := r) (by simp; exact hr), List.reverse_cons]
  simp [hz]
theorem dn_mem {zs : List VV} {r : Nat} {x : Nat × VV} : x ∈ dn zs r ↔ r ≤ x.1 ∧ zs[x.1]? = some x.2 := by
  obtain ⟨i, z⟩ := x
  unfold dn
  rw [List.mem_reverse]
  constructor
  · intro h
    obtain ⟨j, hj, e⟩ := List.mem_iff_getElem.1 h
    simp only [List.getElem_drop, List.getElem_mapIdx, Prod.mk.injEq] at e
    obtain ⟨rfl, rfl⟩ := e
    simp only [List.length_drop, List.length_mapIdx] at hj
    exact ⟨by simp, List.getElem?_eq_getElem (by omega)⟩
  · rintro ⟨h1, h2⟩
    simp only at h1 h2
    have hi : i < zs.length := (List.getElem?_eq_some_iff.1 h2).1
    refine List.mem_iff_getElem.2 ⟨i - r, by simp; omega, ?_⟩
    simp only [List.getElem_drop, List.getElem_mapIdx, Prod.mk.injEq]
    have e : r + (i - r) = i := by omega
    refine ⟨e, ?_⟩
    have := (List.getElem?_eq_some_iff.1 h2).2
    simp only [e]
    exact this
theorem dn_len (zs : List VV) (r : Nat) : (dn zs r).length = zs.length - r := by simp [dn]

set_option maxRecDepth 100000 in
set_option maxHeartbeats 2000000 in
theorem back1_in (F : Fence) (n : Nat) (h66 : F.fn 66) (hro : F.round = none) (hn : 1 ≤ n) (l Bs n₀ cap : Nat) (ao : Option Addr) (zs : List VV) (hreach : zs.length ≤ 1000000) (J Jx : List (Nat × VV) → World → Prop)
    (hY : ∀ pre x W, J pre W → pre.length < zs.length → zs[x.1]? = some x.2 → YieldAt F (n - 1) Try.prog l #[.int .i64 (x.1 : Int), .agg #[.int .i64 x.2.1.wr, .bool x.2.1.th, .slice x.2.2.1 x.2.1.n x.2.2.2]] W fun e W' =>
      (e = .returned (.bool true) ∧ J (pre ++ [x]) W' ∧ Below n₀ W W') ∨ (e = .returned (.bool false) ∧ Jx (pre ++ [x]) W'))
    (W : World) (hBs : W.cell? ⟨Bs, 0, none⟩ = some (.slice ao zs.length cap)) (hB : Bs < n₀) (hc : VRd n₀ W ao zs) (h0 : J [] W) :
    CallsIn F n Try.prog 66 #[.func (.yield l) #[] #[], .pointer (some ⟨Bs, 0, none⟩)] W fun e W' => (∃ v, e = .returned v) ∧
      ((∃ ys, ys = dn zs 0 ∧ J ys W') ∨ (∃ pre, (∃ k, k ≤ zs.length ∧ pre = dn zs k) ∧ Jx pre W')) := by
  obtain ⟨N, hN⟩ : ∃ N, N = zs.length := ⟨_, rfl⟩
  have h0' : J (dn zs N) W := by rw [hN, dn_all]; exact h0
  have hN1 : wrap64 ((N : Int) - 1) = (N : Int) - 1 := by unfold wrap64; omega
  rw [← hN] at hBs hreach hY ⊢
  have HN : Hid (N = zs.length) := hN
  clear hN h0
  refine callsIn_of_wp Try.func66 rfl h66 ?_ hro
  simp only [Try.ntmps66, List.size_toArray, List.length_cons, List.length_nil, Nat.reduceAdd, Nat.reduceSub, Array.replicate_succ, Array.replicate_zero, List.push_toArray, List.append_toArray, List.nil_append, List.cons_append]
  gi_wp2
  gi_loopw [3] (fun i wr => ∃ r : Nat, r ≤ N ∧ i = .int .i64 ((r : Int) - 1) ∧ J (dn zs r) wr ∧ Below n₀ W wr)
    (fun i _ => (intOf i + 1).toNat)
  case atStart => exact ⟨N, Nat.le_refl _, rfl, h0', Below.refl _ _⟩
  case round =>
    obtain ⟨r, hr, rfl, hJs, hnx⟩ := hrel
    have hbx : wr.cell? ⟨Bs, 0, none⟩ = some (.slice ao N cap) := (hnx.cell (p := ⟨Bs, 0, none⟩) hB).trans hBs
    cases r with
    | zero =>
      gi_wp2
      go_end0
      exact ⟨⟨_, rfl⟩, .inl ⟨_, rfl, hJs⟩⟩
    | succ k =>
      obtain ⟨z, hz⟩ : ∃ z, zs[k]? = some z := ⟨_, List.getElem?_eq_getElem (by have := HN.out; omega)⟩
      rcases hc.below hnx with ⟨e, _⟩ | ⟨g, rfl, hg, hcs⟩
      · rw [e] at hz; cases hz
      obtain ⟨c0, c1, c2⟩ := hcs k z hz
      have HJ := dn_step zs k z hz
      obtain ⟨fn, tmps, assign, body, hy, hR⟩ := hY _ (k, z) wr hJs (by have := HN.out; rw [dn_len]; omega) hz
      dsimp only at hy
      rw [show (((k + 1 : Nat) : Int) - 1) = (k : Int) by omega]
      have hw1 : wrap64 ((k : Int) - 1) = (k : Int) - 1 := by unfold wrap64; omega
      have hk0 : (0 : Int) ≤ (k : Int) := by omega
      have hkN : (k : Int) < (N : Int) := by omega
      clear hcs hz
      gi_wp2
      refine hR.mono ?_
      rintro e W3 (⟨rfl, hJ3, hk3⟩ | ⟨rfl, hJx3⟩)
      · gi_wp2
        go_roundw
        case rel => exact ⟨k, by omega, rfl, by rw [HJ]; exact hJ3, hnx.trans hk3⟩
        case measure => simp [intOf]
      · gi_wp2
        refine bodyPost_ret (results_none rfl _ _ _) rfl ?_
        exact ⟨⟨_, rfl⟩, .inr ⟨_, ⟨k, by omega, HJ.symm⟩, hJx3⟩⟩
set_option maxHeartbeats 1000000 in
theorem back_in (F : Fence) (n : Nat) (h60 : F.fn 60) (hro : F.round = none) (a : Option Addr) (len cap : Nat) (w : World) :
    CallsIn F n Try.prog 60 #[.slice a len cap] w fun e w' => e = .returned (.func (.func 66) #[] #[.pointer (some ⟨w.heap.size, 0, none⟩)]) ∧ w' = w.alloc (.cells #[.slice a len cap] 82) := by
  refine callsIn_of_wp Try.func60 rfl h60 ?_ hro
  simp only [Try.ntmps60, List.size_toArray, List.length_cons, List.length_nil, Nat.reduceAdd, Nat.reduceSub, Array.replicate_succ, Array.replicate_zero, List.push_toArray, List.append_toArray, List.nil_append, List.cons_append]
  gi_wp2
  go_ret
  exact ⟨rfl, rfl⟩

/-- One of the versions, at its place. -/
abbrev At (zs : List VV) := { x : Nat × VV // zs[x.1]? = some x.2 }
theorem back_stops (F : Fence) (n : Nat) (h66 : F.fn 66) (hro : F.round = none) (hn : 1 ≤ n) (Bs n₀ cap : Nat) (ao : Option Addr) (zs : List VV) (hreach : zs.length ≤ 1000000) (w : World) (hB : Bs < n₀) (hn₀ : n₀ ≤ w.heap.size)
    (hBs : w.cell? ⟨Bs, 0, none⟩ = some (.slice ao zs.length cap)) (hc : VRd n₀ w ao zs) :
    SeqStopsK F n Try.prog 66 #[.pointer (some ⟨Bs, 0, none⟩)] (fun x : At zs => #[Value.int .i64 (x.1.1 : Int), .agg #[.int .i64 x.1.2.1.wr, .bool x.1.2.1.th, .slice x.1.2.2.1 x.1.2.1.n x.1.2.2.2]]) (Below n₀)
      (fun ys => ys.map (·.1) = dn zs 0) (fun pre => ∃ k, k ≤ zs.length ∧ pre.map (·.1) = dn zs k) zs.length w := fun l J Jx W hW _ _ hY h0 => by
  refine (back1_in F n h66 hro hn l Bs n₀ cap ao zs hreach (fun p W => ∃ q : List (At zs), q.map (·.1) = p ∧ J q W) (fun p W => ∃ q : List (At zs), q.map (·.1) = p ∧ Jx q W) ?_ W ((hW.cell (p := ⟨Bs, 0, none⟩) (by show Bs < _; omega)).trans hBs) hB (hc.below (hW.mono hn₀)) ⟨[], rfl, h0⟩).mono ?_
  · rintro pre x W1 ⟨q, rfl, hJ⟩ hlen hx
    obtain ⟨fn, tmps, assign, body, hy, hR⟩ := hY q ⟨x, hx⟩ W1 hJ (by simpa using hlen)
    refine ⟨fn, tmps, assign, body, hy, hR.mono ?_⟩
    rintro e W' (⟨rfl, h1, h2⟩ | ⟨rfl, h1⟩)
    · exact .inl ⟨rfl, ⟨_, by simp, h1⟩, h2⟩
    · exact .inr ⟨rfl, ⟨_, by simp, h1⟩⟩
  · rintro e W' ⟨he, ⟨ys, rfl, q, hq, hj⟩ | ⟨pre, ⟨k, hk, rfl⟩, q, hq, hj⟩⟩
    · exact ⟨he, .inl ⟨q, hq, hj⟩⟩
    · exact ⟨he, .inr ⟨q, ⟨k, hk, hq⟩, hj⟩⟩
end Go.Proofs.Ytjbehnoococelaa
