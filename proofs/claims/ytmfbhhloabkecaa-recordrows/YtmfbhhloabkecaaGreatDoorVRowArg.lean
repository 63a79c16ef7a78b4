import Derived.Test.YtmfbhhloabkecaaGreatDoorBarv
import Derived.Deep.AppendLies
import Derived.Deep.RegionHeld3
import Derived.Maps.AppendAt
import Derived.Lib.BufferMore
import Derived.BigQuiet
import Derived.Test.YtmfbhhloabkecaaGreatDoorVLift
set_option maxRecDepth 100000
namespace Go.Proofs.YtmfbhhloabkecaaGreatDoor
open Go.RowKit Go.Sort
theorem alloc_new (w : World) (o : Obj) : (w.alloc o).heap[w.heap.size]? = some o := by show (w.heap.push o)[w.heap.size]? = _; simp
def markV : Val := ⟨-7, 0, ⟨#[]⟩⟩
def lentV (l : List Val) : List Val := l ++ [markV, markV, markV, markV]
theorem lentV_len (l : List Val) : (lentV l).length = l.length + 4 := by simp [lentV]
end Go.Proofs.YtmfbhhloabkecaaGreatDoor
namespace Go.Proofs.YtmfbhhloabkecaaGreatDoor
open Go.RowKit
end Go.Proofs.YtmfbhhloabkecaaGreatDoor
namespace Go.Proofs.YtmfbhhloabkecaaGreatDoor
open Go.RowKit Go.Sort
end Go.Proofs.YtmfbhhloabkecaaGreatDoor
namespace Go.Proofs.YtmfbhhloabkecaaGreatDoor
open Go.ChangeShapes Go.WideShapes Go.RowKit Go.Deep
set_option maxRecDepth 100000
theorem add_plain (b o j : Nat) : (⟨b, o, none⟩ : Addr).add j = ⟨b, o + j, none⟩ := by unfold Addr.add; split <;> simp_all
theorem b_val : Tryz.prog.bytesOf 58 = 32 := by kernel_rfl
theorem arg_row {H : Type} {enc : TypeId × Value → H} {W : World} {v : Value} {d : DataW H} {p : List MemPlace} (hsl : ∃ a len cap, v = .slice a len cap) (h : DataW.Trod enc Tryz.prog W 0 (fun _ => true) true 24 v d p) :
    ∃ (vs : List Val) (ao : Option Addr) (cap : Nat), v = .slice ao vs.length cap ∧ RowOf W ao vs ∧ (ao = none → vs = [] ∧ cap = 0) ∧ (∀ u ∈ vs, u.i64 ∧ u.s.size ≤ maxLen) ∧ (vs ≠ [] → ∃ es sp, d = .slice es sp ∧ es.length = vs.length) := by
  obtain ⟨ao, len, cap, rfl⟩ := hsl
  obtain ⟨fuel, hf⟩ := h
  rcases open_slice Tryz.underlying24 hf with ⟨h1, _⟩ | ⟨a, len', cap', m, n, D, Pl, h1, _, hl, hmx, hm, hx, hel⟩
  · have h2 : [Value.slice ao len cap] = [Value.slice none 0 0] := h1
    simp at h2
    obtain ⟨rfl, rfl, rfl⟩ := h2
    exact ⟨[], none, 0, rfl, fun h => absurd rfl h, fun _ => ⟨rfl, rfl⟩, fun u hu => by simp at hu, fun h => absurd rfl h⟩
  · simp only [Value.cells, List.cons.injEq, Value.slice.injEq, and_true] at h1
    obtain ⟨rfl, rfl, rfl⟩ := h1
    have hm' : m = cap := by simpa using hm
    rw [c_val] at hel
    have key : ∀ i, i < len → ∃ u : Val, (W.cell? (a.add (i * 3)) = some (.int .i64 u.k) ∧ W.cell? ((a.add (i * 3)).add 1) = some (.int .i64 u.n) ∧ W.cell? ((a.add (i * 3)).add 2) = some (.string u.s)) ∧ u.i64 ∧ u.s.size ≤ maxLen := by
      intro i hi
      obtain ⟨cs', hc, ht⟩ := hel i (by omega)
      obtain ⟨_, hcl, hcc⟩ := World.cells?_some hc
      obtain ⟨k, n, s, rfl, _, h64, hsz⟩ := val_of ht
      have g0 := hcc 0 (by simp)
      have g1 := hcc 1 (by simp)
      have g2 := hcc 2 (by simp)
      exact ⟨⟨k, n, s⟩, ⟨by simpa [Addr.add] using g0, by simpa using g1, by simpa using g2⟩, h64, hsz⟩
    have pick : ∃ vs : List Val, vs.length = len ∧ ∀ i (hi : i < vs.length), (W.cell? (a.add (i * 3)) = some (.int .i64 vs[i].k) ∧ W.cell? ((a.add (i * 3)).add 1) = some (.int .i64 vs[i].n) ∧ W.cell? ((a.add (i * 3)).add 2) = some (.string vs[i].s)) ∧ vs[i].i64 ∧ vs[i].s.size ≤ maxLen := by
      classical
      refine ⟨List.ofFn (fun i : Fin len => (key i.1 i.2).choose), by simp, fun i hi => ?_⟩
      have hi' : i < len := by simpa using hi
      rw [List.getElem_ofFn]
      exact (key i hi').choose_spec
    obtain ⟨vs, rfl, hvs⟩ := pick
    refine ⟨vs, some a, cap, rfl, fun hv => ?_, fun h => (by cases h), fun u hu => ?_, fun _ => ⟨_, _, congrArg Prod.fst hx, by rw [List.length_map, List.length_range]⟩⟩
    · have h0 : 0 < vs.length := List.length_pos_iff.2 hv
      obtain ⟨b, off, spot⟩ := a
      have hspot : spot = none := by
        obtain ⟨⟨h0', _⟩, _⟩ := hvs 0 h0
        simpa [Addr.add] using World.cell?_spot h0'
      subst hspot
      refine ⟨b, off, rfl, fun i hi => ?_⟩
      obtain ⟨⟨h0', h1', h2'⟩, _⟩ := hvs i hi
      simp only [add_plain] at h0' h1' h2'
      exact ⟨h0', h1', h2'⟩
    · obtain ⟨i, hi, rfl⟩ := List.getElem_of_mem hu
      exact (hvs i hi).2
end Go.Proofs.YtmfbhhloabkecaaGreatDoor
