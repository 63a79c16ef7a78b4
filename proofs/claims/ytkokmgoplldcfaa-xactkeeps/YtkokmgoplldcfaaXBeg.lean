/- New, give, begin, Begin. -/
import Derived.Test.YtkokmgoplldcfaaXSees
import Derived.Maps.Views
namespace Go.Proofs.Ytkokmgoplldcfaa
open Go.RowKit Go Go.Sort

/-- From w and σ on, to w' and σ': none but the manager's own blocks are turned, none changes its owner. -/
structure Stp (w : World) (σ : Nat → Option Nat) (w' : World) (σ' : Nat → Option Nat) : Prop where
  tch : Tch (fun i => σ i ≠ none) w w'
  ext : ∀ i, i < w.heap.size → σ' i = σ i
theorem Stp.refl (w : World) (σ : Nat → Option Nat) : Stp w σ w σ := ⟨Tch.refl _ _, fun _ _ => rfl⟩
theorem Stp.trans {w w' w'' : World} {σ σ' σ'' : Nat → Option Nat} (h : Stp w σ w' σ') (k : Stp w' σ' w'' σ'') : Stp w σ w'' σ'' :=
  ⟨h.tch.trans k.tch (fun i hi hs => by rw [h.ext i hi] at hs; exact hs), fun i hi => (k.ext i (Nat.lt_of_lt_of_le hi h.tch.size)).trans (h.ext i hi)⟩
theorem Stp.of_no {w w' : World} {σ : Nat → Option Nat} (h : Tch (fun _ => False) w w') : Stp w σ w' σ := ⟨h.mono (fun _ _ h => h.elim), fun _ _ => rfl⟩

/-- A manager at b that has none of the blocks F. -/
def MF (w : World) (b : Nat) (m : Mg) (F : Nat → Prop) : Prop := ∃ σ mb bl, MG w b m σ mb bl ∧ ∀ i, F i → σ i = none ∧ i < w.heap.size
abbrev Kept (F : Nat → Prop) (w w' : World) : Prop := Tch (fun i => ¬ F i) w w'
theorem MF.stp {w w' : World} {b : Nat} {m' : Mg} {σ σ' : Nat → Option Nat} {mb : Nat} {bl : Nat → Nat} {F : Nat → Prop} (hF : ∀ i, F i → σ i = none ∧ i < w.heap.size) (h' : MG w' b m' σ' mb bl) (s : Stp w σ w' σ') : MF w' b m' F ∧ Kept F w w' :=
  ⟨⟨σ', mb, bl, h', fun i hi => ⟨(s.ext i (hF i hi).2).trans (hF i hi).1, Nat.lt_of_lt_of_le (hF i hi).2 s.tch.size⟩⟩, s.tch.mono (fun i _ hs hf => hs (hF i hf).1)⟩
theorem MF.tch {w w' : World} {b : Nat} {m : Mg} {F S : Nat → Prop} (h : MF w b m F) (t : Tch S w w') (hS : ∀ i, i < w.heap.size → S i → F i) : MF w' b m F := by
  obtain ⟨σ, mb, bl, h, hF⟩ := h
  exact ⟨σ, mb, bl, h.tch t (fun i hi hs => (hF i (hS i hi hs)).1), fun i hi => ⟨(hF i hi).1, Nat.lt_of_lt_of_le (hF i hi).2 t.size⟩⟩
theorem MF.no {w w' : World} {b : Nat} {m : Mg} {F : Nat → Prop} (h : MF w b m F) (t : Tch (fun _ => False) w w') : MF w' b m F := h.tch t (fun _ _ h => h.elim)
theorem MF.fresh {w w' : World} {b : Nat} {m : Mg} {F : Nat → Prop} (h : MF w b m F) (t : Tch (fun _ => False) w w') : MF w' b m (fun i => F i ∨ w.heap.size ≤ i ∧ i < w'.heap.size) := by
  obtain ⟨σ, mb, bl, h, hF⟩ := h
  refine ⟨σ, mb, bl, h.no t, fun i hi => ?_⟩
  rcases hi with hi | ⟨h1, h2⟩
  · exact ⟨(hF i hi).1, Nat.lt_of_lt_of_le (hF i hi).2 t.size⟩
  · refine ⟨?_, h2⟩
    cases hs : σ i with
    | none => rfl
    | some a => have := h.lt i (by rw [hs]; exact fun h => by cases h); omega
theorem MF.mono {w : World} {b : Nat} {m : Mg} {F G : Nat → Prop} (h : MF w b m F) (hG : ∀ i, G i → F i) : MF w b m G := by
  obtain ⟨σ, mb, bl, h, hF⟩ := h
  exact ⟨σ, mb, bl, h, fun i hi => hF i (hG i hi)⟩
theorem MF.wf {w : World} {b : Nat} {m : Mg} {F : Nat → Prop} (h : MF w b m F) : Wf m := by
  obtain ⟨σ, mb, bl, h, hF⟩ := h
  exact h.wf

theorem new_bad (n : Int) (w : World) (h : n < 1 ∨ 2147483648 < n) : Calls Try.prog 6 #[.int .i64 n] w fun x w' => x = .returned (.tuple #[.pointer none, .int .i64 1]) ∧ w' = w := by
  by_cases h1 : n < 1
  · go_enter Try.func6, Try.ntmps6
    go_wp2
    go_ret2
    exact ⟨rfl, rfl⟩
  · have h2 : 2147483648 < n := by omega
    clear h
    go_enter Try.func6, Try.ntmps6
    go_wp2
    go_ret2
    exact ⟨rfl, rfl⟩
theorem new_ok (n : Nat) (w : World) (h1 : 1 ≤ n) (h2 : n ≤ 2147483648) : Calls Try.prog 6 #[.int .i64 n] w fun x w' => (∃ b, x = .returned (.tuple #[.pointer (some ⟨b, 0, none⟩), .int .i64 0]) ∧ w.heap.size ≤ b ∧ ∀ F, (∀ i, F i → i < w.heap.size) → MF w' b ⟨n, [], []⟩ F) ∧ Tch (fun _ => False) w w' := by
  have h1' : ¬ (n : Int) < 1 := by omega
  have h2' : ¬ (2147483648 : Int) < n := by omega
  obtain ⟨w0, hw0⟩ : ∃ w0, w0 = w.alloc (.map #[] 0) := ⟨_, rfl⟩
  have t0 : Tch (fun _ => False) w w0 := by rw [hw0]; exact Tch.alloc _ _ _
  have hs0 : w0.heap.size = w.heap.size + 1 := by rw [hw0]; simp
  obtain ⟨w1, hw1⟩ : ∃ w1, w1 = w0.alloc (.cells #[.map (some w.heap.size), .int .i64 n, .slice none 0 0] 66) := ⟨_, rfl⟩
  have t1 : Tch (fun _ => False) w0 w1 := by rw [hw1]; exact Tch.alloc _ _ _
  have hs1 : w1.heap.size = w.heap.size + 2 := by rw [hw1]; simp [hs0]
  have hM : w1.ownsMap Try.prog 3 numElem w.heap.size 0 (.map []) := by
    have h0 : w0.ownsMap Try.prog 3 numElem w.heap.size 0 (.map []) := by rw [hw0]; exact World.ownsMap_made w Try.prog 3 numElem
    exact ownsMap_tch h0 t1 (fun h => h)
  have hb : w1.heap[w.heap.size + 1]? = some (.cells #[.map (some w.heap.size), .int .i64 n, .slice none 0 0] 66 (0, 0)) := by rw [hw1, ← hs0]; exact alloc_new _ _
  have HF : Hid (∀ F, (∀ i, F i → i < w.heap.size) → MF w1 (w.heap.size + 1) ⟨n, [], []⟩ F) := fun F hF => by
    refine ⟨fun i => if i = w.heap.size ∨ i = w.heap.size + 1 then some (w.heap.size + 1) else none, w.heap.size, fun _ => 0, ⟨?_, ⟨_, hb, ⟨rfl, Or.inl ⟨rfl, rfl⟩⟩, fun g hg => by cases hg⟩, by simp, by simp, ⟨0, _, Nat.zero_le _, hM, fun k zd => rfl⟩, (fun t ht => by cases ht), (fun t ht => by cases ht), (fun t ht => by cases ht), fun i hi => ?_⟩, fun i hi => ?_⟩
    · exact ⟨h1, h2, (fun t ht => by cases ht), (fun t ht => by cases ht), (fun t ht => by cases ht), (fun t ht => by cases ht), (fun t ht => by cases ht), List.Pairwise.nil, List.Pairwise.nil, (fun t ht => by cases ht), rfl⟩
    · have hi' : (if i = w.heap.size ∨ i = w.heap.size + 1 then some (w.heap.size + 1) else none) ≠ none := hi
      split at hi'
      · omega
      · exact absurd rfl hi'
    · have := hF i hi
      exact ⟨if_neg (by omega), by omega⟩
  have HT : Hid (Tch (fun _ => False) w w1) := t0.trans' t1
  have Hw1 : Hid (w1 = (w.alloc (.map #[] 0)).alloc (.cells #[.map (some w.heap.size), .int .i64 n, .slice none 0 0] 66)) := by show _ = _; rw [hw1, hw0]
  clear hb hM hs1 hs0 t0 t1 hw1 hw0 h1 h2
  have hmm := @run_makeMap Try.prog
  go_enter Try.func6, Try.ntmps6
  go_wp2
  have hw1 := Hw1.out
  rw [← hw1]
  clear hw1
  go_ret2
  exact ⟨⟨_, rfl, Nat.le_succ _, HF.out⟩, HT.out⟩

theorem give_any (b : Nat) (m : Mg) (σ : Nat → Option Nat) (mb : Nat) (bl : Nat → Nat) (w : World) (h : MG w b m σ mb bl) : Calls Try.prog 28 #[.pointer (some ⟨b, 0, none⟩)] w fun x w' => x = .returned (.int .i64 m.nx) ∧ w' = w.setCell ⟨b, 1, none⟩ (.int .i64 (m.nx + 1 : Nat)) := by
  have c1 := h.c1
  have f1 := h.fz 1
  have hn := h.wf.n2
  obtain ⟨nx, hnx⟩ : ∃ nx, nx = m.nx := ⟨_, rfl⟩
  rw [← hnx] at c1 hn ⊢
  clear h hnx
  go_enter Try.func28, Try.ntmps28
  go_wp2
  go_ret
  exact ⟨rfl, rfl⟩
end Go.Proofs.Ytkokmgoplldcfaa
