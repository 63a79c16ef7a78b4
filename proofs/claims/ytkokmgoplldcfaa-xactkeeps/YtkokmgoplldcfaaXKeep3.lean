/- XactKeeps: its steps. -/
import Derived.Test.YtkokmgoplldcfaaXKeep2
namespace Go.Proofs.Ytkokmgoplldcfaa
open Go.RowKit Go Go.Sort

/-- Behind a step. -/
def KO (w : World) (N b G : Nat) (wx : World) (kv : Value) (m : Mg) (k : Nat) : Prop := ∃ m' E' F', LW w N b G wx kv (gOf m) m' E' F' ∧ St m m' ∧ m'.nx ≤ m.nx + 1 ∧ E'.length ≤ k + 1
section
variable {w wv w' : World} {N b G k : Nat} {kv : Value} {m m' : Mg} {E : List EW} {F : Nat → Prop} (h : LW w N b G wv kv (gOf m) m E F) (hN : N = w.heap.size) (hE : E.length ≤ k)
include h hN hE
theorem KO.no (t : Tch (fun _ => False) wv w') : KO w N b G w' kv m k := ⟨m, E, F, h.no hN t, St.refl m, by omega, by omega⟩
theorem KO.step (hm : MF w' b m' F) (kk : Kept F wv w') (s : St m m') (hn : m'.nx ≤ m.nx + 1) : KO w N b G w' kv m k := ⟨m', E, F, h.step hN hm kk s, s, hn, by omega⟩
theorem KO.part {j : Int} {x : Ending} (ho : PartOut m b j wv F x w') : KO w N b G w' kv m k := by
  cases hf : fnd m.tx j with
  | none => exact KO.no h hN hE (ho.1 hf).2
  | some a =>
    obtain ⟨t, i⟩ := a
    obtain ⟨hA, hB⟩ := ho.2 t i hf
    by_cases hE0 : partE m t i = 0
    · obtain ⟨_, hM, hK⟩ := hB hE0
      have hst : t.st = 1 := by
        unfold partE at hE0
        split at hE0
        · cases hE0
        · rename_i hm
          cases hmy : may t i with
          | false => exact absurd hmy hm
          | true =>
            unfold may at hmy
            simp at hmy
            exact hmy.1
      exact KO.step h hN hE hM hK (st_part h.mf.wf (fnd_mem hf).1 hst i) (Nat.le_refl _)
    · exact KO.no h hN hE (hA hE0).2
theorem KO.endp {j : Int} {f : Nat} (hf2 : f ≤ 2) {x : Ending} (ho : EndOut m b j f wv F x w') : KO w N b G w' kv m k := by
  by_cases hex : ∃ t, ∃ i : Nat, fnd m.tx j = some (t, (i : Int)) ∧ may t i = true
  · obtain ⟨t, i, hf, hm⟩ := hex
    obtain ⟨_, hM, hK⟩ := ho.2 t i hf hm
    have hst : t.st = 1 := by unfold may at hm; simp at hm; exact hm.1
    exact KO.step h hN hE hM hK (st_endp h.mf.wf (fnd_mem hf).1 (by omega) i hf2) (Nat.le_succ _)
  · obtain ⟨_, _, _, tt⟩ := ho.1 (fun t i hf => by
      cases hm : may t i with
      | false => rfl
      | true => exact absurd ⟨t, i, hf, hm⟩ hex)
    exact KO.no h hN hE tt
theorem KO.turn {j : Int} {to : Nat} {M : Tx → Mg} {x : Ending} (ho : TurnOut m b j to M wv F x w') (hM : ∀ t, (M t).nx = m.nx ∧ (M t).tx = upd m.tx t.x (setS to)) : KO w N b G w' kv m k := by
  by_cases hex : ∃ t, fnd m.tx j = some (t, -1)
  · obtain ⟨t, hf⟩ := hex
    obtain ⟨hA, hB⟩ := ho.2 t hf
    by_cases hc : to ≤ t.st ∨ 3 ≤ t.st
    · exact KO.no h hN hE (hA hc).2
    · obtain ⟨_, hMF, hK⟩ := hB hc
      have hst : t.st < 3 := by omega
      exact KO.step h hN hE hMF hK (st_setS h.mf.wf (fnd_mem hf).1 hst to (hM t).1 (hM t).2) (by rw [(hM t).1]; exact Nat.le_succ _)
  · exact KO.no h hN hE (ho.1 (fun t e => hex ⟨t, e⟩)).2
end
theorem TurnOut.val {m : Mg} {b : Nat} {j : Int} {to : Nat} {M : Tx → Mg} {w : World} {F : Nat → Prop} {x : Ending} {w' : World} (ho : TurnOut m b j to M w F x w') : ∃ e : Nat, x = .returned (.int .i64 e) := by
  by_cases hex : ∃ t, fnd m.tx j = some (t, -1)
  · obtain ⟨t, hf⟩ := hex
    obtain ⟨hA, hB⟩ := ho.2 t hf
    by_cases hc : to ≤ t.st ∨ 3 ≤ t.st
    · exact ⟨71, (hA hc).1⟩
    · exact ⟨0, (hB hc).1⟩
  · exact ⟨70, (ho.1 (fun t e => hex ⟨t, e⟩)).1⟩
/-- What Part tells: the next number, or none and no number is given. -/
theorem PartOut.val {m : Mg} {b : Nat} {j : Int} {w : World} {F : Nat → Prop} {x : Ending} {w' : World} (ho : PartOut m b j w F x w') : x = .returned (.tuple #[.int .i64 m.nx, .int .i64 0]) ∨ (∃ e : Nat, e ≠ 0 ∧ x = .returned (.tuple #[.int .i64 0, .int .i64 e]) ∧ Tch (fun _ => False) w w') := by
  cases hf : fnd m.tx j with
  | none => exact Or.inr ⟨70, by omega, (ho.1 hf).1, (ho.1 hf).2⟩
  | some a =>
    obtain ⟨hA, hB⟩ := ho.2 a.1 a.2 hf
    by_cases hE0 : partE m a.1 a.2 = 0
    · exact Or.inl (hB hE0).1
    · exact Or.inr ⟨_, hE0, (hA hE0).1, (hA hE0).2⟩
end Go.Proofs.Ytkokmgoplldcfaa
