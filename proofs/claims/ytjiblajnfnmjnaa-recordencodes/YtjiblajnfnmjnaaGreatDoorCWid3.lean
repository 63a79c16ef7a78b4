import Derived.Test.YtjiblajnfnmjnaaGreatDoorCDel
import Derived.Test.YtjiblajnfnmjnaaGreatDoorCCre2
namespace Go.Proofs.YtjiblajnfnmjnaaGreatDoor.C
open Go.RowKit Go
theorem TO.tch2 {S : Nat → Prop} {W W' : World} {base : Nat} {tv : Value} {P : List (Tbl × Value)} (h : TO W base tv P) (t : Tch S W W') (h1 : ∀ g, tv.ownBlock = some g → ¬ S g) (h2 : ∀ i (hi : i < P.length) g, P[i].2.ownBlock = some g → ¬ S g) : TO W' base tv P :=
  ⟨own_tch h.own t h1, fun i hi => own_tch (h.col i hi) t (h2 i hi), h.sep, h.dis⟩
theorem TO.erase {W W' : World} {base T tc k : Nat} {P : List (Tbl × Value)} {cur' : Array Value} (h : TO W base (.slice (some ⟨T, 0, none⟩) P.length tc) P) (hk : k < P.length) (t : Tch (fun i => i = T) W W') (hb : W'.heap[T]? = some (.cells cur' 29 (0, 0))) (hs : cur'.size = tc * 5) (ht : cur'.toList.take ((P.length - 1) * 5) = tcl (P.eraseIdx k)) :
    TO W' base (.slice (some ⟨T, 0, none⟩) (P.length - 1) tc) (P.eraseIdx k) := by
  have hle : (P.eraseIdx k).length = P.length - 1 := List.length_eraseIdx_of_lt hk
  have hget : ∀ i (hi : i < (P.eraseIdx k).length), ∃ j, ∃ (hj : j < P.length), (P.eraseIdx k)[i] = P[j] ∧ j = if i < k then i else i + 1 := fun i hi => by
    rw [hle] at hi
    refine ⟨if i < k then i else i + 1, by split <;> omega, ?_, rfl⟩
    rw [List.getElem_eraseIdx]
    split
    · rfl
    · rfl
  refine ⟨⟨?_, ?_⟩, fun i hi => ?_, fun i hi g e => ?_, fun i j hi hj g hne e => ?_⟩
  · rw [tcl_len]
  · rcases h.own.2 with ⟨h1, _⟩ | ⟨g, cap, cur, hv, hb0, hg, hnc, hcm, hcs, htk⟩
    · injection h1 with h1; cases h1
    · injection hv with e1 e2 e3
      injection e1 with e1
      injection e1 with e1
      subst e1 e3
      exact Or.inr ⟨T, tc, cur', by rw [hle], hb0, hb, by omega, hcm, by rw [hs], by rw [hle]; exact ht⟩
  · obtain ⟨j, hj, e, _⟩ := hget i hi
    rw [e]
    exact own_tch (h.col j hj) t (fun g e2 e3 => h.sep j hj g e2 (by rw [e3]; rfl))
  · obtain ⟨j, hj, e2, _⟩ := hget i hi
    rw [e2] at e
    exact h.sep j hj g e
  · obtain ⟨i', hi', e2, e3⟩ := hget i hi
    obtain ⟨j', hj', e4, e5⟩ := hget j hj
    rw [e2] at e
    rw [e4]
    refine h.dis i' j' hi' hj' g ?_ e
    rw [e3, e5]
    split <;> split <;> omega
end Go.Proofs.YtjiblajnfnmjnaaGreatDoor.C
