import Derived.Test.YtjiblajnfnmjnaaGreatDoorCAdd
namespace Go.Proofs.YtjiblajnfnmjnaaGreatDoor.C
open Go.RowKit Go
theorem next_any (b : Nat) (gv : Int) (w : World) (h : w.cell? ⟨b, 1, none⟩ = some (.int .i64 gv)) (h0 : 0 ≤ gv) (h1 : gv ≤ 2147483648) :
    Calls Tryz.prog 10 #[.pointer (some ⟨b, 0, none⟩)] w fun x w' => x = .returned (.int .i64 (gv + 1)) ∧ w' = w := by
  go_enter Tryz.func10, Tryz.ntmps10
  go_wp2
  go_ret
  exact ⟨rfl, rfl⟩
theorem CO.tch {S : Nat → Prop} {W W' : World} {base d : Nat} {L : List Tbl} {gv : Int} {P : List (Tbl × Value)} {tv : Value} (h : CO W base d L gv P tv) (t : Tch S W W') (hS : ∀ i, base ≤ i → i < W.heap.size → ¬ S i) : CO W' base d L gv P tv :=
  ⟨by rw [t.block d (blk_lt h.blk) (hS d h.ge (blk_lt h.blk))]; exact h.blk, h.ge, h.eq, h.to.tch t hS, h.nb⟩
theorem posP_any (f : Tbl → Bool) (P : List (Tbl × Value)) : (decide (0 ≤ posP f P)) = (P.map Prod.fst).any f := by
  rcases posP_cases f P with ⟨h1, h2⟩ | ⟨k, hk, h1, h2, _⟩
  · rw [h1]
    symm
    show _ = false
    rw [List.any_eq_false]
    intro x hx
    obtain ⟨i, hi, rfl⟩ := List.getElem_of_mem hx
    rw [List.length_map] at hi
    simpa using h2 i hi
  · rw [h1, show decide ((0 : Int) ≤ k) = true by simp]
    symm
    rw [List.any_eq_true]
    exact ⟨P[k].1, by simpa using ⟨P[k].2, List.getElem_mem hk⟩, h2⟩
def TX (b RB : Nat) (t0 : Tbl) (w' : World) (v : Value) : Prop := ∃ co cc, v = tA t0.id t0.ver t0.nm (.slice co t0.cols.length cc) t0.key ∧ SL w' co (ccl t0.cols) ∧ (co = none → t0.cols = [] ∧ cc = 0) ∧ ∀ g o, co = some ⟨g, o, none⟩ → t0.cols ≠ [] → g ≠ b ∧ g ≠ RB
end Go.Proofs.YtjiblajnfnmjnaaGreatDoor.C
