import Derived.Test.YtmegkmhcfehnkaaGreatDoorVRight
/- A row of raw values made right, as the law makes it. -/
namespace Go.Proofs.YtmegkmhcfehnkaaGreatDoor
open Go.RowKit

/-- The cells of a row. -/
def rcl (l : List Val) : List Value := l.flatMap fun v => [.int .i64 v.k, .int .i64 v.n, .string v.s]
theorem rcl_len : ∀ l : List Val, (rcl l).length = l.length * 3
  | [] => rfl
  | v :: l => by
    have := rcl_len l
    have e : rcl (v :: l) = [.int .i64 v.k, .int .i64 v.n, .string v.s] ++ rcl l := rfl
    rw [e, List.length_append, this, List.length_cons]; simp; omega
theorem rcl_snoc (l : List Val) (v : Val) : rcl (l ++ [v]) = rcl l ++ [.int .i64 v.k, .int .i64 v.n, .string v.s] := by simp [rcl]
theorem rcl_get : ∀ (l : List Val) (j : Nat) (hj : j < l.length), (rcl l)[j * 3]? = some (.int .i64 l[j].k) ∧ (rcl l)[j * 3 + 1]? = some (.int .i64 l[j].n) ∧ (rcl l)[j * 3 + 2]? = some (.string l[j].s)
  | v :: l, 0, _ => ⟨rfl, rfl, rfl⟩
  | v :: l, j + 1, hj => by
    have e : rcl (v :: l) = [.int .i64 v.k, .int .i64 v.n, .string v.s] ++ rcl l := rfl
    have ih := rcl_get l j (by simpa using hj)
    rw [e, show (j + 1) * 3 = 3 + j * 3 by omega]
    rw [List.getElem?_append_right (by simp), List.getElem?_append_right (by simp; omega), List.getElem?_append_right (by simp; omega)]
    simp only [List.length_cons, List.length_nil, List.getElem_cons_succ]
    rw [show 3 + j * 3 - (0 + 1 + 1 + 1) = j * 3 by omega, show 3 + j * 3 + 1 - (0 + 1 + 1 + 1) = j * 3 + 1 by omega, show 3 + j * 3 + 2 - (0 + 1 + 1 + 1) = j * 3 + 2 by omega]
    exact ih
theorem rcl_one (l : List Val) : ∀ u ∈ rcl l, u.oneCell' = true := by
  intro u hu
  simp only [rcl, List.mem_flatMap] at hu
  obtain ⟨v, _, hv⟩ := hu
  simp at hv
  rcases hv with rfl | rfl | rfl <;> rfl
theorem row_tch {S : Nat → Prop} {w w' : World} {base : Nat} {t : TypeId} {sz n : Nat} {v : Value} {xs : List Value} (h : w.ownsRow base t sz v n xs) (tc : Tch S w w') (hS : ∀ i, base ≤ i → i < w.heap.size → ¬ S i) : w'.ownsRow base t sz v n xs := by
  obtain ⟨h1, h2⟩ := h
  refine ⟨h1, ?_⟩
  rcases h2 with h2 | ⟨g, cap, cur, hv, hg, hh, r⟩
  · exact Or.inl h2
  · exact Or.inr ⟨g, cap, cur, hv, hg, by rw [tc.block g (blk_lt hh) (hS g hg (blk_lt hh))]; exact hh, r⟩
theorem row_slice {w : World} {base : Nat} {t : TypeId} {sz n : Nat} {v : Value} {xs : List Value} (h : w.ownsRow base t sz v n xs) : ∃ ao c, v = .slice ao n c := by
  rcases h.2 with ⟨rfl, rfl⟩ | ⟨g, cap, cur, rfl, hg, _⟩
  · exact ⟨_, _, rfl⟩
  · exact ⟨_, _, rfl⟩
theorem row_ge {w : World} {base : Nat} {t : TypeId} {sz n : Nat} {v : Value} {xs : List Value} (h : w.ownsRow base t sz v n xs) {k : Nat} (hk : v.ownBlock = some k) : base ≤ k := by
  rcases h.2 with ⟨rfl, _⟩ | ⟨g, cap, cur, rfl, hg, _⟩
  · cases hk
  · simp [Value.ownBlock] at hk; omega
theorem row_at {w : World} {base : Nat} {ao : Option Addr} {c : Nat} {l : List Val} (h : w.ownsRow base 23 3 (.slice ao l.length c) l.length (rcl l)) (hl : l ≠ []) : ∃ g, ao = some ⟨g, 0, none⟩ ∧ base ≤ g ∧ RowAt w g 0 l := by
  rcases h.2 with ⟨h1, h2⟩ | ⟨g, cap, cur, hv, hg, hh, hc, hm, hs, ht⟩
  · exact absurd (List.length_eq_zero_iff.1 h2) hl
  · simp only [Value.slice.injEq] at hv
    refine ⟨g, hv.1, hg, fun j hj => ?_⟩
    obtain ⟨g0, g1, g2⟩ := rcl_get l j hj
    have key : ∀ i u, i < l.length * 3 → (rcl l)[i]? = some u → w.cell? ⟨g, 0 + i, none⟩ = some u := fun i u hi hu => by
      rw [Nat.zero_add, blk_cell hh, ← Array.getElem?_toList]
      rw [← ht, List.getElem?_take_of_lt hi] at hu
      exact hu
    exact ⟨key _ _ (by omega) g0, by have := key (j * 3 + 1) _ (by omega) g1; simpa [Nat.add_assoc] using this, by have := key (j * 3 + 2) _ (by omega) g2; simpa [Nat.add_assoc] using this⟩
theorem rcl_cells {W : World} {b : Nat} {v : Val} (h0 : W.cell? ⟨b, 0, none⟩ = some (.int .i64 v.k)) (h1 : W.cell? ⟨b, 1, none⟩ = some (.int .i64 v.n)) (h2 : W.cell? ⟨b, 2, none⟩ = some (.string v.s)) : ∀ j u, (rcl [v])[j]? = some u → W.cell? ((⟨b, 0, none⟩ : Addr).add j) = some u := by
  intro j u hu
  rcases j with _ | _ | _ | j
  · cases hu; simpa [Addr.add] using h0
  · cases hu; simpa [Addr.add] using h1
  · cases hu; simpa [Addr.add] using h2
  · simp [rcl] at hu

def RtOut (vs : List Val) (x : Ending) (w' : World) : Prop := ∃ R cp, x = .returned (.slice (some ⟨R, 0, none⟩) 3 cp) ∧ RowAt w' R 0 (vs.map rt)
end Go.Proofs.YtmegkmhcfehnkaaGreatDoor
