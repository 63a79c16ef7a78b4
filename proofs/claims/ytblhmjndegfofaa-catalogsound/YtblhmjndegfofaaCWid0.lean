import Derived.Test.YtblhmjndegfofaaCChg
/- Tables of one's own, one of them turned. -/
namespace Go.Proofs.Ytblhmjndegfofaa
open Go.RowKit Go

theorem own_set {W : World} {base sz n c T j : Nat} {e : TypeId} {xs : List Value} (h : W.ownsRow base e sz (.slice (some ⟨T, 0, none⟩) n c) n xs) (u : Value) : (W.setCell ⟨T, j, none⟩ u).ownsRow base e sz (.slice (some ⟨T, 0, none⟩) n c) n (xs.set j u) := by
  refine ⟨by rw [List.length_set]; exact h.1, ?_⟩
  rcases h.2 with ⟨h1, _⟩ | ⟨g, cap, cur, hv, hb, hg, hnc, hcm, hcs, htk⟩
  · injection h1 with h1; cases h1
  · injection hv with e1 e2 e3
    injection e1 with e1
    injection e1 with e1
    subst e1 e3
    refine Or.inr ⟨T, c, cur.setIfInBounds j u, rfl, hb, blk_set hg u, hnc, hcm, by simp [hcs], ?_⟩
    rw [Array.toList_setIfInBounds, List.take_set, htk]
theorem tcl_set : ∀ (P : List (Tbl × Value)) (k j : Nat) (hk : k < P.length) (u : Value) (p : Tbl × Value), j < 5 → tcs p = (tcs P[k]).set j u → (tcl P).set (k * 5 + j) u = tcl (P.set k p)
  | [], k, j, hk, _, _, _, _ => by simp at hk
  | a :: P, 0, j, _, u, p, hj, hp => by
    unfold tcl
    simp only [List.set_cons_zero, List.flatMap_cons, Nat.zero_mul, Nat.zero_add]
    rw [List.set_append_left _ _ (by simp [tcs]; omega), hp]; rfl
  | a :: P, k + 1, j, hk, u, p, hj, hp => by
    have ih := tcl_set P k j (by simpa using hk) u p hj hp
    unfold tcl at ih ⊢
    simp only [List.set_cons_succ, List.flatMap_cons]
    rw [List.set_append_right _ _ (by simp [tcs]; omega), ← ih]
    congr 2
    simp [tcs]; omega
/-- One table of a list turned: its columns (owned), or its number of changes. -/
theorem TO.turn {W W' : World} {base T c k : Nat} {P : List (Tbl × Value)} (h : TO W base (.slice (some ⟨T, 0, none⟩) P.length c) P) (hk : k < P.length) (p : Tbl × Value) (hW' : W'.ownsRow base 29 5 (.slice (some ⟨T, 0, none⟩) P.length c) P.length (tcl (P.set k p))) (hc : W'.ownsRow base 34 3 p.2 p.1.cols.length (ccl p.1.cols))
    (ho : ∀ i (hi : i < P.length), i ≠ k → W'.ownsRow base 34 3 P[i].2 P[i].1.cols.length (ccl P[i].1.cols)) (hT : ∀ g, p.2.ownBlock = some g → g ≠ T ∧ ∀ i (hi : i < P.length), i ≠ k → P[i].2.ownBlock ≠ some g) : TO W' base (.slice (some ⟨T, 0, none⟩) (P.set k p).length c) (P.set k p) := by
  have hTT : ∀ g, (Value.slice (some ⟨T, 0, none⟩) (P.set k p).length c).ownBlock = some g → g = T := fun g e => by
    have : T = g := by simpa [Value.ownBlock] using e
    exact this.symm
  have hsT : ∀ i (hi : i < P.length) g, P[i].2.ownBlock = some g → g ≠ T := fun i hi g e e2 => h.sep i hi g e (by rw [e2]; rfl)
  refine ⟨by rw [List.length_set]; exact hW', fun i hi => ?_, fun i hi g e e2 => ?_, fun i j hi0 hj0 g hij e1 e2 => ?_⟩
  · rw [List.length_set] at hi
    by_cases hik : i = k
    · subst hik; simp only [List.getElem_set_self]; exact hc
    · simp only [List.getElem_set_ne (fun h => hik h.symm)]; exact ho i hi hik
  · have e3 := hTT g e2
    rw [List.length_set] at hi
    by_cases hik : i = k
    · subst hik; simp only [List.getElem_set_self] at e; exact (hT g e).1 e3
    · simp only [List.getElem_set_ne (fun h => hik h.symm)] at e; exact hsT i hi g e e3
  · have hi : i < P.length := by rw [List.length_set] at hi0; exact hi0
    have hj : j < P.length := by rw [List.length_set] at hj0; exact hj0
    by_cases hik : i = k <;> by_cases hjk : j = k
    · omega
    · subst hik
      simp only [List.getElem_set_self] at e1
      simp only [List.getElem_set_ne (fun h => hjk h.symm)] at e2
      exact (hT g e1).2 j hj hjk e2
    · subst hjk
      simp only [List.getElem_set_self] at e2
      simp only [List.getElem_set_ne (fun h => hik h.symm)] at e1
      exact (hT g e2).2 i hi hik e1
    · simp only [List.getElem_set_ne (fun h => hik h.symm)] at e1
      simp only [List.getElem_set_ne (fun h => hjk h.symm)] at e2
      exact h.dis i j hi hj g hij e1 e2
/-- A table widened; what is wrong with that. -/
def widT (t : Tbl) (x : Col) : Tbl := ⟨t.id, t.ver + 1, t.nm, t.cols ++ [x], t.key⟩
def widE (t : Tbl) (x : Col) : Int := if colsE (t.cols ++ [x]) ≠ 0 then colsE (t.cols ++ [x]) else if x.nl = false ∨ t.ver = 2147483647 then 1 else 0
theorem ccl_snoc (l : List Col) (x : Col) : ccl (l ++ [x]) = ccl l ++ [.string x.nm, .int .i64 x.k, .bool x.nl] := f3_append ..
end Go.Proofs.Ytblhmjndegfofaa
