import Derived.Test.YtmnhkgibplnnnaaUNew
/- Next in one form; lists of lists for reading. -/
namespace Go.Proofs.Ytmnhkgibplnnnaa
open Go.RowKit Go

/-- A change that was told: what it is, its rows. -/
theorem next_any {D : Rc → List Value × List Value} {N : Nat} {w : World} {mb g cap : Nat} {L : List It} {P B : Nat → Nat} {H : Nat → Rc} {rs : List (List Rc)} (h : MS D N w mb g cap L P B H rs) (hs : rs.length < 1000000000000) :
    Calls Try.prog 13 #[.pointer (some ⟨mb, 0, none⟩)] w fun e w' => ∃ (d : Bool) (c c' : Rc) (rs' : List (List Rc)), e = .returned (.tuple #[rcV c', .bool d]) ∧ (d = true → (∃ j u, Pk Rc.l rs j c u ∧ rs' = rs.set j u ∧ c' = H j) ∧ Sm c c' ∧ OwnC N w' c' (D c).1 (D c).2 ∧ ∀ g, Bk c' g → g < w.heap.size) ∧ (d = false → (rs' = rs ∧ ∀ (i : Nat) (d : Rc) (v : List Rc), rs[i]? ≠ some (d :: v)) ∧ c' = k0) ∧ (∃ g' cap' L' H', MS D N w' mb g' cap' L' P B H' rs' ∧ ∀ (i : Nat) (a : Rc) (u : List Rc), rs'[i]? = some (a :: u) → ∀ g, Bk (H' i) g → w.heap.size ≤ g ∨ ((d = true → ¬ Bk c' g) ∧ ∃ b v, rs[i]? = some (b :: v) ∧ Bk (H i) g)) ∧ Tch (fun i => N ≤ i) w w' ∧ (∀ (z : Nat) (cs : Array Value), w.heap[z]? = some (.cells cs 76 (0, 0)) → w'.heap[z]? = some (.cells cs 76 (0, 0))) ∧ ∀ (z : Nat) (cs : Array Value), w.heap[z]? = some (.cells cs 27 (0, 0)) → w'.heap[z]? = some (.cells cs 27 (0, 0)) := by
  by_cases hL : L = []
  · subst hL
    refine (next_nil h).mono ?_
    rintro e w' ⟨rfl, t⟩
    exact ⟨false, k0, k0, rs, rfl, fun h => (by cases h), fun _ => ⟨⟨rfl, h.its.none⟩, rfl⟩, ⟨g, cap, [], H, h.no t, fun i a u e => absurd e (h.its.none i a u)⟩, t.mono (fun _ _ h => h.elim), fun z cs hz => (t.block z (blk_lt hz) (fun h => h)).trans hz, fun z cs hz => (t.block z (blk_lt hz) (fun h => h)).trans hz⟩
  · refine (next_some h hL hs).mono ?_
    rintro e w' ⟨j, c, u, hpk, rfl, hsm, how, ⟨g', cap', L', H', h', hH1, hH2⟩, t, h76, h27⟩
    have how' : OwnC N w' (H j) (D c).1 (D c).2 := by
      refine ⟨⟨how.o.1, ?_⟩, ⟨how.n.1, ?_⟩, how.ne⟩
      · rcases how.o.2 with e | ⟨g, cap, cur, e, hb, hg, rest⟩
        · exact .inl e
        · exact .inr ⟨g, cap, cur, e, hb, h76 g cur hg, rest⟩
      · rcases how.n.2 with e | ⟨g, cap, cur, e, hb, hg, rest⟩
        · exact .inl e
        · exact .inr ⟨g, cap, cur, e, hb, h76 g cur hg, rest⟩
    refine ⟨true, c, H j, rs.set j u, rfl, fun _ => ⟨⟨j, u, hpk, rfl, rfl⟩, hsm, how', fun g hg => (how.lt hg).2⟩, fun h => (by cases h), ⟨g', cap', L', H', h', fun i a v e g0 hg => ?_⟩, t, h76, h27⟩
    by_cases hij : i = j
    · subst hij
      rw [List.getElem?_set_self (List.getElem?_eq_some_iff.1 hpk.1).1] at e
      have hu : u ≠ [] := fun e2 => by rw [e2] at e; simp at e
      exact .inl (hH2 hu g0 hg)
    · rw [List.getElem?_set_ne (Ne.symm hij)] at e
      rw [hH1 i hij] at hg
      exact .inr ⟨fun _ hg2 => h.dis i j a c v u e hpk.1 hij g0 hg hg2, a, v, e, hg⟩
/-- A list of lists, for reading, all of it below N. -/
structure LLs (D : Rc → List Value × List Value) (N : Nat) (w : World) (lo : Option Addr) (hd : List Value) (ls : List (List Rc)) : Prop where
  len : hd.length = ls.length
  at' : ls ≠ [] → ∃ g o, lo = some ⟨g, o, none⟩ ∧ g < N ∧ ∀ (j : Nat) (u : Value), hd[j]? = some u → w.cell? ⟨g, o + j, none⟩ = some u
  el : ∀ (j : Nat) (l : List Rc), ls[j]? = some l → ∃ (ao : Option Addr) (cp : Nat), hd[j]? = some (Value.slice ao l.length cp) ∧ RL D N w ao cp l
theorem LLs.tch {D : Rc → List Value × List Value} {N : Nat} {w w' : World} {lo : Option Addr} {hd : List Value} {ls : List (List Rc)} (h : LLs D N w lo hd ls) (t : Tch (fun i => N ≤ i) w w') : LLs D N w' lo hd ls :=
  ⟨h.len, fun hne => by
    obtain ⟨g, o, e, hg, hc⟩ := h.at' hne
    exact ⟨g, o, e, hg, fun j u hu => (t.cell (p := ⟨g, o + j, none⟩) (cell_lt (hc j u hu)) (by show ¬ N ≤ g; omega)).trans (hc j u hu)⟩, fun j l hj => by
    obtain ⟨ao, cp, e, hr⟩ := h.el j l hj
    exact ⟨ao, cp, e, hr.tch t (fun g0 hg => by omega)⟩⟩
theorem LLs.get {D : Rc → List Value × List Value} {N : Nat} {w : World} {lo : Option Addr} {hd : List Value} {ls : List (List Rc)} (h : LLs D N w lo hd ls) {i : Nat} (hi : i < ls.length) : ∃ g o ao cp, lo = some ⟨g, o, none⟩ ∧ w.cell? ⟨g, o + i, none⟩ = some (.slice ao ls[i].length cp) ∧ RL D N w ao cp ls[i] := by
  obtain ⟨g, o, e, _, hc⟩ := h.at' (fun e => by rw [e] at hi; simp at hi)
  obtain ⟨ao, cp, e2, hr⟩ := h.el i _ (List.getElem?_eq_getElem hi)
  exact ⟨g, o, ao, cp, e, hc i _ e2, hr⟩
/-- A row of changes of one's own, where the blocks of changes are kept. -/
theorem own_z {N : Nat} {w w' : World} {v : Value} {n : Nat} {xs : List Value} (h : w.ownsRow N 27 6 v n xs) (hz : ∀ (z : Nat) (cs : Array Value), w.heap[z]? = some (.cells cs 27 (0, 0)) → w'.heap[z]? = some (.cells cs 27 (0, 0))) : w'.ownsRow N 27 6 v n xs := by
  refine ⟨h.1, ?_⟩
  rcases h.2 with e | ⟨g, cap, cur, e, hb, hg, rest⟩
  · exact .inl e
  · exact .inr ⟨g, cap, cur, e, hb, hz g cur hg, rest⟩
/-- A row of changes of one's own is turned: the merge goes on. -/
theorem MS.aside' {D : Rc → List Value × List Value} {N : Nat} {w w' : World} {mb g cap : Nat} {L : List It} {P B : Nat → Nat} {H : Nat → Rc} {rs : List (List Rc)} {v : Value} {n : Nat} {xs : List Value} (h : MS D N w mb g cap L P B H rs) (ho : w.ownsRow N 27 6 v n xs) (t : Tch (fun i => v.ownBlock = some i) w w') : MS D N w' mb g cap L P B H rs := by
  rcases ho.2 with ⟨e, _⟩ | ⟨z, c, cur, e, hN, hz, _⟩
  · exact h.no (t.mono (fun i _ e2 => by rw [e] at e2; cases e2))
  · exact h.aside hz hN (t.mono (fun i _ e2 => by rw [e] at e2; simpa [Value.ownBlock] using e2.symm))
theorem info_ch : (Try.prog.info? 27).map (fun i => (i.zero, i.size, i.bytes)) = some (some (.agg #[.int .i64 0, .int .i64 0, .int .i64 0, .int .i64 0, .slice none 0 0, .slice none 0 0]), 6, 80) := by kernel_rfl
theorem kcl_snoc (u : List Rc) (c : Rc) : kcl (u ++ [c]) = kcl u ++ kc6 c := by simp [kcl]
end Go.Proofs.Ytmnhkgibplnnnaa
