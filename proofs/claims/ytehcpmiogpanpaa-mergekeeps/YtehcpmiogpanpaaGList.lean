import Derived.Test.YtehcpmiogpanpaaGNew
/- Next in one form; lists of lists for reading. -/
namespace Go.Proofs.Ytehcpmiogpanpaa
open Go.RowKit Go

theorem next_any {N : Nat} {w : World} {mb g cap : Nat} {L : List It} {P B : Nat → Nat} {rs : List (List Kc)} (h : MS N w mb g cap L P B rs) (hs : rs.length < 1000000000000) :
    Calls Try.prog 13 #[.pointer (some ⟨mb, 0, none⟩)] w fun e w' => ∃ (d : Bool) (c : Kc) (rs' : List (List Kc)), e = .returned (.tuple #[kcV c, .bool d]) ∧ (d = true → ∃ j u, Pk Kc.l rs j c u ∧ rs' = rs.set j u) ∧ (d = false → rs' = rs ∧ ∀ (i : Nat) (d : Kc) (v : List Kc), rs[i]? ≠ some (d :: v)) ∧ (∃ g' cap' L', MS N w' mb g' cap' L' P B rs') ∧ Tch (fun i => N ≤ i) w w' ∧ ∀ (z : Nat) (cs : Array Value), w.heap[z]? = some (.cells cs 27 (0, 0)) → w'.heap[z]? = some (.cells cs 27 (0, 0)) := by
  by_cases hL : L = []
  · subst hL
    refine (next_nil h).mono ?_
    rintro e w' ⟨rfl, t⟩
    exact ⟨false, k0, rs, rfl, fun h => (by cases h), fun _ => ⟨rfl, h.its.none⟩, ⟨g, cap, [], h.no t⟩, t.mono (fun _ _ h => h.elim), fun z cs hz => (t.block z (blk_lt hz) (fun h => h)).trans hz⟩
  · refine (next_some h hL hs).mono ?_
    rintro e w' ⟨j, c, u, hpk, rfl, h', t, hz⟩
    exact ⟨true, c, rs.set j u, rfl, fun _ => ⟨j, u, hpk, rfl⟩, fun h => (by cases h), h', t, hz⟩
/-- A list of lists, for reading, all of it below N. -/
structure LLs (N : Nat) (w : World) (lo : Option Addr) (hd : List Value) (ls : List (List Kc)) : Prop where
  len : hd.length = ls.length
  at' : ls ≠ [] → ∃ g o, lo = some ⟨g, o, none⟩ ∧ g < N ∧ ∀ (j : Nat) (u : Value), hd[j]? = some u → w.cell? ⟨g, o + j, none⟩ = some u
  el : ∀ (j : Nat) (l : List Kc), ls[j]? = some l → ∃ (ao : Option Addr) (cp : Nat), hd[j]? = some (Value.slice ao l.length cp) ∧ RL N w ao cp l
theorem LLs.tch {N : Nat} {w w' : World} {lo : Option Addr} {hd : List Value} {ls : List (List Kc)} (h : LLs N w lo hd ls) (t : Tch (fun i => N ≤ i) w w') : LLs N w' lo hd ls :=
  ⟨h.len, fun hne => by
    obtain ⟨g, o, e, hg, hc⟩ := h.at' hne
    exact ⟨g, o, e, hg, fun j u hu => (t.cell (p := ⟨g, o + j, none⟩) (cell_lt (hc j u hu)) (by show ¬ N ≤ g; omega)).trans (hc j u hu)⟩, fun j l hj => by
    obtain ⟨ao, cp, e, hr⟩ := h.el j l hj
    exact ⟨ao, cp, e, hr.tch t (fun g0 _ hg _ => by omega)⟩⟩
theorem LLs.get {N : Nat} {w : World} {lo : Option Addr} {hd : List Value} {ls : List (List Kc)} (h : LLs N w lo hd ls) {i : Nat} (hi : i < ls.length) : ∃ g o ao cp, lo = some ⟨g, o, none⟩ ∧ w.cell? ⟨g, o + i, none⟩ = some (.slice ao ls[i].length cp) ∧ RL N w ao cp ls[i] := by
  obtain ⟨g, o, e, _, hc⟩ := h.at' (fun e => by rw [e] at hi; simp at hi)
  obtain ⟨ao, cp, e2, hr⟩ := h.el i _ (List.getElem?_eq_getElem hi)
  exact ⟨g, o, ao, cp, e, hc i _ e2, hr⟩
/-- A row of changes of one's own, where the blocks of changes are kept. -/
theorem own_z {N : Nat} {w w' : World} {v : Value} {n : Nat} {xs : List Value} (h : w.ownsRow N 27 6 v n xs) (hz : ∀ (z : Nat) (cs : Array Value), w.heap[z]? = some (.cells cs 27 (0, 0)) → w'.heap[z]? = some (.cells cs 27 (0, 0))) : w'.ownsRow N 27 6 v n xs := by
  refine ⟨h.1, ?_⟩
  rcases h.2 with e | ⟨g, cap, cur, e, hb, hg, rest⟩
  · exact .inl e
  · exact .inr ⟨g, cap, cur, e, hb, hz g cur hg, rest⟩
/-- A row of changes of one's own is turned: the merge goes on. -/
theorem MS.aside' {N : Nat} {w w' : World} {mb g cap : Nat} {L : List It} {P B : Nat → Nat} {rs : List (List Kc)} {v : Value} {n : Nat} {xs : List Value} (h : MS N w mb g cap L P B rs) (ho : w.ownsRow N 27 6 v n xs) (t : Tch (fun i => v.ownBlock = some i) w w') : MS N w' mb g cap L P B rs := by
  rcases ho.2 with ⟨e, _⟩ | ⟨z, c, cur, e, hN, hz, _⟩
  · exact h.no (t.mono (fun i _ e2 => by rw [e] at e2; cases e2))
  · exact h.aside hz hN (t.mono (fun i _ e2 => by rw [e] at e2; simpa [Value.ownBlock] using e2.symm))
theorem info_ch : (Try.prog.info? 27).map (fun i => (i.zero, i.size, i.bytes)) = some (some (.agg #[.int .i64 0, .int .i64 0, .int .i64 0, .int .i64 0, .slice none 0 0, .slice none 0 0]), 6, 80) := by kernel_rfl
theorem kcl_snoc (u : List Kc) (c : Kc) : kcl (u ++ [c]) = kcl u ++ kc6 c := by simp [kcl]
end Go.Proofs.Ytehcpmiogpanpaa
