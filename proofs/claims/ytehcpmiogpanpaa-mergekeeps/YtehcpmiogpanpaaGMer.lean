import Derived.Test.YtehcpmiogpanpaaGAsk
/- A merge of lists in the world. -/
namespace Go.Proofs.Ytehcpmiogpanpaa
open Go.RowKit Go

/-- A row that holds c, and whose list goes on with u. -/
def RB (M : Nat) (w : World) (p b : Nat) (c : Kc) (u : List Kc) : Prop := w.heap[p]? = some (.cells (rwC b c) 69 (0, 0)) ∧ ∃ ao cp, w.heap[b]? = some (.cells #[.slice ao u.length cp] 28 (0, 0)) ∧ RL M w ao cp u
theorem RB.tch {M : Nat} {S : Nat → Prop} {w w' : World} {p b : Nat} {c : Kc} {u : List Kc} (h : RB M w p b c u) (t : Tch S w w') (h1 : ¬ S p) (h2 : ¬ S b) (h3 : ∀ g cur, g < M → w.heap[g]? = some (.cells cur 27 (0, 0)) → ¬ S g) : RB M w' p b c u := by
  obtain ⟨hp, ao, cp, hb, hl⟩ := h
  exact ⟨(t.block p (blk_lt hp) h1).trans hp, ao, cp, (t.block b (blk_lt hb) h2).trans hb, hl.tch t h3⟩
def tn1 (j : Nat) : Int := (j : Int) + 1
theorem tn1_up (n : Nat) : Tn tn1 n := fun i j h _ => by unfold tn1; omega
structure MS (N : Nat) (w : World) (mb g cap : Nat) (L : List It) (P B : Nat → Nat) (rs : List (List Kc)) : Prop where
  mbk : w.heap[mb]? = some (.cells #[hV g cap L, .int .i64 rs.length] 66 (0, 0))
  hr : HR w g cap L
  hp : Heap L
  its : Its Kc.l rs tn1 P L
  row : ∀ j c u, rs[j]? = some (c :: u) → RB N w (P j) (B j) c u
  injP : ∀ i j, i < rs.length → j < rs.length → P i = P j → i = j
  injB : ∀ i j, i < rs.length → j < rs.length → B i = B j → i = j
  lt : ∀ j, j < rs.length → P j < w.heap.size ∧ B j < w.heap.size
  lo : N ≤ mb ∧ N ≤ g ∧ ∀ j, j < rs.length → N ≤ P j ∧ N ≤ B j
theorem MS.no {N : Nat} {w w' : World} {mb g cap : Nat} {L : List It} {P B : Nat → Nat} {rs : List (List Kc)} (h : MS N w mb g cap L P B rs) (t : Tch (fun _ => False) w w') : MS N w' mb g cap L P B rs :=
  ⟨(t.block mb (blk_lt h.mbk) (fun h => h)).trans h.mbk, h.hr.no t, h.hp, h.its, fun j c u e => (h.row j c u e).tch t (fun h => h) (fun h => h) (fun _ _ _ _ h => h), h.injP, h.injB, fun j hj => ⟨Nat.lt_of_lt_of_le (h.lt j hj).1 t.size, Nat.lt_of_lt_of_le (h.lt j hj).2 t.size⟩, h.lo⟩
theorem nd_len : ∀ (l m : List Int), l.Nodup → (∀ x ∈ l, x ∈ m) → l.length ≤ m.length
  | [], m, _, _ => Nat.zero_le _
  | a :: l, m, h, hm => by
    have ha := hm a (List.mem_cons_self ..)
    have hn := List.nodup_cons.1 h
    have := nd_len l (m.erase a) hn.2 (fun x hx => (List.mem_erase_of_ne (show x ≠ a from fun e => hn.1 (by rw [← e]; exact hx))).2 (hm x (List.mem_cons_of_mem _ hx)))
    rw [List.length_erase_of_mem ha] at this
    have h0 : 0 < m.length := List.length_pos_of_mem ha
    simp only [List.length_cons]
    omega
theorem its_len {α : Type} {k : α → Int} {rs : List (List α)} {tn : Nat → Int} {P : Nat → Nat} {L : List It} (h : Its k rs tn P L) : L.length ≤ rs.length := by
  have hm : ∀ x ∈ L.map It.t, x ∈ (List.range rs.length).map tn := fun x hx => by
    obtain ⟨y, hy, rfl⟩ := List.mem_map.1 hx
    obtain ⟨j, c, u, e1, e2⟩ := (h.mem y).1 hy
    exact List.mem_map.2 ⟨j, List.mem_range.2 (List.getElem?_eq_some_iff.1 e1).1, by rw [e2]⟩
  have := nd_len _ _ h.nd hm
  simpa using this
/-- The row j, which held nothing, was asked and has told c. -/
theorem MS.asked {N : Nat} {w w' : World} {mb g cap : Nat} {L : List It} {P B : Nat → Nat} {rs : List (List Kc)} {j : Nat} {c c0 : Kc} {u : List Kc} {g' cap' : Nat} {L' : List It} {v : Value} (h : MS N w mb g cap L P B rs) (hj : rs[j]? = some [])
    (hp : w.heap[P j]? = some (.cells (rwC (B j) c0) 69 (0, 0))) (hb : w.heap[B j]? = some (.cells #[v] 28 (0, 0))) (a : AO N w w' mb (P j) (B j) g cap rs.length (tn1 j) L c u g' cap' L') : MS N w' mb g' cap' L' P B (rs.set j (c :: u)) := by
  have hjl : j < rs.length := (List.getElem?_eq_some_iff.1 hj).1
  have nS : ∀ i cur t, w.heap[i]? = some (.cells cur t (0, 0)) → t ≠ 66 → t ≠ 69 → t ≠ 28 → t ≠ 72 → t ≠ 77 → ¬ (i = mb ∨ i = P j ∨ i = B j ∨ i = g) := fun i cur t hi h1 h2 h3 h4 h5 e => by
    rcases e with e | e | e | e
    · exact ne_ty hi h.mbk h1 e
    · exact ne_ty hi hp h2 e
    · exact ne_ty hi hb h3 e
    · exact h.hr.ne hi h4 h5 e
  refine ⟨by rw [List.length_set]; exact a.mbk, a.hr, a.hp, ((h.its.push (by rw [show rs.length = rs.length from rfl]; exact tn1_up _) hj c u).perm a.pm), ?_, by rw [List.length_set]; exact h.injP, by rw [List.length_set]; exact h.injB, fun i hi => ?_, ⟨h.lo.1, ?_, fun i hi => ?_⟩⟩
  · intro i d v' e
    by_cases hij : i = j
    · subst hij
      rw [List.getElem?_set_self hjl] at e
      simp only [Option.some.injEq, List.cons.injEq] at e
      obtain ⟨rfl, rfl⟩ := e
      exact ⟨a.rowb, a.box⟩
    · rw [List.getElem?_set_ne (Ne.symm hij)] at e
      have hil : i < rs.length := (List.getElem?_eq_some_iff.1 e).1
      have hR := h.row i d v' e
      obtain ⟨hpi, ao, cp, hbi, _⟩ := id hR
      refine hR.tch a.tch ?_ ?_ (fun g0 cur _ hg => nS g0 cur _ hg (by decide) (by decide) (by decide) (by decide) (by decide))
      · rintro (e1 | e1 | e1 | e1)
        · exact ne_ty hpi h.mbk (by decide) e1
        · exact hij (h.injP i j hil hjl e1)
        · exact ne_ty hpi hb (by decide) e1
        · exact h.hr.ne hpi (by decide) (by decide) e1
      · rintro (e1 | e1 | e1 | e1)
        · exact ne_ty hbi h.mbk (by decide) e1
        · exact ne_ty hbi hp (by decide) e1
        · exact hij (h.injB i j hil hjl e1)
        · exact h.hr.ne hbi (by decide) (by decide) e1
  · rw [List.length_set] at hi
    exact ⟨Nat.lt_of_lt_of_le (h.lt i hi).1 a.tch.size, Nat.lt_of_lt_of_le (h.lt i hi).2 a.tch.size⟩
  · rcases a.at' with e | e
    · rw [e]; exact h.lo.2.1
    · have := blk_lt h.mbk; have := h.lo.1; omega
  · rw [List.length_set] at hi
    exact h.lo.2.2 i hi
end Go.Proofs.Ytehcpmiogpanpaa
