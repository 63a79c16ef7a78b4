import Derived.Test.YtjbehnoococelaaMIns
/- New, Empty, Versions. -/
namespace Go.Proofs.Ytjbehnoococelaa
open Go.RowKit Go Go.Sort Go.Maps

/-- How many versions the chains have of which something holds. -/
def cnt (E : List En) (C : Nat → Ch) (P : En → Bool) : Nat := (E.map (fun e => if P e then (C e.b).2.2.length else 0)).sum
theorem cnt_congr {E : List En} {C : Nat → Ch} {P Q : En → Bool} (h : ∀ e ∈ E, P e = Q e) : cnt E C P = cnt E C Q := by
  unfold cnt
  rw [List.map_congr_left (fun e he => by rw [h e he])]
theorem cnt_step {E : List En} {C : Nat → Ch} {P Q : En → Bool} (hE : E.Pairwise (fun e f => e.b ≠ f.b)) {e0 : En} (he : e0 ∈ E) (h0 : P e0 = false) (h1 : Q e0 = true) (hq : ∀ e ∈ E, e ≠ e0 → Q e = P e) : cnt E C Q = cnt E C P + (C e0.b).2.2.length := by
  induction E with
  | nil => cases he
  | cons f r ih =>
    obtain ⟨p1, p2⟩ := List.pairwise_cons.1 hE
    unfold cnt at ih ⊢
    simp only [List.map_cons, List.sum_cons]
    rcases List.mem_cons.1 he with e | he'
    · subst e
      rw [h0, h1]
      have : (r.map (fun e => if Q e then (C e.b).2.2.length else 0)).sum = (r.map (fun e => if P e then (C e.b).2.2.length else 0)).sum := by
        rw [List.map_congr_left (fun e he => by rw [hq e (List.mem_cons_of_mem _ he) (fun e1 => p1 e he (by rw [e1]))])]
      rw [this]
      simp only [Bool.false_eq_true, if_true, if_false]
      omega
    · have hne : f ≠ e0 := fun e1 => p1 e0 he' (by rw [e1])
      rw [ih p2 he' (fun e h2 h3 => hq e (List.mem_cons_of_mem _ h2) h3), hq f List.mem_cons_self hne]
      omega
theorem cnt_all (E : List En) (C : Nat → Ch) : cnt E C (fun _ => true) = ((labs E C).map (fun p => p.2.length)).sum := by
  unfold cnt labs
  rw [List.map_map]
  congr 1
  refine List.map_congr_left fun e _ => ?_
  simp
theorem cnt_none (E : List En) (C : Nat → Ch) : cnt E C (fun _ => false) = 0 := by
  unfold cnt
  induction E with
  | nil => rfl
  | cons e r ih =>
    rw [List.map_cons, List.sum_cons, ih]
    rfl
theorem cnt_le (E : List En) (C : Nat → Ch) (P : En → Bool) : cnt E C P ≤ cnt E C (fun _ => true) := by
  unfold cnt
  induction E with
  | nil => exact Nat.le_refl _
  | cons e r ih =>
    rw [List.map_cons, List.map_cons, List.sum_cons, List.sum_cons]
    refine Nat.add_le_add ?_ ih
    show (if P e = true then _ else 0) ≤ (if true = true then _ else 0)
    rw [if_pos rfl]
    split
    · exact Nat.le_refl _
    · exact Nat.zero_le _
theorem mnew_any (mb : Nat) (m : Mg) (w : World) (F : Nat → Prop) (hM : MF w mb m F) : Calls Try.prog 21 #[.pointer (some ⟨mb, 0, none⟩)] w fun x w' => (∃ hb, x = .returned (.pointer (some ⟨hb, 0, none⟩)) ∧ w.heap.size ≤ hb ∧ HS w' hb mb m [] F 0) ∧ Tch (fun _ => False) w w' := by
  obtain ⟨w1, hw1⟩ : ∃ w1, w1 = w.alloc (.map #[] 0) := ⟨_, rfl⟩
  obtain ⟨w2, hw2⟩ : ∃ w2, w2 = w1.alloc (.cells #[.pointer (some ⟨mb, 0, none⟩), .map (some w.heap.size)] 77) := ⟨_, rfl⟩
  have t1 : Tch (fun _ => False) w w1 := by rw [hw1]; exact Tch.alloc _ _ _
  have t2 : Tch (fun _ => False) w1 w2 := by rw [hw2]; exact Tch.alloc _ _ _
  have hs1 : w1.heap.size = w.heap.size + 1 := by rw [hw1]; simp
  have hmap : w2.ownsMap Try.prog 3 mapElem w.heap.size 0 (.map []) := by
    have : w1.ownsMap Try.prog 3 mapElem w.heap.size 0 (.map []) := by rw [hw1]; exact World.ownsMap_made w Try.prog 3 mapElem
    exact ownsMap_tch this t2 (fun h => h)
  have hblk : w2.heap[w.heap.size + 1]? = some (.cells #[.pointer (some ⟨mb, 0, none⟩), .map (some w.heap.size)] 77 (0, 0)) := by rw [hw2, ← hs1]; exact alloc_new _ _
  have HH : Hid (HS w2 (w.heap.size + 1) mb m [] F 0) := by
    obtain ⟨σ0, hσ0⟩ : ∃ σ0 : Nat → Option Nat, σ0 = fun i => if i = w.heap.size ∨ i = w.heap.size + 1 then some (2 * (w.heap.size + 1) + 1) else none := ⟨_, rfl⟩
    have hFw : ∀ i, F i → i < w.heap.size := by obtain ⟨_, _, _, _, h5⟩ := hM; exact fun i hi => (h5 i hi).2
    refine ⟨w.heap.size, [], [], fun _ => (none, 0, []), σ0, ⟨hblk, by rw [hσ0]; simp, by rw [hσ0]; simp, ⟨_, hmap, fun k zd => rfl⟩, (fun p hp => by cases hp), (fun e he => by cases he), List.Pairwise.nil, List.Pairwise.nil, List.Pairwise.nil, List.Pairwise.nil, (fun e he => by cases he), fun i hi => ?_⟩, rfl, (fun e he => by cases he), ?_, fun i hi => ?_⟩
    · rw [hσ0] at hi
      have := blk_lt hblk
      by_cases e : i = w.heap.size ∨ i = w.heap.size + 1
      · omega
      · simp only [if_neg e] at hi; exact absurd rfl hi
    · refine (hM.fresh (t1.trans' t2)).mono (fun i hi => ?_)
      rcases hi with hi | hi
      · exact .inl hi
      · rw [hσ0] at hi
        have := blk_lt hblk
        by_cases e : i = w.heap.size ∨ i = w.heap.size + 1
        · exact .inr ⟨by omega, by omega⟩
        · simp only [if_neg e] at hi; exact absurd rfl hi
    · have := hFw i hi
      have hb := blk_lt hblk
      refine ⟨?_, by omega⟩
      rw [hσ0]
      exact if_neg (by omega)
  have HT : Hid (Tch (fun _ => False) w w2) := t1.trans' t2
  have Hw2 : Hid (w2 = (w.alloc (.map #[] 0)).alloc (.cells #[.pointer (some ⟨mb, 0, none⟩), .map (some w.heap.size)] 77)) := by show _ = _; rw [hw2, hw1]
  have hmm := @run_makeMap Try.prog
  clear hM hw1 hw2 t1 t2 hs1 hmap hblk
  go_enter Try.func21, Try.ntmps21
  go_wp2
  rw [← Hw2.out]
  go_ret
  exact ⟨⟨_, rfl, Nat.le_succ _, HH.out⟩, HT.out⟩
theorem empty_f (w : World) (hb mb : Nat) (m : Mg) (L : HL) (F : Nat → Prop) (q : Nat) (h : HS w hb mb m L F q) (k : Int) (h1 : -9223372036854775808 ≤ k) (h2 : k ≤ 9223372036854775807) :
    Calls Try.prog 16 #[.pointer (some ⟨hb, 0, none⟩), .int .i64 k] w fun x w' => x = .returned (.tuple #[]) ∧ HS w' hb mb m (L.filter (fun p => decide (p.1.1 ≠ k))) F q ∧ Kept F w w' := by
  obtain ⟨tb, T, E, C, σ, hw, hL, hne, hM, hF⟩ := h
  obtain ⟨w1, hd, hw1, t1⟩ := hw.dropT h1 h2 0
  have c1 := hw.c1
  have t1' : Tch (fun i => σ i ≠ none) w w1 := t1.mono (fun i _ e => by rw [e, hw.lt]; exact fun h => by cases h)
  have HH : Hid (HS w1 hb mb m (L.filter (fun p => decide (p.1.1 ≠ k))) F q ∧ Kept F w w1) := by
    refine ⟨⟨tb, _, _, C, σ, hw1, ?_, fun e he => hne e (List.mem_filter.1 he).1, hM.beside t1' (fun _ _ h => h) hw1.dom, fun i hi => ⟨(hF i hi).1, Nat.lt_of_lt_of_le (hF i hi).2 t1.size⟩⟩, t1'.mono (fun i _ hs hf => hs (hF i hf).1)⟩
    rw [← hL]
    unfold labs
    rw [List.filter_map]
    rfl
  clear hw hL hne hM hF hw1 t1 t1' h1 h2
  go_enter Try.func16, Try.ntmps16
  go_wp2
  go_end0
  exact ⟨rfl, HH.out⟩
end Go.Proofs.Ytjbehnoococelaa
