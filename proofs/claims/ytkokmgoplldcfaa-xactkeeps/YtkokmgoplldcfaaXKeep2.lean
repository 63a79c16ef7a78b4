/- XactKeeps: behind Forget. -/
import Derived.Test.YtkokmgoplldcfaaXKeep1
namespace Go.Proofs.Ytkokmgoplldcfaa
open Go.RowKit Go Go.Sort

/-- The kept snapshots, wherever. -/
structure KD (wr : World) (kv : Value) (E : List EW) (F : Nat → Prop) : Prop where
  row : wr.ownsRow 0 47 5 kv E.length (ecl E)
  rowF : ∀ i, kv.ownBlock = some i → F i
  ent : ∀ x ∈ E, RW wr F x
theorem KD.kept {w w' : World} {kv : Value} {E : List EW} {F : Nat → Prop} (h : KD w kv E F) (k : Kept F w w') : KD w' kv E F :=
  ⟨own_tch h.row k (fun i hi hn => hn (h.rowF i hi)), h.rowF, fun x hx => (h.ent x hx).kept k⟩
theorem KD.at {wr : World} {kv : Value} {E : List EW} {F : Nat → Prop} (h : KD wr kv E F) {a : Nat} {x : EW} (ha : E[a]? = some x) : ∃ kg kc, kv = .slice (some ⟨kg, 0, none⟩) E.length kc ∧ wr.cell? ⟨kg, a * 5, none⟩ = some (.int .i64 x.e.mn) ∧ wr.cell? ⟨kg, a * 5 + 1, none⟩ = some (.int .i64 x.e.nx) ∧ wr.cell? ⟨kg, a * 5 + 2, none⟩ = some (.slice x.so x.e.on.length x.sc) ∧ wr.cell? ⟨kg, a * 5 + 3, none⟩ = some (.slice x.ss x.e.se.length x.sd) ∧ wr.cell? ⟨kg, a * 5 + 4, none⟩ = some (.int .i64 x.e.nx) := by
  have hl := (List.getElem?_eq_some_iff.1 ha).1
  rcases h.row.2 with ⟨_, h0⟩ | ⟨kg, kc, cur, hv, _, hg, _, _, hs, ht⟩
  · omega
  · have hc : ∀ j u, (ecl E)[j]? = some u → wr.cell? ⟨kg, j, none⟩ = some u := fun j u hu => by
      have h9 := h.row.cells (g := kg) (by rw [hv]; rfl) j u hu
      rw [add_plain, Nat.zero_add] at h9
      exact h9
    have hx := ecl_get E a x ha
    exact ⟨kg, kc, hv, hc _ _ (by have := hx 0 _ rfl; simpa using this), hc _ _ (hx 1 _ rfl), hc _ _ (hx 2 _ rfl), hc _ _ (hx 3 _ rfl), hc _ _ (hx 4 _ rfl)⟩
theorem LW.kd {w wr : World} {N b G : Nat} {kv : Value} {g : Nat → Bool} {m : Mg} {E : List EW} {F : Nat → Prop} (h : LW w N b G wr kv g m E F) : KD wr kv E F := ⟨h.row, h.rowF, h.ent⟩
theorem LW.fresh {w wr w' : World} {N b G : Nat} {kv : Value} {g : Nat → Bool} {m : Mg} {E : List EW} {F : Nat → Prop} (h : LW w N b G wr kv g m E F) (hN : N = w.heap.size) (t : Tch (fun _ => False) wr w') : LW w N b G w' kv g m E (fun i => F i ∨ wr.heap.size ≤ i ∧ i < w'.heap.size) := by
  have h1 := h.no hN t
  exact ⟨h.mf.fresh t, h1.all, fun i hi => Or.inl (h1.lo i hi), Or.inl h1.fg, h1.ga, h1.row, fun i hi => Or.inl (h1.rowF i hi), h1.rn, fun x hx => (h1.ent x hx).mono (fun i hi => Or.inl hi), h1.ok, h1.sg, h1.t⟩
/-- A list of numbers by a function. -/
def wcl (n : Nat) (f : Nat → Nat) : List Value := (List.range n).map (fun j => Value.int .i64 (f j : Nat))
theorem wcl_len (n : Nat) (f : Nat → Nat) : (wcl n f).length = n := by simp [wcl]
theorem wcl_at {n j : Nat} (f : Nat → Nat) (hj : j < n) : (wcl n f)[j]? = some (.int .i64 (f j : Nat)) := by simp [wcl, List.getElem?_range hj]
theorem wcl_set (n : Nat) (f : Nat → Nat) (k v : Nat) : (wcl n f).set k (.int .i64 (v : Nat)) = wcl n (fun j => if j = k then v else f j) := by
  apply List.ext_getElem?
  intro j
  by_cases hj : j < n
  · by_cases hk : k = j
    · subst hk
      rw [List.getElem?_set_self (by rw [wcl_len]; exact hj), wcl_at _ hj]
      simp
    · rw [List.getElem?_set_ne hk, wcl_at _ hj, wcl_at _ hj, if_neg (fun e => hk e.symm)]
  · rw [List.getElem?_eq_none (by rw [List.length_set, wcl_len]; omega), List.getElem?_eq_none (by rw [wcl_len]; omega)]
theorem mk_ints (n : Nat) (hn : n ≤ 1000000) (w : World) : (Instr.makeSlice 29 (.int .i64 n) (.int .i64 n)).run Try.prog w = .ok (.slice (some ⟨w.heap.size, 0, none⟩) n n) (w.alloc (.cells (wcl n (fun _ => 0)).toArray 3)) := by
  obtain ⟨i0, hi, hz0, hz1, hz2⟩ := info_parts info_int
  have h := run_make (P := Try.prog) w 29 3 i0 (.int .i64 0) Try.underlying29 hi hz0 .i64 .i64 n n (by omega) (Int.le_refl _) (by rw [hz2]; omega) (by omega)
  rw [h, hz1]
  have e : madeCells (Value.int .i64 0).cells ((n : Int).toNat * 1) = (wcl n (fun _ => 0)).toArray := by
    have h1 := toList_madeCells_one (.int .i64 0) ((n : Int).toNat * 1)
    have h2 : (madeCells (Value.int .i64 0).cells ((n : Int).toNat * 1)).toList = wcl n (fun _ => 0) := by
      refine h1.trans ?_
      apply List.ext_getElem?
      intro j
      by_cases hj : j < n
      · rw [wcl_at _ hj, List.getElem?_replicate, if_pos (by simpa using hj)]; rfl
      · rw [List.getElem?_eq_none (by simp; omega), List.getElem?_eq_none (by rw [wcl_len]; omega)]
    rw [← h2, Array.toArray_toList]
  rw [e]
  simp
/-- How many are still to come. -/
def remN (m : Mg) (below : Int) (j : Nat) : Nat := ((List.range m.nx).filter (fun i => decide (j ≤ i) && goneN m below i)).length
theorem rem_one {m : Mg} (h : Wf m) (below : Int) : remN m below 1 = m.many below := by
  unfold remN Mg.many
  congr 1
  refine List.filter_congr (fun i _ => ?_)
  cases i with
  | zero => simp [goneN, no_zero h]
  | succ i => simp
theorem rem_end (m : Mg) (below : Int) : remN m below m.nx = 0 := by
  unfold remN
  rw [List.length_eq_zero_iff, List.filter_eq_nil_iff]
  intro i hi
  have := List.mem_range.1 hi
  simp; omega
theorem rem_step (m : Mg) (below : Int) {j : Nat} (hj : j < m.nx) : remN m below j = (if goneN m below j then 1 else 0) + remN m below (j + 1) := by
  unfold remN
  have key : ∀ n, j < n → ((List.range n).filter (fun i => decide (j ≤ i) && goneN m below i)).length = (if goneN m below j then 1 else 0) + ((List.range n).filter (fun i => decide (j + 1 ≤ i) && goneN m below i)).length := by
    intro n
    induction n with
    | zero => intro h; omega
    | succ n ih =>
      intro h
      rw [List.range_succ, List.filter_append, List.filter_append, List.length_append, List.length_append]
      by_cases hn : j = n
      · subst hn
        have e1 : (List.range j).filter (fun i => decide (j ≤ i) && goneN m below i) = [] := by
          rw [List.filter_eq_nil_iff]; intro i hi; have := List.mem_range.1 hi; simp; omega
        have e2 : (List.range j).filter (fun i => decide (j + 1 ≤ i) && goneN m below i) = [] := by
          rw [List.filter_eq_nil_iff]; intro i hi; have := List.mem_range.1 hi; simp; omega
        rw [e1, e2]
        cases hg : goneN m below j <;> simp [hg]
      · have ih := ih (by omega)
        rw [ih]
        have e3 : decide (j ≤ n) = true := decide_eq_true (by omega)
        have e4 : decide (j + 1 ≤ n) = true := decide_eq_true (by omega)
        simp only [List.filter_cons, List.filter_nil, e3, e4, Bool.true_and]
        omega
  exact key m.nx hj
/-- What stands, stands as it stood. -/
theorem st_stays {m : Mg} (h : Wf m) (below : Int) {j : Nat} (hg : goneN m below j = false) : (m.forget below).state j = m.state j := by
  simp [Mg.state, forget_fnd h, hg]
theorem st_gone {m : Mg} (h : Wf m) (below : Int) {j : Nat} (hg : goneN m below j = true) : (m.forget below).state j = 0 ∧ (m.state j = 3 ∨ m.state j = 4) ∧ (j : Int) < below := by
  refine ⟨by simp [Mg.state, forget_fnd h, hg, stE], ?_⟩
  cases hf : fnd m.tx (j : Int) with
  | none => simp [goneN, hf] at hg
  | some a =>
    obtain ⟨t, i⟩ := a
    simp only [goneN, hf, goneT, Bool.and_eq_true, decide_eq_true_eq] at hg
    have hl := (last_ge h hf).1
    have hst := h.st t (fnd_mem hf).1
    refine ⟨?_, by omega⟩
    simp only [Mg.state, hf, stE]
    split
    · exact Or.inr rfl
    · omega
theorem sees_stays {m : Mg} (h : Wf m) (ha : All m) (below : Int) {e : Ent} (he : EntOK m e) {j : Nat} (h1 : 1 ≤ j) (h2 : j < m.nx) (hg : goneN m below j = false) : (m.forget below).sees e.mn e.nx (ints e.on) 0 j = (decide (j < e.nx) && e.se.getD j false) := by
  cases hf : fnd m.tx (j : Int) with
  | none => exact absurd hf (ha j h1 h2)
  | some a =>
    obtain ⟨t, i⟩ := a
    have hf' : fnd (m.forget below).tx (j : Int) = some (t, i) := by rw [forget_fnd h, hg]; exact hf
    rw [sees_zero (h.forget below) e _ hf', ← sees_zero h e e.mn hf]
    exact he.se j h1 h2
theorem sees_gone {m : Mg} (h : Wf m) (below : Int) {e : Ent} (he : EntOK m e) {j : Nat} (h1 : 1 ≤ j) (h2 : j < m.nx) (hg : goneN m below j = true) : (m.forget below).sees e.mn e.nx (ints e.on) 0 j = decide (j < e.mn) ∧ (m.state j = 3 → j < e.mn → (decide (j < e.nx) && e.se.getD j false) = true) := by
  have hf' : fnd (m.forget below).tx (j : Int) = none := by rw [forget_fnd h, hg]; rfl
  refine ⟨?_, fun h3 hlt => ?_⟩
  · simp only [Mg.sees, hf']
    rw [decide_eq_true (show (1 : Int) ≤ (j : Int) by omega)]
    simp only [Bool.true_and]
    exact decide_eq_decide.2 (by omega)
  · rw [← he.se j h1 h2]
    cases hf : fnd m.tx (j : Int) with
    | none => simp [goneN, hf] at hg
    | some a =>
      obtain ⟨t, i⟩ := a
      rw [sees_zero h e _ hf]
      have hx := (last_ge h hf).2
      have e3 : stE (some (t, i)) = 3 := by simpa [Mg.state, hf] using h3
      have hn : t.x ∉ e.on := fun hm => by have := he.mo t.x hm; omega
      have hx2 : t.x < e.nx := by have := he.mn; omega
      simp [e3, hn, hx2]
theorem sees_cond {m : Mg} (h : Wf m) (ha : All m) {j : Nat} (h1 : 1 ≤ j) (h2 : j < m.nx) : 1 ≤ m.state j ∧ m.state j ≤ 4 := by
  cases hf : fnd m.tx (j : Int) with
  | none => exact absurd hf (ha j h1 h2)
  | some a =>
    obtain ⟨t, i⟩ := a
    have hst := h.st t (fnd_mem hf).1
    simp only [Mg.state, hf, stE]
    split <;> omega
end Go.Proofs.Ytkokmgoplldcfaa
