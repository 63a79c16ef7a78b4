/- Transactions, their parts, a manager: as plain mathematics. -/
import Derived.Test.YtkokmgoplldcfaaBase
namespace Go.Proofs.Ytkokmgoplldcfaa

structure Pt where
  x : Nat
  ar : Int
  ft : Nat
structure Tx where
  x : Nat
  st : Nat
  ps : List Pt
structure Mg where
  nx : Nat
  on : List Nat
  tx : List Tx

/-- Where a part of that number stands. -/
def idx : List Pt → Int → Option Nat
  | [], _ => none
  | p :: r, n => if (p.x : Int) = n then some 0 else (idx r n).map (· + 1)
/-- What stands under a number. -/
def fnd : List Tx → Int → Option (Tx × Int)
  | [], _ => none
  | t :: r, n => if (t.x : Int) = n then some (t, -1) else match idx t.ps n with
    | some i => some (t, (i : Int))
    | none => fnd r n
def upd (L : List Tx) (x : Nat) (f : Tx → Tx) : List Tx := L.map (fun t => if t.x = x then f t else t)

theorem idx_some {ps : List Pt} {n : Int} {i : Nat} (h : idx ps n = some i) : ∃ p, ps[i]? = some p ∧ (p.x : Int) = n := by
  induction ps generalizing i with
  | nil => cases h
  | cons p r ih =>
    unfold idx at h
    split at h
    · cases h; exact ⟨p, rfl, by assumption⟩
    · cases hi : idx r n with
      | none => rw [hi] at h; cases h
      | some k =>
        rw [hi] at h; cases h
        exact ih hi
theorem idx_none {ps : List Pt} {n : Int} (h : idx ps n = none) : ∀ p ∈ ps, (p.x : Int) ≠ n := by
  induction ps with
  | nil => intro p hp; cases hp
  | cons p r ih =>
    unfold idx at h
    split at h
    · cases h
    · rename_i hne
      cases hi : idx r n with
      | none =>
        intro q hq
        rcases List.mem_cons.1 hq with rfl | hq
        · exact hne
        · exact ih hi q hq
      | some k => rw [hi] at h; cases h
theorem idx_no {ps : List Pt} {n : Int} (h : ∀ p ∈ ps, (p.x : Int) ≠ n) : idx ps n = none := by
  induction ps with
  | nil => rfl
  | cons p r ih =>
    unfold idx
    rw [if_neg (h p (by simp)), ih (fun q hq => h q (by simp [hq]))]; rfl
theorem idx_snoc (ps : List Pt) (p : Pt) (n : Int) : idx (ps ++ [p]) n = match idx ps n with | some i => some i | none => if (p.x : Int) = n then some ps.length else none := by
  induction ps with
  | nil => simp [idx]
  | cons q r ih =>
    simp only [List.cons_append, idx, ih]
    split
    · rfl
    · cases idx r n with
      | none =>
        simp only [Option.map_none]
        split <;> simp
      | some k => simp
theorem idx_congr {ps qs : List Pt} (h : ps.map (·.x) = qs.map (·.x)) (n : Int) : idx ps n = idx qs n := by
  induction ps generalizing qs with
  | nil => cases qs with
    | nil => rfl
    | cons a l => cases h
  | cons p r ih => cases qs with
    | nil => cases h
    | cons q s =>
      simp only [List.map_cons, List.cons.injEq] at h
      simp only [idx, h.1, ih h.2]
theorem fnd_mem {L : List Tx} {n : Int} {t : Tx} {i : Int} (h : fnd L n = some (t, i)) : t ∈ L ∧ ((i = -1 ∧ (t.x : Int) = n) ∨ (∃ k p, i = (k : Nat) ∧ idx t.ps n = some k ∧ t.ps[k]? = some p ∧ (p.x : Int) = n ∧ (t.x : Int) ≠ n)) := by
  induction L with
  | nil => cases h
  | cons u r ih =>
    unfold fnd at h
    split at h
    · cases h; exact ⟨by simp, Or.inl ⟨rfl, by assumption⟩⟩
    · rename_i hne
      cases hi : idx u.ps n with
      | none => rw [hi] at h; have := ih h; exact ⟨by simp [this.1], this.2⟩
      | some k =>
        rw [hi] at h; cases h
        obtain ⟨p, h1, h2⟩ := idx_some hi
        exact ⟨by simp, Or.inr ⟨k, p, rfl, hi, h1, h2, hne⟩⟩
theorem fnd_none {L : List Tx} {n : Int} (h : fnd L n = none) : ∀ t ∈ L, (t.x : Int) ≠ n ∧ ∀ p ∈ t.ps, (p.x : Int) ≠ n := by
  induction L with
  | nil => intro t ht; cases ht
  | cons u r ih =>
    unfold fnd at h
    split at h
    · cases h
    · rename_i hne
      cases hi : idx u.ps n with
      | some k => rw [hi] at h; cases h
      | none =>
        rw [hi] at h
        intro t ht
        rcases List.mem_cons.1 ht with rfl | ht
        · exact ⟨hne, idx_none hi⟩
        · exact ih h t ht
theorem fnd_no {L : List Tx} {n : Int} (h : ∀ t ∈ L, (t.x : Int) ≠ n ∧ ∀ p ∈ t.ps, (p.x : Int) ≠ n) : fnd L n = none := by
  induction L with
  | nil => rfl
  | cons u r ih =>
    unfold fnd
    rw [if_neg (h u (by simp)).1, idx_no (h u (by simp)).2]
    exact ih (fun t ht => h t (by simp [ht]))
theorem fnd_snoc (L : List Tx) (t : Tx) (n : Int) : fnd (L ++ [t]) n = match fnd L n with | some a => some a | none => fnd [t] n := by
  induction L with
  | nil => rfl
  | cons u r ih =>
    simp only [List.cons_append]
    unfold fnd
    split
    · rfl
    · cases idx u.ps n with
      | some k => rfl
      | none => exact ih
/-- An update that leaves the numbers. -/
theorem fnd_upd (x : Nat) (f : Tx → Tx) (hf : ∀ t, (f t).x = t.x ∧ (f t).ps.map (·.x) = t.ps.map (·.x)) (n : Int) : ∀ L : List Tx, fnd (upd L x f) n = (fnd L n).map (fun p => (if p.1.x = x then f p.1 else p.1, p.2))
  | [] => rfl
  | t :: r => by
    have ih := fnd_upd x f hf n r
    simp only [upd, List.map_cons, fnd] at ih ⊢
    have e1 : (if t.x = x then f t else t).x = t.x := by split; exact (hf t).1; rfl
    have e2 : idx (if t.x = x then f t else t).ps n = idx t.ps n := by
      split
      · exact idx_congr (hf t).2 n
      · rfl
    rw [e1, e2]
    split
    · rfl
    · cases idx t.ps n with
      | some k => rfl
      | none => exact ih

/-- A manager as it may be. -/
structure Wf (m : Mg) : Prop where
  n1 : 1 ≤ m.nx
  n2 : m.nx ≤ 2147483648
  lo : ∀ t ∈ m.tx, 1 ≤ t.x ∧ t.x < m.nx
  pl : ∀ t ∈ m.tx, ∀ p ∈ t.ps, t.x < p.x ∧ p.x < m.nx
  st : ∀ t ∈ m.tx, 1 ≤ t.st ∧ t.st ≤ 4
  ln : ∀ t ∈ m.tx, t.ps.length ≤ 64
  ar : ∀ t ∈ m.tx, ∀ (i : Nat) p, t.ps[i]? = some p → -1 ≤ p.ar ∧ p.ar < i ∧ p.ft ≤ 2
  up : m.tx.Pairwise (fun t u => t.x < u.x)
  ap : m.tx.Pairwise (fun t u => ∀ p ∈ t.ps, p.x ≠ u.x ∧ ∀ q ∈ u.ps, p.x ≠ q.x)
  pu : ∀ t ∈ m.tx, t.ps.Pairwise (fun p q => p.x < q.x)
  on : m.on = (m.tx.filter (fun t => t.st < 3)).map (·.x)

/-- The fate of what stands under a number. -/
def fate (t : Tx) (i : Int) : Nat := if 0 ≤ i then match t.ps[i.toNat]? with | some p => p.ft | none => 0 else 0
/-- How what stands under a number stands. -/
def stE : Option (Tx × Int) → Nat
  | none => 0
  | some (t, i) => if fate t i = 2 then 4 else t.st
def Mg.state (m : Mg) (n : Int) : Nat := stE (fnd m.tx n)

/-- Does the part at a place stand within another one, or is it that? -/
def within (ps : List Pt) (o : Int) : Nat → Int → Bool
  | 0, a => a == o
  | k + 1, a => if a > o then within ps o k (match ps[a.toNat]? with | some p => p.ar | none => -1) else a == o
def endPs (ps : List Pt) (o : Int) (f : Nat) : List Pt := ps.mapIdx (fun j p => if within ps o ps.length j then { p with ft := max p.ft f } else p)
theorem endPs_x (ps : List Pt) (o : Int) (f : Nat) : (endPs ps o f).map (·.x) = ps.map (·.x) := by
  apply List.ext_getElem?
  intro k
  simp only [endPs, List.getElem?_map, List.getElem?_mapIdx]
  cases ps[k]? with
  | none => rfl
  | some p => simp only [Option.map_some]; split <;> rfl
theorem endPs_len (ps : List Pt) (o : Int) (f : Nat) : (endPs ps o f).length = ps.length := by simp [endPs]
end Go.Proofs.Ytkokmgoplldcfaa
