/- A disk of four files, plainly. -/
import Derived.Test.YtodkefbaandeiaaFour
namespace Go.Proofs.Ytodkefbaandeiaa

def nmF (k : Nat) : Nm := (fileB k).data.toList
def fourL (f : Nat → Fl) : List (Nm × Fl) := [([97], f 0), ([98, 46, 49], f 1), ([99, 95, 50], f 2), ([100, 45, 51], f 3)]
def updF (f : Nat → Fl) (k : Nat) (x : Fl) : Nat → Fl := fun i => if i = k then x else f i
theorem updF_same (f : Nat → Fl) (k : Nat) (x : Fl) : updF f k x k = x := if_pos rfl
theorem updF_other (f : Nat → Fl) {k i : Nat} (x : Fl) (h : i ≠ k) : updF f k x i = f i := if_neg h
theorem lt4 {k : Nat} (h : k < 4) : k = 0 ∨ k = 1 ∨ k = 2 ∨ k = 3 := by omega
theorem four_get (f : Nat → Fl) {k : Nat} (hk : k < 4) : getL (nmF k) (fourL f) = some (f k) := by
  rcases lt4 hk with rfl | rfl | rfl | rfl <;> rfl
theorem four_set (f : Nat → Fl) {k : Nat} (hk : k < 4) (x : Fl) : setL (nmF k) x (fourL f) = fourL (updF f k x) := by
  rcases lt4 hk with rfl | rfl | rfl | rfl <;> rfl
theorem four_rc (f : Nat → Fl) {k : Nat} (hk : k < 4) (x : Fl) : putL (nmF k) x (delL (nmF k) (fourL f)) = fourL (updF f k x) := by
  rcases lt4 hk with rfl | rfl | rfl | rfl <;> rfl
theorem four_mv (f : Nat → Fl) {k j : Nat} (hk : k < 4) (hj : j < 4) (h : k ≠ j) (x y : Fl) : putL (nmF k) y (putL (nmF j) x (delL (nmF k) (delL (nmF j) (fourL f)))) = fourL (updF (updF f j x) k y) := by
  rcases lt4 hk with rfl | rfl | rfl | rfl <;> rcases lt4 hj with rfl | rfl | rfl | rfl <;> first | exact absurd rfl h | rfl
theorem four_gone (f : Nat → Fl) (k : Nat) : getL (nmF k) (delL (nmF k) (fourL f)) = none := getL_delL_same _ _
theorem four_moved (f : Nat → Fl) {k j : Nat} (hk : k < 4) (hj : j < 4) (h : k ≠ j) (x : Fl) : getL (nmF k) (putL (nmF j) x (delL (nmF k) (delL (nmF j) (fourL f)))) = none := by
  rcases lt4 hk with rfl | rfl | rfl | rfl <;> rcases lt4 hj with rfl | rfl | rfl | rfl <;> first | exact absurd rfl h | rfl
theorem four_ok {k : Nat} (hk : k < 4) : okN (nmF k) = true := by
  rcases lt4 hk with rfl | rfl | rfl | rfl <;> rfl
theorem four_ne {k j : Nat} (hk : k < 4) (hj : j < 4) (h : k ≠ j) : nmF k ≠ nmF j := by
  rcases lt4 hk with rfl | rfl | rfl | rfl <;> rcases lt4 hj with rfl | rfl | rfl | rfl <;> first | exact absurd rfl h | decide
theorem four_sum (g : Fl → Nat) (f : Nat → Fl) : sumL g (fourL f) = g (f 0) + g (f 1) + g (f 2) + g (f 3) := by
  simp [sumL, fourL]; omega

/-- A disk of these files that lives. -/
def D4 (c : Nat) (f : Nat → Fl) : Dsk := ⟨c, fourL f, false, 0, 0⟩
def e0 : Fl := ⟨[], 0⟩
theorem act0 (d : Dsk) (g : Dsk → Dsk) (h : d.die = 0) : d.act g = (0, { g d with die := 0 }) := by
  unfold Dsk.act
  rw [if_neg (by omega), h]
section
variable (c : Nat) (f : Nat → Fl)
theorem d4_used : (D4 c f).used = (f 0).bs.length + (f 1).bs.length + (f 2).bs.length + (f 3).bs.length := four_sum lenF f
theorem d4_ref {k : Nat} (hk : k < 4) : (D4 c f).refuse (nmF k) = 0 := by simp [Dsk.refuse, D4, four_ok hk]
theorem d4_file {k : Nat} (hk : k < 4) : (D4 c f).file (nmF k) = f k := by simp [Dsk.file, D4, four_get f hk]
theorem d4_ask {k : Nat} (hk : k < 4) : (D4 c f).ask (nmF k) = 0 := by
  unfold Dsk.ask
  rw [d4_ref c f hk, show getL (nmF k) (D4 c f).m = some (f k) from four_get f hk]
  simp
theorem d4_append {k : Nat} (hk : k < 4) (s : Nm) : (D4 c f).append (nmF k) s = if c < (D4 c f).used + s.length then (23, D4 c f) else (0, D4 c (updF f k ⟨(f k).bs ++ s, (f k).la⟩)) := by
  unfold Dsk.append
  rw [d4_ask c f hk, if_neg (by simp)]
  by_cases h : c < (D4 c f).used + s.length
  · rw [if_pos (show (D4 c f).cap < _ from h), if_pos h]
  · rw [if_neg (show ¬ (D4 c f).cap < _ from h), if_neg h]
    rw [act0 _ _ rfl]
    simp only [d4_file c f hk]
    simp only [Dsk.set, D4, four_set f hk]
theorem d4_sync {k : Nat} (hk : k < 4) : (D4 c f).sync (nmF k) = (0, D4 c (updF f k ⟨(f k).bs, (f k).bs.length⟩)) := by
  unfold Dsk.sync
  rw [d4_ask c f hk, if_neg (by simp), if_neg (show ¬ (D4 c f).die = 1 by show ¬ (0 : Nat) = 1; omega), if_neg (show ¬ (D4 c f).fail = 1 by show ¬ (0 : Nat) = 1; omega), d4_file c f hk]
  simp only [Dsk.set, D4, four_set f hk]
theorem d4_trunc {k : Nat} (hk : k < 4) {n : Nat} (hn : n ≤ (f k).bs.length) : (D4 c f).trunc (nmF k) n = (0, D4 c (updF f k ⟨(f k).bs.take n, min (f k).la n⟩)) := by
  unfold Dsk.trunc
  rw [d4_ask c f hk, if_neg (by simp), d4_file c f hk, if_neg (by omega)]
  rw [act0 _ _ rfl]
  simp only [d4_file c f hk]
  simp only [Dsk.set, D4, four_set f hk, Int.toNat_natCast]
theorem d4_remove {k : Nat} (hk : k < 4) : (D4 c f).remove (nmF k) = (0, ⟨c, delL (nmF k) (fourL f), false, 0, 0⟩) := by
  unfold Dsk.remove
  rw [d4_ask c f hk, if_neg (by simp)]
  rfl
theorem d4_again {k : Nat} (hk : k < 4) : Dsk.create ⟨c, delL (nmF k) (fourL f), false, 0, 0⟩ (nmF k) = (0, D4 c (updF f k e0)) := by
  unfold Dsk.create
  have h1 : Dsk.refuse ⟨c, delL (nmF k) (fourL f), false, 0, 0⟩ (nmF k) = 0 := by simp [Dsk.refuse, four_ok hk]
  rw [h1, if_neg (by simp), if_neg (by simp only [four_gone f k]; simp)]
  rw [act0 _ _ rfl]
  simp only [D4, ← four_rc f hk e0]
  rfl
theorem d4_same {k : Nat} (hk : k < 4) : (D4 c f).rename (nmF k) (nmF k) = (0, D4 c f) := by
  unfold Dsk.rename
  rw [if_neg (by simp [four_ok hk]), d4_ask c f hk, if_neg (by simp)]
  rw [act0 _ _ rfl]
  simp only [if_true]
  rfl
theorem d4_rename {k j : Nat} (hk : k < 4) (hj : j < 4) (h : k ≠ j) : (D4 c f).rename (nmF k) (nmF j) = (0, ⟨c, putL (nmF j) (f k) (delL (nmF k) (delL (nmF j) (fourL f))), false, 0, 0⟩) := by
  unfold Dsk.rename
  rw [if_neg (by simp [four_ok hj]), d4_ask c f hk, if_neg (by simp)]
  rw [act0 _ _ rfl]
  simp only [if_neg (four_ne hk hj h), d4_file c f hk]
  rfl
theorem d4_anew {k j : Nat} (hk : k < 4) (hj : j < 4) (h : k ≠ j) (x : Fl) : Dsk.create ⟨c, putL (nmF j) x (delL (nmF k) (delL (nmF j) (fourL f))), false, 0, 0⟩ (nmF k) = (0, D4 c (updF (updF f j x) k e0)) := by
  unfold Dsk.create
  have h1 : Dsk.refuse ⟨c, putL (nmF j) x (delL (nmF k) (delL (nmF j) (fourL f))), false, 0, 0⟩ (nmF k) = 0 := by simp [Dsk.refuse, four_ok hk]
  rw [h1, if_neg (by simp), if_neg (by simp only [four_moved f hk hj h]; simp)]
  rw [act0 _ _ rfl]
  simp only [D4, ← four_mv f hk hj h]
  rfl
end
theorem fourD_c (c : Nat) : (((((newD c).create (nmF 0)).2.create (nmF 1)).2.create (nmF 2)).2.create (nmF 3)).2 = D4 c (fun _ => e0) := rfl
end Go.Proofs.Ytodkefbaandeiaa
