/- FilesLasts: the state of its first loop. -/
import Derived.Test.YtodkefbaandeiaaLasts0
namespace Go.Proofs.Ytodkefbaandeiaa
open Go.RowKit Go.ChangeMaps Go.Sort

/-- The disk, the row of texts, the row of what lasts. -/
structure LS (w0 : World) (b nb lb : Nat) (wr : World) (d : Dsk) (z : Nat → ByteArray) (la : Nat → Nat) : Prop where
  D : DF wr b d (fun i => i < w0.heap.size ∨ i = nb ∨ i = lb)
  Z : Txt4 wr nb z
  L : Four4 wr lb (fun i => (la i : Int))
  T : Tch (fun _ => False) w0 wr
section
variable {w0 wr : World} {b nb lb : Nat} {d : Dsk} {z : Nat → ByteArray} {la : Nat → Nat}
theorem LS.no {w' : World} (h : LS w0 b nb lb wr d z la) (t : Tch (fun _ => False) wr w') : LS w0 b nb lb w' d z la := ⟨h.D.no t, h.Z.tch t (fun h => h), h.L.tch t (fun h => h), h.T.trans' t⟩
theorem LS.op {w' : World} {d' : Dsk} (h : LS w0 b nb lb wr d z la) (h' : DF w' b d' (fun i => i < w0.heap.size ∨ i = nb ∨ i = lb)) (t : Kept (fun i => i < w0.heap.size ∨ i = nb ∨ i = lb) wr w') : LS w0 b nb lb w' d' z la :=
  ⟨h', h.Z.tch t (fun hn => hn (Or.inr (Or.inl rfl))), h.L.tch t (fun hn => hn (Or.inr (Or.inr rfl))), h.T.trans t (fun _ hi hn => hn (Or.inl hi))⟩
theorem LS.setZ (h : LS w0 b nb lb wr d z la) (hn : nb ≠ lb) (hb : w0.heap.size ≤ nb) {k : Nat} (hk : k < 4) (v : ByteArray) : LS w0 b nb lb (wr.setCell ⟨nb, k, none⟩ (.string v)) d (upd z k v) la :=
  have t := Tch.setCell (fun i => i = nb) wr ⟨nb, k, none⟩ (.string v) rfl
  ⟨h.D.tch t (fun _ _ hi => Or.inr (Or.inl hi)), h.Z.set hk v, h.L.tch t (Ne.symm hn), h.T.setNew ⟨nb, k, none⟩ _ hb⟩
theorem LS.setL (h : LS w0 b nb lb wr d z la) (hn : nb ≠ lb) (hb : w0.heap.size ≤ lb) {k : Nat} (hk : k < 4) {v : Int} {l : Nat} (hv : v = l) : LS w0 b nb lb (wr.setCell ⟨lb, k, none⟩ (.int .i64 v)) d z (upd la k l) :=
  have t := Tch.setCell (fun i => i = lb) wr ⟨lb, k, none⟩ (.int .i64 v) rfl
  ⟨h.D.tch t (fun _ _ hi => Or.inr (Or.inr hi)), h.Z.tch t hn, h.L.upd hk hv, h.T.setNew ⟨lb, k, none⟩ _ hb⟩
end
def LE4 (z : Nat → ByteArray) (la : Nat → Nat) : Prop := ∀ i, i < 4 → la i ≤ (z i).size
theorem LE4.upd {z : Nat → ByteArray} {la : Nat → Nat} (h : LE4 z la) (k : Nat) (v : ByteArray) (l : Nat) (hl : l ≤ v.size) : LE4 (upd z k v) (upd la k l) := fun i hi => by
  by_cases e : i = k
  · rw [e, upd_same, upd_same]; exact hl
  · rw [upd_other _ _ e, upd_other _ _ e]; exact h i hi
theorem LE4.updL {z : Nat → ByteArray} {la : Nat → Nat} (h : LE4 z la) (k : Nat) (l : Nat) (hl : l ≤ (z k).size) : LE4 z (Go.Proofs.Ytodkefbaandeiaa.upd la k l) := fun i hi => by
  by_cases e : i = k
  · rw [e, upd_same]; exact hl
  · rw [upd_other _ _ e]; exact h i hi
theorem LE4.updZ {z : Nat → ByteArray} {la : Nat → Nat} (h : LE4 z la) (k : Nat) (v : ByteArray) (hl : la k ≤ v.size) : LE4 (Go.Proofs.Ytodkefbaandeiaa.upd z k v) la := fun i hi => by
  by_cases e : i = k
  · rw [e, upd_same]; exact hl
  · rw [upd_other _ _ e]; exact h i hi
theorem Z4_0 : Z4 (fun _ => ⟨#[]⟩) ≤ 100 * 0 := Nat.le_of_eq rfl
theorem upd_self {α : Type} (f : Nat → α) (k : Nat) : upd f k (f k) = f := by
  funext i
  by_cases e : i = k
  · rw [e, upd_same]
  · rw [upd_other _ _ e]

section
variable {z : Nat → ByteArray} {la : Nat → Nat} {q : Nat} (hq : q < 4)
include hq
/-- What each call makes of the disk. -/
theorem l_append {t : ByteArray} (h : Z4 z + t.size ≤ 100000) : (D4 100000 (fz z la)).append (nmF q) t.data.toList = (0, D4 100000 (fz (upd z q (z q ++ t)) la)) := by
  rw [d4_append _ _ hq, used_fz]
  have h2 : t.data.toList.length = t.size := by simp
  rw [if_neg (by omega), fz_upd z la q (z q ++ t) (la q), upd_self]
  simp [fz]
theorem l_sync : (D4 100000 (fz z la)).sync (nmF q) = (0, D4 100000 (fz z (upd la q (z q).size))) := by
  rw [d4_sync _ _ hq, fz_la z la q (z q).size]
  simp [fz]
theorem l_trunc {n : Nat} (h : n ≤ (z q).size) : (D4 100000 (fz z la)).trunc (nmF q) n = (0, D4 100000 (fz (upd z q (cut (z q) n)) (upd la q (min (la q) n)))) := by
  rw [d4_trunc _ _ hq (by simpa [fz] using h), fz_upd z la q (cut (z q) n) (min (la q) n)]
  simp [fz, cut_list]
theorem l_again : Dsk.create ⟨100000, delL (nmF q) (fourL (fz z la)), false, 0, 0⟩ (nmF q) = (0, D4 100000 (fz (upd z q ⟨#[]⟩) (upd la q 0))) := by
  rw [d4_again _ _ hq, fz_upd z la q ⟨#[]⟩ 0 (x := e0) rfl]
theorem l_anew {j : Nat} (hj : j < 4) (h : q ≠ j) : Dsk.create ⟨100000, putL (nmF j) (fz z la q) (delL (nmF q) (delL (nmF j) (fourL (fz z la)))), false, 0, 0⟩ (nmF q) = (0, D4 100000 (fz (upd (upd z j (z q)) q ⟨#[]⟩) (upd (upd la j (la q)) q 0))) := by
  rw [d4_anew _ _ hq hj h, fz_upd z la j (z q) (la q) (x := fz z la q) rfl, fz_upd _ _ q ⟨#[]⟩ 0 (x := e0) rfl]
end
end Go.Proofs.Ytodkefbaandeiaa
