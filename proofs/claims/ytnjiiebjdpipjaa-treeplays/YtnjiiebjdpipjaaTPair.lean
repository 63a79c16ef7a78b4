import Derived.Test.YtnjiiebjdpipjaaTWith
import Derived.Test.YtnjiiebjdpipjaaTMap5
import Derived.Test.YtnjiiebjdpipjaaTNum
import Derived.Test.YtnjiiebjdpipjaaTEnds
/- The law's pair: a tree and the document's map, in step. -/
namespace Go.Proofs.Ytnjiiebjdpipjaa
open Go.RowKit Go Go.Shelf

theorem Fits.in {n : Nat} {F F' : List Nat} (h : Fits n F F') {x : Nat} (hx : x ∈ F') : x ∈ F ∨ n ≤ x := by
  rcases Nat.lt_or_ge x n with hn | hn
  · left
    have h1 := List.count_pos_iff.2 hx
    have h2 := (h x).1 hn
    exact List.count_pos_iff.1 (by omega)
  · exact .inr hn
/-- Since W0 only the pair's blocks G were turned; it has these and new ones. -/
structure PS (W0 : World) (G : Nat → Prop) (w : World) (b mb : Nat) (l l' : List It) : Prop where
  t : Tch G W0 w
  p : ∃ F FM ht, TW w b l ht F ∧ MW w mb l' FM ∧ (∀ x ∈ F, x ∉ FM) ∧ (∀ x ∈ F, G x ∨ W0.heap.size ≤ x) ∧ ∀ x ∈ FM, G x ∨ W0.heap.size ≤ x
theorem PS.start {w : World} {b mb : Nat} {l l' : List It} {F FM : List Nat} {ht : Nat} (h1 : TW w b l ht F) (h2 : MW w mb l' FM) (h3 : ∀ x ∈ F, x ∉ FM) : PS w (fun x => x ∈ F ∨ x ∈ FM) w b mb l l' :=
  ⟨Tch.refl _ _, F, FM, ht, h1, h2, h3, fun _ h => .inl (.inl h), fun _ h => .inl (.inr h)⟩
/-- What only makes new blocks. -/
theorem PS.more {W0 : World} {G : Nat → Prop} {w w' : World} {b mb : Nat} {l l' : List It} (h : PS W0 G w b mb l l') (t : Tch (fun _ => False) w w') : PS W0 G w' b mb l l' := by
  obtain ⟨t0, F, FM, ht, h1, h2, h3, h4, h5⟩ := h
  exact ⟨t0.trans t (fun _ _ h => h.elim), F, FM, ht, h1.tch t (fun _ _ h => h), h2.tch t (fun _ _ h => h), h3, h4, h5⟩
/-- A fresh start: what is told from here is told from there. -/
theorem PS.anew {W0 : World} {G : Nat → Prop} {w : World} {b mb : Nat} {l l' : List It} (h : PS W0 G w b mb l l') : ∃ G2 : Nat → Prop, PS w G2 w b mb l l' ∧ (∀ x, G2 x → x < w.heap.size) ∧ (∀ x, G2 x → G x ∨ W0.heap.size ≤ x) ∧ ∀ W1, Tch (fun _ => False) w W1 → PS W1 G2 W1 b mb l l' ∧ ∀ w' b' mb' m m', PS W1 G2 w' b' mb' m m' → PS W0 G w' b' mb' m m' ∧ PS w G2 w' b' mb' m m' := by
  obtain ⟨t0, F, FM, ht, h1, h2, h3, h4, h5⟩ := h
  have hG : ∀ x, (x ∈ F ∨ x ∈ FM) → G x ∨ W0.heap.size ≤ x := fun x hx => hx.elim (h4 x) (h5 x)
  refine ⟨fun x => x ∈ F ∨ x ∈ FM, PS.start h1 h2 h3, fun x hx => hx.elim (h1.lt x) (h2.lt x), hG, fun W1 t1 => ⟨PS.start (h1.tch t1 (fun _ _ h => h)) (h2.tch t1 (fun _ _ h => h)) h3, ?_⟩⟩
  rintro w' b' mb' m m' ⟨t2, F', FM', ht', k1, k2, k3, k4, k5⟩
  have s0 := t0.size
  have s1 := t1.size
  have tt : Tch (fun x => x ∈ F ∨ x ∈ FM) w w' := (t1.mono (fun _ _ h => h.elim)).trans' t2
  refine ⟨⟨t0.trans tt (fun i hi h => (hG i h).elim id (fun h => by omega)), F', FM', ht', k1, k2, k3, fun x hx => ?_, fun x hx => ?_⟩, ⟨tt, F', FM', ht', k1, k2, k3, fun x hx => ?_, fun x hx => ?_⟩⟩
  · rcases k4 x hx with h | h
    · exact hG x h
    · exact .inr (by omega)
  · rcases k5 x hx with h | h
    · exact hG x h
    · exact .inr (by omega)
  · rcases k4 x hx with h | h
    · exact .inl h
    · exact .inr (by omega)
  · rcases k5 x hx with h | h
    · exact .inl h
    · exact .inr (by omega)
theorem PS.cell {W0 : World} {G : Nat → Prop} {w : World} {b mb : Nat} {l l' : List It} (h : PS W0 G w b mb l l') {q : Nat} {o : Obj} (hq : W0.heap[q]? = some o) (hn : ¬ G q) : w.heap[q]? = some o := (h.t.block q (blk_lt hq) hn).trans hq
theorem PS.so {W0 : World} {G : Nat → Prop} {w : World} {b mb : Nat} {l l' : List It} (h : PS W0 G w b mb l l') : Sorted l ∧ Sorted l' := by
  obtain ⟨_, F, FM, ht, h1, h2, _⟩ := h
  exact ⟨h1.so, h2.so⟩
/-- What another pair's step leaves alone. -/
theorem PS.aside {W : World} {G S : Nat → Prop} {w' : World} {b mb : Nat} {l l' : List It} (h : PS W G W b mb l l') (t : Tch S W w') (hd : ∀ x, G x → ¬ S x) : PS w' G w' b mb l l' := by
  obtain ⟨_, F, FM, ht, h1, h2, h3, h4, h5⟩ := h
  have a4 : ∀ x ∈ F, G x := fun x hx => (h4 x hx).elim id (fun h => absurd h (by have := h1.lt x hx; omega))
  have a5 : ∀ x ∈ FM, G x := fun x hx => (h5 x hx).elim id (fun h => absurd h (by have := h2.lt x hx; omega))
  exact ⟨Tch.refl _ _, F, FM, ht, h1.tch t (fun x hx => hd x (a4 x hx)), h2.tch t (fun x hx => hd x (a5 x hx)), h3, fun x hx => .inl (a4 x hx), fun x hx => .inl (a5 x hx)⟩
theorem put1 {W0 : World} {G : Nat → Prop} {w : World} {b mb : Nat} {l : List It} (k : ByteArray) (v : GV) (h : PS W0 G w b mb l l) (hl : l.length < 10000000) : Calls Try.prog 9 #[pv b, .string k, ev v] w fun x w' => ∃ l2 old th, x = .returned (.tuple #[ev old, .bool th]) ∧ PutRel k v l l2 old th ∧ PS W0 G w' b mb l2 l := by
  obtain ⟨t0, F, FM, ht, h1, h2, h3, h4, h5⟩ := h
  refine (put_t w b l ht F k v h1 (by omega)).mono ?_
  rintro x w' ⟨l2, ht2, F2, old, th, rfl, k1, k2, k3, k4⟩
  have s0 := t0.size
  refine ⟨l2, old, th, rfl, k2, t0.trans k4 (fun i hi hF => (h4 i hF).elim id (fun h => by omega)), F2, FM, ht2, k1, h2.tch k4 (fun x hx hF => h3 x hF hx), fun x hx hM => ?_, fun x hx => ?_, h5⟩
  · rcases k3.in hx with h | h
    · exact h3 x h hM
    · have := h2.lt x hM; omega
  · rcases k3.in hx with h | h
    · exact h4 x h
    · exact .inr (by omega)
theorem put2 {W0 : World} {G : Nat → Prop} {w : World} {b mb : Nat} {l l2 : List It} {k : ByteArray} {v old : GV} {th : Bool} (h : PS W0 G w b mb l2 l) (hr : PutRel k v l l2 old th) (hl : l.length < 10000000) : Calls Try.prog 44 #[pv mb, .string k, ev v] w fun x w' => x = .returned (.tuple #[ev old, .bool th]) ∧ PS W0 G w' b mb l2 l2 := by
  obtain ⟨t0, F, FM, ht, h1, h2, h3, h4, h5⟩ := h
  refine (put_m w mb l FM k v h2 hl).mono ?_
  rintro x w' ⟨l3, F2, old2, th2, rfl, k1, k2, k3, k4⟩
  obtain ⟨rfl, rfl, rfl⟩ := hr.uniq k2
  have s0 := t0.size
  refine ⟨rfl, t0.trans k4 (fun i hi hF => (h5 i hF).elim id (fun h => by omega)), F, F2, ht, h1.tch k4 (fun x hx hF => h3 x hx hF), k1, fun x hx hM => ?_, h4, fun x hx => ?_⟩
  · rcases k3.in hM with h | h
    · exact h3 x hx h
    · have := h1.lt x hx; omega
  · rcases k3.in hx with h | h
    · exact h5 x h
    · exact .inr (by omega)
theorem del1 {W0 : World} {G : Nat → Prop} {w : World} {b mb : Nat} {l : List It} (k : ByteArray) (h : PS W0 G w b mb l l) (hl : l.length < 10000000) : Calls Try.prog 14 #[pv b, .string k] w fun x w' => ∃ l2 old th, x = .returned (.tuple #[ev old, .bool th]) ∧ RemRel k l l2 old th ∧ PS W0 G w' b mb l2 l := by
  obtain ⟨t0, F, FM, ht, h1, h2, h3, h4, h5⟩ := h
  refine (del_t w b l ht F k h1 (by omega)).mono ?_
  rintro x w' ⟨l2, ht2, F2, old, th, rfl, k1, k2, k3, k4⟩
  have s0 := t0.size
  refine ⟨l2, old, th, rfl, k2, t0.trans k4 (fun i hi hF => (h4 i hF).elim id (fun h => by omega)), F2, FM, ht2, k1, h2.tch k4 (fun x hx hF => h3 x hF hx), fun x hx hM => ?_, fun x hx => ?_, h5⟩
  · rcases k3.in hx with h | h
    · exact h3 x h hM
    · have := h2.lt x hM; omega
  · rcases k3.in hx with h | h
    · exact h4 x h
    · exact .inr (by omega)
theorem del2 {W0 : World} {G : Nat → Prop} {w : World} {b mb : Nat} {l l2 : List It} {k : ByteArray} {old : GV} {th : Bool} (h : PS W0 G w b mb l2 l) (hr : RemRel k l l2 old th) (hl : l.length < 10000000) : Calls Try.prog 45 #[pv mb, .string k] w fun x w' => x = .returned (.tuple #[ev old, .bool th]) ∧ PS W0 G w' b mb l2 l2 := by
  obtain ⟨t0, F, FM, ht, h1, h2, h3, h4, h5⟩ := h
  refine (del_m w mb l FM k h2 hl).mono ?_
  rintro x w' ⟨l3, old2, th2, rfl, k1, k2, k4⟩
  obtain ⟨rfl, rfl, rfl⟩ := hr.uniq k2
  have s0 := t0.size
  exact ⟨rfl, t0.trans k4 (fun i hi hF => (h5 i hF).elim id (fun h => by omega)), F, FM, ht, h1.tch k4 (fun x hx hF => h3 x hx hF), k1, h3, h4, h5⟩
theorem PutRel.len {k : ByteArray} {v old : GV} {l l2 : List It} {th : Bool} (h : PutRel k v l l2 old th) : l2.length ≤ l.length + 1 := by
  rcases h with ⟨_, x, y, _, _, e, e2⟩ | ⟨_, _, x, y, _, _, e, e2⟩ <;> rw [e, e2] <;> simp <;> omega
theorem RemRel.le_len {k : ByteArray} {old : GV} {l l2 : List It} {th : Bool} (h : RemRel k l l2 old th) : l2.length ≤ l.length := by
  rcases h with ⟨_, x, y, _, _, e, e2⟩ | ⟨_, _, e, _⟩
  · rw [e, e2]; simp
  · exact Nat.le_of_eq (by rw [e])
/-- What was put is there. -/
theorem PutRel.there {k : ByteArray} {v old old2 : GV} {l l2 l3 : List It} {th th2 : Bool} (h : PutRel k v l l2 old th) (h2 : RemRel k l2 l3 old2 th2) : th2 = true := by
  have hI : ∃ l4, RemRel k l2 l4 v true := by
    rcases h with ⟨_, x, y, hx, hy, e, e2⟩ | ⟨_, _, x, y, hx, hy, e, e2⟩
    · exact ⟨x ++ y, .inl ⟨rfl, x, y, hx, hy, rfl, e2⟩⟩
    · exact ⟨x ++ y, .inl ⟨rfl, x, y, hx, hy, rfl, e2⟩⟩
  obtain ⟨l4, h4⟩ := hI
  exact (h2.uniq h4).2.2
end Go.Proofs.Ytnjiiebjdpipjaa
