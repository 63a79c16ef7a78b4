import Derived.Test.YtjambfbibeihiaaGreatCr
/- The names of a disk's files are names. -/
namespace Go.Proofs.YtjambfbibeihiaaGreat
set_option maxRecDepth 100000
open Go.RowKit Go.ChangeMaps Go.Sort

def Nok (d : Dsk) : Prop := ∀ p ∈ d.m, okN p.1 = true
theorem Nok.set {d : Dsk} (h : Nok d) (n : Nm) (f : Fl) : ∀ p ∈ setL n f d.m, okN p.1 = true := fun p hp => by
  unfold setL at hp
  obtain ⟨q, hq, rfl⟩ := List.mem_map.1 hp
  split <;> exact h q hq
theorem Nok.act {d : Dsk} {g : Dsk → Dsk} (h : Nok d) (h' : Nok (g d)) : Nok (d.act g).2 := by
  unfold Dsk.act
  split
  · exact h
  · exact h'
theorem refuse_ok {d : Dsk} {n : Nm} (h : ¬ d.refuse n ≠ 0) : okN n = true := by
  have h1 : d.refuse n = 0 := by simpa using h
  exact (refuse_zero h1).1
theorem nok_create {d : Dsk} (h : Nok d) (n : Nm) : Nok (d.create n).2 := by
  unfold Dsk.create
  split
  · exact h
  · rename_i hr
    split
    · exact h
    · refine h.act (fun p hp => ?_)
      rcases mem_putL.1 hp with rfl | ⟨hp, _⟩
      · exact refuse_ok hr
      · exact h p hp
theorem nok_append {d : Dsk} (h : Nok d) (n s : Nm) : Nok (d.append n s).2 := by
  unfold Dsk.append
  split
  · exact h
  · split
    · exact h
    · exact h.act (h.set _ _)
theorem nok_sync {d : Dsk} (h : Nok d) (n : Nm) : Nok (d.sync n).2 := by
  unfold Dsk.sync
  split
  · exact h
  · split
    · exact h
    · split
      · exact h
      · exact h.set _ _
theorem nok_trunc {d : Dsk} (h : Nok d) (n : Nm) (k : Int) : Nok (d.trunc n k).2 := by
  unfold Dsk.trunc
  split
  · exact h
  · split
    · exact h
    · exact h.act (h.set _ _)
theorem nok_remove {d : Dsk} (h : Nok d) (n : Nm) : Nok (d.remove n).2 := by
  unfold Dsk.remove
  split
  · exact h
  · exact h.act (fun p hp => h p (mem_delL.1 hp).1)
theorem nok_rename {d : Dsk} (h : Nok d) (n n' : Nm) : Nok (d.rename n n').2 := by
  unfold Dsk.rename
  split
  · exact h
  · rename_i ho
    split
    · exact h
    · refine h.act ?_
      split
      · exact h
      · intro p hp
        rcases mem_putL.1 hp with rfl | ⟨hp, _⟩
        · simpa using ho
        · exact h p (mem_delL.1 (mem_delL.1 hp).1).1
theorem nok_arm {d : Dsk} (h : Nok d) (k : Int) : Nok (d.arm k).2 := by
  unfold Dsk.arm
  split
  · exact h
  · split <;> exact h
theorem nok_failSync {d : Dsk} (h : Nok d) (k : Int) : Nok (d.failSync k).2 := by
  unfold Dsk.failSync
  split
  · exact h
  · split <;> exact h
theorem nok_torn {d : Dsk} (h : Nok d) (k : Nm → Nat) : Nok (d.torn k) := fun p hp => by
  obtain ⟨q, hq, rfl⟩ := List.mem_map.1 hp
  exact h q hq
theorem nok_mk2 {nm : Nat → ByteArray} {n : Nat} (h : ∀ i, i < n → okN (nm i).data.toList = true) : ∀ k, k ≤ n → ∀ p ∈ mk2 nm k, okN p.1 = true
  | 0, _, p, hp => by simp [mk2] at hp
  | k + 1, hk, p, hp => by
    rw [mk2] at hp
    rcases mem_putL.1 hp with rfl | ⟨hp, _⟩
    · exact h k (by omega)
    · exact nok_mk2 h k (by omega) p hp
theorem nok_mk3 {nm bs : Nat → ByteArray} {n : Nat} (h : ∀ i, i < n → okN (nm i).data.toList = true) : ∀ p ∈ mk3 nm bs n n, okN p.1 = true := fun p hp => by
  have h1 : p.1 ∈ (mk3 nm bs n n).map (·.1) := List.mem_map.2 ⟨p, hp, rfl⟩
  rw [mk3_names] at h1
  obtain ⟨q, hq, e⟩ := List.mem_map.1 h1
  rw [← e]
  exact nok_mk2 h n (Nat.le_refl _) q hq
end Go.Proofs.YtjambfbibeihiaaGreat
