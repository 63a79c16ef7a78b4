import Derived.Test.YtjambfbibeihiaaGreatStG
import Derived.Test.YtjambfbibeihiaaGreatFlo
import Derived.Test.YtjambfbibeihiaaGreatNok
/- A step: Load of what Files tells: the worlds on the way. -/
namespace Go.Proofs.YtjambfbibeihiaaGreat
set_option maxRecDepth 100000
open Go.RowKit Go.ChangeMaps Go.Sort

theorem length_mk3 (nm bs : Nat → ByteArray) (n : Nat) : (mk3 nm bs n n).length ≤ n := by
  have h2 := congrArg List.length (mk3_names nm bs n n)
  simp only [List.length_map] at h2
  rw [h2]; exact length_mk2 nm n
theorem lens_rbs (m : List (Nm × Fl)) : ∀ k, k ≤ m.length → lens (rbs m) k ≤ sumTo m k
  | 0, _ => Nat.zero_le _
  | k + 1, hk => by
    have ih := lens_rbs m k (by omega)
    have h1 := sumTo_succ m (k := k) (by omega)
    have h2 : (rbs m k).size ≤ (m[k]'(by omega)).2.bs.length := by
      unfold rbs
      rw [List.getD_eq_getElem?_getD, List.getElem?_map, List.getElem?_eq_getElem (by omega)]
      show Array.size _ ≤ _
      simp
      omega
    rw [lens, h1]; omega
theorem RW.ne {w : World} {rb : Nat} {d : Dsk} {v : Value} {acts : Int} (h : RW w rb d v acts) : ∀ g, v.ownBlock = some g → g ≠ rb := fun g hg e => by
  rcases h.own.2 with ⟨rfl, _⟩ | ⟨g', cap, cur, rfl, _, hg', _⟩
  · cases hg
  · have e2 : g' = g := by simpa [Value.ownBlock] using hg
    subst e2 e
    rw [h.blk] at hg'
    simp only [Option.some.injEq, Obj.cells.injEq] at hg'
    exact absurd hg'.2.1 (by decide)

/-- Both disks that came out; mbs: a box that is none of theirs. -/
def BB (c : Int) (n : Nat) (nm bs : Nat → ByteArray) (w' : World) (B : Nat) (mbs : Option Nat) (dv rv : Value) : Prop :=
  (dv = .pointer none ∧ rv = .pointer none) ∨ (∃ k : Nat, c = k ∧ LoadsOk k n nm bs ∧ ∃ b rb v, dv = .pointer (some ⟨b, 0, none⟩) ∧ rv = .pointer (some ⟨rb, 0, none⟩) ∧ DF w' b (mkD k (mk3 nm bs n n)) (fun i => i < B ∨ i = rb ∨ v.ownBlock = some i ∨ mbs = some i) ∧ RW w' rb (mkD k (mk3 nm bs n n)) v 0 ∧ (B ≤ rb ∧ ∀ g, v.ownBlock = some g → B ≤ g) ∧ ∀ i, mbs = some i → i ≠ rb ∧ v.ownBlock ≠ some i)
theorem BB.ofBoth {c : Int} {n : Nat} {nm bs : Nat → ByteArray} {w' : World} {B : Nat} {dv rv : Value} {e : Int} (h : Both c n nm bs w' B dv rv e) (mbs : Option Nat) (hm : ∀ i, mbs = some i → i < B) : BB c n nm bs w' B mbs dv rv := by
  rcases h with ⟨h1, h2, _⟩ | ⟨_, k, h1, h2, b, rb, v, h3, h4, h5, h6, h7, h8⟩
  · exact Or.inl ⟨h1, h2⟩
  · refine Or.inr ⟨k, h1, h2, b, rb, v, h3, h4, h5.mono (fun i hi => ?_), h6, ⟨h7, h8⟩, fun i hi => ⟨?_, fun e => ?_⟩⟩
    · rcases hi with hi | hi | hi | hi
      · exact Or.inl hi
      · exact Or.inr (Or.inl hi)
      · exact Or.inr (Or.inr hi)
      · exact Or.inl (hm i hi)
    · have := hm i hi; omega
    · have := hm i hi; have := h8 i e; omega
theorem BB.alloc {c : Int} {n : Nat} {nm bs : Nat → ByteArray} {w' : World} {B : Nat} {dv rv : Value} (h : BB c n nm bs w' B none dv rv) (o : Obj) : BB c n nm bs (w'.alloc o) B (some w'.heap.size) dv rv := by
  rcases h with h | ⟨k, h1, h2, b, rb, v, h3, h4, h5, h6, h7, h8⟩
  · exact Or.inl h
  · have t : Tch (fun _ => False) w' (w'.alloc o) := Tch.alloc _ _ _
    refine Or.inr ⟨k, h1, h2, b, rb, v, h3, h4, (h5.fresh t).mono (fun i hi => ?_), h6.no t, h7, fun i hi => ?_⟩
    · rcases hi with hi | hi | hi | hi
      · exact Or.inl (Or.inl hi)
      · exact Or.inl (Or.inr (Or.inl hi))
      · exact Or.inl (Or.inr (Or.inr (Or.inl hi)))
      · cases hi
        exact Or.inr ⟨Nat.le_refl _, by simp⟩
    · cases hi
      have := h6.lt
      exact ⟨by omega, fun e => by have := (h6.own.lt _ e).2; omega⟩
theorem BB.put {c : Int} {n : Nat} {nm bs : Nat → ByteArray} {w' w'' : World} {B mb : Nat} {dv rv : Value} (h : BB c n nm bs w' B (some mb) dv rv) (t : Tch (fun i => i = mb) w' w'') : BB c n nm bs w'' B (some mb) dv rv := by
  rcases h with h | ⟨k, h1, h2, b, rb, v, h3, h4, h5, h6, h7, h8⟩
  · exact Or.inl h
  · obtain ⟨h9, h10⟩ := h8 mb rfl
    exact Or.inr ⟨k, h1, h2, b, rb, v, h3, h4, h5.tch t (fun i _ e => Or.inr (Or.inr (Or.inr (by rw [e])))), h6.tch t (fun e => h9 e.symm) (fun g hg e => h10 (e ▸ hg)), h7, h8⟩
theorem BB.no {c : Int} {n : Nat} {nm bs : Nat → ByteArray} {w' w'' : World} {B : Nat} {mbs : Option Nat} {dv rv : Value} (h : BB c n nm bs w' B mbs dv rv) (t : Tch (fun _ => False) w' w'') : BB c n nm bs w'' B mbs dv rv := by
  rcases h with h | ⟨k, h1, h2, b, rb, v, h3, h4, h5, h6, h7, h8⟩
  · exact Or.inl h
  · exact Or.inr ⟨k, h1, h2, b, rb, v, h3, h4, h5.no t, h6.no t, h7, h8⟩
/-- Out of them a pair, with owners. -/
theorem BB.pair {c : Int} {n : Nat} {nm bs : Nat → ByteArray} {w0 w' : World} {B mb b rb k : Nat} {ω : Nat → Nat} (hB : w0.heap.size ≤ B) (hmb : w0.heap.size ≤ mb) (h : BB c n nm bs w' B (some mb) (.pointer (some ⟨b, 0, none⟩)) (.pointer (some ⟨rb, 0, none⟩))) (t : Tch (fun _ => False) w0 w') :
    ∃ ω' kc, c = (kc : Nat) ∧ LoadsOk kc n nm bs ∧ PR w' ω' k b rb (mkD kc (mk3 nm bs n n)) ∧ ω' mb = 0 ∧ Ev (fun i => i = 0 ∨ i = k ∨ i = k + 1) w0 ω w' ω' ∧ ∀ i, i < w0.heap.size → ω' i = ω i := by
  rcases h with ⟨h1, _⟩ | ⟨kc, h1, h2, b', rb', v, h3, h4, h5, h6, ⟨h7, h7'⟩, h8⟩
  · cases h1
  · simp only [Value.pointer.injEq, Option.some.injEq, Addr.mk.injEq, and_true] at h3 h4
    subst h3 h4
    obtain ⟨h9, h10⟩ := h8 mb rfl
    have hold : ∀ i, i < w0.heap.size → (if i < w0.heap.size then ω i else if i = rb ∨ v.ownBlock = some i then k + 1 else if i = mb then 0 else k) = ω i := fun i hi => if_pos hi
    refine ⟨fun i => if i < w0.heap.size then ω i else if i = rb ∨ v.ownBlock = some i then k + 1 else if i = mb then 0 else k, kc, h1, h2, ⟨h5.mono (fun i hi => ?_), v, 0, h6, fun hf => ?_, fun g hg => ⟨fun hf => ?_, h6.ne g hg⟩, fun i hi => hi.1⟩, ?_, ⟨t.mono (fun _ _ h => h.elim), fun i hi => Or.inl (hold i hi), fun i h1 _ => ?_⟩, hold⟩
    · by_cases e1 : i < w0.heap.size
      · exact Or.inl (by omega)
      · have hne := hi.2
        simp only [e1, if_false] at hne
        by_cases e2 : i = rb ∨ v.ownBlock = some i
        · rcases e2 with e2 | e2
          · exact Or.inr (Or.inl e2)
          · exact Or.inr (Or.inr (Or.inl e2))
        · rw [if_neg e2] at hne
          by_cases e3 : i = mb
          · exact Or.inr (Or.inr (Or.inr (by rw [e3])))
          · rw [if_neg e3] at hne; exact absurd rfl hne
    · have hne := hf.2
      simp only [show ¬ rb < w0.heap.size by omega, if_false, true_or, if_true] at hne
      exact hne rfl
    · have hne := hf.2
      have := h7' g hg
      simp only [show ¬ g < w0.heap.size by omega, if_false, hg, or_true, if_true] at hne
      exact hne rfl
    · show (if mb < w0.heap.size then ω mb else if mb = rb ∨ v.ownBlock = some mb then k + 1 else if mb = mb then 0 else k) = 0
      rw [if_neg (by omega), if_neg (fun e => e.elim (fun e => h9 e) (fun e => h10 e)), if_pos rfl]
    · show (fun i => i = 0 ∨ i = k ∨ i = k + 1) (if i < w0.heap.size then ω i else if i = rb ∨ v.ownBlock = some i then k + 1 else if i = mb then 0 else k)
      rw [if_neg (by omega)]
      split
      · exact Or.inr (Or.inr rfl)
      · split
        · exact Or.inl rfl
        · exact Or.inr (Or.inl rfl)
end Go.Proofs.YtjambfbibeihiaaGreat
