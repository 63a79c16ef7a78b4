import Derived.Test.YtolobljlkdacjaaXRe8
import Derived.Test.YtolobljlkdacjaaXRe10
import Derived.Test.YtolobljlkdacjaaXRe11
import Derived.Test.YtolobljlkdacjaaXRe12C
import Derived.Test.YtolobljlkdacjaaXRe13
/- Both managers' calls in one form: what is told, what comes of it, what is left alone. -/
namespace Go.Proofs.Ytolobljlkdacjaa
open Go.RowKit Go Go.Sort

section
variable (b : Nat) (m : Mg) (w : World) (F : Nat → Prop) (h : MF w b m F)
include h
theorem begin_x : Calls Try.prog 14 #[.pointer (some ⟨b, 0, none⟩)] w fun x w' => x = .returned (.tuple #[.int .i64 (beginA m).1, .int .i64 (beginA m).2]) ∧ MF w' b (beginM m) F ∧ Kept F w w' := by
  unfold beginA beginM
  by_cases hn : 2147483647 < m.nx
  · rw [if_pos hn, if_pos hn]
    obtain ⟨σ, mb, bl, h', hF⟩ := h
    refine (begin_no b m σ mb bl w h' hn).mono ?_
    rintro x w' ⟨rfl, rfl⟩
    exact ⟨rfl, ⟨σ, mb, bl, h', hF⟩, kept_refl _ _⟩
  · rw [if_neg hn, if_neg hn]
    exact begin_f b m w F h (by omega)
theorem part_x (k : Int) (h1 : -9223372036854775808 ≤ k) (h2 : k ≤ 9223372036854775807) : Calls Try.prog 16 #[.pointer (some ⟨b, 0, none⟩), .int .i64 k] w fun x w' => x = .returned (.tuple #[.int .i64 (partA m k).1, .int .i64 (partA m k).2]) ∧ MF w' b (partM m k) F ∧ Kept F w w' := by
  refine (part_f b m w F h k h1 h2).mono ?_
  rintro x w' ⟨-, ho1, ho2⟩
  unfold partA partM
  cases hf : fnd m.tx k with
  | none =>
    obtain ⟨e, t⟩ := ho1 hf
    exact ⟨e, h.tch t (fun _ _ h => h.elim), kept_of t⟩
  | some z =>
    obtain ⟨t, i⟩ := z
    obtain ⟨g1, g2⟩ := ho2 t i hf
    simp only []
    by_cases hE : partE m t i = 0
    · rw [if_pos hE, if_pos hE]; exact g2 hE
    · rw [if_neg hE, if_neg hE]
      obtain ⟨e, t⟩ := g1 hE
      exact ⟨e, h.tch t (fun _ _ h => h.elim), kept_of t⟩
theorem endPart_x (σ : Nat → Option Nat) (mb : Nat) (bl : Nat → Nat) (h' : MG w b m σ mb bl) (hF : ∀ i, F i → σ i = none ∧ i < w.heap.size) (k : Int) (h1 : -9223372036854775808 ≤ k) (h2 : k ≤ 9223372036854775807) (f : Nat) (hf2 : f ≤ 2) :
    Calls Try.prog 43 #[.map (some mb), .int .i64 k, .int .i64 f] w fun x w' => x = .returned (.int .i64 (endA m k)) ∧ MF w' b (endM m k f) F ∧ Kept F w w' := by
  by_cases hp : ∃ t, ∃ i : Nat, fnd m.tx k = some (t, (i : Int))
  · obtain ⟨t, i, hf⟩ := hp
    obtain ⟨e1, e2⟩ := end_is hf f
    rw [e1, e2]
    refine (endPart_some b m σ mb bl w h' k h1 h2 f hf2 hf).mono ?_
    rintro x w' ⟨ha, hb⟩
    cases hm : may t i with
    | false =>
      obtain ⟨e1, e2⟩ := ha hm
      exact ⟨e1, h.tch e2 (fun _ _ h => h.elim), kept_of e2⟩
    | true =>
      obtain ⟨e1, σ', e2, e3⟩ := hb hm
      exact ⟨e1, MF.stp hF e2 e3⟩
  · obtain ⟨e1, e2⟩ := end_no (fun t i e => hp ⟨t, i, e⟩) f
    rw [e1, e2]
    refine (endPart_none b m σ mb bl w h' k h1 h2 f (fun t i e => hp ⟨t, i, e⟩)).mono ?_
    rintro x w' ⟨e1, e2⟩
    exact ⟨e1, h.tch e2 (fun _ _ h => h.elim), kept_of e2⟩
theorem release_x (k : Int) (h1 : -9223372036854775808 ≤ k) (h2 : k ≤ 9223372036854775807) :
    Calls Try.prog 18 #[.pointer (some ⟨b, 0, none⟩), .int .i64 k] w fun x w' => x = .returned (.int .i64 (endA m k)) ∧ MF w' b (endM m k 1) F ∧ Kept F w w' := by
  have h0 := h
  obtain ⟨σ, mb, bl, h, hF⟩ := h
  have c0 := h.c0
  have q : Calls Try.prog 43 #[.map (some mb), .int .i64 k, .int .i64 1] w fun x w' => x = .returned (.int .i64 (endA m k)) ∧ MF w' b (endM m k 1) F ∧ Kept F w w' := endPart_x b m w F h0 σ mb bl h hF k h1 h2 1 (by omega)
  clear h hF h1 h2 h0
  go_enter Try.func18, Try.ntmps18
  go_wp2_with fail
  refine q.mono ?_
  rintro x w1 ⟨rfl, ho⟩
  have HO : Hid _ := ho
  clear q ho c0
  go_wp2
  go_ret
  exact ⟨rfl, HO.out⟩
theorem back_x (k : Int) (h1 : -9223372036854775808 ≤ k) (h2 : k ≤ 9223372036854775807) :
    Calls Try.prog 20 #[.pointer (some ⟨b, 0, none⟩), .int .i64 k] w fun x w' => x = .returned (.int .i64 (endA m k)) ∧ MF w' b (endM m k 2) F ∧ Kept F w w' := by
  have h0 := h
  obtain ⟨σ, mb, bl, h, hF⟩ := h
  have c0 := h.c0
  have q : Calls Try.prog 43 #[.map (some mb), .int .i64 k, .int .i64 2] w fun x w' => x = .returned (.int .i64 (endA m k)) ∧ MF w' b (endM m k 2) F ∧ Kept F w w' := endPart_x b m w F h0 σ mb bl h hF k h1 h2 2 (by omega)
  clear h hF h1 h2 h0
  go_enter Try.func20, Try.ntmps20
  go_wp2_with fail
  refine q.mono ?_
  rintro x w1 ⟨rfl, ho⟩
  have HO : Hid _ := ho
  clear q ho c0
  go_wp2
  go_ret
  exact ⟨rfl, HO.out⟩
theorem prepare_x (k : Int) (h1 : -9223372036854775808 ≤ k) (h2 : k ≤ 9223372036854775807) :
    Calls Try.prog 22 #[.pointer (some ⟨b, 0, none⟩), .int .i64 k] w fun x w' => x = .returned (.int .i64 (turnA m k 2)) ∧ MF w' b (turnM m k 2 (fun t => m.prep t.x)) F ∧ Kept F w w' :=
  (prepare_f b m w F h k h1 h2).mono (fun _ _ ho => turn_f h ho)
theorem commit_x (k : Int) (h1 : -9223372036854775808 ≤ k) (h2 : k ≤ 9223372036854775807) :
    Calls Try.prog 24 #[.pointer (some ⟨b, 0, none⟩), .int .i64 k] w fun x w' => x = .returned (.int .i64 (turnA m k 3)) ∧ MF w' b (turnM m k 3 (fun t => m.fin t.x 3)) F ∧ Kept F w w' :=
  (commit_f b m w F h k h1 h2).mono (fun _ _ ho => turn_f h ho.2)
theorem abort_x (k : Int) (h1 : -9223372036854775808 ≤ k) (h2 : k ≤ 9223372036854775807) :
    Calls Try.prog 26 #[.pointer (some ⟨b, 0, none⟩), .int .i64 k] w fun x w' => x = .returned (.int .i64 (turnA m k 4)) ∧ MF w' b (turnM m k 4 (fun t => m.fin t.x 4)) F ∧ Kept F w w' :=
  (abort_f b m w F h k h1 h2).mono (fun _ _ ho => turn_f h ho.2)
/-- What Top tells. -/
theorem top_x (k : Int) (h1 : -9223372036854775808 ≤ k) (h2 : k ≤ 9223372036854775807) : Calls Try.prog 51 #[.pointer (some ⟨b, 0, none⟩), .int .i64 k] w fun x w' => x = .returned (match fnd m.tx k with | none => .tuple #[.int .i64 0, .int .i64 70] | some (t, _) => .tuple #[.int .i64 t.x, .int .i64 0]) ∧ Tch (fun _ => False) w w' := by
  obtain ⟨σ, mb, bl, h, hF⟩ := h
  cases hf : fnd m.tx k with
  | none => exact top_none b m σ mb bl w h k h1 h2 hf
  | some z =>
    obtain ⟨t, i⟩ := z
    exact top_some b m σ mb bl w h k h1 h2 hf
theorem open_x : Calls Try.prog 56 #[.pointer (some ⟨b, 0, none⟩)] w fun x w' => (∃ v', x = .returned v' ∧ w'.ownsRow w.heap.size 3 1 v' m.on.length (icl m.on)) ∧ Tch (fun _ => False) w w' := by
  obtain ⟨σ, mb, bl, h, hF⟩ := h
  exact open_any b m σ mb bl w h
end
/-- The parts that are told, and the error. -/
def partsL (m : Mg) (k : Int) : List Nat := match fnd m.tx k with
  | some (t, i) => if i = -1 then survL t.st t.ps else []
  | none => []
def partsE (m : Mg) (k : Int) : Nat := match fnd m.tx k with
  | some (_, i) => if i = -1 then 0 else 70
  | none => 70
theorem parts_is {m : Mg} {k : Int} {t : Tx} (h : fnd m.tx k = some (t, -1)) : partsL m k = survL t.st t.ps ∧ partsE m k = 0 := by
  unfold partsL partsE
  rw [h]
  exact ⟨rfl, rfl⟩
theorem parts_isnt {m : Mg} {k : Int} (h : ∀ t, fnd m.tx k ≠ some (t, -1)) : partsL m k = [] ∧ partsE m k = 70 := by
  unfold partsL partsE
  cases hf : fnd m.tx k with
  | none => exact ⟨rfl, rfl⟩
  | some z =>
    obtain ⟨t, i⟩ := z
    have : i ≠ -1 := fun e => h t (by rw [hf, e])
    simp [this]
theorem nil_row (w : World) (N : Nat) : w.ownsRow N 3 1 (.slice none 0 0) 0 (icl []) := ⟨rfl, Or.inl ⟨rfl, rfl⟩⟩
theorem parts_x (b : Nat) (m : Mg) (w : World) (F : Nat → Prop) (h : MF w b m F) (k : Int) (h1 : -9223372036854775808 ≤ k) (h2 : k ≤ 9223372036854775807) : Calls Try.prog 53 #[.pointer (some ⟨b, 0, none⟩), .int .i64 k] w fun x w' => (∃ v', x = .returned (.tuple #[v', .int .i64 (partsE m k)]) ∧ w'.ownsRow w.heap.size 3 1 v' (partsL m k).length (icl (partsL m k))) ∧ Tch (fun _ => False) w w' := by
  by_cases hk : ∃ t, fnd m.tx k = some (t, -1)
  · obtain ⟨t, ht⟩ := hk
    obtain ⟨e1, e2⟩ := parts_is ht
    rw [e1, e2]
    exact parts_f b m w F h k h1 h2 ht
  · have hk' : ∀ t, fnd m.tx k ≠ some (t, -1) := fun t e => hk ⟨t, e⟩
    obtain ⟨e1, e2⟩ := parts_isnt hk'
    rw [e1, e2]
    obtain ⟨σ, mb, bl, h, hF⟩ := h
    refine (parts_none b m σ mb bl w h k h1 h2 hk').mono ?_
    rintro x w' ⟨rfl, t⟩
    exact ⟨⟨_, rfl, nil_row _ _⟩, t⟩
section
variable (b : Nat) (m : Mg) (w : World) (F : Nat → Prop) (h : RF w b m F)
include h
theorem rparts_x (k : Int) : Calls Try.prog 54 #[.pointer (some ⟨b, 0, none⟩), .int .i64 k] w fun x w' => (∃ v', x = .returned (.tuple #[v', .int .i64 (partsE m k)]) ∧ w'.ownsRow w.heap.size 3 1 v' (partsL m k).length (icl (partsL m k))) ∧ Tch (fun _ => False) w w' := by
  obtain ⟨L, ao, c, hR, hO, hN, -⟩ := h.parts
  by_cases hk : ∃ t, fnd m.tx k = some (t, -1)
  · obtain ⟨t, ht⟩ := hk
    obtain ⟨e1, e2⟩ := parts_is ht
    rw [e1, e2, ← show fltN (partP m t) L = survL t.st t.ps from hR.parts (fnd_mem ht).1]
    exact rparts_is b ao c m L w hN hR k t ht
  · have hk' : ∀ t, fnd m.tx k ≠ some (t, -1) := fun t e => hk ⟨t, e⟩
    obtain ⟨e1, e2⟩ := parts_isnt hk'
    rw [e1, e2]
    refine (rparts_no b ao c m L w hN hR k hk').mono ?_
    rintro x w' ⟨rfl, rfl⟩
    exact ⟨⟨_, rfl, nil_row _ _⟩, Tch.refl _ _⟩
theorem ropen_x : Calls Try.prog 57 #[.pointer (some ⟨b, 0, none⟩)] w fun x w' => (∃ v', x = .returned v' ∧ w'.ownsRow w.heap.size 3 1 v' m.on.length (icl m.on)) ∧ Tch (fun _ => False) w w' := by
  obtain ⟨L, ao, c, hR, hO, hN, -⟩ := h.parts
  have := ropen_any b ao c L w hN hR.len
  rw [show fltN openP L = m.on from hR.opens] at this
  exact this
theorem rsnapshot_x : Calls Try.prog 59 #[.pointer (some ⟨b, 0, none⟩)] w fun x w' => SnapOut m w x w' := by
  obtain ⟨L, ao, c, hR, hO, hN, -⟩ := h.parts
  exact rsnapshot_any b ao c m L w hN hR hO.c1
theorem rnext_x : Calls Try.prog 6 #[.pointer (some ⟨b, 0, none⟩)] w fun x w' => x = .returned (.int .i64 m.nx) ∧ w' = w := by
  obtain ⟨L, ao, c, hR, hO, hN, -⟩ := h.parts
  exact rnext_any b m.nx w hO.c1
theorem rstate_x (k : Int) : Calls Try.prog 10 #[.pointer (some ⟨b, 0, none⟩), .int .i64 k] w fun x w' => x = .returned (.int .i64 (m.state k)) ∧ Tch (fun _ => False) w w' := by
  obtain ⟨L, ao, c, hR, hO, hN, -⟩ := h.parts
  refine (rstate_any b ao c m L w hN hR k).mono ?_
  rintro x w' ⟨rfl, q, rfl⟩
  exact ⟨rfl, drewN_tch w q⟩
theorem rtop_x (k : Int) : Calls Try.prog 52 #[.pointer (some ⟨b, 0, none⟩), .int .i64 k] w fun x w' => x = .returned (match fnd m.tx k with | none => .tuple #[.int .i64 0, .int .i64 70] | some (t, _) => .tuple #[.int .i64 t.x, .int .i64 0]) ∧ Tch (fun _ => False) w w' := by
  obtain ⟨L, ao, c, hR, hO, hN, -⟩ := h.parts
  refine (rtopn_any b ao c m L w hN hR k).mono ?_
  rintro x w' ⟨rfl, q, rfl⟩
  exact ⟨rfl, drewN_tch w q⟩
theorem rsees_x (mn mx : Int) (l : List Int) (lo : Option Addr) (lc : Nat) (hl : l.length ≤ 9223372036854775807) (hI : IR w lo l) (own x : Int) :
    Calls Try.prog 76 #[.pointer (some ⟨b, 0, none⟩), .agg #[.int .i64 mn, .int .i64 mx, .slice lo l.length lc], .int .i64 own, .int .i64 x] w fun y w' => y = .returned (.bool (m.sees mn mx l own x)) ∧ Tch (fun _ => False) w w' := by
  obtain ⟨L, ao, c, hR, hO, hN, -⟩ := h.parts
  exact rsees_any b ao c m L w hN hR mn mx l lo lc hl hI own x
end
/-- Owners: what a step of the owners K does. -/
structure Ev (K : Nat → Prop) (w : World) (o : Nat → Nat) (w' : World) (o' : Nat → Nat) : Prop where
  tch : Tch (fun i => K (o i)) w w'
  old : ∀ i, i < w.heap.size → ¬ K (o i) → o' i = o i
  own : ∀ i, i < w.heap.size → K (o i) → K (o' i)
  new : ∀ i, w.heap.size ≤ i → i < w'.heap.size → K (o' i)
def Oth (w : World) (o : Nat → Nat) (k : Nat) : Nat → Prop := fun i => i < w.heap.size ∧ o i ≠ k
theorem Ev.oth {K : Nat → Prop} {w w' : World} {o o' : Nat → Nat} (e : Ev K w o w' o') {k : Nat} (hk : ¬ K k) {i : Nat} (h : Oth w' o' k i) : Oth w o k i ∨ (w.heap.size ≤ i ∧ i < w'.heap.size) := by
  rcases Nat.lt_or_ge i w.heap.size with hi | hi
  · refine Or.inl ⟨hi, fun e1 => h.2 ?_⟩
    rw [e.old i hi (by rw [e1]; exact hk), e1]
  · exact Or.inr ⟨hi, h.1⟩
theorem MF.ev {K : Nat → Prop} {w w' : World} {o o' : Nat → Nat} {b : Nat} {m : Mg} {k : Nat} (h : MF w b m (Oth w o k)) (e : Ev K w o w' o') (hk : ¬ K k) : MF w' b m (Oth w' o' k) := by
  obtain ⟨σ, mb, bl, h, hF⟩ := h
  refine ⟨σ, mb, bl, h.tch e.tch (fun i hi hs => (hF i ⟨hi, fun e1 => hk (by rw [← e1]; exact hs)⟩).1), fun i hi => ⟨?_, hi.1⟩⟩
  rcases e.oth hk hi with h1 | h1
  · exact (hF i h1).1
  · cases hs : σ i with
    | none => rfl
    | some z => have := h.lt i (by rw [hs]; simp); omega
theorem RF.ev {K : Nat → Prop} {w w' : World} {o o' : Nat → Nat} {b : Nat} {m : Mg} {k : Nat} (h : RF w b m (Oth w o k)) (e : Ev K w o w' o') (hk : ¬ K k) : RF w' b m (Oth w' o' k) := by
  obtain ⟨L, v, h1, h2, h3, h4, h5⟩ := h
  have hb := blk_lt h2.blk
  have hbo : o b = k := Decidable.byContradiction fun e => h3 ⟨hb, e⟩
  have hgo : ∀ g, v.ownBlock = some g → o g = k ∧ g < w.heap.size := fun g hg => ⟨Decidable.byContradiction fun e => h4 g hg ⟨(h2.row.lt g hg).2, e⟩, (h2.row.lt g hg).2⟩
  refine ⟨L, v, h1, h2.tch e.tch (fun hs => hk (by rw [← hbo]; exact hs)) (fun g hg hs => hk (by rw [← (hgo g hg).1]; exact hs)), fun hf => ?_, fun g hg hf => ?_, fun i hi => hi.1⟩
  · rcases e.oth hk hf with h6 | h6
    · exact h3 h6
    · omega
  · rcases e.oth hk hf with h6 | h6
    · exact h4 g hg h6
    · have := (hgo g hg).2; omega
/-- What a call of one owner does. -/
def ext (w : World) (o : Nat → Nat) (k : Nat) : Nat → Nat := fun i => if i < w.heap.size then o i else k
theorem Ev.of {w w' : World} {o : Nat → Nat} {k : Nat} (t : Kept (Oth w o k) w w') : Ev (fun j => j = k) w o w' (ext w o k) := by
  refine ⟨t.mono (fun i hi hn => Decidable.byContradiction fun e => hn ⟨hi, e⟩), fun i hi _ => if_pos hi, fun i hi e => ?_, fun i hi _ => if_neg (by omega)⟩
  show ext w o k i = k
  unfold ext
  rw [if_pos hi]; exact e
theorem Ev.quiet {w w' : World} {o : Nat → Nat} (k : Nat) (t : Tch (fun _ => False) w w') : Ev (fun j => j = k) w o w' (ext w o k) := Ev.of (kept_of t)
theorem oth_ext {w w' : World} {o : Nat → Nat} {k i : Nat} (h : Oth w' (ext w o k) k i) : Oth w o k i := by
  obtain ⟨_, h2⟩ := h
  unfold ext at h2
  split at h2
  · rename_i hi
    exact ⟨hi, h2⟩
  · exact absurd rfl h2
theorem MF.did {w w' : World} {o : Nat → Nat} {b : Nat} {m : Mg} {k : Nat} (h : MF w' b m (Oth w o k)) : MF w' b m (Oth w' (ext w o k) k) := h.mono (fun _ hi => oth_ext hi)
theorem RF.did {w w' : World} {o : Nat → Nat} {b : Nat} {m : Mg} {k : Nat} (h : RF w' b m (Oth w o k)) : RF w' b m (Oth w' (ext w o k) k) := h.mono (fun _ hi => oth_ext hi)
theorem Ev.trans {K : Nat → Prop} {a b c : World} {o o1 o2 : Nat → Nat} (h : Ev K a o b o1) (g : Ev K b o1 c o2) : Ev K a o c o2 := by
  refine ⟨?_, fun i hi hn => ?_, fun i hi hk => g.own i (Nat.lt_of_lt_of_le hi h.tch.size) (h.own i hi hk), fun i hi hc => ?_⟩
  · refine h.tch.trans g.tch (fun i hi hk => Classical.byContradiction fun hn => ?_)
    rw [h.old i hi hn] at hk
    exact hn hk
  · have := h.old i hi hn
    rw [g.old i (Nat.lt_of_lt_of_le hi h.tch.size) (by rw [this]; exact hn), this]
  · rcases Nat.lt_or_ge i b.heap.size with hb | hb
    · exact g.own i hb (h.new i hi hb)
    · exact g.new i hb hc
theorem Ev.mono {K M : Nat → Prop} {a b : World} {o o1 : Nat → Nat} (h : Ev K a o b o1) (hM : ∀ k, K k → M k) : Ev M a o b o1 := by
  refine ⟨h.tch.mono (fun i _ hk => hM _ hk), fun i hi hn => h.old i hi (fun hk => hn (hM _ hk)), fun i hi hk => ?_, fun i hi hb => hM _ (h.new i hi hb)⟩
  by_cases hK : K (o i)
  · exact hM _ (h.own i hi hK)
  · rw [h.old i hi hK]; exact hk
end Go.Proofs.Ytolobljlkdacjaa
/- Lists that are grown by their owner, all that they were on the way being kept. -/
namespace Go.Proofs.Ytolobljlkdacjaa
open Go.RowKit Go

/-- Cells that stand one behind the other. -/
def At (W : World) (g o : Nat) (xs : List Value) : Prop := ∀ j u, xs[j]? = some u → W.cell? ⟨g, o + j, none⟩ = some u
theorem own_at {W : World} {base sz n : Nat} {t : TypeId} {ao : Option Addr} {c : Nat} {xs : List Value} (h : W.ownsRow base t sz (.slice ao n c) n xs) (hn : 0 < n) : ∃ g, ao = some ⟨g, 0, none⟩ ∧ g < W.heap.size ∧ At W g 0 xs := by
  rcases h.2 with ⟨_, h2⟩ | ⟨g, c', cur, hv, hb, hh, hc, hm, hs, ht⟩
  · omega
  · injection hv with h1
    subst h1
    refine ⟨g, rfl, blk_lt hh, fun j u hu => ?_⟩
    rw [Nat.zero_add, blk_cell hh, ← Array.getElem?_toList]
    rw [← ht, List.getElem?_take] at hu
    split at hu
    · exact hu
    · simp at hu

/-- So many times these cells. -/
def rep (n : Nat) (cs : List Value) : List Value := (List.replicate n cs).flatten
theorem rep_len (n : Nat) (cs : List Value) : (rep n cs).length = n * cs.length := by simp [rep]
theorem rep_succ (n : Nat) (cs : List Value) : rep (n + 1) cs = rep n cs ++ cs := by
  unfold rep
  rw [List.replicate_succ', List.flatten_append]; simp
theorem rep_get (cs : List Value) : ∀ (n q j : Nat), q < n → j < cs.length → (rep n cs)[q * cs.length + j]? = cs[j]?
  | 0, q, j, h, _ => by omega
  | n + 1, q, j, h, hj => by
    rw [rep_succ]
    rcases Nat.lt_or_ge q n with hq | hq
    · have h1 : q * cs.length + j < (rep n cs).length := by
        rw [rep_len]
        have : (q + 1) * cs.length ≤ n * cs.length := Nat.mul_le_mul_right _ hq
        rw [Nat.add_mul] at this
        omega
      rw [List.getElem?_append_left h1]
      exact rep_get cs n q j hq hj
    · obtain rfl : q = n := by omega
      rw [List.getElem?_append_right (by rw [rep_len]; omega), rep_len]
      congr 1
      omega
theorem rep_one {cs : List Value} (h : ∀ u ∈ cs, u.oneCell' = true) (n : Nat) : ∀ u ∈ rep n cs, u.oneCell' = true := fun u hu => by
  unfold rep at hu
  rw [List.mem_flatten] at hu
  obtain ⟨l, hl, hu⟩ := hu
  rw [List.mem_replicate] at hl
  exact h u (hl.2 ▸ hu)

/-- A slice that is kept: all its elements are a mark. -/
def MV (W : World) (v : Value) (cs : List Value) (P : Nat → Nat → Prop) : Prop := ∃ ao m c, v = .slice ao m c ∧ m ≤ 4000000000 ∧ (0 < m → ∃ g, ao = some ⟨g, 0, none⟩ ∧ g < W.heap.size ∧ P g m ∧ At W g 0 (rep m cs))
theorem MV.up {W W' : World} {v : Value} {cs : List Value} {P P' : Nat → Nat → Prop} (h : MV W v cs P) (hsz : W.heap.size ≤ W'.heap.size) (hP : ∀ g m, g < W.heap.size → P g m → P' g m ∧ ∀ j, j < m * cs.length → W'.cell? ⟨g, j, none⟩ = W.cell? ⟨g, j, none⟩) : MV W' v cs P' := by
  obtain ⟨ao, m, c, hv, hm, h⟩ := h
  refine ⟨ao, m, c, hv, hm, fun h0 => ?_⟩
  obtain ⟨g, ha, hg, hp, hc⟩ := h h0
  obtain ⟨h1, h2⟩ := hP g m hg hp
  refine ⟨g, ha, by omega, h1, fun j u hu => ?_⟩
  have hj : j < m * cs.length := by rw [← rep_len]; exact (List.getElem?_eq_some_iff.1 hu).1
  rw [Nat.zero_add, h2 j hj]
  simpa using hc j u hu
theorem MV.of {W : World} {base n : Nat} {e : TypeId} {v : Value} {cs : List Value} {P : Nat → Nat → Prop} (h : W.ownsRow base e cs.length v n (rep n cs)) (hn : n ≤ 4000000000) (hP : ∀ g, v.ownBlock = some g → P g n) : MV W v cs P := by
  obtain ⟨ao, c, rfl⟩ := row_slice h
  refine ⟨ao, n, c, rfl, hn, fun h0 => ?_⟩
  obtain ⟨g, rfl, hg, ha⟩ := own_at h h0
  exact ⟨g, rfl, hg, hP g rfl, ha⟩
/-- A list of such slices, in a book at block b; none of the blocks F is theirs. -/
structure LS (le : TypeId) (W : World) (F : Nat → Prop) (b : Nat) (mk : Nat → List Value) (A : List Value) (rv : Value) : Prop where
  all : W.ownsRow 0 le 1 rv A.length A
  ag : ∀ g, rv.ownBlock = some g → g ≠ b ∧ ¬ F g
  mv : ∀ j (hj : j < A.length), MV W A[j] (mk j) (fun g _ => g ≠ b ∧ ¬ F g ∧ rv.ownBlock ≠ some g)
/-- While one is grown. -/
structure LG (le e : TypeId) (W : World) (F : Nat → Prop) (b : Nat) (mk : Nat → List Value) (A : List Value) (rv x : Value) (cs : List Value) (nx : Nat) : Prop where
  all : W.ownsRow 0 le 1 rv A.length A
  xr : W.ownsRow 0 e cs.length x nx (rep nx cs)
  ag : ∀ g, rv.ownBlock = some g → g ≠ b ∧ ¬ F g
  xg : ∀ g, x.ownBlock = some g → rv.ownBlock ≠ some g ∧ g ≠ b ∧ ¬ F g
  mv : ∀ j (hj : j < A.length), MV W A[j] (mk j) (fun g m => g ≠ b ∧ ¬ F g ∧ rv.ownBlock ≠ some g ∧ (x.ownBlock = some g → m ≤ nx))
theorem LS.tch {S : Nat → Prop} {le : TypeId} {W W' : World} {F : Nat → Prop} {b : Nat} {mk : Nat → List Value} {A : List Value} {rv : Value} (h : LS le W F b mk A rv) (t : Tch S W W') (hS : ∀ i, S i → i = b ∨ F i) : LS le W' F b mk A rv := by
  refine ⟨own_tch h.all t (fun g e hs => ?_), h.ag, fun j hj => (h.mv j hj).up t.size (fun g m hg hP => ⟨hP, fun k _ => t.cell (p := ⟨g, k, none⟩) hg (fun hs => (hS g hs).elim hP.1 hP.2.1)⟩)⟩
  exact (hS g hs).elim (h.ag g e).1 (h.ag g e).2
theorem LS.fresh {le : TypeId} {W : World} {F F' : Nat → Prop} {b : Nat} {mk : Nat → List Value} {A : List Value} {rv : Value} (h : LS le W F b mk A rv) (hF : ∀ i, i < W.heap.size → F' i → F i) : LS le W F' b mk A rv := by
  refine ⟨h.all, fun g e => ⟨(h.ag g e).1, fun hf => (h.ag g e).2 (hF g (h.all.lt g e).2 hf)⟩, fun j hj => (h.mv j hj).up (Nat.le_refl _) (fun g m hg hP => ⟨⟨hP.1, fun hf => hP.2.1 (hF g hg hf), hP.2.2⟩, fun _ _ => rfl⟩)⟩
theorem LS.enter {le e : TypeId} {W : World} {F : Nat → Prop} {b n : Nat} {mk : Nat → List Value} {A : List Value} {rv x : Value} {cs : List Value} (h : LS le W (fun i => F i ∨ x.ownBlock = some i) b mk A rv) (hx : W.ownsRow 0 e cs.length x n (rep n cs)) (hg : ∀ g, x.ownBlock = some g → g ≠ b ∧ ¬ F g) : LG le e W F b mk A rv x cs n :=
  ⟨h.all, hx, fun g e => ⟨(h.ag g e).1, fun hf => (h.ag g e).2 (Or.inl hf)⟩, fun g e => ⟨fun e2 => (h.ag g e2).2 (Or.inr e), hg g e⟩, fun j hj => (h.mv j hj).up (Nat.le_refl _) (fun _ _ _ hP => ⟨⟨hP.1, fun hf => hP.2.1 (Or.inl hf), hP.2.2, fun e => absurd (Or.inr e) hP.2.1⟩, fun _ _ => rfl⟩)⟩
theorem LG.leave {le e : TypeId} {W : World} {F : Nat → Prop} {b n : Nat} {mk : Nat → List Value} {A : List Value} {rv x : Value} {cs : List Value} (h : LG le e W F b mk A rv x cs n) : LS le W F b mk A rv :=
  ⟨h.all, h.ag, fun j hj => (h.mv j hj).up (Nat.le_refl _) (fun _ _ _ hP => ⟨⟨hP.1, hP.2.1, hP.2.2.1⟩, fun _ _ => rfl⟩)⟩
theorem LG.tch {S : Nat → Prop} {le e : TypeId} {W W' : World} {F : Nat → Prop} {b n : Nat} {mk : Nat → List Value} {A : List Value} {rv x : Value} {cs : List Value} (h : LG le e W F b mk A rv x cs n) (t : Tch S W W') (hS : ∀ i, S i → i = b ∨ F i) : LG le e W' F b mk A rv x cs n := by
  refine ⟨own_tch h.all t (fun g e hs => (hS g hs).elim (h.ag g e).1 (h.ag g e).2), own_tch h.xr t (fun g e hs => (hS g hs).elim (h.xg g e).2.1 (h.xg g e).2.2), h.ag, h.xg, fun j hj => (h.mv j hj).up t.size (fun g m hg hP => ⟨hP, fun k _ => t.cell (p := ⟨g, k, none⟩) hg (fun hs => (hS g hs).elim hP.1 hP.2.1)⟩)⟩
theorem LG.one {le e : TypeId} {W W1 w1 : World} {F : Nat → Prop} {b nx : Nat} {mk : Nat → List Value} {A : List Value} {rv x rv' : Value} {cs : List Value} (h : LG le e W F b mk A rv x cs nx) (t : Tch (fun _ => False) W W1) (hgr : W1.grownBy w1 rv.ownBlock) (hown : w1.ownsRow 0 le 1 rv' (A.length + 1) (A ++ [x])) (hat : rv'.ownBlock = rv.ownBlock ∨ rv'.ownBlock = some W1.heap.size) (hmk : mk A.length = cs) (hnx : nx ≤ 4000000000) (hb : b < W.heap.size) (hF : ∀ i, F i → i < W.heap.size) :
    LG le e w1 F b mk (A ++ [x]) rv' x cs nx := by
  have T := grown_at t hgr
  have hne : ∀ g, g < W.heap.size → rv.ownBlock ≠ some g → rv'.ownBlock ≠ some g := fun g hg h1 h2 => by
    rcases hat with e | e
    · exact h1 (e ▸ h2)
    · rw [e] at h2; injection h2 with h2; have := t.size; omega
  have hxlt : ∀ g, x.ownBlock = some g → g < W.heap.size := fun g e => (h.xr.lt g e).2
  have xr' := own_tch h.xr T (fun g e e2 => (h.xg g e).1 e2)
  refine ⟨by rw [List.length_append]; exact hown, xr', fun g e => ?_, fun g e => ⟨hne g (hxlt g e) (h.xg g e).1, (h.xg g e).2⟩, fun j hj => ?_⟩
  · rcases hat with e1 | e1
    · rw [e1] at e; exact h.ag g e
    · rw [e1] at e; injection e with e
      have := t.size
      exact ⟨by omega, fun hf => by have := hF g hf; omega⟩
  · rw [List.length_append, List.length_singleton] at hj
    rcases Nat.lt_or_ge j A.length with hjl | hjl
    · rw [List.getElem_append_left hjl]
      exact (h.mv j hjl).up T.size (fun g m hg hP => ⟨⟨hP.1, hP.2.1, hne g hg hP.2.2.1, hP.2.2.2⟩, fun k _ => T.cell (p := ⟨g, k, none⟩) hg hP.2.2.1⟩)
    · obtain rfl : j = A.length := by omega
      rw [List.getElem_append_right (Nat.le_refl _)]
      simp only [Nat.sub_self, List.getElem_cons_zero]
      rw [hmk]
      exact MV.of xr' hnx (fun g e => ⟨(h.xg g e).2.1, (h.xg g e).2.2, hne g (hxlt g e) (h.xg g e).1, fun _ => Nat.le_refl _⟩)
theorem LG.two {le e : TypeId} {W W1 w1 : World} {F : Nat → Prop} {b nx : Nat} {mk : Nat → List Value} {A : List Value} {rv x x' : Value} {cs : List Value} (h : LG le e W F b mk A rv x cs nx) (t : Tch (fun _ => False) W W1) (hgr : W1.grownBy w1 x.ownBlock) (hown : w1.ownsRow 0 e cs.length x' (nx + 1) (rep (nx + 1) cs)) (hat : x'.ownBlock = x.ownBlock ∨ x'.ownBlock = some W1.heap.size)
    (hk : ∀ b j, b < W1.heap.size → (x.ownBlock = some b → j < nx * cs.length) → w1.cell? ⟨b, j, none⟩ = W1.cell? ⟨b, j, none⟩) (hb : b < W.heap.size) (hF : ∀ i, F i → i < W.heap.size) (hmk : ∀ j, (mk j).length = cs.length) : LG le e w1 F b mk A rv x' cs (nx + 1) := by
  have T := grown_at t hgr
  have hne : ∀ g, g < W.heap.size → x.ownBlock ≠ some g → x'.ownBlock ≠ some g := fun g hg h1 h2 => by
    rcases hat with e | e
    · exact h1 (e ▸ h2)
    · rw [e] at h2; injection h2 with h2; have := t.size; omega
  refine ⟨own_tch h.all T (fun g e e2 => (h.xg g e2).1 e), hown, h.ag, fun g e => ?_, fun j hj => ?_⟩
  · rcases hat with e1 | e1
    · rw [e1] at e; exact h.xg g e
    · rw [e1] at e
      injection e with e
      have := t.size
      exact ⟨fun e2 => by have := (h.all.lt _ e2).2; omega, by omega, fun hf => by have := hF g hf; omega⟩
  · refine (h.mv j hj).up T.size (fun g m hg hP => ⟨⟨hP.1, hP.2.1, hP.2.2.1, fun e => ?_⟩, fun k hkm => ?_⟩)
    · by_cases hx : x.ownBlock = some g
      · have := hP.2.2.2 hx; omega
      · exact absurd e (hne g hg hx)
    · rw [hk g k (Nat.lt_of_lt_of_le hg t.size) (fun e => by
        have h1 := hP.2.2.2 e
        rw [hmk] at hkm
        exact Nat.lt_of_lt_of_le hkm (Nat.mul_le_mul_right _ h1))]
      exact t.cell (p := ⟨g, k, none⟩) hg (fun h => h)
end Go.Proofs.Ytolobljlkdacjaa
/- A list of numbers that came out: its owner's. -/
namespace Go.Proofs.Ytolobljlkdacjaa
open Go.RowKit Go

theorem wrap_of {n : Int} (h1 : -9223372036854775808 ≤ n) (h2 : n ≤ 9223372036854775807) : IntKind.i64.wrap n = n := by
  simp [IntKind.wrap, IntKind.signed, IntKind.bits]; omega
theorem info_ints : (Try.prog.info? 31).map (fun i => (i.zero, i.size, i.bytes)) = some (some (.slice none 0 0), 1, 24) := by kernel_rfl
/-- The mark of the list at this place. -/
def mkI (j : Nat) : List Value := [.int .i64 (-5 - ((j / 20 * 20 : Nat) : Int))]
/-- A slice of one's own, its first places marked. -/
def MC (W : World) (v : Value) (n : Nat) (M : Int) (q : Nat) : Prop := ∃ xs, W.ownsRow 0 3 1 v n xs ∧ xs.take q = rep q [.int .i64 M]
theorem MC.of {W : World} {v : Value} {n : Nat} {M : Int} {xs : List Value} (h : W.ownsRow 0 3 1 v n xs) : MC W v n M 0 := ⟨xs, h, by simp [rep]⟩
theorem MC.tch {S : Nat → Prop} {W W' : World} {v : Value} {n : Nat} {M : Int} {q : Nat} (h : MC W v n M q) (t : Tch S W W') (hS : ∀ g, v.ownBlock = some g → ¬ S g) : MC W' v n M q := by
  obtain ⟨xs, h1, h2⟩ := h
  exact ⟨xs, own_tch h1 t hS, h2⟩
theorem MC.own {W : World} {v : Value} {n : Nat} {M : Int} (h : MC W v n M n) : W.ownsRow 0 3 1 v n (rep n [.int .i64 M]) := by
  obtain ⟨xs, h1, h2⟩ := h
  have hl : xs.length = n * 1 := h1.1
  rw [List.take_of_length_le (by omega)] at h2
  rw [← h2]; exact h1
theorem MC.step {W : World} {g n c : Nat} {M : Int} {q : Nat} (h : MC W (.slice (some ⟨g, 0, none⟩) n c) n M q) (hq : q < n) : MC (W.setCell ⟨g, q, none⟩ (.int .i64 M)) (.slice (some ⟨g, 0, none⟩) n c) n M (q + 1) ∧ (∃ u, W.cell? ⟨g, q, none⟩ = some u) ∧ W.frozen? ⟨g, q, none⟩ = false := by
  obtain ⟨xs, h1, h2⟩ := h
  have hl : xs.length = n * 1 := h1.1
  refine ⟨⟨xs.set q (.int .i64 M), own_set h1 rfl _, ?_⟩, ?_, ?_⟩
  · rw [rep_succ, ← h2, List.take_add_one, List.take_set, List.getElem?_set]
    rw [if_pos rfl, if_pos (by omega)]
    rw [List.set_eq_of_length_le (by simp; omega)]
    rfl
  · have := h1.cells (g := g) rfl q (xs[q]'(by omega)) (List.getElem?_eq_getElem (by omega))
    rw [add_plain, Nat.zero_add] at this
    exact ⟨_, this⟩
  · obtain ⟨cur, hc⟩ := own_blk h1 (g := g) rfl
    exact blk_frozen hc q
set_option maxHeartbeats 1000000 in
set_option maxRecDepth 100000 in
theorem owned_any (b : Nat) (cur : Array Value) (A : List Value) (rv v : Value) (n : Nat) (xs : List Value) (F : Nat → Prop) (w : World)
    (hb : w.heap[b]? = some (.cells cur 33 (0, 0))) (hs : cur.size = 6) (hc3 : cur[3]? = some rv)
    (hL : LS 31 w (fun i => F i ∨ v.ownBlock = some i) b mkI A rv) (hv : w.ownsRow 0 3 1 v n xs) (hn : n ≤ 2147483648) (hg : ∀ g, v.ownBlock = some g → g ≠ b ∧ ¬ F g)
    (hF : ∀ i, F i → i < w.heap.size) (hA : A.length ≤ 100000000) (h20 : A.length % 20 = 0) :
    Calls Try.prog 73 #[.pointer (some ⟨b, 0, none⟩), v] w fun x w' => x = .returned (.tuple #[]) ∧ (∃ rv' A', A'.length = A.length + 20 ∧ w'.heap[b]? = some (.cells (cur.setIfInBounds 3 rv') 33 (0, 0)) ∧ LS 31 w' F b mkI A' rv' ∧ (∀ g, rv'.ownBlock = some g → rv.ownBlock = some g ∨ w.heap.size ≤ g)) ∧ Tch (fun i => i = b ∨ rv.ownBlock = some i ∨ v.ownBlock = some i) w w' := by
  obtain ⟨i0, hi0, hz0, hz1, hz2⟩ := info_parts info_int
  obtain ⟨i1, hi1, hy0, hy1, hy2⟩ := info_parts info_ints
  obtain ⟨vo, vc, rfl⟩ := row_slice hv
  obtain ⟨ro, rc, hrv⟩ := row_slice hL.all
  obtain ⟨M, hM⟩ : ∃ M : Int, M = -5 - (A.length : Int) := ⟨_, rfl⟩
  obtain ⟨N, hN⟩ : ∃ N, N = w.heap.size := ⟨_, rfl⟩
  obtain ⟨cs, hcs⟩ : ∃ cs : List Value, cs = [.int .i64 M] := ⟨_, rfl⟩
  have hmk : ∀ j, A.length ≤ j → j < A.length + 20 → mkI j = cs := fun j h1 h2 => by
    rw [hcs, hM]; unfold mkI; rw [show j / 20 * 20 = A.length by omega]
  have HL0 : Hid (LS 31 w (fun i => F i ∨ (Value.slice vo n vc).ownBlock = some i) b mkI A rv) := hL
  have HVb : Hid (∀ g, (Value.slice vo n vc).ownBlock = some g → g ≠ b ∧ ¬ F g ∧ g < N) := fun g e => ⟨(hg g e).1, (hg g e).2, by rw [hN]; exact (hv.lt g e).2⟩
  have HV0 : Hid (MC w (.slice vo n vc) n M 0) := MC.of hv
  have Hb0 : Hid (w.heap[b]? = some (.cells cur 33 (0, 0))) := hb
  have cb2 : w.cell? ⟨b, 3, none⟩ = some (.slice ro A.length rc) := by rw [blk_cell hb, hc3, hrv]
  have Hmk : Hid _ := hmk
  have Hcs : Hid _ := hcs
  have HM : Hid _ := hM
  have HN : Hid (N = w.heap.size) := hN
  have HrvE : Hid _ := hrv
  have HFw : Hid _ := hF
  have hAI : (A.length : Int) ≤ 100000000 := by omega
  have hMw : IntKind.i64.wrap (-5 - (A.length : Int)) = M := by rw [hM]; exact wrap_of (by omega) (by omega)
  clear hb hv hL hcs hN hrv hmk hF hg hM hA h20
  go_enter Try.func73, Try.ntmps73
  go_wp2_with fail
  clear cb2 hMw
  go_loopw [5] (fun i wr => ∃ q : Nat, i = .int .i64 q ∧ q ≤ n ∧ Hid (MC wr (.slice vo n vc) n M q) ∧ Hid (Tch (fun i => (Value.slice vo n vc).ownBlock = some i) w wr)) (fun i _ => n - (intOf i).toNat)
  case atStart => exact ⟨0, rfl, by omega, HV0, Tch.refl _ _⟩
  case round =>
    obtain ⟨q, rfl, hq, HC, HT⟩ := hrel
    by_cases hqn : (q : Int) < n
    · obtain ⟨g, hvo⟩ : ∃ g, vo = some ⟨g, 0, none⟩ := by
        obtain ⟨xs', h1, -⟩ := HC.out
        rcases h1.2 with ⟨_, h0⟩ | ⟨g, c, cu, hvv, _⟩
        · omega
        · injection hvv with e1
          exact ⟨g, e1⟩
      subst hvo
      obtain ⟨h1, ⟨u, hu⟩, hf⟩ := HC.out.step (by omega)
      have HC2 : Hid _ := h1
      have HT2 : Hid (Tch (fun i => (Value.slice (some ⟨g, 0, none⟩) n vc).ownBlock = some i) w (wr.setCell ⟨g, q, none⟩ (.int .i64 M))) := Tch.setCellR HT.out ⟨g, q, none⟩ _ rfl
      clear h1 HC HT
      go_wp2_with fail
      go_roundw
      case rel => exact ⟨q + 1, by go_num, by omega, HC2, HT2⟩
      case measure => simp [intOf]; omega
    · obtain rfl : q = n := by omega
      obtain ⟨wV, hwV⟩ : ∃ wV, wV = wr := ⟨_, rfl⟩
      subst hwV
      have HLG : Hid (LG 31 3 wV F b mkI A rv (.slice vo q vc) cs q) := by
        have h1 : LS 31 wV (fun i => F i ∨ (Value.slice vo q vc).ownBlock = some i) b mkI A rv := HL0.out.tch HT.out (fun i h => Or.inr (Or.inr h))
        exact h1.enter (by rw [Hcs.out]; exact HC.out.own) (fun g e => ⟨(HVb.out g e).1, (HVb.out g e).2.1⟩)
      have HbV : Hid (wV.heap[b]? = some (.cells cur 33 (0, 0))) := by show _ = _; rw [HT.out.block b (blk_lt Hb0.out) (fun e => (HVb.out b e).1 rfl)]; exact Hb0.out
      have HTV : Hid (Tch (fun i => i = b ∨ rv.ownBlock = some i ∨ (Value.slice vo q vc).ownBlock = some i) w wV) := HT.out.mono (fun i _ h => Or.inr (Or.inr h))
      have HNV : Hid (N ≤ wV.heap.size) := by have := HN.out; have := HT.out.size; show N ≤ _; omega
      have Hrv2 : Hid (cur.setIfInBounds 3 rv = cur) := by
        show _ = _
        apply Array.ext_getElem?
        intro i
        by_cases h : i = 3
        · subst h; rw [Array.getElem?_setIfInBounds_self_of_lt (by omega), hc3]
        · rw [Array.getElem?_setIfInBounds_ne (by omega)]
      clear HC HT HL0 HV0 Hb0 hqn hq
      go_wp2_with fail
      go_loopw [1, 6] (fun x i wr => ∃ (k nx : Nat) (A' : List Value) (rv' : Value), i = .int .i64 k ∧ k ≤ 20 ∧ (A'.length ≤ 100000020 ∧ Hid (A'.length = A.length + k)) ∧ nx ≤ 2147483648 + k ∧ Hid (LG 31 3 wr F b mkI A' rv' x cs nx) ∧ Hid (wr.heap[b]? = some (.cells (cur.setIfInBounds 3 rv') 33 (0, 0))) ∧ Hid (N ≤ wr.heap.size) ∧ Hid ((∀ g, rv'.ownBlock = some g → rv.ownBlock = some g ∨ N ≤ g) ∧ ∀ g, x.ownBlock = some g → (Value.slice vo q vc).ownBlock = some g ∨ N ≤ g) ∧ Hid (Tch (fun i => i = b ∨ rv.ownBlock = some i ∨ (Value.slice vo q vc).ownBlock = some i) w wr)) (fun _ i _ => 20 - (intOf i).toNat)
      case atStart => exact ⟨0, q, A, rv, rfl, by omega, ⟨by omega, rfl⟩, by omega, HLG, by show _ = _; rw [Hrv2.out]; exact HbV.out, HNV, ⟨fun g e => Or.inl e, fun g e => Or.inl e⟩, HTV⟩
      case round =>
        clear HLG HbV HNV HTV Hrv2
        obtain ⟨k, nx, A', rv', rfl, hk, ⟨hA', HA'⟩, hnx, HG, Hb, HNs, HO, HT⟩ := hrel
        by_cases hk20 : (k : Int) < 20
        · obtain ⟨ro', rc', hrv'⟩ := row_slice HG.out.all
          subst hrv'
          obtain ⟨xo, xc, hxv⟩ := row_slice HG.out.xr
          subst hxv
          have cb2 : wr.cell? ⟨b, 3, none⟩ = some (.slice ro' A'.length rc') := by rw [blk_cell Hb.out, Array.getElem?_setIfInBounds_self_of_lt (by omega)]
          have fb2 := blk_frozen Hb.out 3
          have HF2 : Hid (∀ i, F i → i < wr.heap.size) := fun i h => by
            have := HFw.out i h; have := HN.out; have := HNs.out; omega
          have Hbl : Hid (b < wr.heap.size) := blk_lt Hb.out
          have Hcs3 : Hid (cs.length = 1) := by show _ = _; rw [Hcs.out]; rfl
          go_wp2_with (first
            | (at_builtin; refine wpList_append_keeps _ rfl _ _ 30 rfl 0 31 i1 (.slice none 0 0) 1 24 Try.underlying30 hi1 hy0 hy1 hy2 rfl (by decide) (.slice ro' A'.length rc') A'.length A' rfl (own_tch HG.out.all (Tch.alloc (fun _ => False) _ _) (fun _ _ h => h)) ⟨wr.heap.size, 0, none⟩ 1 1 [.slice xo nx xc] rfl rfl (World.news_of_block (alloc_new _ _)) (by simp [Value.oneCell']) (by unfold maxLen; omega) (by omega) (Nat.zero_le _) ?_
               intro v1 w1 hown1 hgr1 hat1 _
               have HG1 : Hid _ := HG.out.one (Tch.alloc _ _ _) hgr1 hown1 hat1 (Hmk.out _ (by have := HA'.out; omega) (by have := HA'.out; omega)) (by omega) Hbl.out HF2.out
               have T1 := grown_at (Tch.alloc (fun _ => False) wr _) hgr1
               have Hb1 : Hid (w1.heap[b]? = some (.cells (cur.setIfInBounds 3 (.slice ro' A'.length rc')) 33 (0, 0))) := (T1.block b Hbl.out (fun e => (HG.out.ag b e).1 rfl)).trans Hb.out
               obtain ⟨ro1, rc1, hv1⟩ := row_slice hown1
               subst hv1
               have HG2 : Hid (LG 31 3 (w1.setCell ⟨b, 3, none⟩ (.slice ro1 (A'.length + 1) rc1)) F b mkI (A' ++ [.slice xo nx xc]) (.slice ro1 (A'.length + 1) rc1) (.slice xo nx xc) cs nx) := HG1.out.tch (Tch.setCell (fun i => i = b) w1 ⟨b, 3, none⟩ _ rfl) (fun i h => Or.inl h)
               have Hb2 : Hid ((w1.setCell ⟨b, 3, none⟩ (.slice ro1 (A'.length + 1) rc1)).heap[b]? = some (.cells (cur.setIfInBounds 3 (.slice ro1 (A'.length + 1) rc1)) 33 (0, 0))) := by
                 show _ = _
                 rw [blk_set Hb1.out, Array.setIfInBounds_setIfInBounds]
               have T2 : Tch (fun i => i = b ∨ (Value.slice ro' A'.length rc').ownBlock = some i) wr (w1.setCell ⟨b, 3, none⟩ (.slice ro1 (A'.length + 1) rc1)) := (T1.mono (fun _ _ h => Or.inr h)).setCellR ⟨b, 3, none⟩ _ (Or.inl rfl)
               have HO2 : Hid (∀ g, (Value.slice ro1 (A'.length + 1) rc1).ownBlock = some g → rv.ownBlock = some g ∨ N ≤ g) := fun g e => by
                 rcases hat1 with e1 | e1
                 · exact HO.out.1 g (e1 ▸ e)
                 · rw [e1] at e; injection e with e; rw [World.size_alloc] at e; have := HNs.out; right; omega
               have HF3 : Hid (∀ i, F i → i < (w1.setCell ⟨b, 3, none⟩ (.slice ro1 (A'.length + 1) rc1)).heap.size) := fun i h => Nat.lt_of_lt_of_le (HF2.out i h) T2.size
               have HN2 : Hid (N ≤ (w1.setCell ⟨b, 3, none⟩ (.slice ro1 (A'.length + 1) rc1)).heap.size) := Nat.le_trans HNs.out T2.size
               have Hbl3 : Hid (b < (w1.setCell ⟨b, 3, none⟩ (.slice ro1 (A'.length + 1) rc1)).heap.size) := blk_lt Hb2.out
               have HNW : Hid (∀ j u, ([.int .i64 M] : List Value)[j]? = some u → ((w1.setCell ⟨b, 3, none⟩ (.slice ro1 (A'.length + 1) rc1)).alloc (.cells #[.int .i64 M] 3)).cell? ((⟨w1.heap.size, 0, none⟩ : Addr).add j) = some u) := fun j u hu => by
                 have h1 := World.news_of_block (alloc_new (w1.setCell ⟨b, 3, none⟩ (.slice ro1 (A'.length + 1) rc1)) (.cells #[.int .i64 M] 3)) j u hu
                 rwa [World.size_setCell] at h1
               have cb3 : w1.cell? ⟨b, 3, none⟩ = some (.slice ro' A'.length rc') := by rw [blk_cell Hb1.out, Array.getElem?_setIfInBounds_self_of_lt (by omega)]
               have fb3 := blk_frozen Hb1.out 3
               clear cb2 fb2)
            | (at_builtin; refine wpList_append_keeps _ rfl _ _ 31 rfl 0 3 i0 (.int .i64 0) 1 8 Try.underlying31 hi0 hz0 hz1 hz2 rfl (by decide) (.slice xo nx xc) nx (rep nx cs) rfl (own_tch (by have := HG2.out.xr; rw [Hcs3.out] at this; exact this) (Tch.alloc (fun _ => False) _ _) (fun _ _ h => h)) ⟨w1.heap.size, 0, none⟩ 1 1 [.int .i64 M] rfl rfl HNW.out (by simp [Value.oneCell']) (by unfold maxLen; omega) (by omega) (Nat.zero_le _) ?_
               intro v2 w3 hown2 hgr2 hat2 hk2
               have hown3 : w3.ownsRow 0 3 cs.length v2 (nx + 1) (rep (nx + 1) cs) := by
                 rw [Hcs3.out, rep_succ, Hcs.out]; rw [Hcs.out] at hown2; exact hown2
               have HG3 : Hid _ := HG2.out.two (Tch.alloc _ _ _) hgr2 hown3 hat2 (by rw [Hcs3.out]; exact hk2) Hbl3.out HF3.out (fun j => by rw [Hcs3.out]; rfl)
               have T3 := grown_at (Tch.alloc (fun _ => False) _ _) hgr2
               have Hb3 : Hid (w3.heap[b]? = some (.cells (cur.setIfInBounds 3 (.slice ro1 (A'.length + 1) rc1)) 33 (0, 0))) := (T3.block b Hbl3.out (fun e => (HG2.out.xg b e).2.1 rfl)).trans Hb2.out
               have HN3 : Hid (N ≤ w3.heap.size) := Nat.le_trans HN2.out T3.size
               have HO3 : Hid (∀ g, v2.ownBlock = some g → (Value.slice vo q vc).ownBlock = some g ∨ N ≤ g) := fun g e => by
                 rcases hat2 with e1 | e1
                 · exact HO.out.2 g (e1 ▸ e)
                 · rw [e1] at e; injection e with e; rw [World.size_alloc] at e; have := HN2.out; right; omega
               have HT3 : Hid (Tch (fun i => i = b ∨ rv.ownBlock = some i ∨ (Value.slice vo q vc).ownBlock = some i) w w3) := (HT.out.trans T2 (fun i hi h => by
                 rcases h with h | h
                 · exact Or.inl h
                 · rcases HO.out.1 i h with h | h
                   · exact Or.inr (Or.inl h)
                   · have := HN.out; omega)).trans T3 (fun i hi h => by
                 rcases HO.out.2 i h with h | h
                 · exact Or.inr (Or.inr h)
                 · have := HN.out; omega)
               obtain ⟨xo2, xc2, hv2⟩ := row_slice hown2
               subst hv2
               clear cb3 fb3))
          exact ⟨⟨k + 1, nx + 1, A' ++ [.slice xo nx xc], .slice ro1 (A'.length + 1) rc1, by go_num, by omega, ⟨by have := HA'.out; simp; omega, by show _ = _; rw [List.length_append, HA'.out]; rfl⟩, by omega, HG3, Hb3, HN3, ⟨HO2.out, HO3.out⟩, HT3⟩, by simp [intOf]; omega⟩
        · go_wp2_with fail
          go_end0
          exact ⟨rfl, ⟨rv', A', by have := HA'.out; omega, Hb.out, HG.out.leave, fun g e => (HO.out.1 g e).imp id (fun h => by have := HN.out; omega)⟩, HT.out⟩
end Go.Proofs.Ytolobljlkdacjaa
/- still of a side; lists held against one another. -/
namespace Go.Proofs.Ytolobljlkdacjaa
open Go.RowKit Go

/-- The slices of a list, for reading. -/
theorem LS.read {le : TypeId} {W : World} {F : Nat → Prop} {b : Nat} {mk : Nat → List Value} {A : List Value} {rv : Value} (h : LS le W F b mk A rv) : ∃ ao c, rv = .slice ao A.length c ∧ ∀ j, j < A.length → ∃ G xo m xc, ao = some ⟨G, 0, none⟩ ∧ W.cell? ⟨G, j, none⟩ = some (.slice xo m xc) ∧ m ≤ 4000000000 ∧ ∀ q, q < m → ∃ g, xo = some ⟨g, 0, none⟩ ∧ ∀ i u, (mk j)[i]? = some u → W.cell? ⟨g, q * (mk j).length + i, none⟩ = some u := by
  obtain ⟨ao, c, hv⟩ := row_slice h.all
  refine ⟨ao, c, hv, fun j hj => ?_⟩
  have hall := h.all
  rw [hv] at hall
  obtain ⟨G, rfl, _, hG⟩ := own_at hall (by omega)
  obtain ⟨xo, m, xc, hx, hm, hg⟩ := h.mv j hj
  refine ⟨G, xo, m, xc, rfl, ?_, hm, fun q hq => ?_⟩
  · have := hG j _ (List.getElem?_eq_getElem hj)
    rw [Nat.zero_add, hx] at this
    exact this
  · obtain ⟨g, e, _, _, ha⟩ := hg (by omega)
    refine ⟨g, e, fun i u hu => ?_⟩
    have hi : i < (mk j).length := (List.getElem?_eq_some_iff.1 hu).1
    have := ha (q * (mk j).length + i) u (by rw [rep_get (mk j) m q i hq hi]; exact hu)
    rwa [Nat.zero_add] at this


set_option maxHeartbeats 2000000 in
set_option maxRecDepth 100000 in
theorem still_any (b : Nat) (cur : Array Value) (R : List Value) (rv : Value) (F3 : Nat → Prop) (w : World)
    (hb : w.heap[b]? = some (.cells cur 33 (0, 0))) (hc2 : cur[3]? = some rv) (hR : LS 31 w F3 b mkI R rv) (lR : R.length ≤ 1000000000) :
    Calls Try.prog 8 #[.pointer (some ⟨b, 0, none⟩)] w fun x w' => x = .returned (.bool true) ∧ w' = w := by
  obtain ⟨ro, rc, rfl, HR⟩ := hR.read
  have b2 : w.cell? ⟨b, 3, none⟩ = some (.slice ro R.length rc) := by rw [blk_cell hb]; exact hc2
  have KR : Hid _ := HR
  clear HR hb hc2 hR
  go_enter Try.func8, Try.ntmps8
  go_wp2_with fail
  go_loopw [3] (fun i W => ∃ j : Nat, i = .int .i64 j ∧ j ≤ R.length ∧ W = w) (fun i _ => R.length - (intOf i).toNat)
  case atStart => exact ⟨0, rfl, by omega, rfl⟩
  case round =>
    obtain ⟨j, rfl, hj, hw⟩ := hrel
    obtain rfl := hw.symm
    by_cases hjl : (j : Int) < R.length
    · obtain ⟨G, xo, m, xc, rfl, cj, hm, HQ⟩ := KR.out j (by omega)
      have KQ : Hid _ := HQ
      have hM : ((j / 20 * 20 : Nat) : Int) = (j : Int) / 20 * 20 := by omega
      have HM : Hid _ := hM
      clear HQ hM
      go_wp2_with fail
      go_loopw [4] (fun k W => ∃ q : Nat, k = .int .i64 q ∧ q ≤ m ∧ W = w) (fun k _ => m - (intOf k).toNat)
      case atStart => exact ⟨0, rfl, by omega, rfl⟩
      case round =>
        obtain ⟨q, rfl, hq, hw⟩ := hrel
        obtain rfl := hw.symm
        by_cases hqm : (q : Int) < m
        · obtain ⟨g, rfl, hgc⟩ := KQ.out q (by omega)
          have hM := HM.out
          have g0 : w.cell? ⟨g, q * 1 + 0, none⟩ = _ := hgc 0 _ rfl
          rw [hM, Nat.mul_one, Nat.add_zero] at g0
          clear hgc
          clear hM
          go_wp2_with fail
          go_roundw
          case rel => exact ⟨q + 1, by go_num, by omega, by first | rfl | trivial⟩
          case measure => simp [intOf]; omega
        · go_wp2_with fail
          go_roundw
          case rel => exact ⟨j + 1, by go_num, by omega, by first | rfl | trivial⟩
          case measure => simp [intOf]; omega
    · go_wp2_with fail
      go_ret
      exact ⟨rfl, rfl⟩
/-- Two lists that are the same. -/
theorem same_true (l : List Int) (ao bo : Option Addr) (ac bc : Nat) (w : World) (ha : IR w ao l) (hb : IR w bo l) (hl : l.length ≤ 9223372036854775807) :
    Calls Try.prog 72 #[.slice ao l.length ac, .slice bo l.length bc] w fun x w' => x = .returned (.bool true) ∧ ∃ q, w' = w.drewN q := by
  obtain ⟨n, hn⟩ : ∃ n, n = l.length := ⟨_, rfl⟩
  rw [← hn] at hl ⊢
  have Hn : Hid (n = l.length) := hn
  have HA : Hid (IR w ao l) := ha
  have HB : Hid (IR w bo l) := hb
  clear ha hb hn
  go_enter Try.func72, Try.ntmps72
  go_wp2_with fail
  go_loopw [5] (fun i W => ∃ k : Nat, i = .int .i64 k ∧ k ≤ n ∧ Hid (∃ q, W = w.drewN q)) (fun i _ => n - (intOf i).toNat)
  case atStart => exact ⟨0, rfl, by omega, ⟨0, rfl⟩⟩
  case round =>
    obtain ⟨k, rfl, hk, HW⟩ := hrel
    have HQ : Hid (∀ q2, ∃ q, wr.drewN q2 = w.drewN q) := fun q2 => by
      obtain ⟨q, e⟩ := HW.out
      exact ⟨q + q2, by rw [e]; exact World.drewN_drewN _ _ _⟩
    have tw : Tch (fun _ => False) w wr := by
      obtain ⟨q, e⟩ := HW.out
      rw [e]; exact drewN_tch w q
    by_cases hlt : (k : Int) < n
    · have hkl : k < l.length := by have := Hn.out; omega
      obtain ⟨y, hy⟩ : ∃ y, l[k]? = some y := ⟨_, List.getElem?_eq_getElem hkl⟩
      obtain ⟨g1, o1, rfl, c1⟩ := (IR.no HA.out tw) k y hy
      obtain ⟨g2, o2, rfl, c2⟩ := (IR.no HB.out tw) k y hy
      clear hy hkl tw
      go_wp2_with fail
      refine wp_region_quiet_lit (by kernel_rfl) (by kernel_rfl) ?_
      repeat (go_big_quiet_step (fail))
      refine wpQuiet_nil ?_
      rintro w2 ⟨nq2, rfl⟩
      go_wp2_with fail
      go_roundw
      case rel => exact ⟨k + 1, by go_num, by omega, HQ.out nq2⟩
      case measure => simp [intOf]; omega
    · clear tw
      go_wp2_with fail
      go_ret
      exact ⟨rfl, HW.out⟩
end Go.Proofs.Ytolobljlkdacjaa
