import Derived.Test.YtjbehnoococelaaMLp
/- The law's state: a heap, boxes, a row of numbers that grows. -/
namespace Go.Proofs.Ytjbehnoococelaa
open Go.RowKit Go Go.Sort Go.Maps

theorem MF.freshT {w w' : World} {b : Nat} {m : Mg} {F S : Nat → Prop} (h : MF w b m F) (t : Tch S w w') (hS : ∀ i, i < w.heap.size → S i → F i) : MF w' b m (fun i => F i ∨ w.heap.size ≤ i ∧ i < w'.heap.size) := by
  obtain ⟨σ, mb, bl, h, hF⟩ := h
  refine ⟨σ, mb, bl, h.tch t (fun i hi hs => (hF i (hS i hi hs)).1), fun i hi => ?_⟩
  rcases hi with hi | ⟨h1, h2⟩
  · exact ⟨(hF i hi).1, Nat.lt_of_lt_of_le (hF i hi).2 t.size⟩
  · refine ⟨?_, h2⟩
    cases hs : σ i with
    | none => rfl
    | some a => have := h.lt i (by rw [hs]; exact fun h => by cases h); omega
theorem HS.freshS {w w' : World} {hb mb : Nat} {m : Mg} {L : HL} {F S : Nat → Prop} {q : Nat} (h : HS w hb mb m L F q) (t : Tch S w w') (hS : ∀ i, i < w.heap.size → S i → F i) : HS w' hb mb m L (fun i => F i ∨ w.heap.size ≤ i ∧ i < w'.heap.size) q := by
  obtain ⟨tb, T, E, C, σ, h1, h2, h3, h4, h5⟩ := h
  refine ⟨tb, T, E, C, σ, h1.tch t (fun i hi hs => (h5 i (hS i hi hs)).1), h2, h3, (h4.freshT t (fun i hi hs => .inl (hS i hi hs))).mono (fun i hi => ?_), fun i hi => ?_⟩
  · rcases hi with (hi | hi) | hi
    · exact .inl (.inl hi)
    · exact .inr hi
    · exact .inl (.inr hi)
  · rcases hi with hi | hi
    · exact ⟨(h5 i hi).1, Nat.lt_of_lt_of_le (h5 i hi).2 t.size⟩
    · refine ⟨?_, hi.2⟩
      cases hs : σ i with
      | none => rfl
      | some a => exact absurd (h1.dom i (by rw [hs]; exact fun h => by cases h)) (by omega)
def SW (w0 w : World) (base hb mb : Nat) (m : Mg) (L : HL) (q : Nat) (bx : List (Nat × Obj)) (v : Value) (l : List Nat) : Prop :=
  w0.heap.size ≤ base ∧ (∀ p ∈ bx, p.1 < base) ∧ base ≤ w.heap.size ∧ w.ownsRow base 3 1 v l.length (icl l) ∧ ∃ nb, St w0 w hb mb m L q (bx ++ nb) ∧ ∀ g, v.ownBlock = some g → ∃ o, (g, o) ∈ nb
section
variable {w0 w : World} {base hb mb : Nat} {m : Mg} {L : HL} {q : Nat} {bx : List (Nat × Obj)} {v : Value} {l : List Nat}
theorem SW.st (h : SW w0 w base hb mb m L q bx v l) : St w0 w hb mb m L q bx := by
  obtain ⟨_, _, _, _, nb, h1, _⟩ := h
  exact h1.less (fun p hp => List.mem_append.2 (.inl hp))
theorem SW.tch (h : SW w0 w base hb mb m L q bx v l) : Tch (fun _ => False) w0 w := h.st.tch
theorem SW.box (h : SW w0 w base hb mb m L q bx v l) : ∀ p ∈ bx, w.heap[p.1]? = some p.2 := fun _ hp => h.st.box hp
theorem SW.own (h : SW w0 w base hb mb m L q bx v l) : w.ownsRow base 3 1 v l.length (icl l) := h.2.2.2.1
theorem SW.no {w' : World} (h : SW w0 w base hb mb m L q bx v l) (t : Tch (fun _ => False) w w') : SW w0 w' base hb mb m L q bx v l := by
  obtain ⟨h1, h2, h3, h4, nb, h5, h6⟩ := h
  exact ⟨h1, h2, Nat.le_trans h3 t.size, own_tch h4 t (fun _ _ h => h), nb, h5.no t, h6⟩
theorem SW.first (h : St w0 w hb mb m L q bx) : SW w0 w w.heap.size hb mb m L q bx (.slice none 0 0) [] :=
  ⟨h.tch.size, fun p hp => blk_lt (h.box hp), Nat.le_refl _, ⟨rfl, Or.inl ⟨rfl, rfl⟩⟩, [], by simpa using h, fun g hg => by cases hg⟩
theorem SW.kept {f : FuncId} {args : Array Value} {X : Ending → Prop} {m' : Mg} {L' : HL} {q' : Nat} (h : SW w0 w base hb mb m L q bx v l) (hc : ∀ F, HS w hb mb m L F q → (∀ p ∈ bx, F p.1) → Calls Try.prog f args w fun x w' => X x ∧ HS w' hb mb m' L' F q' ∧ Kept F w w') : Calls Try.prog f args w fun x w' => X x ∧ SW w0 w' base hb mb m' L' q' bx v l := by
  obtain ⟨h1, h2, h3, h4, nb, ⟨F, h51, h52, h53, h54⟩, h6⟩ := h
  refine (hc F h51 (fun p hp => (h53 p (List.mem_append.2 (.inl hp))).2)).mono ?_
  rintro x w' ⟨hx, hs, t⟩
  have hb' : ∀ p ∈ bx ++ nb, w'.heap[p.1]? = some p.2 ∧ F p.1 := fun p hp => ⟨by rw [t.block _ (blk_lt (h53 p hp).1) (fun hn => hn (h53 p hp).2)]; exact (h53 p hp).1, (h53 p hp).2⟩
  refine ⟨hx, h1, h2, Nat.le_trans h3 t.size, own_tch h4 t (fun g hg hn => ?_), nb, ⟨F, hs, h52, hb', h54.trans t (fun i hi hn => hn (h52 i hi))⟩, h6⟩
  obtain ⟨o, ho⟩ := h6 g hg
  exact hn (h53 _ (List.mem_append.2 (.inr ho))).2
/-- The row grown. -/
theorem SW.app (h : SW w0 w base hb mb m L q bx v l) {w' : World} {v' : Value} {l' : List Nat} (t : Tch (fun i => v.ownBlock = some i) w w') (ho : w'.ownsRow base 3 1 v' l'.length (icl l')) (hat : v'.ownBlock = v.ownBlock ∨ ∃ g, v'.ownBlock = some g ∧ w.heap.size ≤ g) : SW w0 w' base hb mb m L q bx v' l' := by
  obtain ⟨h1, h2, h3, h4, nb, ⟨F, h51, h52, h53, h54⟩, h6⟩ := h
  have hvF : ∀ i, v.ownBlock = some i → F i := fun i hi => by
    obtain ⟨o, ho⟩ := h6 i hi
    exact (h53 _ (List.mem_append.2 (.inr ho))).2
  have hs := h51.freshS t (fun i _ e => hvF i e)
  have hblk : ∃ nb' : List (Nat × Obj), (∀ g, v'.ownBlock = some g → ∃ o, (g, o) ∈ nb') ∧ ∀ p ∈ nb', w'.heap[p.1]? = some p.2 ∧ (F p.1 ∨ w.heap.size ≤ p.1 ∧ p.1 < w'.heap.size) := by
    rcases ho.2 with hn | ⟨g, cap, cur, e, hg0, hg, r⟩
    · exact ⟨[], fun g hg => (by rw [hn.1] at hg; cases hg), fun p hp => by cases hp⟩
    · have eg : v'.ownBlock = some g := by rw [e]; rfl
      refine ⟨[(g, .cells cur 3 (0, 0))], fun g' hg' => ⟨_, by rw [eg] at hg'; injection hg' with hg'; rw [hg']; exact List.mem_singleton.2 rfl⟩, fun p hp => ?_⟩
      obtain rfl := List.mem_singleton.1 hp
      refine ⟨hg, ?_⟩
      rcases hat with e1 | ⟨g', e1, h7⟩
      · exact .inl (hvF g (by rw [← e1, eg]))
      · rw [eg] at e1; injection e1 with e1
        exact .inr ⟨by rw [e1]; exact h7, blk_lt hg⟩
  obtain ⟨nb', n1, n2⟩ := hblk
  refine ⟨h1, h2, Nat.le_trans h3 t.size, ho, nb', ⟨_, hs, fun i hi => .inl (h52 i hi), fun p hp => ?_, h54.trans t (fun i hi e => ?_)⟩, n1⟩
  · rcases List.mem_append.1 hp with hp | hp
    · refine ⟨?_, .inl (h53 p (List.mem_append.2 (.inl hp))).2⟩
      have hb' := (h53 p (List.mem_append.2 (.inl hp))).1
      rw [t.block _ (blk_lt hb') (fun e => ?_)]
      · exact hb'
      · have := row_ge h4 e
        have := h2 p hp
        omega
    · exact n2 p hp
  · have := row_ge h4 e
    omega
end
/-- What the boxes hold. -/
def BB (bx : List (Nat × Obj)) (qb sb hb mb : Nat) (so : Option Addr) (sc : Nat) : Prop :=
  (∀ W : World, (∀ p ∈ bx, W.heap[p.1]? = some p.2) → (W.cell? ⟨qb, 0, none⟩ = some (.pointer (some ⟨mb, 0, none⟩)) ∧ W.cell? ⟨qb, 1, none⟩ = some (.pointer (some ⟨hb, 0, none⟩)) ∧ W.cell? ⟨sb, 0, none⟩ = some (.int .i64 1) ∧ W.cell? ⟨sb, 1, none⟩ = some (.int .i64 1) ∧ W.cell? ⟨sb, 2, none⟩ = some (.slice so 0 sc)) ∧ IR W so []) ∧ ∀ a, so = some a → ∃ o, (a.block, o) ∈ bx
theorem insert_w {w0 w : World} {base hb mb qb sb : Nat} {m : Mg} {L : HL} {q : Nat} {bx : List (Nat × Obj)} {v : Value} {l : List Nat} {so : Option Addr} {sc : Nat} (h : SW w0 w base hb mb m L q bx v l) (hB : BB bx qb sb hb mb so sc) (hq : q ≤ 1000) (k : Int) (h1 : -9223372036854775808 ≤ k) (h2 : k ≤ 9223372036854775807) (S : ByteArray) (hS : S.size ≤ maxLen) (own : Int) (h3 : -9223372036854775808 ≤ own) (h4 : own ≤ 9223372036854775807) (ao : Option Addr) (n c : Nat) (cs : List Value) (hr : RdR w ao n c cs) (E : Nat) (hE : insE m 1 1 [] own (chL L k S.data.toList) = E) :
    Calls Try.prog 11 #[.pointer (some ⟨hb, 0, none⟩), .agg #[.int .i64 1, .int .i64 1, .slice so 0 sc], .int .i64 own, .int .i64 k, .string S, .slice ao n c] w fun x w' => x = .returned (.int .i64 (E : Nat)) ∧ SW w0 w' base hb mb m (if E = 0 then appL L k S.data.toList ⟨own, true, n, cs⟩ else L) (q + 3) bx v l := by
  have hi := (hB.1 w h.box).2
  refine h.kept (X := fun x => x = .returned (.int .i64 (E : Nat))) (fun F hs hF => ?_)
  have := insert_f w hb mb m L F q hs hq k h1 h2 S hS 1 1 [] so sc own h3 h4 (by simp) hi (fun a ha => by obtain ⟨o, ho⟩ := hB.2 a ha; exact hF _ ho) ao n c cs hr
  rw [hE] at this
  exact this.mono (fun _ _ ⟨hx, hy⟩ => ⟨hx, hy⟩)
theorem get_sw {w0 w : World} {base hb mb qb sb : Nat} {m : Mg} {L : HL} {q : Nat} {bx : List (Nat × Obj)} {v : Value} {l : List Nat} {so : Option Addr} {sc : Nat} (h : SW w0 w base hb mb m L q bx v l) (hB : BB bx qb sb hb mb so sc) (hq : q ≤ 2000) (k : Int) (h1 : -9223372036854775808 ≤ k) (h2 : k ≤ 9223372036854775807) (S : ByteArray) (hS : S.size ≤ maxLen) (own : Int) (h3 : -9223372036854775808 ≤ own) (h4 : own ≤ 9223372036854775807) (r : Option Ver) (hr : getV m 1 1 [] own (chL L k S.data.toList) = r) :
    Calls Try.prog 17 #[.pointer (some ⟨hb, 0, none⟩), .agg #[.int .i64 1, .int .i64 1, .slice so 0 sc], .int .i64 own, .int .i64 k, .string S] w fun x w' => GetOut w r x w' := by
  obtain ⟨F, hs⟩ := h.st.hs
  have := get_f hs hq k h1 h2 S hS 1 1 [] so sc own h3 h4 (by simp) (hB.1 w h.box).2
  rw [hr] at this
  exact this
theorem written_sw {w0 w : World} {base hb mb : Nat} {m : Mg} {L : HL} {q : Nat} {bx : List (Nat × Obj)} {v : Value} {l : List Nat} (h : SW w0 w base hb mb m L q bx v l) (hq : q ≤ 1000000) (k : Int) (h1 : -9223372036854775808 ≤ k) (h2 : k ≤ 9223372036854775807) (xid : Int) (h3 : -9223372036854775808 ≤ xid) (h4 : xid ≤ 9223372036854775807) (b : Bool) (hb' : wrtL m L k xid = b) :
    Calls Try.prog 9 #[.pointer (some ⟨hb, 0, none⟩), .int .i64 k, .int .i64 xid] w fun x w' => x = .returned (.bool b) ∧ SW w0 w' base hb mb m L q bx v l := by
  obtain ⟨F, hs⟩ := h.st.hs
  have := written_f hs hq k h1 h2 xid h3 h4
  rw [hb'] at this
  exact this.mono (fun _ _ ⟨hx, t⟩ => ⟨hx, h.no t⟩)
/-- What a round of the law's first loop does. -/
theorem step1 (part : Bool) (W : List Nat) (hW : ∀ x ∈ W, x < 6) (k : Nat) (hk : k < 6) : ∃ (E : Nat) (L1 : HL), insE (m1 part) 1 1 [] (byN part) (chL (LH part W) 1 (keyB k).data.toList) = E ∧ (if E = 0 then appL (LH part W) 1 (keyB k).data.toList ⟨byN part, true, 1, rowC k⟩ else LH part W) = L1 ∧ insE (m1 part) 1 1 [] 1 (chL L1 2 (keyB k).data.toList) = E ∧ (if E = 0 then appL L1 2 (keyB k).data.toList ⟨1, true, 1, rowC k⟩ else L1) = LH part (add1 W k) ∧ (E = 0 ∧ add1 W k = W ++ [k] ∨ E = 91 ∧ add1 W k = W) := by
  by_cases h : k ∈ W
  · refine ⟨91, LH part W, ?_, rfl, ?_, ?_, .inr ⟨rfl, by simp [add1, h]⟩⟩
    · have := chL_LH part 1 k hk W hW
      rw [if_pos h, if_pos rfl] at this
      exact (congrArg _ this).trans (ins1 part k)
    · have := chL_LH part 2 k hk W hW
      rw [if_pos h, if_neg (by decide), if_pos rfl] at this
      exact (congrArg _ this).trans (ins2 part k)
    · simp [add1, h]
  · have h2 := app2 part k hk W hW h
    refine ⟨0, LH part W ++ [((1, kb k), [v1 part k])], ?_, app1 part k hk W hW h, ?_, ?_, .inl ⟨rfl, by simp [add1, h]⟩⟩
    · have := chL_LH part 1 k hk W hW
      rw [if_neg h] at this
      exact (congrArg _ this).trans (insN part _)
    · exact (congrArg _ h2.1).trans (insN part _)
    · rw [show add1 W k = W ++ [k] by simp [add1, h]]
      exact h2.2
end Go.Proofs.Ytjbehnoococelaa
