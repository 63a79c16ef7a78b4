import Derived.StillTail
import Derived.Deep.Quiet
/- A region that draws its order, in which some operations TURN the world (calls that write, stores), one behind the other (each waits for the one ahead), and all others only read what those leave alone: ONE WALK, IN THE ORDER OF THE TEXT, serves every order. 'S': the places of the operations that turn the world; 'C k': the worlds behind k of them. What only reads must yield one value in the worlds of every C k; what turns, from C k into C (k + 1). (The library has this for regions that only read: Derived/Still, Derived/Deep/Quiet; two writing calls in one expression cost a walk of all orders.) -/
namespace Go.Proofs.Ytececlalnkiafaa
open Go

/-- Operation o, carried out as frame a has it, yields v and leaves a world of C, whatever frame the value is put into. -/
def YS (P : Program) (o : Oper) (a : Act) (C : World → Prop) (W : World) (v : Value) : Prop :=
  ∀ (b : Act) (K : Act → World → Prop) (Q : Exit → Act → World → Prop), (∀ W', C W' → K (b.put o.dst v) W') → o.upon P b K Q ((execOp a.eval o).run P W)

theorem YS.same {P : Program} {o : Oper} {a a' : Act} {C : World → Prop} {W : World} {v : Value} (h : YS P o a C W v) (he : execOp a'.eval o = execOp a.eval o) : YS P o a' C W v := by
  unfold YS at *
  rw [he]; exact h

/-- One operation at place i, behind k turns. -/
def sOp (P : Program) (ops : Array Oper) (S : List Nat) (C : Nat → World → Prop) (i : Nat) (K : Nat → Act → Prop) (k : Nat) (a : Act) : Prop :=
  match ops[i]? with
  | none => K k a
  | some o =>
    if Region.wanted o (yielded ops a.tmps) then
      (if S.contains i then ∃ v, (∀ W, C k W → YS P o a (C (k + 1)) W v) ∧ K (k + 1) (a.put o.dst v) else ∃ v, (∀ j W, C j W → YS P o a (C j) W v) ∧ K k (a.put o.dst v))
    else K k (a.put o.dst undef)

theorem sOp_mono {P : Program} {ops : Array Oper} {S : List Nat} {C : Nat → World → Prop} {i : Nat} {K K' : Nat → Act → Prop} {k : Nat} {a : Act} (h : ∀ k a, K k a → K' k a) (hh : sOp P ops S C i K k a) : sOp P ops S C i K' k a := by
  unfold sOp at *
  split
  · rename_i ho; simp only [ho] at hh; exact h _ _ hh
  · rename_i o ho
    simp only [ho] at hh
    split
    · rename_i hw
      simp only [hw, if_true] at hh
      split
      · rename_i hs; rw [if_pos hs] at hh; obtain ⟨v, h1, h2⟩ := hh; exact ⟨v, h1, h _ _ h2⟩
      · rename_i hs; rw [if_neg hs] at hh; obtain ⟨v, h1, h2⟩ := hh; exact ⟨v, h1, h _ _ h2⟩
    · rename_i hw; rw [if_neg hw] at hh; exact h _ _ hh

/-- Whatever order is picked from here on. -/
def anyS (P : Program) (md : Region.Mode) (ops : Array Oper) (S : List Nat) (C : Nat → World → Prop) (Q : Nat → Act → Prop) : Nat → Array Bool → Nat → Act → Prop
  | 0, listed, k, a => Region.ready md ops listed = [] ∧ Q k a
  | f + 1, listed, k, a => (Region.ready md ops listed = [] → Q k a) ∧ ∀ i ∈ Region.ready md ops listed, sOp P ops S C i (anyS P md ops S C Q f (listed.setIfInBounds i true)) k a

theorem wpOp_of_sOp {P : Program} {ops : Array Oper} {S : List Nat} {C : Nat → World → Prop} {i k : Nat} {K : Nat → Act → Prop} {K' : Act → World → Prop} {Q' : Exit → Act → World → Prop} {a : Act} {w : World} (hC : C k w) (h : ∀ k a w', C k w' → K k a → K' a w') (hh : sOp P ops S C i K k a) : wpOp P ops Q' i K' a w := by
  unfold sOp at hh
  unfold wpOp
  split
  · rename_i ho; simp only [ho] at hh; exact h _ _ _ hC hh
  · rename_i o ho
    simp only [ho] at hh
    split
    · rename_i hw
      simp only [hw, if_true] at hh
      left
      split at hh
      · obtain ⟨v, h1, h2⟩ := hh
        exact h1 w hC a K' Q' (fun W' hW' => h _ _ _ hW' h2)
      · obtain ⟨v, h1, h2⟩ := hh
        exact h1 k w hC a K' Q' (fun W' hW' => h _ _ _ hW' h2)
    · rename_i hw; rw [if_neg hw] at hh; exact h _ _ _ hC hh

theorem wpAny_of_anyS {P : Program} {md : Region.Mode} {ops : Array Oper} {S : List Nat} {C : Nat → World → Prop} {Q : Nat → Act → Prop} {Q' : Exit → Act → World → Prop} (hQ : ∀ k a w, C k w → Q k a → Q' .normal a w) (f : Nat) :
    ∀ (listed : Array Bool) (k : Nat) (a : Act) (w : World), C k w → anyS P md ops S C Q f listed k a → wpAny P md ops Q' f listed a w := by
  induction f with
  | zero => intro listed k a w hw h; exact ⟨h.1, hQ _ _ _ hw h.2⟩
  | succ f ih => intro listed k a w hw h; exact ⟨fun h0 => hQ _ _ _ hw (h.1 h0), fun i hi => wpOp_of_sOp hw (fun k' a' w' hw' h' => ih _ k' a' w' hw' h') (h.2 i hi)⟩

/-- Each of these places waits for the one ahead of it. -/
def chainS (md : Region.Mode) (ops : Array Oper) : List Nat → Bool
  | x :: y :: r => Region.waitsFor md ops y x && chainS md ops (y :: r)
  | _ => true

theorem chain_waits {md : Region.Mode} {ops : Array Oper} {listed : Array Bool} (inv : HeadInv md ops ops.size listed) : ∀ (r : List Nat) (x : Nat), chainS md ops (x :: r) = true → listed.getD x false = false → ∀ j ∈ r, j ∉ Region.ready md ops listed
  | [], _, _, _, _, hj => by cases hj
  | y :: r, x, hc, hx, j, hj => by
    simp only [chainS, Bool.and_eq_true] at hc
    obtain ⟨oy, hoy, e, he, hb, hon⟩ := Region.waitsFor_spec hc.1
    rcases List.mem_cons.1 hj with rfl | hj
    · intro hr
      obtain ⟨_, oj, hoj, hall⟩ := mem_ready.1 hr
      obtain rfl : oj = oy := Option.some.inj (hoj.symm.trans hoy)
      have h1 := hall e he hb
      rw [hon, hx] at h1
      cases h1
    · refine chain_waits inv r y hc.2 ?_ j hj
      cases hl : listed.getD y false with
      | false => rfl
      | true =>
        have h1 := inv.closed y oy hoy hl e he hb
        rw [hon, hx] at h1
        cases h1

theorem chain_one {md : Region.Mode} {ops : Array Oper} {listed : Array Bool} (inv : HeadInv md ops ops.size listed) : ∀ (S : List Nat), chainS md ops S = true → ∀ i j, i ∈ S → j ∈ S → i ≠ j → i ∈ Region.ready md ops listed → j ∉ Region.ready md ops listed
  | [], _, _, _, hi, _, _, _ => by cases hi
  | x :: r, hc, i, j, hi, hj, hne, hri => by
    have hr : chainS md ops r = true := by
      cases r with
      | nil => rfl
      | cons y r => simp only [chainS, Bool.and_eq_true] at hc; exact hc.2
    rcases List.mem_cons.1 hi with h1 | h1
    · rcases List.mem_cons.1 hj with h2 | h2
      · exact absurd (h1.trans h2.symm) hne
      · rw [h1] at hri
        exact chain_waits inv r x hc (getD_both (mem_ready.1 hri).1) j h2
    · rcases List.mem_cons.1 hj with h2 | h2
      · intro hrj
        rw [h2] at hrj
        exact chain_waits inv r x hc (getD_both (mem_ready.1 hrj).1) i h1 hri
      · exact chain_one inv r hr i j h1 h2 hne hri

/-- What operation i does in frame a behind k turns: v, and then k' turns. -/
def YK (P : Program) (ops : Array Oper) (S : List Nat) (C : Nat → World → Prop) (i : Nat) (o : Oper) (v : Value) (k d : Nat) (a : Act) : Prop :=
  (Region.wanted o (yielded ops a.tmps) = true ∧ S.contains i = true ∧ d = 1 ∧ ∀ W, C k W → YS P o a (C (k + 1)) W v) ∨
  (Region.wanted o (yielded ops a.tmps) = true ∧ S.contains i = false ∧ d = 0 ∧ ∀ j W, C j W → YS P o a (C j) W v) ∨
  (Region.wanted o (yielded ops a.tmps) = false ∧ d = 0 ∧ v = undef)

theorem YK.sOp {P : Program} {ops : Array Oper} {S : List Nat} {C : Nat → World → Prop} {i : Nat} {o : Oper} {v : Value} {k d : Nat} {a : Act} (hi : ops[i]? = some o) (hy : YK P ops S C i o v k d a) {K : Nat → Act → Prop} (h : K (k + d) (a.put o.dst v)) : sOp P ops S C i K k a := by
  unfold Go.Proofs.Ytececlalnkiafaa.sOp
  simp only [hi]
  rcases hy with ⟨hw, hs, rfl, hv⟩ | ⟨hw, hs, rfl, hv⟩ | ⟨hw, rfl, rfl⟩
  · simp only [hw, hs, if_true]; exact ⟨v, hv, h⟩
  · simp only [hw, hs, if_true, Bool.false_eq_true, if_false]; exact ⟨v, hv, h⟩
  · simp only [hw, Bool.false_eq_true, if_false]; exact h

theorem yk_of_sOp {P : Program} {ops : Array Oper} {S : List Nat} {C : Nat → World → Prop} {i : Nat} {o : Oper} {k : Nat} {a : Act} {K : Nat → Act → Prop} (hi : ops[i]? = some o) (h : sOp P ops S C i K k a) : ∃ v d, YK P ops S C i o v k d a ∧ K (k + d) (a.put o.dst v) := by
  unfold sOp at h
  simp only [hi] at h
  by_cases hw : Region.wanted o (yielded ops a.tmps) = true
  · simp only [hw, if_true] at h
    by_cases hs : S.contains i = true
    · rw [if_pos hs] at h
      obtain ⟨v, h1, h2⟩ := h
      exact ⟨v, 1, .inl ⟨hw, hs, rfl, h1⟩, h2⟩
    · rw [if_neg hs] at h
      obtain ⟨v, h1, h2⟩ := h
      exact ⟨v, 0, .inr (.inl ⟨hw, by simpa using hs, rfl, h1⟩), h2⟩
  · rw [if_neg hw] at h
    exact ⟨undef, 0, .inr (.inr ⟨by simpa using hw, rfl, rfl⟩), h⟩

theorem YK.keep {P : Program} {ops : Array Oper} {S : List Nat} {C : Nat → World → Prop} {i : Nat} {o : Oper} {v : Value} {k k2 d : Nat} {a a' : Act} (hy : YK P ops S C i o v k d a) (he : execOp a'.eval o = execOp a.eval o)
    (hw : Region.wanted o (yielded ops a'.tmps) = Region.wanted o (yielded ops a.tmps)) (hk : S.contains i = true → k2 = k) : YK P ops S C i o v k2 d a' := by
  rcases hy with ⟨h1, h2, h3, h4⟩ | ⟨h1, h2, h3, h4⟩ | ⟨h1, h2, h3⟩
  · obtain rfl := hk h2
    exact .inl ⟨hw.trans h1, h2, h3, fun W hW => (h4 W hW).same he⟩
  · exact .inr (.inl ⟨hw.trans h1, h2, h3, fun j W hW => (h4 j W hW).same he⟩)
  · exact .inr (.inr ⟨hw.trans h1, h2, h3⟩)

/-- An operation that may come up now may be taken first. -/
theorem anyS_first {P : Program} {md : Region.Mode} {ops : Array Oper} {S : List Nat} {C : Nat → World → Prop} {Q : Nat → Act → Prop} {i : Nat} {oi : Oper} {v : Value} {d : Nat} (hS : chainS md ops S = true) (hi : ops[i]? = some oi) (hsel : ∀ (j : Nat) (o : Oper) cs b, ops[j]? = some o → o.op ≠ .select cs b) (f : Nat) :
    ∀ (listed : Array Bool) (k : Nat) (a : Act), HeadInv md ops ops.size listed →
      (∀ j oj, ops[j]? = some oj → j ≠ i → listed.getD j true = false → (∀ e ∈ oj.after, Region.binds md e = true → e.on ≠ i) → oi.apart ops oj = true) →
      i ∈ Region.ready md ops listed → YK P ops S C i oi v k d a →
      anyS P md ops S C Q f (listed.setIfInBounds i true) (k + d) (a.put oi.dst v) → anyS P md ops S C Q (f + 1) listed k a := by
  have ne : ∀ (listed : Array Bool), i ∈ Region.ready md ops listed → Region.ready md ops listed ≠ [] := fun listed hr h => by rw [h] at hr; cases hr
  induction f with
  | zero =>
    intro listed k a _ _ hr hy H
    refine ⟨fun h0 => absurd h0 (ne _ hr), fun j hj => ?_⟩
    by_cases hji : j = i
    · subst hji; exact hy.sOp hi H
    · have := ready_mono hj hji
      rw [H.1] at this
      cases this
  | succ f ih =>
    intro listed k a inv hfree hr hy H
    refine ⟨fun h0 => absurd h0 (ne _ hr), fun j hj => ?_⟩
    by_cases hji : j = i
    · subst hji; exact hy.sOp hi H
    · obtain ⟨hjun, oj, hoj, hall⟩ := mem_ready.1 hj
      have hjlt : j < ops.size := (Array.getElem?_eq_some_iff.1 hoj).1
      have hnot : ∀ e ∈ oj.after, Region.binds md e = true → e.on ≠ i := fun e he hb heq => by
        have h1 := hall e he hb
        rw [heq, getD_both (mem_ready.1 hr).1] at h1
        cases h1
      obtain ⟨h1, h2, h3⟩ := Oper.apart_spec (hfree j oj hoj hji hjun hnot)
      obtain ⟨u, d2, hu, hn⟩ := yk_of_sOp hoj (H.2 j (ready_mono hj hji))
      have hst : S.contains i = true → S.contains j = true → False := fun hi' hj' => chain_one inv S hS i j (by simpa using hi') (by simpa using hj') (Ne.symm hji) hr hj
      have hd : S.contains i = true → d2 = 0 := fun hi' => by
        rcases hu with ⟨_, hj', _⟩ | ⟨_, _, h4, _⟩ | ⟨_, h4, _⟩
        · exact (hst hi' hj').elim
        · exact h4
        · exact h4
      have hd1 : S.contains j = true → k = k + d := fun hj' => by
        rcases hy with ⟨_, hi', _⟩ | ⟨_, _, h4, _⟩ | ⟨_, h4, _⟩
        · exact (hst hi' hj').elim
        · omega
        · omega
      have hu' : YK P ops S C j oj u k d2 a := hu.keep (execOp_put oj (fun cs b => hsel j oj cs b hoj) a oi.dst v h1).symm (wanted_put oj a oi.dst v h1).symm hd1
      refine hu'.sOp hoj (ih (listed.setIfInBounds j true) (k + d2) (a.put oj.dst u) (inv.set hj hjlt) (fun m om hm hmi hun hno => hfree m om hm hmi ?_ hno) (ready_mono hr (Ne.symm hji)) ?_ ?_)
      · by_cases hjm : j = m
        · subst hjm; exact hjun
        · rwa [getD_set_ne true hjm] at hun
      · exact hy.keep (execOp_put oi (fun cs b => hsel i oi cs b hi) a oj.dst u h3) (wanted_put oi a oj.dst u h3) (fun hi' => by have := hd hi'; omega)
      · rw [Array.setIfInBounds_comm _ _ hji, ← Act.put_comm a v u h2, show k + d2 + d = k + d + d2 by omega]
        exact hn

/-- The walk, in the order of the text. -/
def wpStage (P : Program) (ops : Array Oper) (S : List Nat) (C : Nat → World → Prop) (Q : Nat → Act → Prop) : List Oper → Nat → Nat → Act → Prop
  | [], _, k, a => Q k a
  | o :: rest, p, k, a =>
    if Region.wanted o (yielded ops a.tmps) then
      (if S.contains p then ∃ v, (∀ W, C k W → YS P o a (C (k + 1)) W v) ∧ wpStage P ops S C Q rest (p + 1) (k + 1) (a.put o.dst v) else ∃ v, (∀ j W, C j W → YS P o a (C j) W v) ∧ wpStage P ops S C Q rest (p + 1) k (a.put o.dst v))
    else wpStage P ops S C Q rest (p + 1) k (a.put o.dst undef)

theorem stage_nil {P : Program} {ops : Array Oper} {S : List Nat} {C : Nat → World → Prop} {Q : Nat → Act → Prop} {p k : Nat} {a : Act} (h : Q k a) : wpStage P ops S C Q [] p k a := h
/-- What only reads. -/
theorem stage_read {P : Program} {ops : Array Oper} {S : List Nat} {C : Nat → World → Prop} {Q : Nat → Act → Prop} {o : Oper} {rest : List Oper} {p k : Nat} {a : Act} (hw : Region.wanted o (yielded ops a.tmps) = true) (hs : S.contains p = false)
    (h : ∃ v, (∀ j W, C j W → YS P o a (C j) W v) ∧ ∀ K : Act → Prop, (∀ a, wpStage P ops S C Q rest (p + 1) k a → K a) → K (a.put o.dst v)) : wpStage P ops S C Q (o :: rest) p k a := by
  obtain ⟨v, h1, h2⟩ := h
  unfold wpStage
  rw [if_pos hw, if_neg (by rw [hs]; exact Bool.false_ne_true)]
  exact ⟨v, h1, h2 _ (fun _ h => h)⟩
/-- What turns the world. -/
theorem stage_turn {P : Program} {ops : Array Oper} {S : List Nat} {C : Nat → World → Prop} {Q : Nat → Act → Prop} {o : Oper} {rest : List Oper} {p k : Nat} {a : Act} (hw : Region.wanted o (yielded ops a.tmps) = true) (hs : S.contains p = true)
    (h : ∃ v, (∀ W, C k W → YS P o a (C (k + 1)) W v) ∧ ∀ K : Act → Prop, (∀ a, wpStage P ops S C Q rest (p + 1) (k + 1) a → K a) → K (a.put o.dst v)) : wpStage P ops S C Q (o :: rest) p k a := by
  obtain ⟨v, h1, h2⟩ := h
  unfold wpStage
  rw [if_pos hw, if_pos hs]
  exact ⟨v, h1, h2 _ (fun _ h => h)⟩
/-- What is not wanted. -/
theorem stage_skip {P : Program} {ops : Array Oper} {S : List Nat} {C : Nat → World → Prop} {Q : Nat → Act → Prop} {o : Oper} {rest : List Oper} {p k : Nat} {a : Act} (hw : Region.wanted o (yielded ops a.tmps) = false)
    (h : ∀ K : Act → Prop, (∀ a, wpStage P ops S C Q rest (p + 1) k a → K a) → K (a.put o.dst undef)) : wpStage P ops S C Q (o :: rest) p k a := by
  unfold wpStage
  rw [if_neg (by rw [hw]; exact Bool.false_ne_true)]
  exact h _ (fun _ h => h)

theorem anyS_lex {P : Program} {md : Region.Mode} {ops : Array Oper} {S : List Nat} {C : Nat → World → Prop} {Q : Nat → Act → Prop} (hsel : Region.noSelect ops = true) (hS : chainS md ops S = true) (l : List Oper) :
    ∀ (p : Nat) (listed : Array Bool) (k : Nat) (a : Act), (∀ j, l[j]? = ops[p + j]?) → HeadInv md ops ops.size listed → Region.lexFrom md ops l.length p listed = true → wpStage P ops S C Q l p k a → anyS P md ops S C Q l.length listed k a := by
  induction l with
  | nil => intro p listed k a _ _ hB h; exact ⟨by simpa [Region.lexFrom] using hB, h⟩
  | cons o l ih =>
    intro p listed k a hl inv hB h
    have h0 : ops[p]? = some o := by simpa using (hl 0).symm
    simp only [List.length_cons, Region.lexFrom, Bool.and_eq_true] at hB
    have hr : p ∈ Region.ready md ops listed := by simpa using hB.1.1
    have hst : sOp P ops S C p (fun k a => wpStage P ops S C Q l (p + 1) k a) k a := by unfold sOp; simp only [h0]; exact h
    obtain ⟨v, d, hy, hK⟩ := yk_of_sOp h0 hst
    refine anyS_first hS h0 (Region.noSelect_spec hsel) l.length listed k a inv (Region.free_spec h0 hB.1.2) hr hy (ih (p + 1) _ _ _ (fun j => ?_) (inv.set hr (Array.getElem?_eq_some_iff.1 h0).1) hB.2 hK)
    have := hl (j + 1)
    simpa [Nat.add_assoc, Nat.add_comm 1 j] using this

theorem wp_region_staged {P : Program} {id : Nat} {Q : Exit → Act → World → Prop} {a : Act} {w : World} {l : List Oper} (S : List Nat) (C : Nat → World → Prop) (hm : P.follows .mixedOrders = true) (hB : Region.lexB .any l.toArray = true) (hS : chainS .any l.toArray S = true) (hC : C 0 w.drew)
    (h : wpStage P l.toArray S C (fun k a' => ∀ w', C k w' → Q .normal a' w') l 0 0 a) : (Code.region id l.toArray true).wp P Q a w := by
  simp only [Region.lexB, Bool.and_eq_true] at hB
  have inv0 : HeadInv .any l.toArray l.toArray.size (Array.replicate l.toArray.size false) :=
    ⟨by simp, fun j oj _ hl => (by rw [getD_replicate_false] at hl; cases hl), fun t h1 h2 => by omega⟩
  have H := anyS_lex (md := .any) hB.1 hS l 0 _ 0 a (by simp) inv0 (by simpa using hB.2) h
  refine wp_region_any hm (wpAny_of_anyS (S := S) (Q := fun k a' => ∀ w', C k w' → Q .normal a' w') (fun k a w' hw' h => h w' hw') _ _ 0 _ _ hC ?_)
  simpa using H
end Go.Proofs.Ytececlalnkiafaa
