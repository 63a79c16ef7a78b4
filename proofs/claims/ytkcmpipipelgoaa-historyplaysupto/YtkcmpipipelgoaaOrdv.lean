import Derived.StillTail
import Derived.Deep.Quiet
import Derived.Lib.QuietBelow
/- A region that draws its order, in which some operations TURN the world (calls that write, stores), one behind the other (each waits for the one ahead), and all others only read what those leave alone: ONE WALK, IN THE ORDER OF THE TEXT, serves every order. 'S': the places of the operations that turn the world; 'C k': the worlds behind k of them. What only reads must yield one value in the worlds of every C k; what turns, from C k into C (k + 1). (The library has this for regions that only read: Derived/Still, Derived/Deep/Quiet; two writing calls in one expression cost a walk of all orders.) -/
namespace Go.Proofs.Ytkcmpipipelgoaa
open Go

/-- Operation o, carried out as frame a has it, yields v and leaves a world of C, whatever frame the value is put into. -/
def YS (P : Program) (o : Oper) (a : Act) (C : World → Prop) (W : World) (v : Value) : Prop :=
  ∀ (b : Act) (K : Act → World → Prop) (Q : Exit → Act → World → Prop), (∀ W', C W' → K (b.put o.dst v) W') → o.upon P b K Q ((execOp a.eval o).run P W)

theorem YS.same {P : Program} {o : Oper} {a a' : Act} {C : World → Prop} {W : World} {v : Value} (h : YS P o a C W v) (he : execOp a'.eval o = execOp a.eval o) : YS P o a' C W v := by
  unfold YS at *
  rw [he]; exact h

/-- One operation at place i, behind k turns. -/
def sOp (P : Program) (ops : Array Oper) (S : List Nat) (C : Nat → World → Prop) (i : Nat) (K : Nat → Act → Prop) (k : Nat) (a : Act) : Prop :=
  match ops[i]? with
  | none => K k a
  | some o =>
    if Region.wanted o (yielded ops a.tmps) then
      (if S.contains i then ∃ v, (∀ W, C k W → YS P o a (C (k + 1)) W v) ∧ K (k + 1) (a.put o.dst v) else ∃ v, (∀ j W, C j W → YS P o a (C j) W v) ∧ K k (a.put o.dst v))
    else K k (a.put o.dst undef)

theorem sOp_mono {P : Program} {ops : Array Oper} {S : List Nat} {C : Nat → World → Prop} {i : Nat} {K K' : Nat → Act → Prop} {k : Nat} {a : Act} (h : ∀ k a, K k a → K' k a) (hh : sOp P ops S C i K k a) : sOp P ops S C i K' k a := by
  unfold sOp at *
  split
  · rename_i ho; simp only [ho] at hh; exact h _ _ hh
  · rename_i o ho
    simp only [ho] at hh
    split
    · rename_i hw
      simp only [hw, if_true] at hh
      split
      · rename_i hs; rw [if_pos hs] at hh; obtain ⟨v, h1, h2⟩ := hh; exact ⟨v, h1, h _ _ h2⟩
      · rename_i hs; rw [if_neg hs] at hh; obtain ⟨v, h1, h2⟩ := hh; exact ⟨v, h1, h _ _ h2⟩
    · rename_i hw; rw [if_neg hw] at hh; exact h _ _ hh

/-- Whatever order is picked from here on. -/
def anyS (P : Program) (md : Region.Mode) (ops : Array Oper) (S : List Nat) (C : Nat → World → Prop) (Q : Nat → Act → Prop) : Nat → Array Bool → Nat → Act → Prop
  | 0, listed, k, a => Region.ready md ops listed = [] ∧ Q k a
  | f + 1, listed, k, a => (Region.ready md ops listed = [] → Q k a) ∧ ∀ i ∈ Region.ready md ops listed, sOp P ops S C i (anyS P md ops S C Q f (listed.setIfInBounds i true)) k a

theorem wpOp_of_sOp {P : Program} {ops : Array Oper} {S : List Nat} {C : Nat → World → Prop} {i k : Nat} {K : Nat → Act → Prop} {K' : Act → World → Prop} {Q' : Exit → Act → World → Prop} {a : Act} {w : World} (hC : C k w) (h : ∀ k a w', C k w' → K k a → K' a w') (hh : sOp P ops S C i K k a) : wpOp P ops Q' i K' a w := by
  unfold sOp at hh
  unfold wpOp
  split
  · rename_i ho; simp only [ho] at hh; exact h _ _ _ hC hh
  · rename_i o ho
    simp only [ho] at hh
    split
    · rename_i hw
      simp only [hw, if_true] at hh
      left
      split at hh
      · obtain ⟨v, h1, h2⟩ := hh
        exact h1 w hC a K' Q' (fun W' hW' => h _ _ _ hW' h2)
      · obtain ⟨v, h1, h2⟩ := hh
        exact h1 k w hC a K' Q' (fun W' hW' => h _ _ _ hW' h2)
    · rename_i hw; rw [if_neg hw] at hh; exact h _ _ _ hC hh

theorem wpAny_of_anyS {P : Program} {md : Region.Mode} {ops : Array Oper} {S : List Nat} {C : Nat → World → Prop} {Q : Nat → Act → Prop} {Q' : Exit → Act → World → Prop} (hQ : ∀ k a w, C k w → Q k a → Q' .normal a w) (f : Nat) :
    ∀ (listed : Array Bool) (k : Nat) (a : Act) (w : World), C k w → anyS P md ops S C Q f listed k a → wpAny P md ops Q' f listed a w := by
  induction f with
  | zero => intro listed k a w hw h; exact ⟨h.1, hQ _ _ _ hw h.2⟩
  | succ f ih => intro listed k a w hw h; exact ⟨fun h0 => hQ _ _ _ hw (h.1 h0), fun i hi => wpOp_of_sOp hw (fun k' a' w' hw' h' => ih _ k' a' w' hw' h') (h.2 i hi)⟩

/-- Each of these places waits for the one ahead of it. -/
def chainS (md : Region.Mode) (ops : Array Oper) : List Nat → Bool
  | x :: y :: r => Region.waitsFor md ops y x && chainS md ops (y :: r)
  | _ => true

theorem chain_waits {md : Region.Mode} {ops : Array Oper} {listed : Array Bool} (inv : HeadInv md ops ops.size listed) : ∀ (r : List Nat) (x : Nat), chainS md ops (x :: r) = true → listed.getD x false = false → ∀ j ∈ r, j ∉ Region.ready md ops listed
  | [], _, _, _, _, hj => by cases hj
  | y :: r, x, hc, hx, j, hj => by
    simp only [chainS, Bool.and_eq_true] at hc
    obtain ⟨oy, hoy, e, he, hb, hon⟩ := Region.waitsFor_spec hc.1
    rcases List.mem_cons.1 hj with rfl | hj
    · intro hr
      obtain ⟨_, oj, hoj, hall⟩ := mem_ready.1 hr
      obtain rfl : oj = oy := Option.some.inj (hoj.symm.trans hoy)
      have h1 := hall e he hb
      rw [hon, hx] at h1
      cases h1
    · refine chain_waits inv r y hc.2 ?_ j hj
      cases hl : listed.getD y false with
      | false => rfl
      | true =>
        have h1 := inv.closed y oy hoy hl e he hb
        rw [hon, hx] at h1
        cases h1

theorem chain_one {md : Region.Mode} {ops : Array Oper} {listed : Array Bool} (inv : HeadInv md ops ops.size listed) : ∀ (S : List Nat), chainS md ops S = true → ∀ i j, i ∈ S → j ∈ S → i ≠ j → i ∈ Region.ready md ops listed → j ∉ Region.ready md ops listed
  | [], _, _, _, hi, _, _, _ => by cases hi
  | x :: r, hc, i, j, hi, hj, hne, hri => by
    have hr : chainS md ops r = true := by
      cases r with
      | nil => rfl
      | cons y r => simp only [chainS, Bool.and_eq_true] at hc; exact hc.2
    rcases List.mem_cons.1 hi with h1 | h1
    · rcases List.mem_cons.1 hj with h2 | h2
      · exact absurd (h1.trans h2.symm) hne
      · rw [h1] at hri
        exact chain_waits inv r x hc (getD_both (mem_ready.1 hri).1) j h2
    · rcases List.mem_cons.1 hj with h2 | h2
      · intro hrj
        rw [h2] at hrj
        exact chain_waits inv r x hc (getD_both (mem_ready.1 hrj).1) i h1 hri
      · exact chain_one inv r hr i j h1 h2 hne hri

/-- What operation i does in frame a behind k turns: v, and then k' turns. -/
def YK (P : Program) (ops : Array Oper) (S : List Nat) (C : Nat → World → Prop) (i : Nat) (o : Oper) (v : Value) (k d : Nat) (a : Act) : Prop :=
  (Region.wanted o (yielded ops a.tmps) = true ∧ S.contains i = true ∧ d = 1 ∧ ∀ W, C k W → YS P o a (C (k + 1)) W v) ∨
  (Region.wanted o (yielded ops a.tmps) = true ∧ S.contains i = false ∧ d = 0 ∧ ∀ j W, C j W → YS P o a (C j) W v) ∨
  (Region.wanted o (yielded ops a.tmps) = false ∧ d = 0 ∧ v = undef)

theorem YK.sOp {P : Program} {ops : Array Oper} {S : List Nat} {C : Nat → World → Prop} {i : Nat} {o : Oper} {v : Value} {k d : Nat} {a : Act} (hi : ops[i]? = some o) (hy : YK P ops S C i o v k d a) {K : Nat → Act → Prop} (h : K (k + d) (a.put o.dst v)) : sOp P ops S C i K k a := by
  unfold Go.Proofs.Ytkcmpipipelgoaa.sOp
  simp only [hi]
  rcases hy with ⟨hw, hs, rfl, hv⟩ | ⟨hw, hs, rfl, hv⟩ | ⟨hw, rfl, rfl⟩
  · simp only [hw, hs, if_true]; exact ⟨v, hv, h⟩
  · simp only [hw, hs, if_true, Bool.false_eq_true, if_false]; exact ⟨v, hv, h⟩
  · simp only [hw, Bool.false_eq_true, if_false]; exact h

theorem yk_of_sOp {P : Program} {ops : Array Oper} {S : List Nat} {C : Nat → World → Prop} {i : Nat} {o : Oper} {k : Nat} {a : Act} {K : Nat → Act → Prop} (hi : ops[i]? = some o) (h : sOp P ops S C i K k a) : ∃ v d, YK P ops S C i o v k d a ∧ K (k + d) (a.put o.dst v) := by
  unfold sOp at h
  simp only [hi] at h
  by_cases hw : Region.wanted o (yielded ops a.tmps) = true
  · simp only [hw, if_true] at h
    by_cases hs : S.contains i = true
    · rw [if_pos hs] at h
      obtain ⟨v, h1, h2⟩ := h
      exact ⟨v, 1, .inl ⟨hw, hs, rfl, h1⟩, h2⟩
    · rw [if_neg hs] at h
      obtain ⟨v, h1, h2⟩ := h
      exact ⟨v, 0, .inr (.inl ⟨hw, by simpa using hs, rfl, h1⟩), h2⟩
  · rw [if_neg hw] at h
    exact ⟨undef, 0, .inr (.inr ⟨by simpa using hw, rfl, rfl⟩), h⟩

theorem YK.keep {P : Program} {ops : Array Oper} {S : List Nat} {C : Nat → World → Prop} {i : Nat} {o : Oper} {v : Value} {k k2 d : Nat} {a a' : Act} (hy : YK P ops S C i o v k d a) (he : execOp a'.eval o = execOp a.eval o)
    (hw : Region.wanted o (yielded ops a'.tmps) = Region.wanted o (yielded ops a.tmps)) (hk : S.contains i = true → k2 = k) : YK P ops S C i o v k2 d a' := by
  rcases hy with ⟨h1, h2, h3, h4⟩ | ⟨h1, h2, h3, h4⟩ | ⟨h1, h2, h3⟩
  · obtain rfl := hk h2
    exact .inl ⟨hw.trans h1, h2, h3, fun W hW => (h4 W hW).same he⟩
  · exact .inr (.inl ⟨hw.trans h1, h2, h3, fun j W hW => (h4 j W hW).same he⟩)
  · exact .inr (.inr ⟨hw.trans h1, h2, h3⟩)

/-- An operation that may come up now may be taken first. -/
theorem anyS_first {P : Program} {md : Region.Mode} {ops : Array Oper} {S : List Nat} {C : Nat → World → Prop} {Q : Nat → Act → Prop} {i : Nat} {oi : Oper} {v : Value} {d : Nat} (hS : chainS md ops S = true) (hi : ops[i]? = some oi) (hsel : ∀ (j : Nat) (o : Oper) cs b, ops[j]? = some o → o.op ≠ .select cs b) (f : Nat) :
    ∀ (listed : Array Bool) (k : Nat) (a : Act), HeadInv md ops ops.size listed →
      (∀ j oj, ops[j]? = some oj → j ≠ i → listed.getD j true = false → (∀ e ∈ oj.after, Region.binds md e = true → e.on ≠ i) → oi.apart ops oj = true) →
      i ∈ Region.ready md ops listed → YK P ops S C i oi v k d a →
      anyS P md ops S C Q f (listed.setIfInBounds i true) (k + d) (a.put oi.dst v) → anyS P md ops S C Q (f + 1) listed k a := by
  have ne : ∀ (listed : Array Bool), i ∈ Region.ready md ops listed → Region.ready md ops listed ≠ [] := fun listed hr h => by rw [h] at hr; cases hr
  induction f with
  | zero =>
    intro listed k a _ _ hr hy H
    refine ⟨fun h0 => absurd h0 (ne _ hr), fun j hj => ?_⟩
    by_cases hji : j = i
    · subst hji; exact hy.sOp hi H
    · have := ready_mono hj hji
      rw [H.1] at this
      cases this
  | succ f ih =>
    intro listed k a inv hfree hr hy H
    refine ⟨fun h0 => absurd h0 (ne _ hr), fun j hj => ?_⟩
    by_cases hji : j = i
    · subst hji; exact hy.sOp hi H
    · obtain ⟨hjun, oj, hoj, hall⟩ := mem_ready.1 hj
      have hjlt : j < ops.size := (Array.getElem?_eq_some_iff.1 hoj).1
      have hnot : ∀ e ∈ oj.after, Region.binds md e = true → e.on ≠ i := fun e he hb heq => by
        have h1 := hall e he hb
        rw [heq, getD_both (mem_ready.1 hr).1] at h1
        cases h1
      obtain ⟨h1, h2, h3⟩ := Oper.apart_spec (hfree j oj hoj hji hjun hnot)
      obtain ⟨u, d2, hu, hn⟩ := yk_of_sOp hoj (H.2 j (ready_mono hj hji))
      have hst : S.contains i = true → S.contains j = true → False := fun hi' hj' => chain_one inv S hS i j (by simpa using hi') (by simpa using hj') (Ne.symm hji) hr hj
      have hd : S.contains i = true → d2 = 0 := fun hi' => by
        rcases hu with ⟨_, hj', _⟩ | ⟨_, _, h4, _⟩ | ⟨_, h4, _⟩
        · exact (hst hi' hj').elim
        · exact h4
        · exact h4
      have hd1 : S.contains j = true → k = k + d := fun hj' => by
        rcases hy with ⟨_, hi', _⟩ | ⟨_, _, h4, _⟩ | ⟨_, h4, _⟩
        · exact (hst hi' hj').elim
        · omega
        · omega
      have hu' : YK P ops S C j oj u k d2 a := hu.keep (execOp_put oj (fun cs b => hsel j oj cs b hoj) a oi.dst v h1).symm (wanted_put oj a oi.dst v h1).symm hd1
      refine hu'.sOp hoj (ih (listed.setIfInBounds j true) (k + d2) (a.put oj.dst u) (inv.set hj hjlt) (fun m om hm hmi hun hno => hfree m om hm hmi ?_ hno) (ready_mono hr (Ne.symm hji)) ?_ ?_)
      · by_cases hjm : j = m
        · subst hjm; exact hjun
        · rwa [getD_set_ne true hjm] at hun
      · exact hy.keep (execOp_put oi (fun cs b => hsel i oi cs b hi) a oj.dst u h3) (wanted_put oi a oj.dst u h3) (fun hi' => by have := hd hi'; omega)
      · rw [Array.setIfInBounds_comm _ _ hji, ← Act.put_comm a v u h2, show k + d2 + d = k + d + d2 by omega]
        exact hn

/-- The walk, in the order of the text. -/
def wpStage (P : Program) (ops : Array Oper) (S : List Nat) (C : Nat → World → Prop) (Q : Nat → Act → Prop) : List Oper → Nat → Nat → Act → Prop
  | [], _, k, a => Q k a
  | o :: rest, p, k, a =>
    if Region.wanted o (yielded ops a.tmps) then
      (if S.contains p then ∃ v, (∀ W, C k W → YS P o a (C (k + 1)) W v) ∧ wpStage P ops S C Q rest (p + 1) (k + 1) (a.put o.dst v) else ∃ v, (∀ j W, C j W → YS P o a (C j) W v) ∧ wpStage P ops S C Q rest (p + 1) k (a.put o.dst v))
    else wpStage P ops S C Q rest (p + 1) k (a.put o.dst undef)

theorem stage_nil {P : Program} {ops : Array Oper} {S : List Nat} {C : Nat → World → Prop} {Q : Nat → Act → Prop} {p k : Nat} {a : Act} (h : Q k a) : wpStage P ops S C Q [] p k a := h
/-- What only reads. -/
theorem stage_read {P : Program} {ops : Array Oper} {S : List Nat} {C : Nat → World → Prop} {Q : Nat → Act → Prop} {o : Oper} {rest : List Oper} {p k : Nat} {a : Act} (hw : Region.wanted o (yielded ops a.tmps) = true) (hs : S.contains p = false)
    (h : ∃ v, (∀ j W, C j W → YS P o a (C j) W v) ∧ ∀ K : Act → Prop, (∀ a, wpStage P ops S C Q rest (p + 1) k a → K a) → K (a.put o.dst v)) : wpStage P ops S C Q (o :: rest) p k a := by
  obtain ⟨v, h1, h2⟩ := h
  unfold wpStage
  rw [if_pos hw, if_neg (by rw [hs]; exact Bool.false_ne_true)]
  exact ⟨v, h1, h2 _ (fun _ h => h)⟩
/-- What turns the world. -/
theorem stage_turn {P : Program} {ops : Array Oper} {S : List Nat} {C : Nat → World → Prop} {Q : Nat → Act → Prop} {o : Oper} {rest : List Oper} {p k : Nat} {a : Act} (hw : Region.wanted o (yielded ops a.tmps) = true) (hs : S.contains p = true)
    (h : ∃ v, (∀ W, C k W → YS P o a (C (k + 1)) W v) ∧ ∀ K : Act → Prop, (∀ a, wpStage P ops S C Q rest (p + 1) (k + 1) a → K a) → K (a.put o.dst v)) : wpStage P ops S C Q (o :: rest) p k a := by
  obtain ⟨v, h1, h2⟩ := h
  unfold wpStage
  rw [if_pos hw, if_pos hs]
  exact ⟨v, h1, h2 _ (fun _ h => h)⟩
/-- What is not wanted. -/
theorem stage_skip {P : Program} {ops : Array Oper} {S : List Nat} {C : Nat → World → Prop} {Q : Nat → Act → Prop} {o : Oper} {rest : List Oper} {p k : Nat} {a : Act} (hw : Region.wanted o (yielded ops a.tmps) = false)
    (h : ∀ K : Act → Prop, (∀ a, wpStage P ops S C Q rest (p + 1) k a → K a) → K (a.put o.dst undef)) : wpStage P ops S C Q (o :: rest) p k a := by
  unfold wpStage
  rw [if_neg (by rw [hw]; exact Bool.false_ne_true)]
  exact h _ (fun _ h => h)

theorem anyS_lex {P : Program} {md : Region.Mode} {ops : Array Oper} {S : List Nat} {C : Nat → World → Prop} {Q : Nat → Act → Prop} (hsel : Region.noSelect ops = true) (hS : chainS md ops S = true) (l : List Oper) :
    ∀ (p : Nat) (listed : Array Bool) (k : Nat) (a : Act), (∀ j, l[j]? = ops[p + j]?) → HeadInv md ops ops.size listed → Region.lexFrom md ops l.length p listed = true → wpStage P ops S C Q l p k a → anyS P md ops S C Q l.length listed k a := by
  induction l with
  | nil => intro p listed k a _ _ hB h; exact ⟨by simpa [Region.lexFrom] using hB, h⟩
  | cons o l ih =>
    intro p listed k a hl inv hB h
    have h0 : ops[p]? = some o := by simpa using (hl 0).symm
    simp only [List.length_cons, Region.lexFrom, Bool.and_eq_true] at hB
    have hr : p ∈ Region.ready md ops listed := by simpa using hB.1.1
    have hst : sOp P ops S C p (fun k a => wpStage P ops S C Q l (p + 1) k a) k a := by unfold sOp; simp only [h0]; exact h
    obtain ⟨v, d, hy, hK⟩ := yk_of_sOp h0 hst
    refine anyS_first hS h0 (Region.noSelect_spec hsel) l.length listed k a inv (Region.free_spec h0 hB.1.2) hr hy (ih (p + 1) _ _ _ (fun j => ?_) (inv.set hr (Array.getElem?_eq_some_iff.1 h0).1) hB.2 hK)
    have := hl (j + 1)
    simpa [Nat.add_assoc, Nat.add_comm 1 j] using this

theorem wp_region_staged {P : Program} {id : Nat} {Q : Exit → Act → World → Prop} {a : Act} {w : World} {l : List Oper} (S : List Nat) (C : Nat → World → Prop) (hm : P.follows .mixedOrders = true) (hB : Region.lexB .any l.toArray = true) (hS : chainS .any l.toArray S = true) (hC : C 0 w.drew)
    (h : wpStage P l.toArray S C (fun k a' => ∀ w', C k w' → Q .normal a' w') l 0 0 a) : (Code.region id l.toArray true).wp P Q a w := by
  simp only [Region.lexB, Bool.and_eq_true] at hB
  have inv0 : HeadInv .any l.toArray l.toArray.size (Array.replicate l.toArray.size false) :=
    ⟨by simp, fun j oj _ hl => (by rw [getD_replicate_false] at hl; cases hl), fun t h1 h2 => by omega⟩
  have H := anyS_lex (md := .any) hB.1 hS l 0 _ 0 a (by simp) inv0 (by simpa using hB.2) h
  refine wp_region_any hm (wpAny_of_anyS (S := S) (Q := fun k a' => ∀ w', C k w' → Q .normal a' w') (fun k a w' hw' h => h w' hw') _ _ 0 _ _ hC ?_)
  simpa using H
end Go.Proofs.Ytkcmpipipelgoaa
/- As Staged, but: a turn BARS all others (nothing else may come up when it does), and what only reads need hold from its own stage on alone. -/
namespace Go.Proofs.Ytkcmpipipelgoaa
open Go

/-- One operation at place i, behind k turns. -/
def bOp (P : Program) (ops : Array Oper) (S : List Nat) (C : Nat → World → Prop) (i : Nat) (K : Nat → Act → Prop) (k : Nat) (a : Act) : Prop :=
  match ops[i]? with
  | none => K k a
  | some o =>
    if Region.wanted o (yielded ops a.tmps) then
      (if S.contains i then ∃ v, (∀ W, C k W → YS P o a (C (k + 1)) W v) ∧ K (k + 1) (a.put o.dst v) else ∃ v, (∀ j W, k ≤ j → C j W → YS P o a (C j) W v) ∧ K k (a.put o.dst v))
    else K k (a.put o.dst undef)

theorem bOp_mono {P : Program} {ops : Array Oper} {S : List Nat} {C : Nat → World → Prop} {i : Nat} {K K' : Nat → Act → Prop} {k : Nat} {a : Act} (h : ∀ k a, K k a → K' k a) (hh : bOp P ops S C i K k a) : bOp P ops S C i K' k a := by
  unfold bOp at *
  split
  · rename_i ho; simp only [ho] at hh; exact h _ _ hh
  · rename_i o ho
    simp only [ho] at hh
    split
    · rename_i hw
      simp only [hw, if_true] at hh
      split
      · rename_i hs; rw [if_pos hs] at hh; obtain ⟨v, h1, h2⟩ := hh; exact ⟨v, h1, h _ _ h2⟩
      · rename_i hs; rw [if_neg hs] at hh; obtain ⟨v, h1, h2⟩ := hh; exact ⟨v, h1, h _ _ h2⟩
    · rename_i hw; rw [if_neg hw] at hh; exact h _ _ hh

/-- Whatever order is picked from here on. -/
def anyB (P : Program) (md : Region.Mode) (ops : Array Oper) (S : List Nat) (C : Nat → World → Prop) (Q : Nat → Act → Prop) : Nat → Array Bool → Nat → Act → Prop
  | 0, listed, k, a => Region.ready md ops listed = [] ∧ Q k a
  | f + 1, listed, k, a => (Region.ready md ops listed = [] → Q k a) ∧ ∀ i ∈ Region.ready md ops listed, bOp P ops S C i (anyB P md ops S C Q f (listed.setIfInBounds i true)) k a

theorem wpOp_of_bOp {P : Program} {ops : Array Oper} {S : List Nat} {C : Nat → World → Prop} {i k : Nat} {K : Nat → Act → Prop} {K' : Act → World → Prop} {Q' : Exit → Act → World → Prop} {a : Act} {w : World} (hC : C k w) (h : ∀ k a w', C k w' → K k a → K' a w') (hh : bOp P ops S C i K k a) : wpOp P ops Q' i K' a w := by
  unfold bOp at hh
  unfold wpOp
  split
  · rename_i ho; simp only [ho] at hh; exact h _ _ _ hC hh
  · rename_i o ho
    simp only [ho] at hh
    split
    · rename_i hw
      simp only [hw, if_true] at hh
      left
      split at hh
      · obtain ⟨v, h1, h2⟩ := hh
        exact h1 w hC a K' Q' (fun W' hW' => h _ _ _ hW' h2)
      · obtain ⟨v, h1, h2⟩ := hh
        exact h1 k w (Nat.le_refl _) hC a K' Q' (fun W' hW' => h _ _ _ hW' h2)
    · rename_i hw; rw [if_neg hw] at hh; exact h _ _ _ hC hh

theorem wpAny_of_anyB {P : Program} {md : Region.Mode} {ops : Array Oper} {S : List Nat} {C : Nat → World → Prop} {Q : Nat → Act → Prop} {Q' : Exit → Act → World → Prop} (hQ : ∀ k a w, C k w → Q k a → Q' .normal a w) (f : Nat) :
    ∀ (listed : Array Bool) (k : Nat) (a : Act) (w : World), C k w → anyB P md ops S C Q f listed k a → wpAny P md ops Q' f listed a w := by
  induction f with
  | zero => intro listed k a w hw h; exact ⟨h.1, hQ _ _ _ hw h.2⟩
  | succ f ih => intro listed k a w hw h; exact ⟨fun h0 => hQ _ _ _ hw (h.1 h0), fun i hi => wpOp_of_bOp hw (fun k' a' w' hw' h' => ih _ k' a' w' hw' h') (h.2 i hi)⟩

/-- What operation i does in frame a behind k turns: v, and then k' turns. -/
def YB (P : Program) (ops : Array Oper) (S : List Nat) (C : Nat → World → Prop) (i : Nat) (o : Oper) (v : Value) (k d : Nat) (a : Act) : Prop :=
  (Region.wanted o (yielded ops a.tmps) = true ∧ S.contains i = true ∧ d = 1 ∧ ∀ W, C k W → YS P o a (C (k + 1)) W v) ∨
  (Region.wanted o (yielded ops a.tmps) = true ∧ S.contains i = false ∧ d = 0 ∧ ∀ j W, k ≤ j → C j W → YS P o a (C j) W v) ∨
  (Region.wanted o (yielded ops a.tmps) = false ∧ d = 0 ∧ v = undef)

theorem YB.bOp {P : Program} {ops : Array Oper} {S : List Nat} {C : Nat → World → Prop} {i : Nat} {o : Oper} {v : Value} {k d : Nat} {a : Act} (hi : ops[i]? = some o) (hy : YB P ops S C i o v k d a) {K : Nat → Act → Prop} (h : K (k + d) (a.put o.dst v)) : bOp P ops S C i K k a := by
  unfold Go.Proofs.Ytkcmpipipelgoaa.bOp
  simp only [hi]
  rcases hy with ⟨hw, hs, rfl, hv⟩ | ⟨hw, hs, rfl, hv⟩ | ⟨hw, rfl, rfl⟩
  · simp only [hw, hs, if_true]; exact ⟨v, hv, h⟩
  · simp only [hw, hs, if_true, Bool.false_eq_true, if_false]; exact ⟨v, hv, h⟩
  · simp only [hw, Bool.false_eq_true, if_false]; exact h

theorem yb_of_bOp {P : Program} {ops : Array Oper} {S : List Nat} {C : Nat → World → Prop} {i : Nat} {o : Oper} {k : Nat} {a : Act} {K : Nat → Act → Prop} (hi : ops[i]? = some o) (h : bOp P ops S C i K k a) : ∃ v d, YB P ops S C i o v k d a ∧ K (k + d) (a.put o.dst v) := by
  unfold bOp at h
  simp only [hi] at h
  by_cases hw : Region.wanted o (yielded ops a.tmps) = true
  · simp only [hw, if_true] at h
    by_cases hs : S.contains i = true
    · rw [if_pos hs] at h
      obtain ⟨v, h1, h2⟩ := h
      exact ⟨v, 1, .inl ⟨hw, hs, rfl, h1⟩, h2⟩
    · rw [if_neg hs] at h
      obtain ⟨v, h1, h2⟩ := h
      exact ⟨v, 0, .inr (.inl ⟨hw, by simpa using hs, rfl, h1⟩), h2⟩
  · rw [if_neg hw] at h
    exact ⟨undef, 0, .inr (.inr ⟨by simpa using hw, rfl, rfl⟩), h⟩

theorem YB.keep {P : Program} {ops : Array Oper} {S : List Nat} {C : Nat → World → Prop} {i : Nat} {o : Oper} {v : Value} {k k2 d : Nat} {a a' : Act} (hy : YB P ops S C i o v k d a) (he : execOp a'.eval o = execOp a.eval o)
    (hw : Region.wanted o (yielded ops a'.tmps) = Region.wanted o (yielded ops a.tmps)) (hk : S.contains i = true → k2 = k) (hk' : k ≤ k2) : YB P ops S C i o v k2 d a' := by
  rcases hy with ⟨h1, h2, h3, h4⟩ | ⟨h1, h2, h3, h4⟩ | ⟨h1, h2, h3⟩
  · obtain rfl := hk h2
    exact .inl ⟨hw.trans h1, h2, h3, fun W hW => (h4 W hW).same he⟩
  · exact .inr (.inl ⟨hw.trans h1, h2, h3, fun j W hj hW => (h4 j W (Nat.le_trans hk' hj) hW).same he⟩)
  · exact .inr (.inr ⟨hw.trans h1, h2, h3⟩)

/-- An operation that may come up now may be taken first. -/
theorem anyB_first {P : Program} {md : Region.Mode} {ops : Array Oper} {S : List Nat} {C : Nat → World → Prop} {Q : Nat → Act → Prop} {i : Nat} {oi : Oper} {v : Value} (hi : ops[i]? = some oi) (hsel : ∀ (j : Nat) (o : Oper) cs b, ops[j]? = some o → o.op ≠ .select cs b) (f : Nat) :
    ∀ (listed : Array Bool) (k : Nat) (a : Act), HeadInv md ops ops.size listed →
      (∀ j oj, ops[j]? = some oj → j ≠ i → listed.getD j true = false → (∀ e ∈ oj.after, Region.binds md e = true → e.on ≠ i) → oi.apart ops oj = true) →
      i ∈ Region.ready md ops listed → S.contains i = false → YB P ops S C i oi v k 0 a →
      anyB P md ops S C Q f (listed.setIfInBounds i true) k (a.put oi.dst v) → anyB P md ops S C Q (f + 1) listed k a := by
  have ne : ∀ (listed : Array Bool), i ∈ Region.ready md ops listed → Region.ready md ops listed ≠ [] := fun listed hr h => by rw [h] at hr; cases hr
  induction f with
  | zero =>
    intro listed k a _ _ hr hsi hy H
    refine ⟨fun h0 => absurd h0 (ne _ hr), fun j hj => ?_⟩
    by_cases hji : j = i
    · subst hji; exact hy.bOp hi H
    · have := ready_mono hj hji
      rw [H.1] at this
      cases this
  | succ f ih =>
    intro listed k a inv hfree hr hsi hy H
    refine ⟨fun h0 => absurd h0 (ne _ hr), fun j hj => ?_⟩
    by_cases hji : j = i
    · subst hji; exact hy.bOp hi H
    · obtain ⟨hjun, oj, hoj, hall⟩ := mem_ready.1 hj
      have hjlt : j < ops.size := (Array.getElem?_eq_some_iff.1 hoj).1
      have hnot : ∀ e ∈ oj.after, Region.binds md e = true → e.on ≠ i := fun e he hb heq => by
        have h1 := hall e he hb
        rw [heq, getD_both (mem_ready.1 hr).1] at h1
        cases h1
      obtain ⟨h1, h2, h3⟩ := Oper.apart_spec (hfree j oj hoj hji hjun hnot)
      obtain ⟨u, d2, hu, hn⟩ := yb_of_bOp hoj (H.2 j (ready_mono hj hji))
      have hu' : YB P ops S C j oj u k d2 a := hu.keep (execOp_put oj (fun cs b => hsel j oj cs b hoj) a oi.dst v h1).symm (wanted_put oj a oi.dst v h1).symm (fun _ => rfl) (Nat.le_refl _)
      refine hu'.bOp hoj (ih (listed.setIfInBounds j true) (k + d2) (a.put oj.dst u) (inv.set hj hjlt) (fun m om hm hmi hun hno => hfree m om hm hmi ?_ hno) (ready_mono hr (Ne.symm hji)) hsi ?_ ?_)
      · by_cases hjm : j = m
        · subst hjm; exact hjun
        · rwa [getD_set_ne true hjm] at hun
      · exact hy.keep (execOp_put oi (fun cs b => hsel i oi cs b hi) a oj.dst u h3) (wanted_put oi a oj.dst u h3) (fun hi' => by rw [hsi] at hi'; cases hi') (Nat.le_add_right _ _)
      · rw [Array.setIfInBounds_comm _ _ hji, ← Act.put_comm a v u h2]
        exact hn

/-- A turn that bars all others. -/
theorem anyB_turn {P : Program} {md : Region.Mode} {ops : Array Oper} {S : List Nat} {C : Nat → World → Prop} {Q : Nat → Act → Prop} {i f k : Nat} {listed : Array Bool} {a : Act} (hr : Region.ready md ops listed = [i])
    (h : bOp P ops S C i (anyB P md ops S C Q f (listed.setIfInBounds i true)) k a) : anyB P md ops S C Q (f + 1) listed k a := by
  refine ⟨fun h0 => (by rw [hr] at h0; cases h0), fun j hj => ?_⟩
  rw [hr] at hj
  obtain rfl : j = i := by simpa using hj
  exact h
def barFrom (md : Region.Mode) (ops : Array Oper) (S : List Nat) : Nat → Nat → Array Bool → Bool
  | 0, _, _ => true
  | f + 1, p, listed => (!S.contains p || Region.ready md ops listed == [p]) && barFrom md ops S f (p + 1) (listed.setIfInBounds p true)

/-- The walk, in the order of the text. -/
def wpBar (P : Program) (ops : Array Oper) (S : List Nat) (C : Nat → World → Prop) (Q : Nat → Act → Prop) : List Oper → Nat → Nat → Act → Prop
  | [], _, k, a => Q k a
  | o :: rest, p, k, a =>
    if Region.wanted o (yielded ops a.tmps) then
      (if S.contains p then ∃ v, (∀ W, C k W → YS P o a (C (k + 1)) W v) ∧ wpBar P ops S C Q rest (p + 1) (k + 1) (a.put o.dst v) else ∃ v, (∀ j W, k ≤ j → C j W → YS P o a (C j) W v) ∧ wpBar P ops S C Q rest (p + 1) k (a.put o.dst v))
    else wpBar P ops S C Q rest (p + 1) k (a.put o.dst undef)

theorem bar_nil {P : Program} {ops : Array Oper} {S : List Nat} {C : Nat → World → Prop} {Q : Nat → Act → Prop} {p k : Nat} {a : Act} (h : Q k a) : wpBar P ops S C Q [] p k a := h
/-- What only reads. -/
theorem bar_read {P : Program} {ops : Array Oper} {S : List Nat} {C : Nat → World → Prop} {Q : Nat → Act → Prop} {o : Oper} {rest : List Oper} {p k : Nat} {a : Act} (hw : Region.wanted o (yielded ops a.tmps) = true) (hs : S.contains p = false)
    (h : ∃ v, (∀ j W, k ≤ j → C j W → YS P o a (C j) W v) ∧ ∀ K : Act → Prop, (∀ a, wpBar P ops S C Q rest (p + 1) k a → K a) → K (a.put o.dst v)) : wpBar P ops S C Q (o :: rest) p k a := by
  obtain ⟨v, h1, h2⟩ := h
  unfold wpBar
  rw [if_pos hw, if_neg (by rw [hs]; exact Bool.false_ne_true)]
  exact ⟨v, h1, h2 _ (fun _ h => h)⟩
/-- What turns the world. -/
theorem bar_turn {P : Program} {ops : Array Oper} {S : List Nat} {C : Nat → World → Prop} {Q : Nat → Act → Prop} {o : Oper} {rest : List Oper} {p k : Nat} {a : Act} (hw : Region.wanted o (yielded ops a.tmps) = true) (hs : S.contains p = true)
    (h : ∃ v, (∀ W, C k W → YS P o a (C (k + 1)) W v) ∧ ∀ K : Act → Prop, (∀ a, wpBar P ops S C Q rest (p + 1) (k + 1) a → K a) → K (a.put o.dst v)) : wpBar P ops S C Q (o :: rest) p k a := by
  obtain ⟨v, h1, h2⟩ := h
  unfold wpBar
  rw [if_pos hw, if_pos hs]
  exact ⟨v, h1, h2 _ (fun _ h => h)⟩
/-- What is not wanted. -/
theorem bar_skip {P : Program} {ops : Array Oper} {S : List Nat} {C : Nat → World → Prop} {Q : Nat → Act → Prop} {o : Oper} {rest : List Oper} {p k : Nat} {a : Act} (hw : Region.wanted o (yielded ops a.tmps) = false)
    (h : ∀ K : Act → Prop, (∀ a, wpBar P ops S C Q rest (p + 1) k a → K a) → K (a.put o.dst undef)) : wpBar P ops S C Q (o :: rest) p k a := by
  unfold wpBar
  rw [if_neg (by rw [hw]; exact Bool.false_ne_true)]
  exact h _ (fun _ h => h)

theorem anyB_lex {P : Program} {md : Region.Mode} {ops : Array Oper} {S : List Nat} {C : Nat → World → Prop} {Q : Nat → Act → Prop} (hsel : Region.noSelect ops = true) (l : List Oper) :
    ∀ (p : Nat) (listed : Array Bool) (k : Nat) (a : Act), (∀ j, l[j]? = ops[p + j]?) → HeadInv md ops ops.size listed → Region.lexFrom md ops l.length p listed = true → barFrom md ops S l.length p listed = true → wpBar P ops S C Q l p k a → anyB P md ops S C Q l.length listed k a := by
  induction l with
  | nil => intro p listed k a _ _ hB _ h; exact ⟨by simpa [Region.lexFrom] using hB, h⟩
  | cons o l ih =>
    intro p listed k a hl inv hB hF h
    have h0 : ops[p]? = some o := by simpa using (hl 0).symm
    simp only [List.length_cons, Region.lexFrom, Bool.and_eq_true] at hB
    have hr : p ∈ Region.ready md ops listed := by simpa using hB.1.1
    have hst : bOp P ops S C p (fun k a => wpBar P ops S C Q l (p + 1) k a) k a := by unfold bOp; simp only [h0]; exact h
    simp only [List.length_cons, barFrom, Bool.and_eq_true, Bool.or_eq_true, Bool.not_eq_true'] at hF
    have hl' : ∀ j, l[j]? = ops[p + 1 + j]? := fun j => by
      have := hl (j + 1)
      simpa [Nat.add_assoc, Nat.add_comm 1 j] using this
    have inv' := inv.set hr (Array.getElem?_eq_some_iff.1 h0).1
    by_cases hs : S.contains p = true
    · have hrd : Region.ready md ops listed = [p] := by
        rcases hF.1 with h1 | h1
        · rw [hs] at h1; cases h1
        · simpa using h1
      exact anyB_turn hrd (bOp_mono (fun k' a' h' => ih (p + 1) _ k' a' hl' inv' hB.2 hF.2 h') hst)
    · obtain ⟨v, d, hy, hK⟩ := yb_of_bOp h0 hst
      have hsf : S.contains p = false := by simpa using hs
      obtain rfl : d = 0 := by
        rcases hy with ⟨_, h1, _⟩ | ⟨_, _, h1, _⟩ | ⟨_, h1, _⟩
        · rw [hsf] at h1; cases h1
        · exact h1
        · exact h1
      exact anyB_first h0 (Region.noSelect_spec hsel) l.length listed k a inv (Region.free_spec h0 hB.1.2) hr hsf hy (ih (p + 1) _ _ _ hl' inv' hB.2 hF.2 hK)

theorem wp_region_barred {P : Program} {id : Nat} {Q : Exit → Act → World → Prop} {a : Act} {w : World} {l : List Oper} (S : List Nat) (C : Nat → World → Prop) (hm : P.follows .mixedOrders = true) (hB : Region.lexB .any l.toArray = true) (hS : barFrom .any l.toArray S l.length 0 (Array.replicate l.toArray.size false) = true) (hC : C 0 w.drew)
    (h : wpBar P l.toArray S C (fun k a' => ∀ w', C k w' → Q .normal a' w') l 0 0 a) : (Code.region id l.toArray true).wp P Q a w := by
  simp only [Region.lexB, Bool.and_eq_true] at hB
  have inv0 : HeadInv .any l.toArray l.toArray.size (Array.replicate l.toArray.size false) :=
    ⟨by simp, fun j oj _ hl => (by rw [getD_replicate_false] at hl; cases hl), fun t h1 h2 => by omega⟩
  have H := anyB_lex (md := .any) hB.1 l 0 _ 0 a (by simp) inv0 (by simpa using hB.2) hS h
  refine wp_region_any hm (wpAny_of_anyB (S := S) (Q := fun k a' => ∀ w', C k w' → Q .normal a' w') (fun k a w' hw' h => h w' hw') _ _ 0 _ _ hC ?_)
  simpa using H
end Go.Proofs.Ytkcmpipipelgoaa
/- As Barred, but what a turn yields is a VARIABLE (the tape picks blocks and capacities): the stage is the list of what the turns have yielded so far, and the rest is walked for each value that can come out. -/
namespace Go.Proofs.Ytkcmpipipelgoaa
open Go

/-- Operation o, carried out as frame a has it, yields some v and leaves a world of C v, whatever frame the value is put into. -/
def YV (P : Program) (o : Oper) (a : Act) (C : Value → World → Prop) (W : World) : Prop :=
  ∀ (b : Act) (K : Act → World → Prop) (Q : Exit → Act → World → Prop), (∀ v W', C v W' → K (b.put o.dst v) W') → o.upon P b K Q ((execOp a.eval o).run P W)

theorem YV.same {P : Program} {o : Oper} {a a' : Act} {C : Value → World → Prop} {W : World} (h : YV P o a C W) (he : execOp a'.eval o = execOp a.eval o) : YV P o a' C W := by
  unfold YV at *
  rw [he]; exact h

/-- One operation at place i, behind the turns s. -/
def vOp (P : Program) (ops : Array Oper) (S : List Nat) (C : List Value → World → Prop) (i : Nat) (K : List Value → Act → Prop) (s : List Value) (a : Act) : Prop :=
  match ops[i]? with
  | none => K s a
  | some o =>
    if Region.wanted o (yielded ops a.tmps) then
      (if S.contains i then (∀ W, C s W → YV P o a (fun v => C (s ++ [v])) W) ∧ (∀ v, (∃ W', C (s ++ [v]) W') → K (s ++ [v]) (a.put o.dst v)) else ∃ v, (∀ s' W, C (s ++ s') W → YS P o a (C (s ++ s')) W v) ∧ K s (a.put o.dst v))
    else K s (a.put o.dst undef)

theorem vOp_mono {P : Program} {ops : Array Oper} {S : List Nat} {C : List Value → World → Prop} {i : Nat} {K K' : List Value → Act → Prop} {s : List Value} {a : Act} (h : ∀ s a, K s a → K' s a) (hh : vOp P ops S C i K s a) : vOp P ops S C i K' s a := by
  unfold vOp at *
  split
  · rename_i ho; simp only [ho] at hh; exact h _ _ hh
  · rename_i o ho
    simp only [ho] at hh
    split
    · rename_i hw
      simp only [hw, if_true] at hh
      split
      · rename_i hs; rw [if_pos hs] at hh; obtain ⟨h1, h2⟩ := hh; exact ⟨h1, fun v hv => h _ _ (h2 v hv)⟩
      · rename_i hs; rw [if_neg hs] at hh; obtain ⟨v, h1, h2⟩ := hh; exact ⟨v, h1, h _ _ h2⟩
    · rename_i hw; rw [if_neg hw] at hh; exact h _ _ hh

/-- Whatever order is picked from here on. -/
def anyV (P : Program) (md : Region.Mode) (ops : Array Oper) (S : List Nat) (C : List Value → World → Prop) (Q : List Value → Act → Prop) : Nat → Array Bool → List Value → Act → Prop
  | 0, listed, s, a => Region.ready md ops listed = [] ∧ Q s a
  | f + 1, listed, s, a => (Region.ready md ops listed = [] → Q s a) ∧ ∀ i ∈ Region.ready md ops listed, vOp P ops S C i (anyV P md ops S C Q f (listed.setIfInBounds i true)) s a

theorem wpOp_of_vOp {P : Program} {ops : Array Oper} {S : List Nat} {C : List Value → World → Prop} {i : Nat} {s : List Value} {K : List Value → Act → Prop} {K' : Act → World → Prop} {Q' : Exit → Act → World → Prop} {a : Act} {w : World} (hC : C s w) (h : ∀ s a w', C s w' → K s a → K' a w') (hh : vOp P ops S C i K s a) : wpOp P ops Q' i K' a w := by
  unfold vOp at hh
  unfold wpOp
  split
  · rename_i ho; simp only [ho] at hh; exact h _ _ _ hC hh
  · rename_i o ho
    simp only [ho] at hh
    split
    · rename_i hw
      simp only [hw, if_true] at hh
      left
      split at hh
      · obtain ⟨h1, h2⟩ := hh
        exact h1 w hC a K' Q' (fun v W' hW' => h _ _ _ hW' (h2 v ⟨W', hW'⟩))
      · obtain ⟨v, h1, h2⟩ := hh
        have h1' := h1 [] w (by simpa using hC) a K' Q'
        refine h1' (fun W' hW' => h _ _ _ (by simpa using hW') h2)
    · rename_i hw; rw [if_neg hw] at hh; exact h _ _ _ hC hh

theorem wpAny_of_anyV {P : Program} {md : Region.Mode} {ops : Array Oper} {S : List Nat} {C : List Value → World → Prop} {Q : List Value → Act → Prop} {Q' : Exit → Act → World → Prop} (hQ : ∀ s a w, C s w → Q s a → Q' .normal a w) (f : Nat) :
    ∀ (listed : Array Bool) (s : List Value) (a : Act) (w : World), C s w → anyV P md ops S C Q f listed s a → wpAny P md ops Q' f listed a w := by
  induction f with
  | zero => intro listed s a w hw h; exact ⟨h.1, hQ _ _ _ hw h.2⟩
  | succ f ih => intro listed s a w hw h; exact ⟨fun h0 => hQ _ _ _ hw (h.1 h0), fun i hi => wpOp_of_vOp hw (fun s' a' w' hw' h' => ih _ s' a' w' hw' h') (h.2 i hi)⟩

/-- What a reading operation does in frame a from stage s on. -/
def YR (P : Program) (ops : Array Oper) (C : List Value → World → Prop) (o : Oper) (v : Value) (s : List Value) (a : Act) : Prop :=
  (Region.wanted o (yielded ops a.tmps) = true ∧ ∀ s' W, C (s ++ s') W → YS P o a (C (s ++ s')) W v) ∨
  (Region.wanted o (yielded ops a.tmps) = false ∧ v = undef)

theorem YR.vOp {P : Program} {ops : Array Oper} {S : List Nat} {C : List Value → World → Prop} {i : Nat} {o : Oper} {v : Value} {s : List Value} {a : Act} (hi : ops[i]? = some o) (hs : S.contains i = false) (hy : YR P ops C o v s a) {K : List Value → Act → Prop} (h : K s (a.put o.dst v)) : vOp P ops S C i K s a := by
  unfold Go.Proofs.Ytkcmpipipelgoaa.vOp
  simp only [hi]
  rcases hy with ⟨hw, hv⟩ | ⟨hw, rfl⟩
  · simp only [hw, hs, if_true, Bool.false_eq_true, if_false]; exact ⟨v, hv, h⟩
  · simp only [hw, Bool.false_eq_true, if_false]; exact h

theorem yr_of_vOp {P : Program} {ops : Array Oper} {S : List Nat} {C : List Value → World → Prop} {i : Nat} {o : Oper} {s : List Value} {a : Act} {K : List Value → Act → Prop} (hi : ops[i]? = some o) (hs : S.contains i = false) (h : vOp P ops S C i K s a) : ∃ v, YR P ops C o v s a ∧ K s (a.put o.dst v) := by
  unfold vOp at h
  simp only [hi] at h
  by_cases hw : Region.wanted o (yielded ops a.tmps) = true
  · simp only [hw, if_true] at h
    rw [if_neg (by rw [hs]; exact Bool.false_ne_true)] at h
    obtain ⟨v, h1, h2⟩ := h
    exact ⟨v, .inl ⟨hw, h1⟩, h2⟩
  · rw [if_neg hw] at h
    exact ⟨undef, .inr ⟨by simpa using hw, rfl⟩, h⟩

theorem YR.keep {P : Program} {ops : Array Oper} {C : List Value → World → Prop} {o : Oper} {v : Value} {s : List Value} {a a' : Act} (hy : YR P ops C o v s a) (he : execOp a'.eval o = execOp a.eval o)
    (hw : Region.wanted o (yielded ops a'.tmps) = Region.wanted o (yielded ops a.tmps)) (t : List Value) : YR P ops C o v (s ++ t) a' := by
  rcases hy with ⟨h1, h4⟩ | ⟨h1, h3⟩
  · refine .inl ⟨hw.trans h1, fun s' W hW => ?_⟩
    rw [List.append_assoc] at hW ⊢
    exact (h4 (t ++ s') W hW).same he
  · exact .inr ⟨hw.trans h1, h3⟩

/-- Another operation, in the frame without what was put. -/
theorem vOp_put {P : Program} {ops : Array Oper} {S : List Nat} {C : List Value → World → Prop} {j : Nat} {oj : Oper} {s : List Value} {a b : Act} {K K' : List Value → Act → Prop} (hj : ops[j]? = some oj) (he : execOp a.eval oj = execOp b.eval oj) (hw : Region.wanted oj (yielded ops a.tmps) = Region.wanted oj (yielded ops b.tmps))
    (hh : vOp P ops S C j K s b) (hK : ∀ t u, K (s ++ t) (b.put oj.dst u) → K' (s ++ t) (a.put oj.dst u)) : vOp P ops S C j K' s a := by
  unfold vOp at *
  simp only [hj] at *
  rw [hw]
  split
  · rename_i h1
    rw [if_pos h1] at hh
    split
    · rename_i h2
      rw [if_pos h2] at hh
      exact ⟨fun W hW => (hh.1 W hW).same he, fun v hv => hK [v] v (hh.2 v hv)⟩
    · rename_i h2
      rw [if_neg h2] at hh
      obtain ⟨v, h3, h4⟩ := hh
      have := hK [] v (by simpa using h4)
      exact ⟨v, fun s' W hW => (h3 s' W hW).same he, by simpa using this⟩
  · rename_i h1
    rw [if_neg h1] at hh
    have := hK [] undef (by simpa using hh)
    simpa using this

/-- A reading operation that may come up now may be taken first. -/
theorem anyV_first {P : Program} {md : Region.Mode} {ops : Array Oper} {S : List Nat} {C : List Value → World → Prop} {Q : List Value → Act → Prop} {i : Nat} {oi : Oper} {v : Value} (hi : ops[i]? = some oi) (hsi : S.contains i = false) (hsel : ∀ (j : Nat) (o : Oper) cs b, ops[j]? = some o → o.op ≠ .select cs b) (f : Nat) :
    ∀ (listed : Array Bool) (s : List Value) (a : Act), HeadInv md ops ops.size listed →
      (∀ j oj, ops[j]? = some oj → j ≠ i → listed.getD j true = false → (∀ e ∈ oj.after, Region.binds md e = true → e.on ≠ i) → oi.apart ops oj = true) →
      i ∈ Region.ready md ops listed → YR P ops C oi v s a →
      anyV P md ops S C Q f (listed.setIfInBounds i true) s (a.put oi.dst v) → anyV P md ops S C Q (f + 1) listed s a := by
  have ne : ∀ (listed : Array Bool), i ∈ Region.ready md ops listed → Region.ready md ops listed ≠ [] := fun listed hr h => by rw [h] at hr; cases hr
  induction f with
  | zero =>
    intro listed s a _ _ hr hy H
    refine ⟨fun h0 => absurd h0 (ne _ hr), fun j hj => ?_⟩
    by_cases hji : j = i
    · subst hji; exact hy.vOp hi hsi H
    · have := ready_mono hj hji
      rw [H.1] at this
      cases this
  | succ f ih =>
    intro listed s a inv hfree hr hy H
    refine ⟨fun h0 => absurd h0 (ne _ hr), fun j hj => ?_⟩
    by_cases hji : j = i
    · subst hji; exact hy.vOp hi hsi H
    · obtain ⟨hjun, oj, hoj, hall⟩ := mem_ready.1 hj
      have hjlt : j < ops.size := (Array.getElem?_eq_some_iff.1 hoj).1
      have hnot : ∀ e ∈ oj.after, Region.binds md e = true → e.on ≠ i := fun e he hb heq => by
        have h1 := hall e he hb
        rw [heq, getD_both (mem_ready.1 hr).1] at h1
        cases h1
      obtain ⟨h1, h2, h3⟩ := Oper.apart_spec (hfree j oj hoj hji hjun hnot)
      refine vOp_put hoj (execOp_put oj (fun cs b => hsel j oj cs b hoj) a oi.dst v h1).symm (wanted_put oj a oi.dst v h1).symm (H.2 j (ready_mono hj hji)) (fun t u hn => ?_)
      refine ih (listed.setIfInBounds j true) (s ++ t) (a.put oj.dst u) (inv.set hj hjlt) (fun m om hm hmi hun hno => hfree m om hm hmi ?_ hno) (ready_mono hr (Ne.symm hji)) ?_ ?_
      · by_cases hjm : j = m
        · subst hjm; exact hjun
        · rwa [getD_set_ne true hjm] at hun
      · exact hy.keep (execOp_put oi (fun cs b => hsel i oi cs b hi) a oj.dst u h3) (wanted_put oi a oj.dst u h3) t
      · rw [Array.setIfInBounds_comm _ _ hji, ← Act.put_comm a v u h2]
        exact hn

/-- A turn that bars all others. -/
theorem anyV_turn {P : Program} {md : Region.Mode} {ops : Array Oper} {S : List Nat} {C : List Value → World → Prop} {Q : List Value → Act → Prop} {i f : Nat} {s : List Value} {listed : Array Bool} {a : Act} (hr : Region.ready md ops listed = [i])
    (h : vOp P ops S C i (anyV P md ops S C Q f (listed.setIfInBounds i true)) s a) : anyV P md ops S C Q (f + 1) listed s a := by
  refine ⟨fun h0 => (by rw [hr] at h0; cases h0), fun j hj => ?_⟩
  rw [hr] at hj
  obtain rfl : j = i := by simpa using hj
  exact h

/-- The walk, in the order of the text. -/
def wpBarv (P : Program) (ops : Array Oper) (S : List Nat) (C : List Value → World → Prop) (Q : List Value → Act → Prop) : List Oper → Nat → List Value → Act → Prop
  | [], _, s, a => Q s a
  | o :: rest, p, s, a =>
    if Region.wanted o (yielded ops a.tmps) then
      (if S.contains p then (∀ W, C s W → YV P o a (fun v => C (s ++ [v])) W) ∧ (∀ v, (∃ W', C (s ++ [v]) W') → wpBarv P ops S C Q rest (p + 1) (s ++ [v]) (a.put o.dst v)) else ∃ v, (∀ s' W, C (s ++ s') W → YS P o a (C (s ++ s')) W v) ∧ wpBarv P ops S C Q rest (p + 1) s (a.put o.dst v))
    else wpBarv P ops S C Q rest (p + 1) s (a.put o.dst undef)

theorem barv_nil {P : Program} {ops : Array Oper} {S : List Nat} {C : List Value → World → Prop} {Q : List Value → Act → Prop} {p : Nat} {s : List Value} {a : Act} (h : Q s a) : wpBarv P ops S C Q [] p s a := h
/-- What only reads. -/
theorem barv_read {P : Program} {ops : Array Oper} {S : List Nat} {C : List Value → World → Prop} {Q : List Value → Act → Prop} {o : Oper} {rest : List Oper} {p : Nat} {s : List Value} {a : Act} (hw : Region.wanted o (yielded ops a.tmps) = true) (hs : S.contains p = false)
    (h : ∃ v, (∀ s' W, C (s ++ s') W → YS P o a (C (s ++ s')) W v) ∧ ∀ K : Act → Prop, (∀ a, wpBarv P ops S C Q rest (p + 1) s a → K a) → K (a.put o.dst v)) : wpBarv P ops S C Q (o :: rest) p s a := by
  obtain ⟨v, h1, h2⟩ := h
  unfold wpBarv
  rw [if_pos hw, if_neg (by rw [hs]; exact Bool.false_ne_true)]
  exact ⟨v, h1, h2 _ (fun _ h => h)⟩
/-- What turns the world. -/
theorem barv_turn {P : Program} {ops : Array Oper} {S : List Nat} {C : List Value → World → Prop} {Q : List Value → Act → Prop} {o : Oper} {rest : List Oper} {p : Nat} {s : List Value} {a : Act} (hw : Region.wanted o (yielded ops a.tmps) = true) (hs : S.contains p = true)
    (h1 : ∀ W, C s W → YV P o a (fun v => C (s ++ [v])) W) (h2 : ∀ v, (∃ W', C (s ++ [v]) W') → ∀ K : Act → Prop, (∀ a, wpBarv P ops S C Q rest (p + 1) (s ++ [v]) a → K a) → K (a.put o.dst v)) : wpBarv P ops S C Q (o :: rest) p s a := by
  unfold wpBarv
  rw [if_pos hw, if_pos hs]
  exact ⟨h1, fun v hv => h2 v hv _ (fun _ h => h)⟩
/-- What is not wanted. -/
theorem barv_skip {P : Program} {ops : Array Oper} {S : List Nat} {C : List Value → World → Prop} {Q : List Value → Act → Prop} {o : Oper} {rest : List Oper} {p : Nat} {s : List Value} {a : Act} (hw : Region.wanted o (yielded ops a.tmps) = false)
    (h : ∀ K : Act → Prop, (∀ a, wpBarv P ops S C Q rest (p + 1) s a → K a) → K (a.put o.dst undef)) : wpBarv P ops S C Q (o :: rest) p s a := by
  unfold wpBarv
  rw [if_neg (by rw [hw]; exact Bool.false_ne_true)]
  exact h _ (fun _ h => h)

theorem anyV_lex {P : Program} {md : Region.Mode} {ops : Array Oper} {S : List Nat} {C : List Value → World → Prop} {Q : List Value → Act → Prop} (hsel : Region.noSelect ops = true) (l : List Oper) :
    ∀ (p : Nat) (listed : Array Bool) (s : List Value) (a : Act), (∀ j, l[j]? = ops[p + j]?) → HeadInv md ops ops.size listed → Region.lexFrom md ops l.length p listed = true → barFrom md ops S l.length p listed = true → wpBarv P ops S C Q l p s a → anyV P md ops S C Q l.length listed s a := by
  induction l with
  | nil => intro p listed s a _ _ hB _ h; exact ⟨by simpa [Region.lexFrom] using hB, h⟩
  | cons o l ih =>
    intro p listed s a hl inv hB hF h
    have h0 : ops[p]? = some o := by simpa using (hl 0).symm
    simp only [List.length_cons, Region.lexFrom, Bool.and_eq_true] at hB
    have hr : p ∈ Region.ready md ops listed := by simpa using hB.1.1
    have hst : vOp P ops S C p (fun s a => wpBarv P ops S C Q l (p + 1) s a) s a := by unfold vOp; simp only [h0]; exact h
    simp only [List.length_cons, barFrom, Bool.and_eq_true, Bool.or_eq_true, Bool.not_eq_true'] at hF
    have hl' : ∀ j, l[j]? = ops[p + 1 + j]? := fun j => by
      have := hl (j + 1)
      simpa [Nat.add_assoc, Nat.add_comm 1 j] using this
    have inv' := inv.set hr (Array.getElem?_eq_some_iff.1 h0).1
    by_cases hs : S.contains p = true
    · have hrd : Region.ready md ops listed = [p] := by
        rcases hF.1 with h1 | h1
        · rw [hs] at h1; cases h1
        · simpa using h1
      exact anyV_turn hrd (vOp_mono (fun s' a' h' => ih (p + 1) _ s' a' hl' inv' hB.2 hF.2 h') hst)
    · have hsf : S.contains p = false := by simpa using hs
      obtain ⟨v, hy, hK⟩ := yr_of_vOp h0 hsf hst
      exact anyV_first h0 hsf (Region.noSelect_spec hsel) l.length listed s a inv (Region.free_spec h0 hB.1.2) hr hy (ih (p + 1) _ _ _ hl' inv' hB.2 hF.2 hK)

theorem wp_region_barv {P : Program} {id : Nat} {Q : Exit → Act → World → Prop} {a : Act} {w : World} {l : List Oper} (S : List Nat) (C : List Value → World → Prop) (hm : P.follows .mixedOrders = true) (hB : Region.lexB .any l.toArray = true) (hS : barFrom .any l.toArray S l.length 0 (Array.replicate l.toArray.size false) = true) (hC : C [] w.drew)
    (h : wpBarv P l.toArray S C (fun s a' => ∀ w', C s w' → Q .normal a' w') l 0 [] a) : (Code.region id l.toArray true).wp P Q a w := by
  simp only [Region.lexB, Bool.and_eq_true] at hB
  have inv0 : HeadInv .any l.toArray l.toArray.size (Array.replicate l.toArray.size false) :=
    ⟨by simp, fun j oj _ hl => (by rw [getD_replicate_false] at hl; cases hl), fun t h1 h2 => by omega⟩
  have H := anyV_lex (md := .any) hB.1 l 0 _ [] a (by simp) inv0 (by simpa using hB.2) hS h
  refine wp_region_any hm (wpAny_of_anyV (S := S) (Q := fun s a' => ∀ w', C s w' → Q .normal a' w') (fun s a w' hw' h => h w' hw') _ _ [] _ _ hC ?_)
  simpa using H
end Go.Proofs.Ytkcmpipipelgoaa
/- A region that draws its order, whose operations only read (they and their callees may draw, and lay blocks), BUT FOR A TAIL THAT IS FORCED (a store at the end): the head is walked once, in the order of the text, in a class of worlds; the tail once in each world of the class. The library has this for one world (Derived/StillTail) and, without a tail, for a class (Derived/Deep/Quiet): here both at once, out of their lemmas. -/
namespace Go.Proofs.Ytkcmpipipelgoaa
set_option maxRecDepth 100000
open Go Go.Sort

/-- Whatever order is picked, for the next f operations, all of them of the head. -/
def headQ (P : Program) (md : Region.Mode) (ops : Array Oper) (C : World → Prop) (n : Nat) (L : Array Bool → Act → Prop) : Nat → Array Bool → Act → Prop
  | 0, listed, a => L listed a
  | f + 1, listed, a => Region.ready md ops listed ≠ [] ∧ ∀ i ∈ Region.ready md ops listed, i < n ∧ qOp P ops C i (headQ P md ops C n L f (listed.setIfInBounds i true)) a

theorem headQ_any {P : Program} {ops : Array Oper} {md : Region.Mode} {C : World → Prop} {n g : Nat} {L : Array Bool → Act → Prop} {Q' : Exit → Act → World → Prop} (hL : ∀ listed a w, C w → L listed a → wpAny P md ops Q' g listed a w) (f : Nat) :
    ∀ (listed : Array Bool) (a : Act) (w : World), C w → headQ P md ops C n L f listed a → wpAny P md ops Q' (f + g) listed a w := by
  induction f with
  | zero => intro listed a w hw h; rw [Nat.zero_add]; exact hL _ _ _ hw h
  | succ f ih =>
    intro listed a w hw h
    rw [Nat.succ_add]
    exact ⟨fun h0 => absurd h0 h.1, fun i hi => wpOp_of_qOp hw (fun a' w' hw' h' => ih _ a' w' hw' h') (h.2 i hi).2⟩

theorem headQ_first {P : Program} {ops : Array Oper} {md : Region.Mode} {C : World → Prop} {n i : Nat} {oi : Oper} {v : Value} {L : Array Bool → Act → Prop} (hi : ops[i]? = some oi) (hsel : ∀ (j : Nat) (o : Oper) cs b, ops[j]? = some o → o.op ≠ .select cs b)
    (hs : Region.sinkB md ops n = true) (hc : Region.chainB md ops n = true) (hn : n < ops.size) (hin : i < n)
    (hdone : ∀ listed a, L listed a → ∀ j ∈ Region.ready md ops listed, n ≤ j) (f : Nat) :
    ∀ (listed : Array Bool) (a : Act), HeadInv md ops n listed →
      (∀ j oj, ops[j]? = some oj → j ≠ i → listed.getD j true = false → (∀ e ∈ oj.after, Region.binds md e = true → e.on ≠ i) → oi.apart ops oj = true) →
      i ∈ Region.ready md ops listed → YieldsIn P ops C oi v a →
      headQ P md ops C n L f (listed.setIfInBounds i true) (a.put oi.dst v) → headQ P md ops C n L (f + 1) listed a := by
  have low : ∀ (listed : Array Bool), HeadInv md ops n listed → i ∈ Region.ready md ops listed → ∀ j ∈ Region.ready md ops listed, j < n := by
    intro listed inv hr j hj
    rcases Nat.lt_or_ge j n with h | h
    · exact h
    · exact absurd hj (tail_waits hs hc hn inv _ i rfl hin (mem_ready.1 hr).1 j h)
  have ne : ∀ (listed : Array Bool), i ∈ Region.ready md ops listed → Region.ready md ops listed ≠ [] := fun listed hr h => by rw [h] at hr; cases hr
  induction f with
  | zero =>
    intro listed a inv _ hr hy H
    refine ⟨ne _ hr, fun j hj => ⟨low _ inv hr j hj, ?_⟩⟩
    by_cases hji : j = i
    · subst hji; exact hy.qOp hi H
    · have h1 := hdone _ _ H j (ready_mono hj hji)
      have h2 := low _ inv hr j hj
      omega
  | succ f ih =>
    intro listed a inv hfree hr hy H
    refine ⟨ne _ hr, fun j hj => ⟨low _ inv hr j hj, ?_⟩⟩
    by_cases hji : j = i
    · subst hji; exact hy.qOp hi H
    · obtain ⟨hjun, oj, hoj, hall⟩ := mem_ready.1 hj
      have hnot : ∀ e ∈ oj.after, Region.binds md e = true → e.on ≠ i := fun e he hb heq => by
        have h1 := hall e he hb
        rw [heq, getD_both (mem_ready.1 hr).1] at h1
        cases h1
      have h2 := qOp_put hoj (hfree j oj hoj hji hjun hnot) (fun cs b => hsel i oi cs b hi) (fun cs b => hsel j oj cs b hoj) hy (H.2 j (ready_mono hj hji)).2
      refine qOp_mono (fun a' h3 => ih (listed.setIfInBounds j true) a' (inv.set hj (low _ inv hr j hj)) (fun k ok hk hki hun hno => hfree k ok hk hki ?_ hno) (ready_mono hr (Ne.symm hji)) h3.1 ?_) h2
      · by_cases hjk : j = k
        · subst hjk; exact hjun
        · rwa [getD_set_ne true hjk] at hun
      · rw [Array.setIfInBounds_comm _ _ hji]
        exact h3.2

theorem headQ_lex {P : Program} {ops : Array Oper} {md : Region.Mode} {C : World → Prop} {n g : Nat} {Lq : Act → Prop} (hsel : Region.noSelect ops = true) (hs : Region.sinkB md ops n = true) (hc : Region.chainB md ops n = true) (hn : n < ops.size) (l : List Oper) :
    ∀ (k : Nat) (listed : Array Bool) (a : Act), (∀ j, j < l.length → l[j]? = ops[k + j]?) → k + l.length = n → HeadInv md ops n listed →
    Region.lexHead md ops g l.length k listed = true → wpQuiet P ops C Lq l a →
    headQ P md ops C n (fun listed' a' => Region.seqB md ops g n listed' = true ∧ Lq a') l.length listed a := by
  induction l with
  | nil =>
    intro k listed a _ hk _ hB h
    obtain rfl : k = n := by simpa using hk
    exact ⟨by simpa [Region.lexHead] using hB, h⟩
  | cons o l ih =>
    intro k listed a hl hk inv hB h
    have h0 : ops[k]? = some o := by simpa using (hl 0 (by simp)).symm
    simp only [List.length_cons, Region.lexHead, Bool.and_eq_true] at hB
    simp only [List.length_cons] at hk
    have hkn : k < n := by omega
    have hr : k ∈ Region.ready md ops listed := by simpa using hB.1.1
    have hq : qOp P ops C k (wpQuiet P ops C Lq l) a := by unfold qOp; simp only [h0]; exact h
    obtain ⟨v, hy, hK⟩ := yieldsIn_of_qOp h0 hq
    refine headQ_first h0 (Region.noSelect_spec hsel) hs hc hn hkn (fun listed' a' hL => seqB_ready hL.1) l.length listed a inv (Region.free_spec h0 hB.1.2) hr hy
      (ih (k + 1) _ _ (fun j hj => ?_) (by omega) (inv.set hr hkn) hB.2 hK)
    have := hl (j + 1) (by simp; omega)
    simpa [Nat.add_assoc, Nat.add_comm 1 j] using this

theorem wp_region_quiet_tail {P : Program} {C : World → Prop} {id : Nat} {Q : Exit → Act → World → Prop} {a : Act} {w : World} {l : List Oper} (n : Nat) (hm : P.follows .mixedOrders = true) (hB : Region.lexTailB .any l.toArray n = true) (hC : C { w with drawn := w.drawn + 1 })
    (h : wpQuiet P l.toArray C (fun a' => ∀ w', C w' → wpList P l.toArray Q (l.drop n) a' w') (l.take n) a) : (Code.region id l.toArray true).wp P Q a w := by
  simp only [Region.lexTailB, Bool.and_eq_true, decide_eq_true_eq] at hB
  obtain ⟨⟨⟨⟨hsel, hn⟩, hs⟩, hc⟩, hlex⟩ := hB
  have hn' : n < l.length := by simpa using hn
  have htl : (l.take n).length = n := by simp; omega
  have hdl : (l.drop n).length = l.toArray.size - n := by simp
  have inv0 : HeadInv .any l.toArray n (Array.replicate l.toArray.size false) :=
    ⟨by simp, fun j oj _ hl => (by rw [getD_replicate_false] at hl; cases hl), fun t _ ht => getD_in (by simpa using ht) (getD_replicate_false _ _)⟩
  have H := headQ_lex (md := .any) (g := l.toArray.size - n) hsel hs hc hn (l.take n) 0 _ a (fun j hj => by
    have hj' : j < n := by rw [htl] at hj; exact hj
    simp [hj']) (by simpa using htl) inv0 (by rw [htl]; exact hlex) h
  refine wp_region_any hm ?_
  have := headQ_any (Q' := Q) (g := l.toArray.size - n) (fun listed a' w' hw hL => by
    have := wpAny_of_seq (md := .any) (Q' := Q) (l.drop n) n listed a' w' (fun j => by simp [List.getElem?_drop]) (by rw [hdl]; exact hL.1) (hL.2 w' hw)
    rwa [hdl] at this) _ _ _ _ hC H
  rw [htl, show n + (l.toArray.size - n) = l.toArray.size by omega] at this
  exact this

/-- At the class 'w, whatever was drawn, with blocks laid behind it'. -/
theorem wp_region_below_tail {P : Program} {id : Nat} {Q : Exit → Act → World → Prop} {a : Act} {w : World} {l : List Oper} (n : Nat) (hm : P.follows .mixedOrders = true) (hB : Region.lexTailB .any l.toArray n = true)
    (h : wpQuiet P l.toArray (fun w' => ∃ p : Regrown, w' = grow (redrawn w p.d) p.os) (fun a' => ∀ w', (∃ p : Regrown, w' = grow (redrawn w p.d) p.os) → wpList P l.toArray Q (l.drop n) a' w') (l.take n) a) : (Code.region id l.toArray true).wp P Q a w :=
  wp_region_quiet_tail (C := fun w' => ∃ p : Regrown, w' = grow (redrawn w p.d) p.os) n hm hB ⟨⟨w.drawn + 1, #[]⟩, by rw [grow_empty]; rfl⟩ h

/-- At the class 'w, whatever was drawn'. -/
theorem wp_region_drew_tail {P : Program} {id : Nat} {Q : Exit → Act → World → Prop} {a : Act} {w : World} {l : List Oper} (n : Nat) (hm : P.follows .mixedOrders = true) (hB : Region.lexTailB .any l.toArray n = true)
    (h : wpQuiet P l.toArray (fun w' => ∃ m, w' = w.drewN m) (fun a' => ∀ w', (∃ m, w' = w.drewN m) → wpList P l.toArray Q (l.drop n) a' w') (l.take n) a) : (Code.region id l.toArray true).wp P Q a w :=
  wp_region_quiet_tail (C := fun w' => ∃ m, w' = w.drewN m) n hm hB ⟨1, rfl⟩ h
end Go.Proofs.Ytkcmpipipelgoaa
/- A region that draws its order: turns whose yield is a variable (Barv), what only reads in ANY order that one likes (not the text's alone), and a tail that is forced (QTail): 'x.f = append(x.f, g())'. -/
namespace Go.Proofs.Ytkcmpipipelgoaa
set_option maxRecDepth 100000
open Go

/-- Whatever order is picked, for the next f operations, all of them of the head. -/
def headV (P : Program) (md : Region.Mode) (ops : Array Oper) (S : List Nat) (C : List Value → World → Prop) (n : Nat) (L : Array Bool → List Value → Act → Prop) : Nat → Array Bool → List Value → Act → Prop
  | 0, listed, s, a => L listed s a
  | f + 1, listed, s, a => Region.ready md ops listed ≠ [] ∧ ∀ i ∈ Region.ready md ops listed, i < n ∧ vOp P ops S C i (headV P md ops S C n L f (listed.setIfInBounds i true)) s a
theorem headV_any {P : Program} {ops : Array Oper} {md : Region.Mode} {S : List Nat} {C : List Value → World → Prop} {n g : Nat} {L : Array Bool → List Value → Act → Prop} {Q' : Exit → Act → World → Prop} (hL : ∀ listed s a w, C s w → L listed s a → wpAny P md ops Q' g listed a w) (f : Nat) :
    ∀ (listed : Array Bool) (s : List Value) (a : Act) (w : World), C s w → headV P md ops S C n L f listed s a → wpAny P md ops Q' (f + g) listed a w := by
  induction f with
  | zero => intro listed s a w hw h; rw [Nat.zero_add]; exact hL _ _ _ _ hw h
  | succ f ih =>
    intro listed s a w hw h
    rw [Nat.succ_add]
    exact ⟨fun h0 => absurd h0 h.1, fun i hi => wpOp_of_vOp hw (fun s' a' w' hw' h' => ih _ s' a' w' hw' h') (h.2 i hi).2⟩
theorem headV_first {P : Program} {ops : Array Oper} {md : Region.Mode} {S : List Nat} {C : List Value → World → Prop} {n i : Nat} {oi : Oper} {v : Value} {L : Array Bool → List Value → Act → Prop} (hi : ops[i]? = some oi) (hsi : S.contains i = false) (hsel : ∀ (j : Nat) (o : Oper) cs b, ops[j]? = some o → o.op ≠ .select cs b)
    (hs : Region.sinkB md ops n = true) (hc : Region.chainB md ops n = true) (hn : n < ops.size) (hin : i < n)
    (hdone : ∀ listed s a, L listed s a → ∀ j ∈ Region.ready md ops listed, n ≤ j) (f : Nat) :
    ∀ (listed : Array Bool) (s : List Value) (a : Act), HeadInv md ops n listed →
      (∀ j oj, ops[j]? = some oj → j ≠ i → listed.getD j true = false → (∀ e ∈ oj.after, Region.binds md e = true → e.on ≠ i) → oi.apart ops oj = true) →
      i ∈ Region.ready md ops listed → YR P ops C oi v s a →
      headV P md ops S C n L f (listed.setIfInBounds i true) s (a.put oi.dst v) → headV P md ops S C n L (f + 1) listed s a := by
  have low : ∀ (listed : Array Bool), HeadInv md ops n listed → i ∈ Region.ready md ops listed → ∀ j ∈ Region.ready md ops listed, j < n := by
    intro listed inv hr j hj
    rcases Nat.lt_or_ge j n with h | h
    · exact h
    · exact absurd hj (tail_waits hs hc hn inv _ i rfl hin (mem_ready.1 hr).1 j h)
  have ne : ∀ (listed : Array Bool), i ∈ Region.ready md ops listed → Region.ready md ops listed ≠ [] := fun listed hr h => by rw [h] at hr; cases hr
  induction f with
  | zero =>
    intro listed s a inv _ hr hy H
    refine ⟨ne _ hr, fun j hj => ⟨low _ inv hr j hj, ?_⟩⟩
    by_cases hji : j = i
    · subst hji; exact hy.vOp hi hsi H
    · have h1 := hdone _ _ _ H j (ready_mono hj hji)
      have h2 := low _ inv hr j hj
      omega
  | succ f ih =>
    intro listed s a inv hfree hr hy H
    refine ⟨ne _ hr, fun j hj => ⟨low _ inv hr j hj, ?_⟩⟩
    by_cases hji : j = i
    · subst hji; exact hy.vOp hi hsi H
    · obtain ⟨hjun, oj, hoj, hall⟩ := mem_ready.1 hj
      have hnot : ∀ e ∈ oj.after, Region.binds md e = true → e.on ≠ i := fun e he hb heq => by
        have h1 := hall e he hb
        rw [heq, getD_both (mem_ready.1 hr).1] at h1
        cases h1
      obtain ⟨h1, h2, h3⟩ := Oper.apart_spec (hfree j oj hoj hji hjun hnot)
      refine vOp_put hoj (execOp_put oj (fun cs b => hsel j oj cs b hoj) a oi.dst v h1).symm (wanted_put oj a oi.dst v h1).symm (H.2 j (ready_mono hj hji)).2 (fun t u hn' => ?_)
      refine ih (listed.setIfInBounds j true) (s ++ t) (a.put oj.dst u) (inv.set hj (low _ inv hr j hj)) (fun m om hm hmi hun hno => hfree m om hm hmi ?_ hno) (ready_mono hr (Ne.symm hji)) ?_ ?_
      · by_cases hjm : j = m
        · subst hjm; exact hjun
        · rwa [getD_set_ne true hjm] at hun
      · exact hy.keep (execOp_put oi (fun cs b => hsel i oi cs b hi) a oj.dst u h3) (wanted_put oi a oj.dst u h3) t
      · rw [Array.setIfInBounds_comm _ _ hji, ← Act.put_comm a v u h2]
        exact hn'
/-- The walk, in this order. -/
def wpOrd (P : Program) (ops : Array Oper) (S : List Nat) (C : List Value → World → Prop) (Lq : List Value → Act → Prop) : List Nat → List Value → Act → Prop
  | [], s, a => Lq s a
  | i :: r, s, a => vOp P ops S C i (wpOrd P ops S C Lq r) s a
/-- Is it an order in which each may come: what reads, free of the others; a turn alone? -/
def ordB (md : Region.Mode) (ops : Array Oper) (S : List Nat) (n g : Nat) : List Nat → Array Bool → Bool
  | [], listed => Region.seqB md ops g n listed
  | i :: r, listed => decide (i < n) && (Region.ready md ops listed).contains i && (if S.contains i then Region.ready md ops listed == [i] else Region.free md ops listed i) && ordB md ops S n g r (listed.setIfInBounds i true)
theorem headV_ord {P : Program} {ops : Array Oper} {md : Region.Mode} {S : List Nat} {C : List Value → World → Prop} {n g : Nat} {Lq : List Value → Act → Prop} (hsel : Region.noSelect ops = true) (hs : Region.sinkB md ops n = true) (hc : Region.chainB md ops n = true) (hn : n < ops.size) (ord : List Nat) :
    ∀ (listed : Array Bool) (s : List Value) (a : Act), HeadInv md ops n listed → ordB md ops S n g ord listed = true → wpOrd P ops S C Lq ord s a →
    headV P md ops S C n (fun listed' s' a' => Region.seqB md ops g n listed' = true ∧ Lq s' a') ord.length listed s a := by
  induction ord with
  | nil => intro listed s a _ hB h; exact ⟨hB, h⟩
  | cons i r ih =>
    intro listed s a inv hB h
    simp only [ordB, Bool.and_eq_true, decide_eq_true_eq] at hB
    obtain ⟨⟨⟨hin, hrd⟩, hF⟩, hB⟩ := hB
    have hr : i ∈ Region.ready md ops listed := by simpa using hrd
    obtain ⟨_, oi, hi, _⟩ := mem_ready.1 hr
    have inv' := inv.set hr hin
    by_cases hSi : S.contains i = true
    · rw [if_pos hSi] at hF
      have hrd1 : Region.ready md ops listed = [i] := by simpa using hF
      refine ⟨by rw [hrd1]; simp, fun j hj => ?_⟩
      rw [hrd1] at hj
      obtain rfl : j = i := by simpa using hj
      exact ⟨hin, vOp_mono (fun s' a' h' => ih _ s' a' inv' hB h') h⟩
    · rw [if_neg hSi] at hF
      have hsf : S.contains i = false := by simpa using hSi
      obtain ⟨v, hy, hK⟩ := yr_of_vOp hi hsf h
      exact headV_first hi hsf (Region.noSelect_spec hsel) hs hc hn hin (fun listed' s' a' hL => seqB_ready hL.1) r.length listed s a inv (Region.free_spec hi hF) hr hy (ih _ _ _ inv' hB hK)
def ordTailB (md : Region.Mode) (ops : Array Oper) (S : List Nat) (n : Nat) (ord : List Nat) : Bool :=
  Region.noSelect ops && decide (n < ops.size) && Region.sinkB md ops n && Region.chainB md ops n && decide (ord.length = n) && ordB md ops S n (ops.size - n) ord (Array.replicate ops.size false)
theorem wp_region_ordv {P : Program} {id : Nat} {Q : Exit → Act → World → Prop} {a : Act} {w : World} {l : List Oper} (S : List Nat) (C : List Value → World → Prop) (n : Nat) (ord : List Nat) (hm : P.follows .mixedOrders = true) (hB : ordTailB .any l.toArray S n ord = true) (hC : C [] w.drew)
    (h : wpOrd P l.toArray S C (fun s a' => ∀ w', C s w' → wpList P l.toArray Q (l.drop n) a' w') ord [] a) : (Code.region id l.toArray true).wp P Q a w := by
  simp only [ordTailB, Bool.and_eq_true, decide_eq_true_eq] at hB
  obtain ⟨⟨⟨⟨⟨hsel, hn⟩, hs⟩, hc⟩, hlen⟩, hord⟩ := hB
  have hdl : (l.drop n).length = l.toArray.size - n := by simp
  have inv0 : HeadInv .any l.toArray n (Array.replicate l.toArray.size false) :=
    ⟨by simp, fun j oj _ hl => (by rw [getD_replicate_false] at hl; cases hl), fun t _ ht => getD_in (by simpa using ht) (getD_replicate_false _ _)⟩
  have H := headV_ord (md := .any) (g := l.toArray.size - n) hsel hs hc hn ord _ [] a inv0 hord h
  refine wp_region_any hm ?_
  have := headV_any (Q' := Q) (g := l.toArray.size - n) (fun listed s a' w' hw hL => by
    have := wpAny_of_seq (md := .any) (Q' := Q) (l.drop n) n listed a' w' (fun j => by simp [List.getElem?_drop]) (by rw [hdl]; exact hL.1) (hL.2 w' hw)
    rwa [hdl] at this) _ _ _ _ _ hC H
  rw [hlen, show n + (l.toArray.size - n) = l.toArray.size by omega] at this
  exact this
theorem ordv_nil {P : Program} {ops : Array Oper} {S : List Nat} {C : List Value → World → Prop} {Lq : List Value → Act → Prop} {s : List Value} {a : Act} (h : Lq s a) : wpOrd P ops S C Lq [] s a := h
/-- What only reads. -/
theorem ordv_read {P : Program} {ops : Array Oper} {S : List Nat} {C : List Value → World → Prop} {Lq : List Value → Act → Prop} {i : Nat} {o : Oper} {r : List Nat} {s : List Value} {a : Act} (hi : ops[i]? = some o) (hw : Region.wanted o (yielded ops a.tmps) = true) (hs : S.contains i = false)
    (h : ∃ v, (∀ s' W, C (s ++ s') W → YS P o a (C (s ++ s')) W v) ∧ ∀ K : Act → Prop, (∀ a, wpOrd P ops S C Lq r s a → K a) → K (a.put o.dst v)) : wpOrd P ops S C Lq (i :: r) s a := by
  obtain ⟨v, h1, h2⟩ := h
  unfold wpOrd vOp
  simp only [hi]
  rw [if_pos hw, if_neg (by rw [hs]; exact Bool.false_ne_true)]
  exact ⟨v, h1, h2 _ (fun _ h => h)⟩
/-- What turns the world. -/
theorem ordv_turn {P : Program} {ops : Array Oper} {S : List Nat} {C : List Value → World → Prop} {Lq : List Value → Act → Prop} {i : Nat} {o : Oper} {r : List Nat} {s : List Value} {a : Act} (hi : ops[i]? = some o) (hw : Region.wanted o (yielded ops a.tmps) = true) (hs : S.contains i = true)
    (h1 : ∀ W, C s W → YV P o a (fun v => C (s ++ [v])) W) (h2 : ∀ v, (∃ W', C (s ++ [v]) W') → ∀ K : Act → Prop, (∀ a, wpOrd P ops S C Lq r (s ++ [v]) a → K a) → K (a.put o.dst v)) : wpOrd P ops S C Lq (i :: r) s a := by
  unfold wpOrd vOp
  simp only [hi]
  rw [if_pos hw, if_pos hs]
  exact ⟨h1, fun v hv => h2 v hv _ (fun _ h => h)⟩
/-- An append as a turn. -/
theorem yv_append {P : Program} {o : Oper} {a : Act} {W : World} {C : Value → World → Prop} (s x : Operand) (t : TypeId) (ho : o.op = .call { callee := .builtin .append, args := #[s, x], argTypes := #[t, t] }) (v sl : Value) (hs : a.eval s = v) (hx : a.eval x = sl) {v' : Value} {w' : World}
    (hr : (Builtin.append_ #[t, t] o.type #[v, sl]).run P W = .ok v' w') (hC : C v' w') : YV P o a C W := by
  intro b K Q hK
  unfold execOp
  simp only [ho, resolve, invoke, builtin, Sem.run_bind, Sem.run_pure, Result.andThen_ok, List.map_toArray, List.map_cons, List.map_nil, hs, hx, hr]
  exact hK _ _ hC
end Go.Proofs.Ytkcmpipipelgoaa
