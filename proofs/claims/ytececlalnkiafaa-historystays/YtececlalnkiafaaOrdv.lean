import Derived.Test.YtececlalnkiafaaBarv
import Derived.Test.YtececlalnkiafaaQTail
/- A region that draws its order: turns whose yield is a variable (Barv), what only reads in ANY order that one likes (not the text's alone), and a tail that is forced (QTail): 'x.f = append(x.f, g())'. -/
namespace Go.Proofs.Ytececlalnkiafaa
set_option maxRecDepth 100000
open Go

/-- Whatever order is picked, for the next f operations, all of them of the head. -/
def headV (P : Program) (md : Region.Mode) (ops : Array Oper) (S : List Nat) (C : List Value → World → Prop) (n : Nat) (L : Array Bool → List Value → Act → Prop) : Nat → Array Bool → List Value → Act → Prop
  | 0, listed, s, a => L listed s a
  | f + 1, listed, s, a => Region.ready md ops listed ≠ [] ∧ ∀ i ∈ Region.ready md ops listed, i < n ∧ vOp P ops S C i (headV P md ops S C n L f (listed.setIfInBounds i true)) s a
theorem headV_any {P : Program} {ops : Array Oper} {md : Region.Mode} {S : List Nat} {C : List Value → World → Prop} {n g : Nat} {L : Array Bool → List Value → Act → Prop} {Q' : Exit → Act → World → Prop} (hL : ∀ listed s a w, C s w → L listed s a → wpAny P md ops Q' g listed a w) (f : Nat) :
    ∀ (listed : Array Bool) (s : List Value) (a : Act) (w : World), C s w → headV P md ops S C n L f listed s a → wpAny P md ops Q' (f + g) listed a w := by
  induction f with
  | zero => intro listed s a w hw h; rw [Nat.zero_add]; exact hL _ _ _ _ hw h
  | succ f ih =>
    intro listed s a w hw h
    rw [Nat.succ_add]
    exact ⟨fun h0 => absurd h0 h.1, fun i hi => wpOp_of_vOp hw (fun s' a' w' hw' h' => ih _ s' a' w' hw' h') (h.2 i hi).2⟩
theorem headV_first {P : Program} {ops : Array Oper} {md : Region.Mode} {S : List Nat} {C : List Value → World → Prop} {n i : Nat} {oi : Oper} {v : Value} {L : Array Bool → List Value → Act → Prop} (hi : ops[i]? = some oi) (hsi : S.contains i = false) (hsel : ∀ (j : Nat) (o : Oper) cs b, ops[j]? = some o → o.op ≠ .select cs b)
    (hs : Region.sinkB md ops n = true) (hc : Region.chainB md ops n = true) (hn : n < ops.size) (hin : i < n)
    (hdone : ∀ listed s a, L listed s a → ∀ j ∈ Region.ready md ops listed, n ≤ j) (f : Nat) :
    ∀ (listed : Array Bool) (s : List Value) (a : Act), HeadInv md ops n listed →
      (∀ j oj, ops[j]? = some oj → j ≠ i → listed.getD j true = false → (∀ e ∈ oj.after, Region.binds md e = true → e.on ≠ i) → oi.apart ops oj = true) →
      i ∈ Region.ready md ops listed → YR P ops C oi v s a →
      headV P md ops S C n L f (listed.setIfInBounds i true) s (a.put oi.dst v) → headV P md ops S C n L (f + 1) listed s a := by
  have low : ∀ (listed : Array Bool), HeadInv md ops n listed → i ∈ Region.ready md ops listed → ∀ j ∈ Region.ready md ops listed, j < n := by
    intro listed inv hr j hj
    rcases Nat.lt_or_ge j n with h | h
    · exact h
    · exact absurd hj (tail_waits hs hc hn inv _ i rfl hin (mem_ready.1 hr).1 j h)
  have ne : ∀ (listed : Array Bool), i ∈ Region.ready md ops listed → Region.ready md ops listed ≠ [] := fun listed hr h => by rw [h] at hr; cases hr
  induction f with
  | zero =>
    intro listed s a inv _ hr hy H
    refine ⟨ne _ hr, fun j hj => ⟨low _ inv hr j hj, ?_⟩⟩
    by_cases hji : j = i
    · subst hji; exact hy.vOp hi hsi H
    · have h1 := hdone _ _ _ H j (ready_mono hj hji)
      have h2 := low _ inv hr j hj
      omega
  | succ f ih =>
    intro listed s a inv hfree hr hy H
    refine ⟨ne _ hr, fun j hj => ⟨low _ inv hr j hj, ?_⟩⟩
    by_cases hji : j = i
    · subst hji; exact hy.vOp hi hsi H
    · obtain ⟨hjun, oj, hoj, hall⟩ := mem_ready.1 hj
      have hnot : ∀ e ∈ oj.after, Region.binds md e = true → e.on ≠ i := fun e he hb heq => by
        have h1 := hall e he hb
        rw [heq, getD_both (mem_ready.1 hr).1] at h1
        cases h1
      obtain ⟨h1, h2, h3⟩ := Oper.apart_spec (hfree j oj hoj hji hjun hnot)
      refine vOp_put hoj (execOp_put oj (fun cs b => hsel j oj cs b hoj) a oi.dst v h1).symm (wanted_put oj a oi.dst v h1).symm (H.2 j (ready_mono hj hji)).2 (fun t u hn' => ?_)
      refine ih (listed.setIfInBounds j true) (s ++ t) (a.put oj.dst u) (inv.set hj (low _ inv hr j hj)) (fun m om hm hmi hun hno => hfree m om hm hmi ?_ hno) (ready_mono hr (Ne.symm hji)) ?_ ?_
      · by_cases hjm : j = m
        · subst hjm; exact hjun
        · rwa [getD_set_ne true hjm] at hun
      · exact hy.keep (execOp_put oi (fun cs b => hsel i oi cs b hi) a oj.dst u h3) (wanted_put oi a oj.dst u h3) t
      · rw [Array.setIfInBounds_comm _ _ hji, ← Act.put_comm a v u h2]
        exact hn'
/-- The walk, in this order. -/
def wpOrd (P : Program) (ops : Array Oper) (S : List Nat) (C : List Value → World → Prop) (Lq : List Value → Act → Prop) : List Nat → List Value → Act → Prop
  | [], s, a => Lq s a
  | i :: r, s, a => vOp P ops S C i (wpOrd P ops S C Lq r) s a
/-- Is it an order in which each may come: what reads, free of the others; a turn alone? -/
def ordB (md : Region.Mode) (ops : Array Oper) (S : List Nat) (n g : Nat) : List Nat → Array Bool → Bool
  | [], listed => Region.seqB md ops g n listed
  | i :: r, listed => decide (i < n) && (Region.ready md ops listed).contains i && (if S.contains i then Region.ready md ops listed == [i] else Region.free md ops listed i) && ordB md ops S n g r (listed.setIfInBounds i true)
theorem headV_ord {P : Program} {ops : Array Oper} {md : Region.Mode} {S : List Nat} {C : List Value → World → Prop} {n g : Nat} {Lq : List Value → Act → Prop} (hsel : Region.noSelect ops = true) (hs : Region.sinkB md ops n = true) (hc : Region.chainB md ops n = true) (hn : n < ops.size) (ord : List Nat) :
    ∀ (listed : Array Bool) (s : List Value) (a : Act), HeadInv md ops n listed → ordB md ops S n g ord listed = true → wpOrd P ops S C Lq ord s a →
    headV P md ops S C n (fun listed' s' a' => Region.seqB md ops g n listed' = true ∧ Lq s' a') ord.length listed s a := by
  induction ord with
  | nil => intro listed s a _ hB h; exact ⟨hB, h⟩
  | cons i r ih =>
    intro listed s a inv hB h
    simp only [ordB, Bool.and_eq_true, decide_eq_true_eq] at hB
    obtain ⟨⟨⟨hin, hrd⟩, hF⟩, hB⟩ := hB
    have hr : i ∈ Region.ready md ops listed := by simpa using hrd
    obtain ⟨_, oi, hi, _⟩ := mem_ready.1 hr
    have inv' := inv.set hr hin
    by_cases hSi : S.contains i = true
    · rw [if_pos hSi] at hF
      have hrd1 : Region.ready md ops listed = [i] := by simpa using hF
      refine ⟨by rw [hrd1]; simp, fun j hj => ?_⟩
      rw [hrd1] at hj
      obtain rfl : j = i := by simpa using hj
      exact ⟨hin, vOp_mono (fun s' a' h' => ih _ s' a' inv' hB h') h⟩
    · rw [if_neg hSi] at hF
      have hsf : S.contains i = false := by simpa using hSi
      obtain ⟨v, hy, hK⟩ := yr_of_vOp hi hsf h
      exact headV_first hi hsf (Region.noSelect_spec hsel) hs hc hn hin (fun listed' s' a' hL => seqB_ready hL.1) r.length listed s a inv (Region.free_spec hi hF) hr hy (ih _ _ _ inv' hB hK)
def ordTailB (md : Region.Mode) (ops : Array Oper) (S : List Nat) (n : Nat) (ord : List Nat) : Bool :=
  Region.noSelect ops && decide (n < ops.size) && Region.sinkB md ops n && Region.chainB md ops n && decide (ord.length = n) && ordB md ops S n (ops.size - n) ord (Array.replicate ops.size false)
theorem wp_region_ordv {P : Program} {id : Nat} {Q : Exit → Act → World → Prop} {a : Act} {w : World} {l : List Oper} (S : List Nat) (C : List Value → World → Prop) (n : Nat) (ord : List Nat) (hm : P.follows .mixedOrders = true) (hB : ordTailB .any l.toArray S n ord = true) (hC : C [] w.drew)
    (h : wpOrd P l.toArray S C (fun s a' => ∀ w', C s w' → wpList P l.toArray Q (l.drop n) a' w') ord [] a) : (Code.region id l.toArray true).wp P Q a w := by
  simp only [ordTailB, Bool.and_eq_true, decide_eq_true_eq] at hB
  obtain ⟨⟨⟨⟨⟨hsel, hn⟩, hs⟩, hc⟩, hlen⟩, hord⟩ := hB
  have hdl : (l.drop n).length = l.toArray.size - n := by simp
  have inv0 : HeadInv .any l.toArray n (Array.replicate l.toArray.size false) :=
    ⟨by simp, fun j oj _ hl => (by rw [getD_replicate_false] at hl; cases hl), fun t _ ht => getD_in (by simpa using ht) (getD_replicate_false _ _)⟩
  have H := headV_ord (md := .any) (g := l.toArray.size - n) hsel hs hc hn ord _ [] a inv0 hord h
  refine wp_region_any hm ?_
  have := headV_any (Q' := Q) (g := l.toArray.size - n) (fun listed s a' w' hw hL => by
    have := wpAny_of_seq (md := .any) (Q' := Q) (l.drop n) n listed a' w' (fun j => by simp [List.getElem?_drop]) (by rw [hdl]; exact hL.1) (hL.2 w' hw)
    rwa [hdl] at this) _ _ _ _ _ hC H
  rw [hlen, show n + (l.toArray.size - n) = l.toArray.size by omega] at this
  exact this
theorem ordv_nil {P : Program} {ops : Array Oper} {S : List Nat} {C : List Value → World → Prop} {Lq : List Value → Act → Prop} {s : List Value} {a : Act} (h : Lq s a) : wpOrd P ops S C Lq [] s a := h
/-- What only reads. -/
theorem ordv_read {P : Program} {ops : Array Oper} {S : List Nat} {C : List Value → World → Prop} {Lq : List Value → Act → Prop} {i : Nat} {o : Oper} {r : List Nat} {s : List Value} {a : Act} (hi : ops[i]? = some o) (hw : Region.wanted o (yielded ops a.tmps) = true) (hs : S.contains i = false)
    (h : ∃ v, (∀ s' W, C (s ++ s') W → YS P o a (C (s ++ s')) W v) ∧ ∀ K : Act → Prop, (∀ a, wpOrd P ops S C Lq r s a → K a) → K (a.put o.dst v)) : wpOrd P ops S C Lq (i :: r) s a := by
  obtain ⟨v, h1, h2⟩ := h
  unfold wpOrd vOp
  simp only [hi]
  rw [if_pos hw, if_neg (by rw [hs]; exact Bool.false_ne_true)]
  exact ⟨v, h1, h2 _ (fun _ h => h)⟩
/-- What turns the world. -/
theorem ordv_turn {P : Program} {ops : Array Oper} {S : List Nat} {C : List Value → World → Prop} {Lq : List Value → Act → Prop} {i : Nat} {o : Oper} {r : List Nat} {s : List Value} {a : Act} (hi : ops[i]? = some o) (hw : Region.wanted o (yielded ops a.tmps) = true) (hs : S.contains i = true)
    (h1 : ∀ W, C s W → YV P o a (fun v => C (s ++ [v])) W) (h2 : ∀ v, (∃ W', C (s ++ [v]) W') → ∀ K : Act → Prop, (∀ a, wpOrd P ops S C Lq r (s ++ [v]) a → K a) → K (a.put o.dst v)) : wpOrd P ops S C Lq (i :: r) s a := by
  unfold wpOrd vOp
  simp only [hi]
  rw [if_pos hw, if_pos hs]
  exact ⟨h1, fun v hv => h2 v hv _ (fun _ h => h)⟩
/-- An append as a turn. -/
theorem yv_append {P : Program} {o : Oper} {a : Act} {W : World} {C : Value → World → Prop} (s x : Operand) (t : TypeId) (ho : o.op = .call { callee := .builtin .append, args := #[s, x], argTypes := #[t, t] }) (v sl : Value) (hs : a.eval s = v) (hx : a.eval x = sl) {v' : Value} {w' : World}
    (hr : (Builtin.append_ #[t, t] o.type #[v, sl]).run P W = .ok v' w') (hC : C v' w') : YV P o a C W := by
  intro b K Q hK
  unfold execOp
  simp only [ho, resolve, invoke, builtin, Sem.run_bind, Sem.run_pure, Result.andThen_ok, List.map_toArray, List.map_cons, List.map_nil, hs, hx, hr]
  exact hK _ _ hC
end Go.Proofs.Ytececlalnkiafaa
