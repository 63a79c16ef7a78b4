import Derived.Test.YtmfbhhloabkecaaGreatDoorVLift
import Derived.Lib.Bytealg
import Derived.StillTail
import Derived.Deep.Quiet
/- The order of values, by the code and by the document. -/
namespace Go.Proofs.YtmfbhhloabkecaaGreatDoor
open Go.RowKit

/-- The order of two kinds. -/
def cmpK (a b : Int) : Int := if Lib.compareInt (rk a) (rk b) = 0 then Lib.compareInt a b else Lib.compareInt (rk a) (rk b)
theorem cmpInt0 {a b : Int} : Lib.compareInt a b = 0 ↔ a = b := by
  unfold Lib.compareInt; (repeat' split) <;> omega
theorem cmpV_k {a b : Val} (h : a.k ≠ b.k) : cmpV a b = cmpK a.k b.k := by
  unfold cmpV cmpK
  by_cases h1 : rk a.k = rk b.k
  · rw [if_neg (by simpa using h1), if_pos h, if_pos (cmpInt0.2 h1)]
  · rw [if_pos h1, if_neg (fun e => h1 (cmpInt0.1 e))]
theorem cmpV_n {a b : Val} (h : a.k = b.k) (h2 : a.n ≠ b.n) : cmpV a b = Lib.compareInt a.n b.n := by
  unfold cmpV; rw [if_neg (by rw [h]; simp), if_neg (by simpa using h), if_pos h2]
theorem cmpV_s {a b : Val} (h : a.k = b.k) (h2 : a.n = b.n) : cmpV a b = Lib.compareBytes a.s.data.toList b.s.data.toList := by
  unfold cmpV; rw [if_neg (by rw [h]; simp), if_neg (by simpa using h), if_neg (by simpa using h2)]

end Go.Proofs.YtmfbhhloabkecaaGreatDoor
/- A raw value made right; rows of them, as the law makes them. -/
namespace Go.Proofs.YtmfbhhloabkecaaGreatDoor
open Go.RowKit

/-- A kind of any number. -/
def kd4 (k : Int) : Int := (if k < 0 then -(k + 1) else k) % 4
def cutS (s : ByteArray) : ByteArray := if 200 < s.size then s.extract 0 200 else s
/-- A raw value made right. -/
def rt (v : Val) : Val := if kd4 v.k = 1 then ⟨1, v.n, ⟨#[]⟩⟩ else if kd4 v.k = 2 then ⟨2, 0, cutS v.s⟩ else if kd4 v.k = 3 then ⟨3, v.n % 2, ⟨#[]⟩⟩ else ⟨0, 0, ⟨#[]⟩⟩
theorem rt_ok (v : Val) (hi : v.i64) : frm (rt v) ∧ (rt v).s.size ≤ 200 ∧ (rt v).i64 := by
  obtain ⟨_, hn⟩ := hi
  unfold rt
  split
  · exact ⟨Or.inr (Or.inl ⟨rfl, rfl⟩), by show 0 ≤ 200; omega, ⟨by simp, hn⟩⟩
  · split
    · refine ⟨Or.inr (Or.inr (Or.inl ⟨rfl, rfl⟩)), ?_, ⟨by simp, by simp⟩⟩
      show (cutS v.s).size ≤ 200
      unfold cutS
      split
      · simp; omega
      · omega
    · split
      · exact ⟨Or.inr (Or.inr (Or.inr ⟨rfl, rfl, by show v.n % 2 = 0 ∨ v.n % 2 = 1; omega⟩)), by show 0 ≤ 200; omega, ⟨by simp, by show -9223372036854775808 ≤ v.n % 2 ∧ v.n % 2 ≤ 9223372036854775807; omega⟩⟩
      · exact ⟨Or.inl ⟨rfl, rfl, rfl⟩, by decide, ⟨by simp, by simp⟩⟩

theorem i64_and1 (n : Int) : bits .and .i64 n 1 = n % 2 := by
  have h127 : (BitVec.ofInt 64 1).toNat = 2 ^ 1 - 1 := by decide
  have key : (BitVec.ofInt 64 n &&& BitVec.ofInt 64 1).toNat = (n % ((2 ^ 64 : Nat) : Int)).toNat % 2 ^ 1 := by
    rw [BitVec.toNat_and, BitVec.toNat_ofInt, h127, Nat.and_two_pow_sub_one_eq_mod]
  show IntKind.i64.wrap ((BitVec.ofInt 64 n &&& BitVec.ofInt 64 1).toNat : Nat) = n % 2
  rw [key, IntKind.wrap_i64]
  omega
end Go.Proofs.YtmfbhhloabkecaaGreatDoor
/- A row of raw values made right, as the law makes it. -/
namespace Go.Proofs.YtmfbhhloabkecaaGreatDoor
open Go.RowKit

/-- The cells of a row. -/
def rcl (l : List Val) : List Value := l.flatMap fun v => [.int .i64 v.k, .int .i64 v.n, .string v.s]
theorem rcl_len : ∀ l : List Val, (rcl l).length = l.length * 3
  | [] => rfl
  | v :: l => by
    have := rcl_len l
    have e : rcl (v :: l) = [.int .i64 v.k, .int .i64 v.n, .string v.s] ++ rcl l := rfl
    rw [e, List.length_append, this, List.length_cons]; simp; omega
theorem rcl_snoc (l : List Val) (v : Val) : rcl (l ++ [v]) = rcl l ++ [.int .i64 v.k, .int .i64 v.n, .string v.s] := by simp [rcl]
theorem rcl_get : ∀ (l : List Val) (j : Nat) (hj : j < l.length), (rcl l)[j * 3]? = some (.int .i64 l[j].k) ∧ (rcl l)[j * 3 + 1]? = some (.int .i64 l[j].n) ∧ (rcl l)[j * 3 + 2]? = some (.string l[j].s)
  | v :: l, 0, _ => ⟨rfl, rfl, rfl⟩
  | v :: l, j + 1, hj => by
    have e : rcl (v :: l) = [.int .i64 v.k, .int .i64 v.n, .string v.s] ++ rcl l := rfl
    have ih := rcl_get l j (by simpa using hj)
    rw [e, show (j + 1) * 3 = 3 + j * 3 by omega]
    rw [List.getElem?_append_right (by simp), List.getElem?_append_right (by simp; omega), List.getElem?_append_right (by simp; omega)]
    simp only [List.length_cons, List.length_nil, List.getElem_cons_succ]
    rw [show 3 + j * 3 - (0 + 1 + 1 + 1) = j * 3 by omega, show 3 + j * 3 + 1 - (0 + 1 + 1 + 1) = j * 3 + 1 by omega, show 3 + j * 3 + 2 - (0 + 1 + 1 + 1) = j * 3 + 2 by omega]
    exact ih
theorem rcl_one (l : List Val) : ∀ u ∈ rcl l, u.oneCell' = true := by
  intro u hu
  simp only [rcl, List.mem_flatMap] at hu
  obtain ⟨v, _, hv⟩ := hu
  simp at hv
  rcases hv with rfl | rfl | rfl <;> rfl
theorem row_tch {S : Nat → Prop} {w w' : World} {base : Nat} {t : TypeId} {sz n : Nat} {v : Value} {xs : List Value} (h : w.ownsRow base t sz v n xs) (tc : Tch S w w') (hS : ∀ i, base ≤ i → i < w.heap.size → ¬ S i) : w'.ownsRow base t sz v n xs := by
  obtain ⟨h1, h2⟩ := h
  refine ⟨h1, ?_⟩
  rcases h2 with h2 | ⟨g, cap, cur, hv, hg, hh, r⟩
  · exact Or.inl h2
  · exact Or.inr ⟨g, cap, cur, hv, hg, by rw [tc.block g (blk_lt hh) (hS g hg (blk_lt hh))]; exact hh, r⟩
theorem row_slice {w : World} {base : Nat} {t : TypeId} {sz n : Nat} {v : Value} {xs : List Value} (h : w.ownsRow base t sz v n xs) : ∃ ao c, v = .slice ao n c := by
  rcases h.2 with ⟨rfl, rfl⟩ | ⟨g, cap, cur, rfl, hg, _⟩
  · exact ⟨_, _, rfl⟩
  · exact ⟨_, _, rfl⟩
theorem row_ge {w : World} {base : Nat} {t : TypeId} {sz n : Nat} {v : Value} {xs : List Value} (h : w.ownsRow base t sz v n xs) {k : Nat} (hk : v.ownBlock = some k) : base ≤ k := by
  rcases h.2 with ⟨rfl, _⟩ | ⟨g, cap, cur, rfl, hg, _⟩
  · cases hk
  · simp [Value.ownBlock] at hk; omega
theorem row_at {w : World} {base : Nat} {ao : Option Addr} {c : Nat} {l : List Val} (h : w.ownsRow base 58 3 (.slice ao l.length c) l.length (rcl l)) (hl : l ≠ []) : ∃ g, ao = some ⟨g, 0, none⟩ ∧ base ≤ g ∧ RowAt w g 0 l := by
  rcases h.2 with ⟨h1, h2⟩ | ⟨g, cap, cur, hv, hg, hh, hc, hm, hs, ht⟩
  · exact absurd (List.length_eq_zero_iff.1 h2) hl
  · simp only [Value.slice.injEq] at hv
    refine ⟨g, hv.1, hg, fun j hj => ?_⟩
    obtain ⟨g0, g1, g2⟩ := rcl_get l j hj
    have key : ∀ i u, i < l.length * 3 → (rcl l)[i]? = some u → w.cell? ⟨g, 0 + i, none⟩ = some u := fun i u hi hu => by
      rw [Nat.zero_add, blk_cell hh, ← Array.getElem?_toList]
      rw [← ht, List.getElem?_take_of_lt hi] at hu
      exact hu
    exact ⟨key _ _ (by omega) g0, by have := key (j * 3 + 1) _ (by omega) g1; simpa [Nat.add_assoc] using this, by have := key (j * 3 + 2) _ (by omega) g2; simpa [Nat.add_assoc] using this⟩
theorem rcl_cells {W : World} {b : Nat} {v : Val} (h0 : W.cell? ⟨b, 0, none⟩ = some (.int .i64 v.k)) (h1 : W.cell? ⟨b, 1, none⟩ = some (.int .i64 v.n)) (h2 : W.cell? ⟨b, 2, none⟩ = some (.string v.s)) : ∀ j u, (rcl [v])[j]? = some u → W.cell? ((⟨b, 0, none⟩ : Addr).add j) = some u := by
  intro j u hu
  rcases j with _ | _ | _ | j
  · cases hu; simpa [Addr.add] using h0
  · cases hu; simpa [Addr.add] using h1
  · cases hu; simpa [Addr.add] using h2
  · simp [rcl] at hu

def RtOut (vs : List Val) (x : Ending) (w' : World) : Prop := ∃ R cp, x = .returned (.slice (some ⟨R, 0, none⟩) 3 cp) ∧ RowAt w' R 0 (vs.map rt)
end Go.Proofs.YtmfbhhloabkecaaGreatDoor
/- A region that draws its order, in which some operations TURN the world (calls that write, stores), one behind the other (each waits for the one ahead), and all others only read what those leave alone: ONE WALK, IN THE ORDER OF THE TEXT, serves every order. 'S': the places of the operations that turn the world; 'C k': the worlds behind k of them. What only reads must yield one value in the worlds of every C k; what turns, from C k into C (k + 1). (The library has this for regions that only read: Derived/Still, Derived/Deep/Quiet; two writing calls in one expression cost a walk of all orders.) -/
namespace Go.Proofs.YtmfbhhloabkecaaGreatDoor
open Go

/-- Operation o, carried out as frame a has it, yields v and leaves a world of C, whatever frame the value is put into. -/
def YS (P : Program) (o : Oper) (a : Act) (C : World → Prop) (W : World) (v : Value) : Prop :=
  ∀ (b : Act) (K : Act → World → Prop) (Q : Exit → Act → World → Prop), (∀ W', C W' → K (b.put o.dst v) W') → o.upon P b K Q ((execOp a.eval o).run P W)

theorem YS.same {P : Program} {o : Oper} {a a' : Act} {C : World → Prop} {W : World} {v : Value} (h : YS P o a C W v) (he : execOp a'.eval o = execOp a.eval o) : YS P o a' C W v := by
  unfold YS at *
  rw [he]; exact h

/-- One operation at place i, behind k turns. -/
def sOp (P : Program) (ops : Array Oper) (S : List Nat) (C : Nat → World → Prop) (i : Nat) (K : Nat → Act → Prop) (k : Nat) (a : Act) : Prop :=
  match ops[i]? with
  | none => K k a
  | some o =>
    if Region.wanted o (yielded ops a.tmps) then
      (if S.contains i then ∃ v, (∀ W, C k W → YS P o a (C (k + 1)) W v) ∧ K (k + 1) (a.put o.dst v) else ∃ v, (∀ j W, C j W → YS P o a (C j) W v) ∧ K k (a.put o.dst v))
    else K k (a.put o.dst undef)

theorem sOp_mono {P : Program} {ops : Array Oper} {S : List Nat} {C : Nat → World → Prop} {i : Nat} {K K' : Nat → Act → Prop} {k : Nat} {a : Act} (h : ∀ k a, K k a → K' k a) (hh : sOp P ops S C i K k a) : sOp P ops S C i K' k a := by
  unfold sOp at *
  split
  · rename_i ho; simp only [ho] at hh; exact h _ _ hh
  · rename_i o ho
    simp only [ho] at hh
    split
    · rename_i hw
      simp only [hw, if_true] at hh
      split
      · rename_i hs; rw [if_pos hs] at hh; obtain ⟨v, h1, h2⟩ := hh; exact ⟨v, h1, h _ _ h2⟩
      · rename_i hs; rw [if_neg hs] at hh; obtain ⟨v, h1, h2⟩ := hh; exact ⟨v, h1, h _ _ h2⟩
    · rename_i hw; rw [if_neg hw] at hh; exact h _ _ hh

/-- Whatever order is picked from here on. -/
def anyS (P : Program) (md : Region.Mode) (ops : Array Oper) (S : List Nat) (C : Nat → World → Prop) (Q : Nat → Act → Prop) : Nat → Array Bool → Nat → Act → Prop
  | 0, listed, k, a => Region.ready md ops listed = [] ∧ Q k a
  | f + 1, listed, k, a => (Region.ready md ops listed = [] → Q k a) ∧ ∀ i ∈ Region.ready md ops listed, sOp P ops S C i (anyS P md ops S C Q f (listed.setIfInBounds i true)) k a

theorem wpOp_of_sOp {P : Program} {ops : Array Oper} {S : List Nat} {C : Nat → World → Prop} {i k : Nat} {K : Nat → Act → Prop} {K' : Act → World → Prop} {Q' : Exit → Act → World → Prop} {a : Act} {w : World} (hC : C k w) (h : ∀ k a w', C k w' → K k a → K' a w') (hh : sOp P ops S C i K k a) : wpOp P ops Q' i K' a w := by
  unfold sOp at hh
  unfold wpOp
  split
  · rename_i ho; simp only [ho] at hh; exact h _ _ _ hC hh
  · rename_i o ho
    simp only [ho] at hh
    split
    · rename_i hw
      simp only [hw, if_true] at hh
      left
      split at hh
      · obtain ⟨v, h1, h2⟩ := hh
        exact h1 w hC a K' Q' (fun W' hW' => h _ _ _ hW' h2)
      · obtain ⟨v, h1, h2⟩ := hh
        exact h1 k w hC a K' Q' (fun W' hW' => h _ _ _ hW' h2)
    · rename_i hw; rw [if_neg hw] at hh; exact h _ _ _ hC hh

theorem wpAny_of_anyS {P : Program} {md : Region.Mode} {ops : Array Oper} {S : List Nat} {C : Nat → World → Prop} {Q : Nat → Act → Prop} {Q' : Exit → Act → World → Prop} (hQ : ∀ k a w, C k w → Q k a → Q' .normal a w) (f : Nat) :
    ∀ (listed : Array Bool) (k : Nat) (a : Act) (w : World), C k w → anyS P md ops S C Q f listed k a → wpAny P md ops Q' f listed a w := by
  induction f with
  | zero => intro listed k a w hw h; exact ⟨h.1, hQ _ _ _ hw h.2⟩
  | succ f ih => intro listed k a w hw h; exact ⟨fun h0 => hQ _ _ _ hw (h.1 h0), fun i hi => wpOp_of_sOp hw (fun k' a' w' hw' h' => ih _ k' a' w' hw' h') (h.2 i hi)⟩

/-- Each of these places waits for the one ahead of it. -/
def chainS (md : Region.Mode) (ops : Array Oper) : List Nat → Bool
  | x :: y :: r => Region.waitsFor md ops y x && chainS md ops (y :: r)
  | _ => true

theorem chain_waits {md : Region.Mode} {ops : Array Oper} {listed : Array Bool} (inv : HeadInv md ops ops.size listed) : ∀ (r : List Nat) (x : Nat), chainS md ops (x :: r) = true → listed.getD x false = false → ∀ j ∈ r, j ∉ Region.ready md ops listed
  | [], _, _, _, _, hj => by cases hj
  | y :: r, x, hc, hx, j, hj => by
    simp only [chainS, Bool.and_eq_true] at hc
    obtain ⟨oy, hoy, e, he, hb, hon⟩ := Region.waitsFor_spec hc.1
    rcases List.mem_cons.1 hj with rfl | hj
    · intro hr
      obtain ⟨_, oj, hoj, hall⟩ := mem_ready.1 hr
      obtain rfl : oj = oy := Option.some.inj (hoj.symm.trans hoy)
      have h1 := hall e he hb
      rw [hon, hx] at h1
      cases h1
    · refine chain_waits inv r y hc.2 ?_ j hj
      cases hl : listed.getD y false with
      | false => rfl
      | true =>
        have h1 := inv.closed y oy hoy hl e he hb
        rw [hon, hx] at h1
        cases h1

theorem chain_one {md : Region.Mode} {ops : Array Oper} {listed : Array Bool} (inv : HeadInv md ops ops.size listed) : ∀ (S : List Nat), chainS md ops S = true → ∀ i j, i ∈ S → j ∈ S → i ≠ j → i ∈ Region.ready md ops listed → j ∉ Region.ready md ops listed
  | [], _, _, _, hi, _, _, _ => by cases hi
  | x :: r, hc, i, j, hi, hj, hne, hri => by
    have hr : chainS md ops r = true := by
      cases r with
      | nil => rfl
      | cons y r => simp only [chainS, Bool.and_eq_true] at hc; exact hc.2
    rcases List.mem_cons.1 hi with h1 | h1
    · rcases List.mem_cons.1 hj with h2 | h2
      · exact absurd (h1.trans h2.symm) hne
      · rw [h1] at hri
        exact chain_waits inv r x hc (getD_both (mem_ready.1 hri).1) j h2
    · rcases List.mem_cons.1 hj with h2 | h2
      · intro hrj
        rw [h2] at hrj
        exact chain_waits inv r x hc (getD_both (mem_ready.1 hrj).1) i h1 hri
      · exact chain_one inv r hr i j h1 h2 hne hri

/-- What operation i does in frame a behind k turns: v, and then k' turns. -/
def YK (P : Program) (ops : Array Oper) (S : List Nat) (C : Nat → World → Prop) (i : Nat) (o : Oper) (v : Value) (k d : Nat) (a : Act) : Prop :=
  (Region.wanted o (yielded ops a.tmps) = true ∧ S.contains i = true ∧ d = 1 ∧ ∀ W, C k W → YS P o a (C (k + 1)) W v) ∨
  (Region.wanted o (yielded ops a.tmps) = true ∧ S.contains i = false ∧ d = 0 ∧ ∀ j W, C j W → YS P o a (C j) W v) ∨
  (Region.wanted o (yielded ops a.tmps) = false ∧ d = 0 ∧ v = undef)

theorem YK.sOp {P : Program} {ops : Array Oper} {S : List Nat} {C : Nat → World → Prop} {i : Nat} {o : Oper} {v : Value} {k d : Nat} {a : Act} (hi : ops[i]? = some o) (hy : YK P ops S C i o v k d a) {K : Nat → Act → Prop} (h : K (k + d) (a.put o.dst v)) : sOp P ops S C i K k a := by
  unfold Go.Proofs.YtmfbhhloabkecaaGreatDoor.sOp
  simp only [hi]
  rcases hy with ⟨hw, hs, rfl, hv⟩ | ⟨hw, hs, rfl, hv⟩ | ⟨hw, rfl, rfl⟩
  · simp only [hw, hs, if_true]; exact ⟨v, hv, h⟩
  · simp only [hw, hs, if_true, Bool.false_eq_true, if_false]; exact ⟨v, hv, h⟩
  · simp only [hw, Bool.false_eq_true, if_false]; exact h

theorem yk_of_sOp {P : Program} {ops : Array Oper} {S : List Nat} {C : Nat → World → Prop} {i : Nat} {o : Oper} {k : Nat} {a : Act} {K : Nat → Act → Prop} (hi : ops[i]? = some o) (h : sOp P ops S C i K k a) : ∃ v d, YK P ops S C i o v k d a ∧ K (k + d) (a.put o.dst v) := by
  unfold sOp at h
  simp only [hi] at h
  by_cases hw : Region.wanted o (yielded ops a.tmps) = true
  · simp only [hw, if_true] at h
    by_cases hs : S.contains i = true
    · rw [if_pos hs] at h
      obtain ⟨v, h1, h2⟩ := h
      exact ⟨v, 1, .inl ⟨hw, hs, rfl, h1⟩, h2⟩
    · rw [if_neg hs] at h
      obtain ⟨v, h1, h2⟩ := h
      exact ⟨v, 0, .inr (.inl ⟨hw, by simpa using hs, rfl, h1⟩), h2⟩
  · rw [if_neg hw] at h
    exact ⟨undef, 0, .inr (.inr ⟨by simpa using hw, rfl, rfl⟩), h⟩

theorem YK.keep {P : Program} {ops : Array Oper} {S : List Nat} {C : Nat → World → Prop} {i : Nat} {o : Oper} {v : Value} {k k2 d : Nat} {a a' : Act} (hy : YK P ops S C i o v k d a) (he : execOp a'.eval o = execOp a.eval o)
    (hw : Region.wanted o (yielded ops a'.tmps) = Region.wanted o (yielded ops a.tmps)) (hk : S.contains i = true → k2 = k) : YK P ops S C i o v k2 d a' := by
  rcases hy with ⟨h1, h2, h3, h4⟩ | ⟨h1, h2, h3, h4⟩ | ⟨h1, h2, h3⟩
  · obtain rfl := hk h2
    exact .inl ⟨hw.trans h1, h2, h3, fun W hW => (h4 W hW).same he⟩
  · exact .inr (.inl ⟨hw.trans h1, h2, h3, fun j W hW => (h4 j W hW).same he⟩)
  · exact .inr (.inr ⟨hw.trans h1, h2, h3⟩)

/-- An operation that may come up now may be taken first. -/
theorem anyS_first {P : Program} {md : Region.Mode} {ops : Array Oper} {S : List Nat} {C : Nat → World → Prop} {Q : Nat → Act → Prop} {i : Nat} {oi : Oper} {v : Value} {d : Nat} (hS : chainS md ops S = true) (hi : ops[i]? = some oi) (hsel : ∀ (j : Nat) (o : Oper) cs b, ops[j]? = some o → o.op ≠ .select cs b) (f : Nat) :
    ∀ (listed : Array Bool) (k : Nat) (a : Act), HeadInv md ops ops.size listed →
      (∀ j oj, ops[j]? = some oj → j ≠ i → listed.getD j true = false → (∀ e ∈ oj.after, Region.binds md e = true → e.on ≠ i) → oi.apart ops oj = true) →
      i ∈ Region.ready md ops listed → YK P ops S C i oi v k d a →
      anyS P md ops S C Q f (listed.setIfInBounds i true) (k + d) (a.put oi.dst v) → anyS P md ops S C Q (f + 1) listed k a := by
  have ne : ∀ (listed : Array Bool), i ∈ Region.ready md ops listed → Region.ready md ops listed ≠ [] := fun listed hr h => by rw [h] at hr; cases hr
  induction f with
  | zero =>
    intro listed k a _ _ hr hy H
    refine ⟨fun h0 => absurd h0 (ne _ hr), fun j hj => ?_⟩
    by_cases hji : j = i
    · subst hji; exact hy.sOp hi H
    · have := ready_mono hj hji
      rw [H.1] at this
      cases this
  | succ f ih =>
    intro listed k a inv hfree hr hy H
    refine ⟨fun h0 => absurd h0 (ne _ hr), fun j hj => ?_⟩
    by_cases hji : j = i
    · subst hji; exact hy.sOp hi H
    · obtain ⟨hjun, oj, hoj, hall⟩ := mem_ready.1 hj
      have hjlt : j < ops.size := (Array.getElem?_eq_some_iff.1 hoj).1
      have hnot : ∀ e ∈ oj.after, Region.binds md e = true → e.on ≠ i := fun e he hb heq => by
        have h1 := hall e he hb
        rw [heq, getD_both (mem_ready.1 hr).1] at h1
        cases h1
      obtain ⟨h1, h2, h3⟩ := Oper.apart_spec (hfree j oj hoj hji hjun hnot)
      obtain ⟨u, d2, hu, hn⟩ := yk_of_sOp hoj (H.2 j (ready_mono hj hji))
      have hst : S.contains i = true → S.contains j = true → False := fun hi' hj' => chain_one inv S hS i j (by simpa using hi') (by simpa using hj') (Ne.symm hji) hr hj
      have hd : S.contains i = true → d2 = 0 := fun hi' => by
        rcases hu with ⟨_, hj', _⟩ | ⟨_, _, h4, _⟩ | ⟨_, h4, _⟩
        · exact (hst hi' hj').elim
        · exact h4
        · exact h4
      have hd1 : S.contains j = true → k = k + d := fun hj' => by
        rcases hy with ⟨_, hi', _⟩ | ⟨_, _, h4, _⟩ | ⟨_, h4, _⟩
        · exact (hst hi' hj').elim
        · omega
        · omega
      have hu' : YK P ops S C j oj u k d2 a := hu.keep (execOp_put oj (fun cs b => hsel j oj cs b hoj) a oi.dst v h1).symm (wanted_put oj a oi.dst v h1).symm hd1
      refine hu'.sOp hoj (ih (listed.setIfInBounds j true) (k + d2) (a.put oj.dst u) (inv.set hj hjlt) (fun m om hm hmi hun hno => hfree m om hm hmi ?_ hno) (ready_mono hr (Ne.symm hji)) ?_ ?_)
      · by_cases hjm : j = m
        · subst hjm; exact hjun
        · rwa [getD_set_ne true hjm] at hun
      · exact hy.keep (execOp_put oi (fun cs b => hsel i oi cs b hi) a oj.dst u h3) (wanted_put oi a oj.dst u h3) (fun hi' => by have := hd hi'; omega)
      · rw [Array.setIfInBounds_comm _ _ hji, ← Act.put_comm a v u h2, show k + d2 + d = k + d + d2 by omega]
        exact hn

/-- The walk, in the order of the text. -/
def wpStage (P : Program) (ops : Array Oper) (S : List Nat) (C : Nat → World → Prop) (Q : Nat → Act → Prop) : List Oper → Nat → Nat → Act → Prop
  | [], _, k, a => Q k a
  | o :: rest, p, k, a =>
    if Region.wanted o (yielded ops a.tmps) then
      (if S.contains p then ∃ v, (∀ W, C k W → YS P o a (C (k + 1)) W v) ∧ wpStage P ops S C Q rest (p + 1) (k + 1) (a.put o.dst v) else ∃ v, (∀ j W, C j W → YS P o a (C j) W v) ∧ wpStage P ops S C Q rest (p + 1) k (a.put o.dst v))
    else wpStage P ops S C Q rest (p + 1) k (a.put o.dst undef)

theorem stage_nil {P : Program} {ops : Array Oper} {S : List Nat} {C : Nat → World → Prop} {Q : Nat → Act → Prop} {p k : Nat} {a : Act} (h : Q k a) : wpStage P ops S C Q [] p k a := h
/-- What only reads. -/
theorem stage_read {P : Program} {ops : Array Oper} {S : List Nat} {C : Nat → World → Prop} {Q : Nat → Act → Prop} {o : Oper} {rest : List Oper} {p k : Nat} {a : Act} (hw : Region.wanted o (yielded ops a.tmps) = true) (hs : S.contains p = false)
    (h : ∃ v, (∀ j W, C j W → YS P o a (C j) W v) ∧ ∀ K : Act → Prop, (∀ a, wpStage P ops S C Q rest (p + 1) k a → K a) → K (a.put o.dst v)) : wpStage P ops S C Q (o :: rest) p k a := by
  obtain ⟨v, h1, h2⟩ := h
  unfold wpStage
  rw [if_pos hw, if_neg (by rw [hs]; exact Bool.false_ne_true)]
  exact ⟨v, h1, h2 _ (fun _ h => h)⟩
/-- What turns the world. -/
theorem stage_turn {P : Program} {ops : Array Oper} {S : List Nat} {C : Nat → World → Prop} {Q : Nat → Act → Prop} {o : Oper} {rest : List Oper} {p k : Nat} {a : Act} (hw : Region.wanted o (yielded ops a.tmps) = true) (hs : S.contains p = true)
    (h : ∃ v, (∀ W, C k W → YS P o a (C (k + 1)) W v) ∧ ∀ K : Act → Prop, (∀ a, wpStage P ops S C Q rest (p + 1) (k + 1) a → K a) → K (a.put o.dst v)) : wpStage P ops S C Q (o :: rest) p k a := by
  obtain ⟨v, h1, h2⟩ := h
  unfold wpStage
  rw [if_pos hw, if_pos hs]
  exact ⟨v, h1, h2 _ (fun _ h => h)⟩
/-- What is not wanted. -/
theorem stage_skip {P : Program} {ops : Array Oper} {S : List Nat} {C : Nat → World → Prop} {Q : Nat → Act → Prop} {o : Oper} {rest : List Oper} {p k : Nat} {a : Act} (hw : Region.wanted o (yielded ops a.tmps) = false)
    (h : ∀ K : Act → Prop, (∀ a, wpStage P ops S C Q rest (p + 1) k a → K a) → K (a.put o.dst undef)) : wpStage P ops S C Q (o :: rest) p k a := by
  unfold wpStage
  rw [if_neg (by rw [hw]; exact Bool.false_ne_true)]
  exact h _ (fun _ h => h)

theorem anyS_lex {P : Program} {md : Region.Mode} {ops : Array Oper} {S : List Nat} {C : Nat → World → Prop} {Q : Nat → Act → Prop} (hsel : Region.noSelect ops = true) (hS : chainS md ops S = true) (l : List Oper) :
    ∀ (p : Nat) (listed : Array Bool) (k : Nat) (a : Act), (∀ j, l[j]? = ops[p + j]?) → HeadInv md ops ops.size listed → Region.lexFrom md ops l.length p listed = true → wpStage P ops S C Q l p k a → anyS P md ops S C Q l.length listed k a := by
  induction l with
  | nil => intro p listed k a _ _ hB h; exact ⟨by simpa [Region.lexFrom] using hB, h⟩
  | cons o l ih =>
    intro p listed k a hl inv hB h
    have h0 : ops[p]? = some o := by simpa using (hl 0).symm
    simp only [List.length_cons, Region.lexFrom, Bool.and_eq_true] at hB
    have hr : p ∈ Region.ready md ops listed := by simpa using hB.1.1
    have hst : sOp P ops S C p (fun k a => wpStage P ops S C Q l (p + 1) k a) k a := by unfold sOp; simp only [h0]; exact h
    obtain ⟨v, d, hy, hK⟩ := yk_of_sOp h0 hst
    refine anyS_first hS h0 (Region.noSelect_spec hsel) l.length listed k a inv (Region.free_spec h0 hB.1.2) hr hy (ih (p + 1) _ _ _ (fun j => ?_) (inv.set hr (Array.getElem?_eq_some_iff.1 h0).1) hB.2 hK)
    have := hl (j + 1)
    simpa [Nat.add_assoc, Nat.add_comm 1 j] using this

theorem wp_region_staged {P : Program} {id : Nat} {Q : Exit → Act → World → Prop} {a : Act} {w : World} {l : List Oper} (S : List Nat) (C : Nat → World → Prop) (hm : P.follows .mixedOrders = true) (hB : Region.lexB .any l.toArray = true) (hS : chainS .any l.toArray S = true) (hC : C 0 w.drew)
    (h : wpStage P l.toArray S C (fun k a' => ∀ w', C k w' → Q .normal a' w') l 0 0 a) : (Code.region id l.toArray true).wp P Q a w := by
  simp only [Region.lexB, Bool.and_eq_true] at hB
  have inv0 : HeadInv .any l.toArray l.toArray.size (Array.replicate l.toArray.size false) :=
    ⟨by simp, fun j oj _ hl => (by rw [getD_replicate_false] at hl; cases hl), fun t h1 h2 => by omega⟩
  have H := anyS_lex (md := .any) hB.1 hS l 0 _ 0 a (by simp) inv0 (by simpa using hB.2) h
  refine wp_region_any hm (wpAny_of_anyS (S := S) (Q := fun k a' => ∀ w', C k w' → Q .normal a' w') (fun k a w' hw' h => h w' hw') _ _ 0 _ _ hC ?_)
  simpa using H
end Go.Proofs.YtmfbhhloabkecaaGreatDoor
/- As Staged, but: a turn BARS all others (nothing else may come up when it does), and what only reads need hold from its own stage on alone. -/
namespace Go.Proofs.YtmfbhhloabkecaaGreatDoor
open Go

/-- One operation at place i, behind k turns. -/
def bOp (P : Program) (ops : Array Oper) (S : List Nat) (C : Nat → World → Prop) (i : Nat) (K : Nat → Act → Prop) (k : Nat) (a : Act) : Prop :=
  match ops[i]? with
  | none => K k a
  | some o =>
    if Region.wanted o (yielded ops a.tmps) then
      (if S.contains i then ∃ v, (∀ W, C k W → YS P o a (C (k + 1)) W v) ∧ K (k + 1) (a.put o.dst v) else ∃ v, (∀ j W, k ≤ j → C j W → YS P o a (C j) W v) ∧ K k (a.put o.dst v))
    else K k (a.put o.dst undef)

theorem bOp_mono {P : Program} {ops : Array Oper} {S : List Nat} {C : Nat → World → Prop} {i : Nat} {K K' : Nat → Act → Prop} {k : Nat} {a : Act} (h : ∀ k a, K k a → K' k a) (hh : bOp P ops S C i K k a) : bOp P ops S C i K' k a := by
  unfold bOp at *
  split
  · rename_i ho; simp only [ho] at hh; exact h _ _ hh
  · rename_i o ho
    simp only [ho] at hh
    split
    · rename_i hw
      simp only [hw, if_true] at hh
      split
      · rename_i hs; rw [if_pos hs] at hh; obtain ⟨v, h1, h2⟩ := hh; exact ⟨v, h1, h _ _ h2⟩
      · rename_i hs; rw [if_neg hs] at hh; obtain ⟨v, h1, h2⟩ := hh; exact ⟨v, h1, h _ _ h2⟩
    · rename_i hw; rw [if_neg hw] at hh; exact h _ _ hh

/-- Whatever order is picked from here on. -/
def anyB (P : Program) (md : Region.Mode) (ops : Array Oper) (S : List Nat) (C : Nat → World → Prop) (Q : Nat → Act → Prop) : Nat → Array Bool → Nat → Act → Prop
  | 0, listed, k, a => Region.ready md ops listed = [] ∧ Q k a
  | f + 1, listed, k, a => (Region.ready md ops listed = [] → Q k a) ∧ ∀ i ∈ Region.ready md ops listed, bOp P ops S C i (anyB P md ops S C Q f (listed.setIfInBounds i true)) k a

theorem wpOp_of_bOp {P : Program} {ops : Array Oper} {S : List Nat} {C : Nat → World → Prop} {i k : Nat} {K : Nat → Act → Prop} {K' : Act → World → Prop} {Q' : Exit → Act → World → Prop} {a : Act} {w : World} (hC : C k w) (h : ∀ k a w', C k w' → K k a → K' a w') (hh : bOp P ops S C i K k a) : wpOp P ops Q' i K' a w := by
  unfold bOp at hh
  unfold wpOp
  split
  · rename_i ho; simp only [ho] at hh; exact h _ _ _ hC hh
  · rename_i o ho
    simp only [ho] at hh
    split
    · rename_i hw
      simp only [hw, if_true] at hh
      left
      split at hh
      · obtain ⟨v, h1, h2⟩ := hh
        exact h1 w hC a K' Q' (fun W' hW' => h _ _ _ hW' h2)
      · obtain ⟨v, h1, h2⟩ := hh
        exact h1 k w (Nat.le_refl _) hC a K' Q' (fun W' hW' => h _ _ _ hW' h2)
    · rename_i hw; rw [if_neg hw] at hh; exact h _ _ _ hC hh

theorem wpAny_of_anyB {P : Program} {md : Region.Mode} {ops : Array Oper} {S : List Nat} {C : Nat → World → Prop} {Q : Nat → Act → Prop} {Q' : Exit → Act → World → Prop} (hQ : ∀ k a w, C k w → Q k a → Q' .normal a w) (f : Nat) :
    ∀ (listed : Array Bool) (k : Nat) (a : Act) (w : World), C k w → anyB P md ops S C Q f listed k a → wpAny P md ops Q' f listed a w := by
  induction f with
  | zero => intro listed k a w hw h; exact ⟨h.1, hQ _ _ _ hw h.2⟩
  | succ f ih => intro listed k a w hw h; exact ⟨fun h0 => hQ _ _ _ hw (h.1 h0), fun i hi => wpOp_of_bOp hw (fun k' a' w' hw' h' => ih _ k' a' w' hw' h') (h.2 i hi)⟩

/-- What operation i does in frame a behind k turns: v, and then k' turns. -/
def YB (P : Program) (ops : Array Oper) (S : List Nat) (C : Nat → World → Prop) (i : Nat) (o : Oper) (v : Value) (k d : Nat) (a : Act) : Prop :=
  (Region.wanted o (yielded ops a.tmps) = true ∧ S.contains i = true ∧ d = 1 ∧ ∀ W, C k W → YS P o a (C (k + 1)) W v) ∨
  (Region.wanted o (yielded ops a.tmps) = true ∧ S.contains i = false ∧ d = 0 ∧ ∀ j W, k ≤ j → C j W → YS P o a (C j) W v) ∨
  (Region.wanted o (yielded ops a.tmps) = false ∧ d = 0 ∧ v = undef)

theorem YB.bOp {P : Program} {ops : Array Oper} {S : List Nat} {C : Nat → World → Prop} {i : Nat} {o : Oper} {v : Value} {k d : Nat} {a : Act} (hi : ops[i]? = some o) (hy : YB P ops S C i o v k d a) {K : Nat → Act → Prop} (h : K (k + d) (a.put o.dst v)) : bOp P ops S C i K k a := by
  unfold Go.Proofs.YtmfbhhloabkecaaGreatDoor.bOp
  simp only [hi]
  rcases hy with ⟨hw, hs, rfl, hv⟩ | ⟨hw, hs, rfl, hv⟩ | ⟨hw, rfl, rfl⟩
  · simp only [hw, hs, if_true]; exact ⟨v, hv, h⟩
  · simp only [hw, hs, if_true, Bool.false_eq_true, if_false]; exact ⟨v, hv, h⟩
  · simp only [hw, Bool.false_eq_true, if_false]; exact h

theorem yb_of_bOp {P : Program} {ops : Array Oper} {S : List Nat} {C : Nat → World → Prop} {i : Nat} {o : Oper} {k : Nat} {a : Act} {K : Nat → Act → Prop} (hi : ops[i]? = some o) (h : bOp P ops S C i K k a) : ∃ v d, YB P ops S C i o v k d a ∧ K (k + d) (a.put o.dst v) := by
  unfold bOp at h
  simp only [hi] at h
  by_cases hw : Region.wanted o (yielded ops a.tmps) = true
  · simp only [hw, if_true] at h
    by_cases hs : S.contains i = true
    · rw [if_pos hs] at h
      obtain ⟨v, h1, h2⟩ := h
      exact ⟨v, 1, .inl ⟨hw, hs, rfl, h1⟩, h2⟩
    · rw [if_neg hs] at h
      obtain ⟨v, h1, h2⟩ := h
      exact ⟨v, 0, .inr (.inl ⟨hw, by simpa using hs, rfl, h1⟩), h2⟩
  · rw [if_neg hw] at h
    exact ⟨undef, 0, .inr (.inr ⟨by simpa using hw, rfl, rfl⟩), h⟩

theorem YB.keep {P : Program} {ops : Array Oper} {S : List Nat} {C : Nat → World → Prop} {i : Nat} {o : Oper} {v : Value} {k k2 d : Nat} {a a' : Act} (hy : YB P ops S C i o v k d a) (he : execOp a'.eval o = execOp a.eval o)
    (hw : Region.wanted o (yielded ops a'.tmps) = Region.wanted o (yielded ops a.tmps)) (hk : S.contains i = true → k2 = k) (hk' : k ≤ k2) : YB P ops S C i o v k2 d a' := by
  rcases hy with ⟨h1, h2, h3, h4⟩ | ⟨h1, h2, h3, h4⟩ | ⟨h1, h2, h3⟩
  · obtain rfl := hk h2
    exact .inl ⟨hw.trans h1, h2, h3, fun W hW => (h4 W hW).same he⟩
  · exact .inr (.inl ⟨hw.trans h1, h2, h3, fun j W hj hW => (h4 j W (Nat.le_trans hk' hj) hW).same he⟩)
  · exact .inr (.inr ⟨hw.trans h1, h2, h3⟩)

/-- An operation that may come up now may be taken first. -/
theorem anyB_first {P : Program} {md : Region.Mode} {ops : Array Oper} {S : List Nat} {C : Nat → World → Prop} {Q : Nat → Act → Prop} {i : Nat} {oi : Oper} {v : Value} (hi : ops[i]? = some oi) (hsel : ∀ (j : Nat) (o : Oper) cs b, ops[j]? = some o → o.op ≠ .select cs b) (f : Nat) :
    ∀ (listed : Array Bool) (k : Nat) (a : Act), HeadInv md ops ops.size listed →
      (∀ j oj, ops[j]? = some oj → j ≠ i → listed.getD j true = false → (∀ e ∈ oj.after, Region.binds md e = true → e.on ≠ i) → oi.apart ops oj = true) →
      i ∈ Region.ready md ops listed → S.contains i = false → YB P ops S C i oi v k 0 a →
      anyB P md ops S C Q f (listed.setIfInBounds i true) k (a.put oi.dst v) → anyB P md ops S C Q (f + 1) listed k a := by
  have ne : ∀ (listed : Array Bool), i ∈ Region.ready md ops listed → Region.ready md ops listed ≠ [] := fun listed hr h => by rw [h] at hr; cases hr
  induction f with
  | zero =>
    intro listed k a _ _ hr hsi hy H
    refine ⟨fun h0 => absurd h0 (ne _ hr), fun j hj => ?_⟩
    by_cases hji : j = i
    · subst hji; exact hy.bOp hi H
    · have := ready_mono hj hji
      rw [H.1] at this
      cases this
  | succ f ih =>
    intro listed k a inv hfree hr hsi hy H
    refine ⟨fun h0 => absurd h0 (ne _ hr), fun j hj => ?_⟩
    by_cases hji : j = i
    · subst hji; exact hy.bOp hi H
    · obtain ⟨hjun, oj, hoj, hall⟩ := mem_ready.1 hj
      have hjlt : j < ops.size := (Array.getElem?_eq_some_iff.1 hoj).1
      have hnot : ∀ e ∈ oj.after, Region.binds md e = true → e.on ≠ i := fun e he hb heq => by
        have h1 := hall e he hb
        rw [heq, getD_both (mem_ready.1 hr).1] at h1
        cases h1
      obtain ⟨h1, h2, h3⟩ := Oper.apart_spec (hfree j oj hoj hji hjun hnot)
      obtain ⟨u, d2, hu, hn⟩ := yb_of_bOp hoj (H.2 j (ready_mono hj hji))
      have hu' : YB P ops S C j oj u k d2 a := hu.keep (execOp_put oj (fun cs b => hsel j oj cs b hoj) a oi.dst v h1).symm (wanted_put oj a oi.dst v h1).symm (fun _ => rfl) (Nat.le_refl _)
      refine hu'.bOp hoj (ih (listed.setIfInBounds j true) (k + d2) (a.put oj.dst u) (inv.set hj hjlt) (fun m om hm hmi hun hno => hfree m om hm hmi ?_ hno) (ready_mono hr (Ne.symm hji)) hsi ?_ ?_)
      · by_cases hjm : j = m
        · subst hjm; exact hjun
        · rwa [getD_set_ne true hjm] at hun
      · exact hy.keep (execOp_put oi (fun cs b => hsel i oi cs b hi) a oj.dst u h3) (wanted_put oi a oj.dst u h3) (fun hi' => by rw [hsi] at hi'; cases hi') (Nat.le_add_right _ _)
      · rw [Array.setIfInBounds_comm _ _ hji, ← Act.put_comm a v u h2]
        exact hn

/-- A turn that bars all others. -/
theorem anyB_turn {P : Program} {md : Region.Mode} {ops : Array Oper} {S : List Nat} {C : Nat → World → Prop} {Q : Nat → Act → Prop} {i f k : Nat} {listed : Array Bool} {a : Act} (hr : Region.ready md ops listed = [i])
    (h : bOp P ops S C i (anyB P md ops S C Q f (listed.setIfInBounds i true)) k a) : anyB P md ops S C Q (f + 1) listed k a := by
  refine ⟨fun h0 => (by rw [hr] at h0; cases h0), fun j hj => ?_⟩
  rw [hr] at hj
  obtain rfl : j = i := by simpa using hj
  exact h
def barFrom (md : Region.Mode) (ops : Array Oper) (S : List Nat) : Nat → Nat → Array Bool → Bool
  | 0, _, _ => true
  | f + 1, p, listed => (!S.contains p || Region.ready md ops listed == [p]) && barFrom md ops S f (p + 1) (listed.setIfInBounds p true)

/-- The walk, in the order of the text. -/
def wpBar (P : Program) (ops : Array Oper) (S : List Nat) (C : Nat → World → Prop) (Q : Nat → Act → Prop) : List Oper → Nat → Nat → Act → Prop
  | [], _, k, a => Q k a
  | o :: rest, p, k, a =>
    if Region.wanted o (yielded ops a.tmps) then
      (if S.contains p then ∃ v, (∀ W, C k W → YS P o a (C (k + 1)) W v) ∧ wpBar P ops S C Q rest (p + 1) (k + 1) (a.put o.dst v) else ∃ v, (∀ j W, k ≤ j → C j W → YS P o a (C j) W v) ∧ wpBar P ops S C Q rest (p + 1) k (a.put o.dst v))
    else wpBar P ops S C Q rest (p + 1) k (a.put o.dst undef)

theorem bar_nil {P : Program} {ops : Array Oper} {S : List Nat} {C : Nat → World → Prop} {Q : Nat → Act → Prop} {p k : Nat} {a : Act} (h : Q k a) : wpBar P ops S C Q [] p k a := h
/-- What only reads. -/
theorem bar_read {P : Program} {ops : Array Oper} {S : List Nat} {C : Nat → World → Prop} {Q : Nat → Act → Prop} {o : Oper} {rest : List Oper} {p k : Nat} {a : Act} (hw : Region.wanted o (yielded ops a.tmps) = true) (hs : S.contains p = false)
    (h : ∃ v, (∀ j W, k ≤ j → C j W → YS P o a (C j) W v) ∧ ∀ K : Act → Prop, (∀ a, wpBar P ops S C Q rest (p + 1) k a → K a) → K (a.put o.dst v)) : wpBar P ops S C Q (o :: rest) p k a := by
  obtain ⟨v, h1, h2⟩ := h
  unfold wpBar
  rw [if_pos hw, if_neg (by rw [hs]; exact Bool.false_ne_true)]
  exact ⟨v, h1, h2 _ (fun _ h => h)⟩
/-- What turns the world. -/
theorem bar_turn {P : Program} {ops : Array Oper} {S : List Nat} {C : Nat → World → Prop} {Q : Nat → Act → Prop} {o : Oper} {rest : List Oper} {p k : Nat} {a : Act} (hw : Region.wanted o (yielded ops a.tmps) = true) (hs : S.contains p = true)
    (h : ∃ v, (∀ W, C k W → YS P o a (C (k + 1)) W v) ∧ ∀ K : Act → Prop, (∀ a, wpBar P ops S C Q rest (p + 1) (k + 1) a → K a) → K (a.put o.dst v)) : wpBar P ops S C Q (o :: rest) p k a := by
  obtain ⟨v, h1, h2⟩ := h
  unfold wpBar
  rw [if_pos hw, if_pos hs]
  exact ⟨v, h1, h2 _ (fun _ h => h)⟩
/-- What is not wanted. -/
theorem bar_skip {P : Program} {ops : Array Oper} {S : List Nat} {C : Nat → World → Prop} {Q : Nat → Act → Prop} {o : Oper} {rest : List Oper} {p k : Nat} {a : Act} (hw : Region.wanted o (yielded ops a.tmps) = false)
    (h : ∀ K : Act → Prop, (∀ a, wpBar P ops S C Q rest (p + 1) k a → K a) → K (a.put o.dst undef)) : wpBar P ops S C Q (o :: rest) p k a := by
  unfold wpBar
  rw [if_neg (by rw [hw]; exact Bool.false_ne_true)]
  exact h _ (fun _ h => h)

theorem anyB_lex {P : Program} {md : Region.Mode} {ops : Array Oper} {S : List Nat} {C : Nat → World → Prop} {Q : Nat → Act → Prop} (hsel : Region.noSelect ops = true) (l : List Oper) :
    ∀ (p : Nat) (listed : Array Bool) (k : Nat) (a : Act), (∀ j, l[j]? = ops[p + j]?) → HeadInv md ops ops.size listed → Region.lexFrom md ops l.length p listed = true → barFrom md ops S l.length p listed = true → wpBar P ops S C Q l p k a → anyB P md ops S C Q l.length listed k a := by
  induction l with
  | nil => intro p listed k a _ _ hB _ h; exact ⟨by simpa [Region.lexFrom] using hB, h⟩
  | cons o l ih =>
    intro p listed k a hl inv hB hF h
    have h0 : ops[p]? = some o := by simpa using (hl 0).symm
    simp only [List.length_cons, Region.lexFrom, Bool.and_eq_true] at hB
    have hr : p ∈ Region.ready md ops listed := by simpa using hB.1.1
    have hst : bOp P ops S C p (fun k a => wpBar P ops S C Q l (p + 1) k a) k a := by unfold bOp; simp only [h0]; exact h
    simp only [List.length_cons, barFrom, Bool.and_eq_true, Bool.or_eq_true, Bool.not_eq_true'] at hF
    have hl' : ∀ j, l[j]? = ops[p + 1 + j]? := fun j => by
      have := hl (j + 1)
      simpa [Nat.add_assoc, Nat.add_comm 1 j] using this
    have inv' := inv.set hr (Array.getElem?_eq_some_iff.1 h0).1
    by_cases hs : S.contains p = true
    · have hrd : Region.ready md ops listed = [p] := by
        rcases hF.1 with h1 | h1
        · rw [hs] at h1; cases h1
        · simpa using h1
      exact anyB_turn hrd (bOp_mono (fun k' a' h' => ih (p + 1) _ k' a' hl' inv' hB.2 hF.2 h') hst)
    · obtain ⟨v, d, hy, hK⟩ := yb_of_bOp h0 hst
      have hsf : S.contains p = false := by simpa using hs
      obtain rfl : d = 0 := by
        rcases hy with ⟨_, h1, _⟩ | ⟨_, _, h1, _⟩ | ⟨_, h1, _⟩
        · rw [hsf] at h1; cases h1
        · exact h1
        · exact h1
      exact anyB_first h0 (Region.noSelect_spec hsel) l.length listed k a inv (Region.free_spec h0 hB.1.2) hr hsf hy (ih (p + 1) _ _ _ hl' inv' hB.2 hF.2 hK)

theorem wp_region_barred {P : Program} {id : Nat} {Q : Exit → Act → World → Prop} {a : Act} {w : World} {l : List Oper} (S : List Nat) (C : Nat → World → Prop) (hm : P.follows .mixedOrders = true) (hB : Region.lexB .any l.toArray = true) (hS : barFrom .any l.toArray S l.length 0 (Array.replicate l.toArray.size false) = true) (hC : C 0 w.drew)
    (h : wpBar P l.toArray S C (fun k a' => ∀ w', C k w' → Q .normal a' w') l 0 0 a) : (Code.region id l.toArray true).wp P Q a w := by
  simp only [Region.lexB, Bool.and_eq_true] at hB
  have inv0 : HeadInv .any l.toArray l.toArray.size (Array.replicate l.toArray.size false) :=
    ⟨by simp, fun j oj _ hl => (by rw [getD_replicate_false] at hl; cases hl), fun t h1 h2 => by omega⟩
  have H := anyB_lex (md := .any) hB.1 l 0 _ 0 a (by simp) inv0 (by simpa using hB.2) hS h
  refine wp_region_any hm (wpAny_of_anyB (S := S) (Q := fun k a' => ∀ w', C k w' → Q .normal a' w') (fun k a w' hw' h => h w' hw') _ _ 0 _ _ hC ?_)
  simpa using H
end Go.Proofs.YtmfbhhloabkecaaGreatDoor
/- As Barred, but what a turn yields is a VARIABLE (the tape picks blocks and capacities): the stage is the list of what the turns have yielded so far, and the rest is walked for each value that can come out. -/
namespace Go.Proofs.YtmfbhhloabkecaaGreatDoor
open Go

/-- Operation o, carried out as frame a has it, yields some v and leaves a world of C v, whatever frame the value is put into. -/
def YV (P : Program) (o : Oper) (a : Act) (C : Value → World → Prop) (W : World) : Prop :=
  ∀ (b : Act) (K : Act → World → Prop) (Q : Exit → Act → World → Prop), (∀ v W', C v W' → K (b.put o.dst v) W') → o.upon P b K Q ((execOp a.eval o).run P W)

theorem YV.same {P : Program} {o : Oper} {a a' : Act} {C : Value → World → Prop} {W : World} (h : YV P o a C W) (he : execOp a'.eval o = execOp a.eval o) : YV P o a' C W := by
  unfold YV at *
  rw [he]; exact h

/-- One operation at place i, behind the turns s. -/
def vOp (P : Program) (ops : Array Oper) (S : List Nat) (C : List Value → World → Prop) (i : Nat) (K : List Value → Act → Prop) (s : List Value) (a : Act) : Prop :=
  match ops[i]? with
  | none => K s a
  | some o =>
    if Region.wanted o (yielded ops a.tmps) then
      (if S.contains i then (∀ W, C s W → YV P o a (fun v => C (s ++ [v])) W) ∧ (∀ v, (∃ W', C (s ++ [v]) W') → K (s ++ [v]) (a.put o.dst v)) else ∃ v, (∀ s' W, C (s ++ s') W → YS P o a (C (s ++ s')) W v) ∧ K s (a.put o.dst v))
    else K s (a.put o.dst undef)

theorem vOp_mono {P : Program} {ops : Array Oper} {S : List Nat} {C : List Value → World → Prop} {i : Nat} {K K' : List Value → Act → Prop} {s : List Value} {a : Act} (h : ∀ s a, K s a → K' s a) (hh : vOp P ops S C i K s a) : vOp P ops S C i K' s a := by
  unfold vOp at *
  split
  · rename_i ho; simp only [ho] at hh; exact h _ _ hh
  · rename_i o ho
    simp only [ho] at hh
    split
    · rename_i hw
      simp only [hw, if_true] at hh
      split
      · rename_i hs; rw [if_pos hs] at hh; obtain ⟨h1, h2⟩ := hh; exact ⟨h1, fun v hv => h _ _ (h2 v hv)⟩
      · rename_i hs; rw [if_neg hs] at hh; obtain ⟨v, h1, h2⟩ := hh; exact ⟨v, h1, h _ _ h2⟩
    · rename_i hw; rw [if_neg hw] at hh; exact h _ _ hh

/-- Whatever order is picked from here on. -/
def anyV (P : Program) (md : Region.Mode) (ops : Array Oper) (S : List Nat) (C : List Value → World → Prop) (Q : List Value → Act → Prop) : Nat → Array Bool → List Value → Act → Prop
  | 0, listed, s, a => Region.ready md ops listed = [] ∧ Q s a
  | f + 1, listed, s, a => (Region.ready md ops listed = [] → Q s a) ∧ ∀ i ∈ Region.ready md ops listed, vOp P ops S C i (anyV P md ops S C Q f (listed.setIfInBounds i true)) s a

theorem wpOp_of_vOp {P : Program} {ops : Array Oper} {S : List Nat} {C : List Value → World → Prop} {i : Nat} {s : List Value} {K : List Value → Act → Prop} {K' : Act → World → Prop} {Q' : Exit → Act → World → Prop} {a : Act} {w : World} (hC : C s w) (h : ∀ s a w', C s w' → K s a → K' a w') (hh : vOp P ops S C i K s a) : wpOp P ops Q' i K' a w := by
  unfold vOp at hh
  unfold wpOp
  split
  · rename_i ho; simp only [ho] at hh; exact h _ _ _ hC hh
  · rename_i o ho
    simp only [ho] at hh
    split
    · rename_i hw
      simp only [hw, if_true] at hh
      left
      split at hh
      · obtain ⟨h1, h2⟩ := hh
        exact h1 w hC a K' Q' (fun v W' hW' => h _ _ _ hW' (h2 v ⟨W', hW'⟩))
      · obtain ⟨v, h1, h2⟩ := hh
        have h1' := h1 [] w (by simpa using hC) a K' Q'
        refine h1' (fun W' hW' => h _ _ _ (by simpa using hW') h2)
    · rename_i hw; rw [if_neg hw] at hh; exact h _ _ _ hC hh

theorem wpAny_of_anyV {P : Program} {md : Region.Mode} {ops : Array Oper} {S : List Nat} {C : List Value → World → Prop} {Q : List Value → Act → Prop} {Q' : Exit → Act → World → Prop} (hQ : ∀ s a w, C s w → Q s a → Q' .normal a w) (f : Nat) :
    ∀ (listed : Array Bool) (s : List Value) (a : Act) (w : World), C s w → anyV P md ops S C Q f listed s a → wpAny P md ops Q' f listed a w := by
  induction f with
  | zero => intro listed s a w hw h; exact ⟨h.1, hQ _ _ _ hw h.2⟩
  | succ f ih => intro listed s a w hw h; exact ⟨fun h0 => hQ _ _ _ hw (h.1 h0), fun i hi => wpOp_of_vOp hw (fun s' a' w' hw' h' => ih _ s' a' w' hw' h') (h.2 i hi)⟩

/-- What a reading operation does in frame a from stage s on. -/
def YR (P : Program) (ops : Array Oper) (C : List Value → World → Prop) (o : Oper) (v : Value) (s : List Value) (a : Act) : Prop :=
  (Region.wanted o (yielded ops a.tmps) = true ∧ ∀ s' W, C (s ++ s') W → YS P o a (C (s ++ s')) W v) ∨
  (Region.wanted o (yielded ops a.tmps) = false ∧ v = undef)

theorem YR.vOp {P : Program} {ops : Array Oper} {S : List Nat} {C : List Value → World → Prop} {i : Nat} {o : Oper} {v : Value} {s : List Value} {a : Act} (hi : ops[i]? = some o) (hs : S.contains i = false) (hy : YR P ops C o v s a) {K : List Value → Act → Prop} (h : K s (a.put o.dst v)) : vOp P ops S C i K s a := by
  unfold Go.Proofs.YtmfbhhloabkecaaGreatDoor.vOp
  simp only [hi]
  rcases hy with ⟨hw, hv⟩ | ⟨hw, rfl⟩
  · simp only [hw, hs, if_true, Bool.false_eq_true, if_false]; exact ⟨v, hv, h⟩
  · simp only [hw, Bool.false_eq_true, if_false]; exact h

theorem yr_of_vOp {P : Program} {ops : Array Oper} {S : List Nat} {C : List Value → World → Prop} {i : Nat} {o : Oper} {s : List Value} {a : Act} {K : List Value → Act → Prop} (hi : ops[i]? = some o) (hs : S.contains i = false) (h : vOp P ops S C i K s a) : ∃ v, YR P ops C o v s a ∧ K s (a.put o.dst v) := by
  unfold vOp at h
  simp only [hi] at h
  by_cases hw : Region.wanted o (yielded ops a.tmps) = true
  · simp only [hw, if_true] at h
    rw [if_neg (by rw [hs]; exact Bool.false_ne_true)] at h
    obtain ⟨v, h1, h2⟩ := h
    exact ⟨v, .inl ⟨hw, h1⟩, h2⟩
  · rw [if_neg hw] at h
    exact ⟨undef, .inr ⟨by simpa using hw, rfl⟩, h⟩

theorem YR.keep {P : Program} {ops : Array Oper} {C : List Value → World → Prop} {o : Oper} {v : Value} {s : List Value} {a a' : Act} (hy : YR P ops C o v s a) (he : execOp a'.eval o = execOp a.eval o)
    (hw : Region.wanted o (yielded ops a'.tmps) = Region.wanted o (yielded ops a.tmps)) (t : List Value) : YR P ops C o v (s ++ t) a' := by
  rcases hy with ⟨h1, h4⟩ | ⟨h1, h3⟩
  · refine .inl ⟨hw.trans h1, fun s' W hW => ?_⟩
    rw [List.append_assoc] at hW ⊢
    exact (h4 (t ++ s') W hW).same he
  · exact .inr ⟨hw.trans h1, h3⟩

/-- Another operation, in the frame without what was put. -/
theorem vOp_put {P : Program} {ops : Array Oper} {S : List Nat} {C : List Value → World → Prop} {j : Nat} {oj : Oper} {s : List Value} {a b : Act} {K K' : List Value → Act → Prop} (hj : ops[j]? = some oj) (he : execOp a.eval oj = execOp b.eval oj) (hw : Region.wanted oj (yielded ops a.tmps) = Region.wanted oj (yielded ops b.tmps))
    (hh : vOp P ops S C j K s b) (hK : ∀ t u, K (s ++ t) (b.put oj.dst u) → K' (s ++ t) (a.put oj.dst u)) : vOp P ops S C j K' s a := by
  unfold vOp at *
  simp only [hj] at *
  rw [hw]
  split
  · rename_i h1
    rw [if_pos h1] at hh
    split
    · rename_i h2
      rw [if_pos h2] at hh
      exact ⟨fun W hW => (hh.1 W hW).same he, fun v hv => hK [v] v (hh.2 v hv)⟩
    · rename_i h2
      rw [if_neg h2] at hh
      obtain ⟨v, h3, h4⟩ := hh
      have := hK [] v (by simpa using h4)
      exact ⟨v, fun s' W hW => (h3 s' W hW).same he, by simpa using this⟩
  · rename_i h1
    rw [if_neg h1] at hh
    have := hK [] undef (by simpa using hh)
    simpa using this

/-- A reading operation that may come up now may be taken first. -/
theorem anyV_first {P : Program} {md : Region.Mode} {ops : Array Oper} {S : List Nat} {C : List Value → World → Prop} {Q : List Value → Act → Prop} {i : Nat} {oi : Oper} {v : Value} (hi : ops[i]? = some oi) (hsi : S.contains i = false) (hsel : ∀ (j : Nat) (o : Oper) cs b, ops[j]? = some o → o.op ≠ .select cs b) (f : Nat) :
    ∀ (listed : Array Bool) (s : List Value) (a : Act), HeadInv md ops ops.size listed →
      (∀ j oj, ops[j]? = some oj → j ≠ i → listed.getD j true = false → (∀ e ∈ oj.after, Region.binds md e = true → e.on ≠ i) → oi.apart ops oj = true) →
      i ∈ Region.ready md ops listed → YR P ops C oi v s a →
      anyV P md ops S C Q f (listed.setIfInBounds i true) s (a.put oi.dst v) → anyV P md ops S C Q (f + 1) listed s a := by
  have ne : ∀ (listed : Array Bool), i ∈ Region.ready md ops listed → Region.ready md ops listed ≠ [] := fun listed hr h => by rw [h] at hr; cases hr
  induction f with
  | zero =>
    intro listed s a _ _ hr hy H
    refine ⟨fun h0 => absurd h0 (ne _ hr), fun j hj => ?_⟩
    by_cases hji : j = i
    · subst hji; exact hy.vOp hi hsi H
    · have := ready_mono hj hji
      rw [H.1] at this
      cases this
  | succ f ih =>
    intro listed s a inv hfree hr hy H
    refine ⟨fun h0 => absurd h0 (ne _ hr), fun j hj => ?_⟩
    by_cases hji : j = i
    · subst hji; exact hy.vOp hi hsi H
    · obtain ⟨hjun, oj, hoj, hall⟩ := mem_ready.1 hj
      have hjlt : j < ops.size := (Array.getElem?_eq_some_iff.1 hoj).1
      have hnot : ∀ e ∈ oj.after, Region.binds md e = true → e.on ≠ i := fun e he hb heq => by
        have h1 := hall e he hb
        rw [heq, getD_both (mem_ready.1 hr).1] at h1
        cases h1
      obtain ⟨h1, h2, h3⟩ := Oper.apart_spec (hfree j oj hoj hji hjun hnot)
      refine vOp_put hoj (execOp_put oj (fun cs b => hsel j oj cs b hoj) a oi.dst v h1).symm (wanted_put oj a oi.dst v h1).symm (H.2 j (ready_mono hj hji)) (fun t u hn => ?_)
      refine ih (listed.setIfInBounds j true) (s ++ t) (a.put oj.dst u) (inv.set hj hjlt) (fun m om hm hmi hun hno => hfree m om hm hmi ?_ hno) (ready_mono hr (Ne.symm hji)) ?_ ?_
      · by_cases hjm : j = m
        · subst hjm; exact hjun
        · rwa [getD_set_ne true hjm] at hun
      · exact hy.keep (execOp_put oi (fun cs b => hsel i oi cs b hi) a oj.dst u h3) (wanted_put oi a oj.dst u h3) t
      · rw [Array.setIfInBounds_comm _ _ hji, ← Act.put_comm a v u h2]
        exact hn

/-- A turn that bars all others. -/
theorem anyV_turn {P : Program} {md : Region.Mode} {ops : Array Oper} {S : List Nat} {C : List Value → World → Prop} {Q : List Value → Act → Prop} {i f : Nat} {s : List Value} {listed : Array Bool} {a : Act} (hr : Region.ready md ops listed = [i])
    (h : vOp P ops S C i (anyV P md ops S C Q f (listed.setIfInBounds i true)) s a) : anyV P md ops S C Q (f + 1) listed s a := by
  refine ⟨fun h0 => (by rw [hr] at h0; cases h0), fun j hj => ?_⟩
  rw [hr] at hj
  obtain rfl : j = i := by simpa using hj
  exact h

/-- The walk, in the order of the text. -/
def wpBarv (P : Program) (ops : Array Oper) (S : List Nat) (C : List Value → World → Prop) (Q : List Value → Act → Prop) : List Oper → Nat → List Value → Act → Prop
  | [], _, s, a => Q s a
  | o :: rest, p, s, a =>
    if Region.wanted o (yielded ops a.tmps) then
      (if S.contains p then (∀ W, C s W → YV P o a (fun v => C (s ++ [v])) W) ∧ (∀ v, (∃ W', C (s ++ [v]) W') → wpBarv P ops S C Q rest (p + 1) (s ++ [v]) (a.put o.dst v)) else ∃ v, (∀ s' W, C (s ++ s') W → YS P o a (C (s ++ s')) W v) ∧ wpBarv P ops S C Q rest (p + 1) s (a.put o.dst v))
    else wpBarv P ops S C Q rest (p + 1) s (a.put o.dst undef)

theorem barv_nil {P : Program} {ops : Array Oper} {S : List Nat} {C : List Value → World → Prop} {Q : List Value → Act → Prop} {p : Nat} {s : List Value} {a : Act} (h : Q s a) : wpBarv P ops S C Q [] p s a := h
/-- What only reads. -/
theorem barv_read {P : Program} {ops : Array Oper} {S : List Nat} {C : List Value → World → Prop} {Q : List Value → Act → Prop} {o : Oper} {rest : List Oper} {p : Nat} {s : List Value} {a : Act} (hw : Region.wanted o (yielded ops a.tmps) = true) (hs : S.contains p = false)
    (h : ∃ v, (∀ s' W, C (s ++ s') W → YS P o a (C (s ++ s')) W v) ∧ ∀ K : Act → Prop, (∀ a, wpBarv P ops S C Q rest (p + 1) s a → K a) → K (a.put o.dst v)) : wpBarv P ops S C Q (o :: rest) p s a := by
  obtain ⟨v, h1, h2⟩ := h
  unfold wpBarv
  rw [if_pos hw, if_neg (by rw [hs]; exact Bool.false_ne_true)]
  exact ⟨v, h1, h2 _ (fun _ h => h)⟩
/-- What turns the world. -/
theorem barv_turn {P : Program} {ops : Array Oper} {S : List Nat} {C : List Value → World → Prop} {Q : List Value → Act → Prop} {o : Oper} {rest : List Oper} {p : Nat} {s : List Value} {a : Act} (hw : Region.wanted o (yielded ops a.tmps) = true) (hs : S.contains p = true)
    (h1 : ∀ W, C s W → YV P o a (fun v => C (s ++ [v])) W) (h2 : ∀ v, (∃ W', C (s ++ [v]) W') → ∀ K : Act → Prop, (∀ a, wpBarv P ops S C Q rest (p + 1) (s ++ [v]) a → K a) → K (a.put o.dst v)) : wpBarv P ops S C Q (o :: rest) p s a := by
  unfold wpBarv
  rw [if_pos hw, if_pos hs]
  exact ⟨h1, fun v hv => h2 v hv _ (fun _ h => h)⟩
/-- What is not wanted. -/
theorem barv_skip {P : Program} {ops : Array Oper} {S : List Nat} {C : List Value → World → Prop} {Q : List Value → Act → Prop} {o : Oper} {rest : List Oper} {p : Nat} {s : List Value} {a : Act} (hw : Region.wanted o (yielded ops a.tmps) = false)
    (h : ∀ K : Act → Prop, (∀ a, wpBarv P ops S C Q rest (p + 1) s a → K a) → K (a.put o.dst undef)) : wpBarv P ops S C Q (o :: rest) p s a := by
  unfold wpBarv
  rw [if_neg (by rw [hw]; exact Bool.false_ne_true)]
  exact h _ (fun _ h => h)

theorem anyV_lex {P : Program} {md : Region.Mode} {ops : Array Oper} {S : List Nat} {C : List Value → World → Prop} {Q : List Value → Act → Prop} (hsel : Region.noSelect ops = true) (l : List Oper) :
    ∀ (p : Nat) (listed : Array Bool) (s : List Value) (a : Act), (∀ j, l[j]? = ops[p + j]?) → HeadInv md ops ops.size listed → Region.lexFrom md ops l.length p listed = true → barFrom md ops S l.length p listed = true → wpBarv P ops S C Q l p s a → anyV P md ops S C Q l.length listed s a := by
  induction l with
  | nil => intro p listed s a _ _ hB _ h; exact ⟨by simpa [Region.lexFrom] using hB, h⟩
  | cons o l ih =>
    intro p listed s a hl inv hB hF h
    have h0 : ops[p]? = some o := by simpa using (hl 0).symm
    simp only [List.length_cons, Region.lexFrom, Bool.and_eq_true] at hB
    have hr : p ∈ Region.ready md ops listed := by simpa using hB.1.1
    have hst : vOp P ops S C p (fun s a => wpBarv P ops S C Q l (p + 1) s a) s a := by unfold vOp; simp only [h0]; exact h
    simp only [List.length_cons, barFrom, Bool.and_eq_true, Bool.or_eq_true, Bool.not_eq_true'] at hF
    have hl' : ∀ j, l[j]? = ops[p + 1 + j]? := fun j => by
      have := hl (j + 1)
      simpa [Nat.add_assoc, Nat.add_comm 1 j] using this
    have inv' := inv.set hr (Array.getElem?_eq_some_iff.1 h0).1
    by_cases hs : S.contains p = true
    · have hrd : Region.ready md ops listed = [p] := by
        rcases hF.1 with h1 | h1
        · rw [hs] at h1; cases h1
        · simpa using h1
      exact anyV_turn hrd (vOp_mono (fun s' a' h' => ih (p + 1) _ s' a' hl' inv' hB.2 hF.2 h') hst)
    · have hsf : S.contains p = false := by simpa using hs
      obtain ⟨v, hy, hK⟩ := yr_of_vOp h0 hsf hst
      exact anyV_first h0 hsf (Region.noSelect_spec hsel) l.length listed s a inv (Region.free_spec h0 hB.1.2) hr hy (ih (p + 1) _ _ _ hl' inv' hB.2 hF.2 hK)

theorem wp_region_barv {P : Program} {id : Nat} {Q : Exit → Act → World → Prop} {a : Act} {w : World} {l : List Oper} (S : List Nat) (C : List Value → World → Prop) (hm : P.follows .mixedOrders = true) (hB : Region.lexB .any l.toArray = true) (hS : barFrom .any l.toArray S l.length 0 (Array.replicate l.toArray.size false) = true) (hC : C [] w.drew)
    (h : wpBarv P l.toArray S C (fun s a' => ∀ w', C s w' → Q .normal a' w') l 0 [] a) : (Code.region id l.toArray true).wp P Q a w := by
  simp only [Region.lexB, Bool.and_eq_true] at hB
  have inv0 : HeadInv .any l.toArray l.toArray.size (Array.replicate l.toArray.size false) :=
    ⟨by simp, fun j oj _ hl => (by rw [getD_replicate_false] at hl; cases hl), fun t h1 h2 => by omega⟩
  have H := anyV_lex (md := .any) hB.1 l 0 _ [] a (by simp) inv0 (by simpa using hB.2) hS h
  refine wp_region_any hm (wpAny_of_anyV (S := S) (Q := fun s a' => ∀ w', C s w' → Q .normal a' w') (fun s a w' hw' h => h w' hw') _ _ [] _ _ hC ?_)
  simpa using H
end Go.Proofs.YtmfbhhloabkecaaGreatDoor
