import Derived.Test.YtmfbhhloabkecaaGreatDoorVLift
import Derived.Lib.Bytealg
import Derived.StillTail
import Derived.Deep.Quiet
namespace Go.Proofs.YtmfbhhloabkecaaGreatDoor
open Go.RowKit
end Go.Proofs.YtmfbhhloabkecaaGreatDoor
namespace Go.Proofs.YtmfbhhloabkecaaGreatDoor
open Go.RowKit
def cutS (s : ByteArray) : ByteArray := if 200 < s.size then s.extract 0 200 else s
end Go.Proofs.YtmfbhhloabkecaaGreatDoor
namespace Go.Proofs.YtmfbhhloabkecaaGreatDoor
open Go.RowKit
def rcl (l : List Val) : List Value := l.flatMap fun v => [.int .i64 v.k, .int .i64 v.n, .string v.s]
theorem rcl_len : ∀ l : List Val, (rcl l).length = l.length * 3
  | [] => rfl
  | v :: l => by
    have := rcl_len l
    have e : rcl (v :: l) = [.int .i64 v.k, .int .i64 v.n, .string v.s] ++ rcl l := rfl
    rw [e, List.length_append, this, List.length_cons]; simp; omega
theorem rcl_get : ∀ (l : List Val) (j : Nat) (hj : j < l.length), (rcl l)[j * 3]? = some (.int .i64 l[j].k) ∧ (rcl l)[j * 3 + 1]? = some (.int .i64 l[j].n) ∧ (rcl l)[j * 3 + 2]? = some (.string l[j].s)
  | v :: l, 0, _ => ⟨rfl, rfl, rfl⟩
  | v :: l, j + 1, hj => by
    have e : rcl (v :: l) = [.int .i64 v.k, .int .i64 v.n, .string v.s] ++ rcl l := rfl
    have ih := rcl_get l j (by simpa using hj)
    rw [e, show (j + 1) * 3 = 3 + j * 3 by omega]
    rw [List.getElem?_append_right (by simp), List.getElem?_append_right (by simp; omega), List.getElem?_append_right (by simp; omega)]
    simp only [List.length_cons, List.length_nil, List.getElem_cons_succ]
    rw [show 3 + j * 3 - (0 + 1 + 1 + 1) = j * 3 by omega, show 3 + j * 3 + 1 - (0 + 1 + 1 + 1) = j * 3 + 1 by omega, show 3 + j * 3 + 2 - (0 + 1 + 1 + 1) = j * 3 + 2 by omega]
    exact ih
theorem rcl_one (l : List Val) : ∀ u ∈ rcl l, u.oneCell' = true := by
  intro u hu
  simp only [rcl, List.mem_flatMap] at hu
  obtain ⟨v, _, hv⟩ := hu
  simp at hv
  rcases hv with rfl | rfl | rfl <;> rfl
theorem row_slice {w : World} {base : Nat} {t : TypeId} {sz n : Nat} {v : Value} {xs : List Value} (h : w.ownsRow base t sz v n xs) : ∃ ao c, v = .slice ao n c := by
  rcases h.2 with ⟨rfl, rfl⟩ | ⟨g, cap, cur, rfl, hg, _⟩
  · exact ⟨_, _, rfl⟩
  · exact ⟨_, _, rfl⟩
theorem row_ge {w : World} {base : Nat} {t : TypeId} {sz n : Nat} {v : Value} {xs : List Value} (h : w.ownsRow base t sz v n xs) {k : Nat} (hk : v.ownBlock = some k) : base ≤ k := by
  rcases h.2 with ⟨rfl, _⟩ | ⟨g, cap, cur, rfl, hg, _⟩
  · cases hk
  · simp [Value.ownBlock] at hk; omega
end Go.Proofs.YtmfbhhloabkecaaGreatDoor
namespace Go.Proofs.YtmfbhhloabkecaaGreatDoor
open Go
def YS (P : Program) (o : Oper) (a : Act) (C : World → Prop) (W : World) (v : Value) : Prop :=
  ∀ (b : Act) (K : Act → World → Prop) (Q : Exit → Act → World → Prop), (∀ W', C W' → K (b.put o.dst v) W') → o.upon P b K Q ((execOp a.eval o).run P W)
theorem YS.same {P : Program} {o : Oper} {a a' : Act} {C : World → Prop} {W : World} {v : Value} (h : YS P o a C W v) (he : execOp a'.eval o = execOp a.eval o) : YS P o a' C W v := by
  unfold YS at *
  rw [he]; exact h
end Go.Proofs.YtmfbhhloabkecaaGreatDoor
namespace Go.Proofs.YtmfbhhloabkecaaGreatDoor
open Go
end Go.Proofs.YtmfbhhloabkecaaGreatDoor
namespace Go.Proofs.YtmfbhhloabkecaaGreatDoor
open Go
def YV (P : Program) (o : Oper) (a : Act) (C : Value → World → Prop) (W : World) : Prop :=
  ∀ (b : Act) (K : Act → World → Prop) (Q : Exit → Act → World → Prop), (∀ v W', C v W' → K (b.put o.dst v) W') → o.upon P b K Q ((execOp a.eval o).run P W)
theorem YV.same {P : Program} {o : Oper} {a a' : Act} {C : Value → World → Prop} {W : World} (h : YV P o a C W) (he : execOp a'.eval o = execOp a.eval o) : YV P o a' C W := by
  unfold YV at *
  rw [he]; exact h
def vOp (P : Program) (ops : Array Oper) (S : List Nat) (C : List Value → World → Prop) (i : Nat) (K : List Value → Act → Prop) (s : List Value) (a : Act) : Prop :=
  match ops[i]? with
  | none => K s a
  | some o =>
    if Region.wanted o (yielded ops a.tmps) then
      (if S.contains i then (∀ W, C s W → YV P o a (fun v => C (s ++ [v])) W) ∧ (∀ v, (∃ W', C (s ++ [v]) W') → K (s ++ [v]) (a.put o.dst v)) else ∃ v, (∀ s' W, C (s ++ s') W → YS P o a (C (s ++ s')) W v) ∧ K s (a.put o.dst v))
    else K s (a.put o.dst undef)
theorem vOp_mono {P : Program} {ops : Array Oper} {S : List Nat} {C : List Value → World → Prop} {i : Nat} {K K' : List Value → Act → Prop} {s : List Value} {a : Act} (h : ∀ s a, K s a → K' s a) (hh : vOp P ops S C i K s a) : vOp P ops S C i K' s a := by
  unfold vOp at *
  split
  · rename_i ho; simp only [ho] at hh; exact h _ _ hh
  · rename_i o ho
    simp only [ho] at hh
    split
    · rename_i hw
      simp only [hw, if_true] at hh
      split
      · rename_i hs; rw [if_pos hs] at hh; obtain ⟨h1, h2⟩ := hh; exact ⟨h1, fun v hv => h _ _ (h2 v hv)⟩
      · rename_i hs; rw [if_neg hs] at hh; obtain ⟨v, h1, h2⟩ := hh; exact ⟨v, h1, h _ _ h2⟩
    · rename_i hw; rw [if_neg hw] at hh; exact h _ _ hh
theorem wpOp_of_vOp {P : Program} {ops : Array Oper} {S : List Nat} {C : List Value → World → Prop} {i : Nat} {s : List Value} {K : List Value → Act → Prop} {K' : Act → World → Prop} {Q' : Exit → Act → World → Prop} {a : Act} {w : World} (hC : C s w) (h : ∀ s a w', C s w' → K s a → K' a w') (hh : vOp P ops S C i K s a) : wpOp P ops Q' i K' a w := by
  unfold vOp at hh
  unfold wpOp
  split
  · rename_i ho; simp only [ho] at hh; exact h _ _ _ hC hh
  · rename_i o ho
    simp only [ho] at hh
    split
    · rename_i hw
      simp only [hw, if_true] at hh
      left
      split at hh
      · obtain ⟨h1, h2⟩ := hh
        exact h1 w hC a K' Q' (fun v W' hW' => h _ _ _ hW' (h2 v ⟨W', hW'⟩))
      · obtain ⟨v, h1, h2⟩ := hh
        have h1' := h1 [] w (by simpa using hC) a K' Q'
        refine h1' (fun W' hW' => h _ _ _ (by simpa using hW') h2)
    · rename_i hw; rw [if_neg hw] at hh; exact h _ _ _ hC hh
def YR (P : Program) (ops : Array Oper) (C : List Value → World → Prop) (o : Oper) (v : Value) (s : List Value) (a : Act) : Prop :=
  (Region.wanted o (yielded ops a.tmps) = true ∧ ∀ s' W, C (s ++ s') W → YS P o a (C (s ++ s')) W v) ∨
  (Region.wanted o (yielded ops a.tmps) = false ∧ v = undef)
theorem YR.vOp {P : Program} {ops : Array Oper} {S : List Nat} {C : List Value → World → Prop} {i : Nat} {o : Oper} {v : Value} {s : List Value} {a : Act} (hi : ops[i]? = some o) (hs : S.contains i = false) (hy : YR P ops C o v s a) {K : List Value → Act → Prop} (h : K s (a.put o.dst v)) : vOp P ops S C i K s a := by
  unfold Go.Proofs.YtmfbhhloabkecaaGreatDoor.vOp
  simp only [hi]
  rcases hy with ⟨hw, hv⟩ | ⟨hw, rfl⟩
  · simp only [hw, hs, if_true, Bool.false_eq_true, if_false]; exact ⟨v, hv, h⟩
  · simp only [hw, Bool.false_eq_true, if_false]; exact h
theorem yr_of_vOp {P : Program} {ops : Array Oper} {S : List Nat} {C : List Value → World → Prop} {i : Nat} {o : Oper} {s : List Value} {a : Act} {K : List Value → Act → Prop} (hi : ops[i]? = some o) (hs : S.contains i = false) (h : vOp P ops S C i K s a) : ∃ v, YR P ops C o v s a ∧ K s (a.put o.dst v) := by
  unfold vOp at h
  simp only [hi] at h
  by_cases hw : Region.wanted o (yielded ops a.tmps) = true
  · simp only [hw, if_true] at h
    rw [if_neg (by rw [hs]; exact Bool.false_ne_true)] at h
    obtain ⟨v, h1, h2⟩ := h
    exact ⟨v, .inl ⟨hw, h1⟩, h2⟩
  · rw [if_neg hw] at h
    exact ⟨undef, .inr ⟨by simpa using hw, rfl⟩, h⟩
theorem YR.keep {P : Program} {ops : Array Oper} {C : List Value → World → Prop} {o : Oper} {v : Value} {s : List Value} {a a' : Act} (hy : YR P ops C o v s a) (he : execOp a'.eval o = execOp a.eval o)
    (hw : Region.wanted o (yielded ops a'.tmps) = Region.wanted o (yielded ops a.tmps)) (t : List Value) : YR P ops C o v (s ++ t) a' := by
  rcases hy with ⟨h1, h4⟩ | ⟨h1, h3⟩
  · refine .inl ⟨hw.trans h1, fun s' W hW => ?_⟩
    rw [List.append_assoc] at hW ⊢
    exact (h4 (t ++ s') W hW).same he
  · exact .inr ⟨hw.trans h1, h3⟩
theorem vOp_put {P : Program} {ops : Array Oper} {S : List Nat} {C : List Value → World → Prop} {j : Nat} {oj : Oper} {s : List Value} {a b : Act} {K K' : List Value → Act → Prop} (hj : ops[j]? = some oj) (he : execOp a.eval oj = execOp b.eval oj) (hw : Region.wanted oj (yielded ops a.tmps) = Region.wanted oj (yielded ops b.tmps))
    (hh : vOp P ops S C j K s b) (hK : ∀ t u, K (s ++ t) (b.put oj.dst u) → K' (s ++ t) (a.put oj.dst u)) : vOp P ops S C j K' s a := by
  unfold vOp at *
  simp only [hj] at *
  rw [hw]
  split
  · rename_i h1
    rw [if_pos h1] at hh
    split
    · rename_i h2
      rw [if_pos h2] at hh
      exact ⟨fun W hW => (hh.1 W hW).same he, fun v hv => hK [v] v (hh.2 v hv)⟩
    · rename_i h2
      rw [if_neg h2] at hh
      obtain ⟨v, h3, h4⟩ := hh
      have := hK [] v (by simpa using h4)
      exact ⟨v, fun s' W hW => (h3 s' W hW).same he, by simpa using this⟩
  · rename_i h1
    rw [if_neg h1] at hh
    have := hK [] undef (by simpa using hh)
    simpa using this
end Go.Proofs.YtmfbhhloabkecaaGreatDoor
