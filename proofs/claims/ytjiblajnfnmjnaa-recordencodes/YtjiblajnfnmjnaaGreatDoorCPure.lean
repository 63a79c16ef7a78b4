import Derived.Test.YtjiblajnfnmjnaaGreatDoorBarred
import Derived.Deep.AppendLies
import Derived.Deep.RegionHeld3
import Derived.Maps.AppendAt
import Derived.Lib.BufferMore
import Derived.BigQuiet
import Derived.Test.YtjiblajnfnmjnaaGreatDoorVLift
import Derived.Lib.Bytealg
import Derived.Lib.Small
import Derived.Test.YtjiblajnfnmjnaaGreatDoorVForm
set_option maxRecDepth 100000
namespace Go.Proofs.YtjiblajnfnmjnaaGreatDoor
open Go
def YV (P : Program) (o : Oper) (a : Act) (C : Value → World → Prop) (W : World) : Prop :=
  ∀ (b : Act) (K : Act → World → Prop) (Q : Exit → Act → World → Prop), (∀ v W', C v W' → K (b.put o.dst v) W') → o.upon P b K Q ((execOp a.eval o).run P W)
theorem YV.same {P : Program} {o : Oper} {a a' : Act} {C : Value → World → Prop} {W : World} (h : YV P o a C W) (he : execOp a'.eval o = execOp a.eval o) : YV P o a' C W := by
  unfold YV at *
  rw [he]; exact h
def vOp (P : Program) (ops : Array Oper) (S : List Nat) (C : List Value → World → Prop) (i : Nat) (K : List Value → Act → Prop) (s : List Value) (a : Act) : Prop :=
  match ops[i]? with
  | none => K s a
  | some o =>
    if Region.wanted o (yielded ops a.tmps) then
      (if S.contains i then (∀ W, C s W → YV P o a (fun v => C (s ++ [v])) W) ∧ (∀ v, (∃ W', C (s ++ [v]) W') → K (s ++ [v]) (a.put o.dst v)) else ∃ v, (∀ s' W, C (s ++ s') W → YS P o a (C (s ++ s')) W v) ∧ K s (a.put o.dst v))
    else K s (a.put o.dst undef)
theorem vOp_mono {P : Program} {ops : Array Oper} {S : List Nat} {C : List Value → World → Prop} {i : Nat} {K K' : List Value → Act → Prop} {s : List Value} {a : Act} (h : ∀ s a, K s a → K' s a) (hh : vOp P ops S C i K s a) : vOp P ops S C i K' s a := by
  unfold vOp at *
  split
  · rename_i ho; simp only [ho] at hh; exact h _ _ hh
  · rename_i o ho
    simp only [ho] at hh
    split
    · rename_i hw
      simp only [hw, if_true] at hh
      split
      · rename_i hs; rw [if_pos hs] at hh; obtain ⟨h1, h2⟩ := hh; exact ⟨h1, fun v hv => h _ _ (h2 v hv)⟩
      · rename_i hs; rw [if_neg hs] at hh; obtain ⟨v, h1, h2⟩ := hh; exact ⟨v, h1, h _ _ h2⟩
    · rename_i hw; rw [if_neg hw] at hh; exact h _ _ hh
theorem wpOp_of_vOp {P : Program} {ops : Array Oper} {S : List Nat} {C : List Value → World → Prop} {i : Nat} {s : List Value} {K : List Value → Act → Prop} {K' : Act → World → Prop} {Q' : Exit → Act → World → Prop} {a : Act} {w : World} (hC : C s w) (h : ∀ s a w', C s w' → K s a → K' a w') (hh : vOp P ops S C i K s a) : wpOp P ops Q' i K' a w := by
  unfold vOp at hh
  unfold wpOp
  split
  · rename_i ho; simp only [ho] at hh; exact h _ _ _ hC hh
  · rename_i o ho
    simp only [ho] at hh
    split
    · rename_i hw
      simp only [hw, if_true] at hh
      left
      split at hh
      · obtain ⟨h1, h2⟩ := hh
        exact h1 w hC a K' Q' (fun v W' hW' => h _ _ _ hW' (h2 v ⟨W', hW'⟩))
      · obtain ⟨v, h1, h2⟩ := hh
        have h1' := h1 [] w (by simpa using hC) a K' Q'
        refine h1' (fun W' hW' => h _ _ _ (by simpa using hW') h2)
    · rename_i hw; rw [if_neg hw] at hh; exact h _ _ _ hC hh
def YR (P : Program) (ops : Array Oper) (C : List Value → World → Prop) (o : Oper) (v : Value) (s : List Value) (a : Act) : Prop :=
  (Region.wanted o (yielded ops a.tmps) = true ∧ ∀ s' W, C (s ++ s') W → YS P o a (C (s ++ s')) W v) ∨
  (Region.wanted o (yielded ops a.tmps) = false ∧ v = undef)
theorem YR.vOp {P : Program} {ops : Array Oper} {S : List Nat} {C : List Value → World → Prop} {i : Nat} {o : Oper} {v : Value} {s : List Value} {a : Act} (hi : ops[i]? = some o) (hs : S.contains i = false) (hy : YR P ops C o v s a) {K : List Value → Act → Prop} (h : K s (a.put o.dst v)) : vOp P ops S C i K s a := by
  unfold Go.Proofs.YtjiblajnfnmjnaaGreatDoor.vOp
  simp only [hi]
  rcases hy with ⟨hw, hv⟩ | ⟨hw, rfl⟩
  · simp only [hw, hs, if_true, Bool.false_eq_true, if_false]; exact ⟨v, hv, h⟩
  · simp only [hw, Bool.false_eq_true, if_false]; exact h
theorem yr_of_vOp {P : Program} {ops : Array Oper} {S : List Nat} {C : List Value → World → Prop} {i : Nat} {o : Oper} {s : List Value} {a : Act} {K : List Value → Act → Prop} (hi : ops[i]? = some o) (hs : S.contains i = false) (h : vOp P ops S C i K s a) : ∃ v, YR P ops C o v s a ∧ K s (a.put o.dst v) := by
  unfold vOp at h
  simp only [hi] at h
  by_cases hw : Region.wanted o (yielded ops a.tmps) = true
  · simp only [hw, if_true] at h
    rw [if_neg (by rw [hs]; exact Bool.false_ne_true)] at h
    obtain ⟨v, h1, h2⟩ := h
    exact ⟨v, .inl ⟨hw, h1⟩, h2⟩
  · rw [if_neg hw] at h
    exact ⟨undef, .inr ⟨by simpa using hw, rfl⟩, h⟩
theorem YR.keep {P : Program} {ops : Array Oper} {C : List Value → World → Prop} {o : Oper} {v : Value} {s : List Value} {a a' : Act} (hy : YR P ops C o v s a) (he : execOp a'.eval o = execOp a.eval o)
    (hw : Region.wanted o (yielded ops a'.tmps) = Region.wanted o (yielded ops a.tmps)) (t : List Value) : YR P ops C o v (s ++ t) a' := by
  rcases hy with ⟨h1, h4⟩ | ⟨h1, h3⟩
  · refine .inl ⟨hw.trans h1, fun s' W hW => ?_⟩
    rw [List.append_assoc] at hW ⊢
    exact (h4 (t ++ s') W hW).same he
  · exact .inr ⟨hw.trans h1, h3⟩
theorem vOp_put {P : Program} {ops : Array Oper} {S : List Nat} {C : List Value → World → Prop} {j : Nat} {oj : Oper} {s : List Value} {a b : Act} {K K' : List Value → Act → Prop} (hj : ops[j]? = some oj) (he : execOp a.eval oj = execOp b.eval oj) (hw : Region.wanted oj (yielded ops a.tmps) = Region.wanted oj (yielded ops b.tmps))
    (hh : vOp P ops S C j K s b) (hK : ∀ t u, K (s ++ t) (b.put oj.dst u) → K' (s ++ t) (a.put oj.dst u)) : vOp P ops S C j K' s a := by
  unfold vOp at *
  simp only [hj] at *
  rw [hw]
  split
  · rename_i h1
    rw [if_pos h1] at hh
    split
    · rename_i h2
      rw [if_pos h2] at hh
      exact ⟨fun W hW => (hh.1 W hW).same he, fun v hv => hK [v] v (hh.2 v hv)⟩
    · rename_i h2
      rw [if_neg h2] at hh
      obtain ⟨v, h3, h4⟩ := hh
      have := hK [] v (by simpa using h4)
      exact ⟨v, fun s' W hW => (h3 s' W hW).same he, by simpa using this⟩
  · rename_i h1
    rw [if_neg h1] at hh
    have := hK [] undef (by simpa using hh)
    simpa using this
open Go.RowKit Go.Sort
theorem grown_tch2 {b : Nat} {w w' : World} {row : Option Nat} (h : w.grownBy w' row) (hr : ∀ g, row = some g → b ≤ g) : Tch (fun i => b ≤ i) w w' :=
  ⟨h.os, h.tape, h.output, h.size, fun k hk hn => h.block k hk (fun e => hn (hr k e.symm))⟩
def markV : Val := ⟨-7, 0, ⟨#[]⟩⟩
def lentV (l : List Val) : List Val := l ++ [markV, markV, markV, markV]
open Go.RowKit
def oc (a b : Int) : Int := Lib.compareInt a b
open Go.ChangeShapes Go.WideShapes Go.RowKit Go.Deep
set_option maxRecDepth 100000
theorem add_plain (b o j : Nat) : (⟨b, o, none⟩ : Addr).add j = ⟨b, o + j, none⟩ := by unfold Addr.add; split <;> simp_all
theorem arg_row {H : Type} {enc : TypeId × Value → H} {W : World} {v : Value} {d : DataW H} {p : List MemPlace} (hsl : ∃ a len cap, v = .slice a len cap) (h : DataW.Trod enc Tryz.prog W 0 (fun _ => true) true 24 v d p) :
    ∃ (vs : List Val) (ao : Option Addr) (cap : Nat), v = .slice ao vs.length cap ∧ RowOf W ao vs ∧ (ao = none → vs = [] ∧ cap = 0) ∧ (∀ u ∈ vs, u.i64 ∧ u.s.size ≤ maxLen) ∧ (vs ≠ [] → ∃ es sp, d = .slice es sp ∧ es.length = vs.length) := by
  obtain ⟨ao, len, cap, rfl⟩ := hsl
  obtain ⟨fuel, hf⟩ := h
  rcases open_slice Tryz.underlying24 hf with ⟨h1, _⟩ | ⟨a, len', cap', m, n, D, Pl, h1, _, hl, hmx, hm, hx, hel⟩
  · have h2 : [Value.slice ao len cap] = [Value.slice none 0 0] := h1
    simp at h2
    obtain ⟨rfl, rfl, rfl⟩ := h2
    exact ⟨[], none, 0, rfl, fun h => absurd rfl h, fun _ => ⟨rfl, rfl⟩, fun u hu => by simp at hu, fun h => absurd rfl h⟩
  · simp only [Value.cells, List.cons.injEq, Value.slice.injEq, and_true] at h1
    obtain ⟨rfl, rfl, rfl⟩ := h1
    have hm' : m = cap := by simpa using hm
    rw [c_val] at hel
    have key : ∀ i, i < len → ∃ u : Val, (W.cell? (a.add (i * 3)) = some (.int .i64 u.k) ∧ W.cell? ((a.add (i * 3)).add 1) = some (.int .i64 u.n) ∧ W.cell? ((a.add (i * 3)).add 2) = some (.string u.s)) ∧ u.i64 ∧ u.s.size ≤ maxLen := by
      intro i hi
      obtain ⟨cs', hc, ht⟩ := hel i (by omega)
      obtain ⟨_, hcl, hcc⟩ := World.cells?_some hc
      obtain ⟨k, n, s, rfl, _, h64, hsz⟩ := val_of ht
      have g0 := hcc 0 (by simp)
      have g1 := hcc 1 (by simp)
      have g2 := hcc 2 (by simp)
      exact ⟨⟨k, n, s⟩, ⟨by simpa [Addr.add] using g0, by simpa using g1, by simpa using g2⟩, h64, hsz⟩
    have pick : ∃ vs : List Val, vs.length = len ∧ ∀ i (hi : i < vs.length), (W.cell? (a.add (i * 3)) = some (.int .i64 vs[i].k) ∧ W.cell? ((a.add (i * 3)).add 1) = some (.int .i64 vs[i].n) ∧ W.cell? ((a.add (i * 3)).add 2) = some (.string vs[i].s)) ∧ vs[i].i64 ∧ vs[i].s.size ≤ maxLen := by
      classical
      refine ⟨List.ofFn (fun i : Fin len => (key i.1 i.2).choose), by simp, fun i hi => ?_⟩
      have hi' : i < len := by simpa using hi
      rw [List.getElem_ofFn]
      exact (key i hi').choose_spec
    obtain ⟨vs, rfl, hvs⟩ := pick
    refine ⟨vs, some a, cap, rfl, fun hv => ?_, fun h => (by cases h), fun u hu => ?_, fun _ => ⟨_, _, congrArg Prod.fst hx, by rw [List.length_map, List.length_range]⟩⟩
    · have h0 : 0 < vs.length := List.length_pos_iff.2 hv
      obtain ⟨b, off, spot⟩ := a
      have hspot : spot = none := by
        obtain ⟨⟨h0', _⟩, _⟩ := hvs 0 h0
        simpa [Addr.add] using World.cell?_spot h0'
      subst hspot
      refine ⟨b, off, rfl, fun i hi => ?_⟩
      obtain ⟨⟨h0', h1', h2'⟩, _⟩ := hvs i hi
      simp only [add_plain] at h0' h1' h2'
      exact ⟨h0', h1', h2'⟩
    · obtain ⟨i, hi, rfl⟩ := List.getElem_of_mem hu
      exact (hvs i hi).2
end Go.Proofs.YtjiblajnfnmjnaaGreatDoor
namespace Go.Proofs.YtjiblajnfnmjnaaGreatDoor.C
open Go.Lib
def nullV : Val := ⟨0, 0, ⟨#[]⟩⟩
structure Col where
  nm : ByteArray
  k : Int
  nl : Bool
theorem Col.ext' {a b : Col} (h : a.nm = b.nm ∧ a.k = b.k ∧ a.nl = b.nl) : a = b := by
  obtain ⟨ak, an, sa⟩ := a
  obtain ⟨bk, bn, sb⟩ := b
  simp at h
  simp [h]
structure Tbl where
  id : Int
  ver : Int
  nm : ByteArray
  cols : List Col
  key : Int
def ltr (b : UInt8) : Bool := decide (97 ≤ b.toNat) && decide (b.toNat ≤ 122)
def dgt (b : UInt8) : Bool := decide (48 ≤ b.toNat) && decide (b.toNat ≤ 57)
def sgn (b : UInt8) : Bool := ltr b || dgt b || decide (b.toNat = 95)
def nmOk (s : ByteArray) : Bool := match s.data.toList with
  | [] => false
  | a :: l => decide (l.length ≤ 15) && ltr a && l.all sgn
def kdOk (k : Int) : Bool := decide (k = 1) || decide (k = 2) || decide (k = 3)
def colE (ahead : List Col) (c : Col) : Int := if nmOk c.nm = false then 50 else if ahead.any (fun a => decide (a.nm = c.nm)) then 54 else if kdOk c.k = false then 1 else 0
def colsGo (ahead : List Col) : List Col → Int
  | [] => 0
  | c :: l => if colE ahead c ≠ 0 then colE ahead c else colsGo (ahead ++ [c]) l
def colsE (l : List Col) : Int := if l.length < 1 ∨ 8 < l.length then 55 else colsGo [] l
def keyOk (l : List Col) (k : Int) : Bool := decide (0 ≤ k) && (match l[k.toNat]? with
  | none => false
  | some c => decide (c.k ≠ 3) && !c.nl)
def numOk (n : Int) : Bool := decide (1 ≤ n) && decide (n ≤ 2147483647)
def rightE (t : Tbl) : Int := if numOk t.id = false ∨ numOk t.ver = false then 1 else if nmOk t.nm = false then 50 else if colsE t.cols ≠ 0 then colsE t.cols else if keyOk t.cols t.key = false then 56 else 0
theorem colsGo_step (l : List Col) (k : Nat) (hk : k < l.length) : colsGo (l.take k) (l.drop k) = if colE (l.take k) l[k] ≠ 0 then colE (l.take k) l[k] else colsGo (l.take (k + 1)) (l.drop (k + 1)) := by
  rw [List.drop_eq_getElem_cons hk, colsGo, List.take_append_getElem hk]
theorem colsGo_end (l : List Col) : colsGo (l.take l.length) (l.drop l.length) = 0 := by simp [colsGo]
theorem nmOk_iff (s : ByteArray) : nmOk s = true ↔ (1 ≤ s.size ∧ s.size ≤ 16) ∧ (∀ h : 0 < s.size, ltr s[0] = true) ∧ ∀ i (h : i < s.size), sgn s[i] = true := by
  obtain ⟨⟨l⟩⟩ := s
  unfold nmOk
  show (match l with | [] => false | a :: l => decide (l.length ≤ 15) && ltr a && l.all sgn) = true ↔ (1 ≤ l.length ∧ l.length ≤ 16) ∧ (∀ h : 0 < l.length, ltr l[0] = true) ∧ ∀ i (h : i < l.length), sgn l[i] = true
  cases l with
  | nil => simp
  | cons a l =>
    simp only [Bool.and_eq_true, decide_eq_true_iff, List.all_eq_true, List.length_cons]
    constructor
    · rintro ⟨⟨h1, h2⟩, h3⟩
      refine ⟨by omega, fun _ => by simpa using h2, fun i hi => ?_⟩
      rcases i with _ | i
      · simp [sgn, h2]
      · simpa using h3 _ (List.getElem_mem (by simpa using hi))
    · rintro ⟨h1, h2, h3⟩
      refine ⟨⟨by omega, by simpa using h2 (by simp)⟩, fun x hx => ?_⟩
      obtain ⟨i, hi, rfl⟩ := List.getElem_of_mem hx
      exact h3 (i + 1) (by simpa using hi)
end Go.Proofs.YtjiblajnfnmjnaaGreatDoor.C
