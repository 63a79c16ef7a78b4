import Derived.Test.YtkcmpipipelgoaaProg
import Derived.WalkSpells
import Derived.WalkLawsBesides
import Derived.Deep.DeepMust
import Derived.Outline
import Derived.Deep.QuietTactic
import Derived.BigQuiet
import Derived.Lib.Strings
import Derived.Lib.Bytealg
import Derived.Lib.Small
import Derived.Deep.DeepHandedRow
import Derived.Deep.AppendLies
import Derived.Maps.AppendAt
import Derived.Lib.BufferMore
import Derived.Laws.CopyRow
/- What a call may turn: 'Tch S w w'': of the blocks of w none is turned but those in S.  -/
namespace Go.Proofs.Ytkcmpipipelgoaa
open Go.RowKit

structure Tch (S : Nat → Prop) (w w' : World) : Prop where
  os : w'.os = w.os
  tape : w'.tape = w.tape
  output : w'.output = w.output
  size : w.heap.size ≤ w'.heap.size
  block : ∀ k, k < w.heap.size → ¬ S k → w'.heap[k]? = w.heap[k]?

theorem Tch.refl (S : Nat → Prop) (w : World) : Tch S w w := ⟨rfl, rfl, rfl, Nat.le_refl _, fun _ _ _ => rfl⟩
theorem Tch.trans {S T : Nat → Prop} {a b c : World} (h : Tch S a b) (k : Tch T b c) (hT : ∀ i, i < a.heap.size → T i → S i) : Tch S a c :=
  ⟨k.os.trans h.os, k.tape.trans h.tape, k.output.trans h.output, Nat.le_trans h.size k.size,
    fun i hi hn => (k.block i (Nat.lt_of_lt_of_le hi h.size) (fun ht => hn (hT i hi ht))).trans (h.block i hi hn)⟩
theorem Tch.trans' {S : Nat → Prop} {a b c : World} (h : Tch S a b) (k : Tch S b c) : Tch S a c := h.trans k (fun _ _ h => h)
theorem Tch.mono {S T : Nat → Prop} {a b : World} (h : Tch S a b) (hT : ∀ i, i < a.heap.size → S i → T i) : Tch T a b :=
  ⟨h.os, h.tape, h.output, h.size, fun i hi hn => h.block i hi (fun hs => hn (hT i hi hs))⟩
theorem Tch.drew {S : Nat → Prop} {a b : World} (h : Tch S a b) : Tch S a b.drew := ⟨h.os, h.tape, h.output, h.size, h.block⟩
theorem Tch.drewL {S : Nat → Prop} {a b : World} (h : Tch S a b) : Tch S a.drew b := ⟨h.os, h.tape, h.output, h.size, h.block⟩
theorem Tch.of_drew {S : Nat → Prop} {a b : World} (h : Tch S a.drew b) : Tch S a b := ⟨h.os, h.tape, h.output, h.size, h.block⟩
theorem Tch.drewN {S : Nat → Prop} {a b : World} (h : Tch S a b) (n : Nat) : Tch S a (b.drewN n) := by
  have hb : Below b.heap.size b (b.drewN n) := below_drewN (Below.refl _ _) n
  exact ⟨hb.os.trans h.os, hb.tape.trans h.tape, hb.output.trans h.output, Nat.le_trans h.size hb.size, fun i hi hn => (hb.block i (Nat.lt_of_lt_of_le hi h.size)).trans (h.block i hi hn)⟩
theorem Tch.of_below {S : Nat → Prop} {B : Nat} {a b : World} (h : Below B a b) (hB : a.heap.size ≤ B) : Tch S a b := ⟨h.os, h.tape, h.output, h.size, fun i hi _ => h.block i (by omega)⟩
theorem Tch.below {S : Nat → Prop} {B : Nat} {a b : World} (h : Tch S a b) (hB : B ≤ a.heap.size) (hS : ∀ k, k < B → ¬ S k) : Below B a b :=
  ⟨h.os, h.tape, h.output, h.size, fun i hi => h.block i (by omega) (hS i hi)⟩
theorem Tch.setCell (S : Nat → Prop) (w : World) (p : Addr) (v : Value) (hp : S p.block) : Tch S w (w.setCell p v) :=
  ⟨rfl, rfl, rfl, by simp [World.setCell], fun k _ hn => Below.heap_setCell _ _ _ _ (fun e => hn (e ▸ hp))⟩
theorem Tch.alloc (S : Nat → Prop) (w : World) (o : Obj) : Tch S w (w.alloc o) :=
  ⟨rfl, rfl, rfl, by simp, fun k hk _ => Below.heap_alloc _ _ _ hk⟩
theorem Tch.allocR {S : Nat → Prop} {a b : World} (h : Tch S a b) (o : Obj) : Tch S a (b.alloc o) := h.trans' (Tch.alloc S b o)
theorem Tch.setCellR {S : Nat → Prop} {a b : World} (h : Tch S a b) (p : Addr) (v : Value) (hp : S p.block) : Tch S a (b.setCell p v) := h.trans' (Tch.setCell S b p v hp)
theorem Tch.cell {S : Nat → Prop} {w w' : World} (h : Tch S w w') {p : Addr} (hp : p.block < w.heap.size) (hn : ¬ S p.block) : w'.cell? p = w.cell? p := World.cell?_of_block (w := w) (h.block p.block hp hn)
theorem Tch.frozen {S : Nat → Prop} {w w' : World} (h : Tch S w w') {p : Addr} (hp : p.block < w.heap.size) (hn : ¬ S p.block) : w'.frozen? p = w.frozen? p := World.frozen?_of_block (w := w) (h.block p.block hp hn)

theorem empty_of_size {r : ByteArray} (h : r.size = 0) : r.toList.isEmpty = true := by
  have : r.toList = [] := by
    rw [Lib.toList_data]; exact List.eq_nil_of_length_eq_zero (by simpa using h)
  rw [this]; rfl
theorem nonempty_of_size {r : ByteArray} (h : 0 < r.size) : r.toList.isEmpty = false := by
  rw [Lib.toList_data]
  cases hl : r.data.toList with
  | nil => have : r.data.toList.length = r.size := by simp
           rw [hl] at this; simp at this; omega
  | cons a t => rfl
theorem cell_lt {w : World} {p : Addr} {v : Value} (h : w.cell? p = some v) : p.block < w.heap.size := by
  rcases Nat.lt_or_ge p.block w.heap.size with h1 | h1
  · exact h1
  · simp [World.cell?, Array.getElem?_eq_none h1] at h

end Go.Proofs.Ytkcmpipipelgoaa
/- Values, columns, tables, catalogs: plain mathematics. -/
namespace Go.Proofs.Ytkcmpipipelgoaa
open Go.Lib

/-- A value: its kind, its number, its text. -/
structure Val where
  k : Int
  n : Int
  s : ByteArray

/-- Has it a form? -/
def frm (v : Val) : Prop := (v.k = 0 ∧ v.n = 0 ∧ v.s.size = 0) ∨ (v.k = 1 ∧ v.s.size = 0) ∨ (v.k = 2 ∧ v.n = 0) ∨ (v.k = 3 ∧ v.s.size = 0 ∧ (v.n = 0 ∨ v.n = 1))
instance (v : Val) : Decidable (frm v) := by unfold frm; infer_instance
/-- What is wrong with it. -/
def wrg (v : Val) : Int := if frm v then (if v.s.size ≤ 200 then 0 else 42) else 43
def nullV : Val := ⟨0, 0, ⟨#[]⟩⟩
theorem Val.ext' {a b : Val} (h : a.k = b.k ∧ a.n = b.n ∧ a.s = b.s) : a = b := by
  obtain ⟨ak, an, sa⟩ := a
  obtain ⟨bk, bn, sb⟩ := b
  simp at h
  simp [h]

/-- A column. -/
structure Col where
  nm : ByteArray
  k : Int
  nl : Bool
theorem Col.ext' {a b : Col} (h : a.nm = b.nm ∧ a.k = b.k ∧ a.nl = b.nl) : a = b := by
  obtain ⟨ak, an, sa⟩ := a
  obtain ⟨bk, bn, sb⟩ := b
  simp at h
  simp [h]
/-- A table. -/
structure Tbl where
  id : Int
  ver : Int
  nm : ByteArray
  cols : List Col
  key : Int

def ltr (b : UInt8) : Bool := decide (97 ≤ b.toNat) && decide (b.toNat ≤ 122)
def dgt (b : UInt8) : Bool := decide (48 ≤ b.toNat) && decide (b.toNat ≤ 57)
def sgn (b : UInt8) : Bool := ltr b || dgt b || decide (b.toNat = 95)
/-- A name. -/
def nmOk (s : ByteArray) : Bool := match s.data.toList with
  | [] => false
  | a :: l => decide (l.length ≤ 15) && ltr a && l.all sgn
def kdOk (k : Int) : Bool := decide (k = 1) || decide (k = 2) || decide (k = 3)
/-- What is wrong with a column, behind those ahead of it. -/
def colE (ahead : List Col) (c : Col) : Int := if nmOk c.nm = false then 50 else if ahead.any (fun a => decide (a.nm = c.nm)) then 54 else if kdOk c.k = false then 1 else 0
def colsGo (ahead : List Col) : List Col → Int
  | [] => 0
  | c :: l => if colE ahead c ≠ 0 then colE ahead c else colsGo (ahead ++ [c]) l
def colsE (l : List Col) : Int := if l.length < 1 ∨ 8 < l.length then 55 else colsGo [] l
def keyOk (l : List Col) (k : Int) : Bool := decide (0 ≤ k) && (match l[k.toNat]? with
  | none => false
  | some c => decide (c.k ≠ 3) && !c.nl)
def numOk (n : Int) : Bool := decide (1 ≤ n) && decide (n ≤ 2147483647)
/-- T1. -/
def rightE (t : Tbl) : Int := if numOk t.id = false ∨ numOk t.ver = false then 1 else if nmOk t.nm = false then 50 else if colsE t.cols ≠ 0 then colsE t.cols else if keyOk t.cols t.key = false then 56 else 0
/-- May it stand in a column of kind ck, which may be null or not? -/
def fitE (v : Val) (ck : Int) (cn : Bool) : Int := if wrg v ≠ 0 then wrg v else if v.k = 0 ∧ cn = false then 41 else if v.k ≠ 0 ∧ v.k ≠ ck then 40 else 0
/-- A row filled up. -/
def fullR (t : Tbl) (r : List Val) : List Val := r ++ List.replicate (t.cols.length - r.length) nullV
def fitsAll : List Col → List Val → Bool
  | [], _ => true
  | _ :: _, [] => true
  | c :: l, v :: m => decide (fitE v c.k c.nl = 0) && fitsAll l m
/-- T8: the row and what is wrong. -/
def fitR (t : Tbl) (r : List Val) : List Val × Int := if rightE t ≠ 0 then ([], rightE t) else if t.cols.length < r.length then ([], 57) else if fitsAll t.cols (fullR t r) = false then ([], 57) else (fullR t r, 0)

theorem colsGo_step (l : List Col) (k : Nat) (hk : k < l.length) : colsGo (l.take k) (l.drop k) = if colE (l.take k) l[k] ≠ 0 then colE (l.take k) l[k] else colsGo (l.take (k + 1)) (l.drop (k + 1)) := by
  rw [List.drop_eq_getElem_cons hk, colsGo, List.take_append_getElem hk]
theorem colsGo_end (l : List Col) : colsGo (l.take l.length) (l.drop l.length) = 0 := by simp [colsGo]
theorem fitsAll_iff : ∀ (l : List Col) (m : List Val), l.length = m.length → (fitsAll l m = true ↔ ∀ i (h : i < l.length) (h' : i < m.length), fitE m[i] l[i].k l[i].nl = 0)
  | [], [], _ => by simp [fitsAll]
  | [], _ :: _, h => by simp at h
  | _ :: _, [], h => by simp at h
  | c :: l, v :: m, h => by
    have ih := fitsAll_iff l m (by simpa using h)
    unfold fitsAll
    rw [Bool.and_eq_true, decide_eq_true_iff, ih]
    constructor
    · rintro ⟨h1, h2⟩ i hi hi'
      rcases i with _ | i
      · simpa using h1
      · simpa using h2 i (by simpa using hi) (by simpa using hi')
    · intro h1
      exact ⟨h1 0 (by simp) (by simp), fun i hi hi' => h1 (i + 1) (by simpa using hi) (by simpa using hi')⟩
theorem fullR_len {t : Tbl} {r : List Val} (h : r.length ≤ t.cols.length) : (fullR t r).length = t.cols.length := by simp [fullR]; omega
theorem fullR_lt {t : Tbl} {r : List Val} (i : Nat) (h : i < r.length) (h' : i < (fullR t r).length) : (fullR t r)[i] = r[i] := by simp [fullR, List.getElem_append_left h]
theorem fullR_ge {t : Tbl} {r : List Val} (i : Nat) (h : r.length ≤ i) (h' : i < (fullR t r).length) : (fullR t r)[i] = nullV := by simp [fullR, List.getElem_append_right h]
theorem nmOk_iff (s : ByteArray) : nmOk s = true ↔ (1 ≤ s.size ∧ s.size ≤ 16) ∧ (∀ h : 0 < s.size, ltr s[0] = true) ∧ ∀ i (h : i < s.size), sgn s[i] = true := by
  obtain ⟨⟨l⟩⟩ := s
  unfold nmOk
  show (match l with | [] => false | a :: l => decide (l.length ≤ 15) && ltr a && l.all sgn) = true ↔ (1 ≤ l.length ∧ l.length ≤ 16) ∧ (∀ h : 0 < l.length, ltr l[0] = true) ∧ ∀ i (h : i < l.length), sgn l[i] = true
  cases l with
  | nil => simp
  | cons a l =>
    simp only [Bool.and_eq_true, decide_eq_true_iff, List.all_eq_true, List.length_cons]
    constructor
    · rintro ⟨⟨h1, h2⟩, h3⟩
      refine ⟨by omega, fun _ => by simpa using h2, fun i hi => ?_⟩
      rcases i with _ | i
      · simp [sgn, h2]
      · simpa using h3 _ (List.getElem_mem (by simpa using hi))
    · rintro ⟨h1, h2, h3⟩
      refine ⟨⟨by omega, by simpa using h2 (by simp)⟩, fun x hx => ?_⟩
      obtain ⟨i, hi, rfl⟩ := List.getElem_of_mem hx
      exact h3 (i + 1) (by simpa using hi)
end Go.Proofs.Ytkcmpipipelgoaa
/- What is right of a value, by the code and by the document. -/
namespace Go.Proofs.Ytkcmpipipelgoaa
open Go.RowKit

abbrev vA (k n : Int) (s : ByteArray) : Value := .agg #[.int .i64 k, .int .i64 n, .string s]
theorem emp (s : ByteArray) : s.toList.isEmpty = decide (s.size = 0) := by
  by_cases h : s.size = 0
  · rw [empty_of_size h]; simp [h]
  · rw [nonempty_of_size (by omega)]; simp [h]
theorem emp' (s : ByteArray) : s.toList = [] ↔ s.size = 0 := by
  rw [← List.isEmpty_iff, emp]; simp
theorem vret_bool {a b : Bool} (h : a = b) : Ending.returned (.bool a) = .returned (.bool b) := by rw [h]
theorem box_cells (w : World) (a b c : Value) (t : TypeId) : (w.alloc (.cells #[a, b, c] t)).cell? ⟨w.heap.size, 0, none⟩ = some a ∧ (w.alloc (.cells #[a, b, c] t)).cell? ⟨w.heap.size, 1, none⟩ = some b ∧ (w.alloc (.cells #[a, b, c] t)).cell? ⟨w.heap.size, 2, none⟩ = some c := by simp
theorem box_tch {w w1 : World} {a b c : Value} {t : TypeId} (h : Tch (fun _ => False) (w.alloc (.cells #[a, b, c] t)) w1) : w1.cell? ⟨w.heap.size, 0, none⟩ = some a ∧ w1.cell? ⟨w.heap.size, 1, none⟩ = some b ∧ w1.cell? ⟨w.heap.size, 2, none⟩ = some c := by
  obtain ⟨h0, h1, h2⟩ := box_cells w a b c t
  exact ⟨(h.cell (p := ⟨_, _, none⟩) (by simp) (fun h => h)).trans h0, (h.cell (p := ⟨_, _, none⟩) (by simp) (fun h => h)).trans h1, (h.cell (p := ⟨_, _, none⟩) (by simp) (fun h => h)).trans h2⟩

abbrev cA (nm : ByteArray) (ck : Int) (cn : Bool) : Value := .agg #[.string nm, .int .i64 ck, .bool cn]
theorem box_tch2 {w w1 : World} {a b c d e f : Value} {t u : TypeId} (h : Tch (fun _ => False) ((w.alloc (.cells #[a, b, c] t)).alloc (.cells #[d, e, f] u)) w1) : (w1.cell? ⟨w.heap.size, 0, none⟩ = some a ∧ w1.cell? ⟨w.heap.size, 1, none⟩ = some b ∧ w1.cell? ⟨w.heap.size, 2, none⟩ = some c) ∧ w1.cell? ⟨w.heap.size + 1, 0, none⟩ = some d ∧ w1.cell? ⟨w.heap.size + 1, 1, none⟩ = some e ∧ w1.cell? ⟨w.heap.size + 1, 2, none⟩ = some f := by
  have h1 : Tch (fun _ => False) (w.alloc (.cells #[a, b, c] t)) w1 := (Tch.alloc _ _ _).trans' h
  refine ⟨box_tch h1, ?_⟩
  have := box_tch h
  simpa using this
end Go.Proofs.Ytkcmpipipelgoaa
/- Lists of cells in the world; rows, columns. -/
namespace Go.Proofs.Ytkcmpipipelgoaa
open Go.RowKit

/-- These cells stand there. -/
def At (w : World) (g o : Nat) (cs : List Value) : Prop := ∀ j u, cs[j]? = some u → w.cell? ⟨g, o + j, none⟩ = some u
theorem At.lt {w : World} {g o : Nat} {cs : List Value} (h : At w g o cs) (hc : cs ≠ []) : g < w.heap.size := by
  cases cs with
  | nil => exact absurd rfl hc
  | cons a l => exact cell_lt (h 0 a rfl)
theorem At.tch {S : Nat → Prop} {w w' : World} {g o : Nat} {cs : List Value} (h : At w g o cs) (t : Tch S w w') (hg : cs ≠ [] → ¬ S g) : At w' g o cs := fun j u hu => by
  have hc : cs ≠ [] := by rintro rfl; simp at hu
  rw [t.cell (p := ⟨g, o + j, none⟩) (h.lt hc) (hg hc)]; exact h j u hu
theorem At.nil (w : World) (g o : Nat) : At w g o [] := fun j u h => by simp at h
/-- A slice's cells, where there are some. -/
def SL (w : World) (ao : Option Addr) (cs : List Value) : Prop := cs ≠ [] → ∃ g o, ao = some ⟨g, o, none⟩ ∧ At w g o cs
theorem SL.tch {S : Nat → Prop} {w w' : World} {ao : Option Addr} {cs : List Value} (h : SL w ao cs) (t : Tch S w w') (hS : ∀ g o, ao = some ⟨g, o, none⟩ → ¬ S g) : SL w' ao cs := fun hc => by
  obtain ⟨g, o, e, ha⟩ := h hc
  exact ⟨g, o, e, ha.tch t (fun _ => hS g o e)⟩
theorem SL.no {w w' : World} {ao : Option Addr} {cs : List Value} (h : SL w ao cs) (t : Tch (fun _ => False) w w') : SL w' ao cs := h.tch t (fun _ _ _ h => h)
theorem SL.nil (w : World) (ao : Option Addr) : SL w ao [] := fun h => absurd rfl h

section
variable {α : Type} (f g h : α → Value)
def f3 (l : List α) : List Value := l.flatMap (fun a => [f a, g a, h a])
theorem f3_len : ∀ l : List α, (f3 f g h l).length = l.length * 3
  | [] => rfl
  | a :: l => by
    have := f3_len l
    unfold f3 at this ⊢
    simp only [List.flatMap_cons, List.length_append, List.length_cons, List.length_nil, this]; omega
theorem f3_get : ∀ (l : List α) (k : Nat) (hk : k < l.length), (f3 f g h l)[k * 3]? = some (f l[k]) ∧ (f3 f g h l)[k * 3 + 1]? = some (g l[k]) ∧ (f3 f g h l)[k * 3 + 2]? = some (h l[k])
  | [], k, hk => by simp at hk
  | a :: l, 0, _ => by simp [f3]
  | a :: l, k + 1, hk => by
    have := f3_get l k (by simpa using hk)
    unfold f3 at this ⊢
    have e1 : (k + 1) * 3 = k * 3 + 3 := by omega
    simp only [List.flatMap_cons, List.getElem_cons_succ]
    rw [e1]
    refine ⟨?_, ?_, ?_⟩
    · rw [List.getElem?_append_right (by simp)]; simpa using this.1
    · rw [List.getElem?_append_right (by simp)]; simpa using this.2.1
    · rw [List.getElem?_append_right (by simp)]; simpa using this.2.2
theorem f3_append (l m : List α) : f3 f g h (l ++ m) = f3 f g h l ++ f3 f g h m := by simp [f3]
theorem f3_one (hf : ∀ a, (f a).oneCell' = true ∧ (g a).oneCell' = true ∧ (h a).oneCell' = true) (l : List α) : ∀ u ∈ f3 f g h l, u.oneCell' = true := fun u hu => by
  unfold f3 at hu
  rw [List.mem_flatMap] at hu
  obtain ⟨a, _, hu⟩ := hu
  simp only [List.mem_cons, List.not_mem_nil, or_false] at hu
  rcases hu with rfl | rfl | rfl
  · exact (hf a).1
  · exact (hf a).2.1
  · exact (hf a).2.2
theorem f3_nil {l : List α} (hl : l ≠ []) : f3 f g h l ≠ [] := fun e => by
  have := f3_len f g h l
  rw [e] at this
  have := List.length_pos_iff.2 hl
  simp at *; omega
theorem f3_take (l : List α) (k : Nat) : f3 f g h (l.take k) = (f3 f g h l).take (k * 3) := by
  induction l generalizing k with
  | nil => simp [f3]
  | cons a l ih =>
    cases k with
    | zero => simp [f3]
    | succ k =>
      have := ih k
      unfold f3 at this ⊢
      rw [List.take_succ_cons, List.flatMap_cons, List.flatMap_cons, this, show (k + 1) * 3 = k * 3 + 1 + 1 + 1 by omega]
      simp
theorem f3_drop (l : List α) (k : Nat) : f3 f g h (l.drop k) = (f3 f g h l).drop (k * 3) := by
  induction l generalizing k with
  | nil => simp [f3]
  | cons a l ih =>
    cases k with
    | zero => simp [f3]
    | succ k =>
      have := ih k
      unfold f3 at this ⊢
      rw [List.drop_succ_cons, List.flatMap_cons, this, show (k + 1) * 3 = k * 3 + 1 + 1 + 1 by omega]
      simp
end
/-- The cells of a row, of columns. -/
def vcl (l : List Val) : List Value := f3 (fun v => .int .i64 v.k) (fun v => .int .i64 v.n) (fun v => .string v.s) l
def ccl (l : List Col) : List Value := f3 (fun c => .string c.nm) (fun c => .int .i64 c.k) (fun c => .bool c.nl) l
theorem vcl_len (l : List Val) : (vcl l).length = l.length * 3 := f3_len ..
theorem ccl_len (l : List Col) : (ccl l).length = l.length * 3 := f3_len ..
theorem vcl_one (l : List Val) : ∀ u ∈ vcl l, u.oneCell' = true := f3_one _ _ _ (fun _ => ⟨rfl, rfl, rfl⟩) l
theorem ccl_one (l : List Col) : ∀ u ∈ ccl l, u.oneCell' = true := f3_one _ _ _ (fun _ => ⟨rfl, rfl, rfl⟩) l
theorem At.val {w : World} {g o : Nat} {l : List Val} (h : At w g o (vcl l)) (k : Nat) (hk : k < l.length) : w.cell? ⟨g, o + k * 3, none⟩ = some (.int .i64 l[k].k) ∧ w.cell? ⟨g, o + k * 3 + 1, none⟩ = some (.int .i64 l[k].n) ∧ w.cell? ⟨g, o + k * 3 + 2, none⟩ = some (.string l[k].s) := by
  obtain ⟨h0, h1, h2⟩ := f3_get (fun v : Val => Value.int .i64 v.k) (fun v => .int .i64 v.n) (fun v => .string v.s) l k hk
  exact ⟨h _ _ h0, by have := h _ _ h1; rwa [← Nat.add_assoc] at this, by have := h _ _ h2; rwa [← Nat.add_assoc] at this⟩
theorem At.col {w : World} {g o : Nat} {l : List Col} (h : At w g o (ccl l)) (k : Nat) (hk : k < l.length) : w.cell? ⟨g, o + k * 3, none⟩ = some (.string l[k].nm) ∧ w.cell? ⟨g, o + k * 3 + 1, none⟩ = some (.int .i64 l[k].k) ∧ w.cell? ⟨g, o + k * 3 + 2, none⟩ = some (.bool l[k].nl) := by
  obtain ⟨h0, h1, h2⟩ := f3_get (fun c : Col => Value.string c.nm) (fun c => .int .i64 c.k) (fun c => .bool c.nl) l k hk
  exact ⟨h _ _ h0, by have := h _ _ h1; rwa [← Nat.add_assoc] at this, by have := h _ _ h2; rwa [← Nat.add_assoc] at this⟩
theorem SL.col {w : World} {ao : Option Addr} {l : List Col} (h : SL w ao (ccl l)) {k : Nat} (hk : k < l.length) : ∃ g o, ao = some ⟨g, o, none⟩ ∧ At w g o (ccl l) := h (f3_nil _ _ _ (by rintro rfl; simp at hk))
theorem SL.val {w : World} {ao : Option Addr} {l : List Val} (h : SL w ao (vcl l)) {k : Nat} (hk : k < l.length) : ∃ g o, ao = some ⟨g, o, none⟩ ∧ At w g o (vcl l) := h (f3_nil _ _ _ (by rintro rfl; simp at hk))
theorem SL.takeC {w : World} {ao : Option Addr} {l : List Col} (h : SL w ao (ccl l)) (k : Nat) : SL w ao (ccl (l.take k)) := fun hc => by
  have e : ccl (l.take k) = (ccl l).take (k * 3) := f3_take ..
  rw [e] at hc ⊢
  obtain ⟨g, o, h1, h2⟩ := h (by rintro e; rw [e] at hc; simp at hc)
  refine ⟨g, o, h1, fun j u hu => h2 j u ?_⟩
  rw [List.getElem?_take] at hu
  split at hu
  · exact hu
  · simp at hu
abbrev tA (id ver : Int) (nm : ByteArray) (cv : Value) (key : Int) : Value := .agg #[.int .i64 id, .int .i64 ver, .string nm, cv, .int .i64 key]
end Go.Proofs.Ytkcmpipipelgoaa
/- An append that tells what becomes of the old row. -/
namespace Go.Proofs.Ytkcmpipipelgoaa
open Go.RowKit Go

section
variable {P : Program} (w : World)
/-- Append: as the library has it; and every cell of the row as it was reads as before. -/
theorem run_append_keeps (base : Nat) (t ty e : TypeId) (i : TypeInfo) (z : Value) (size bytes : Nat) (ht : P.underlying t = some (.slice e)) (hi : P.info? e = some i) (hz : i.zero = some z)
    (hsize : i.size = size) (hby : i.bytes = bytes) (hzs : z.cells.size = size) (hsz : 0 < size)
    (v : Value) (n : Nat) (xs : List Value) (hown : w.ownsRow base e size v n xs)
    (a : Addr) (m c : Nat) (news : List Value) (hl : news.length = m * size) (hnews : ∀ j u, news[j]? = some u → w.cell? (a.add j) = some u) (h1 : ∀ u ∈ news, u.oneCell' = true)
    (h63 : n + m ≤ maxLen) (hbytes : (n + m) * bytes ≤ 140737488355328) (hbase : base ≤ w.heap.size) :
    ∃ v' w', (Builtin.append_ #[t, t] ty #[v, .slice (some a) m c]).run P w = .ok v' w' ∧ w'.ownsRow base e size v' (n + m) (xs ++ news) ∧ w.grownBy w' v.ownBlock ∧ (v'.ownBlock = v.ownBlock ∨ v'.ownBlock = some w.heap.size) ∧
      ∀ b j, b < w.heap.size → (v.ownBlock = some b → j < n * size) → w'.cell? ⟨b, j, none⟩ = w.cell? ⟨b, j, none⟩ := by
  obtain ⟨v', w', hr, h2, h3, _, h5⟩ := run_append_own_at (P := P) w base t ty e i z size bytes ht hi hz hsize hby hzs hsz v n xs hown a m c news hl hnews h1 h63 hbytes hbase
  refine ⟨v', w', hr, h2, h3, h5, fun b j hb hj => ?_⟩
  by_cases hvb : v.ownBlock = some b
  · rcases hown.2 with ⟨rfl, rfl⟩ | ⟨g, cap, cur, rfl, hbg, hg, hnc, hcm, hcs, htake⟩
    · cases hvb
    · have hgb : g = b := by simpa [Value.ownBlock] using hvb
      subst hgb
      have hj' := hj hvb
      by_cases hroom : n + m ≤ cap
      · have hfit : n * i.size + news.length ≤ cur.size := by rw [hl, hcs, hsize, ← Nat.add_mul]; exact Nat.mul_le_mul_right _ hroom
        have hr2 := run_append_room (P := P) w t ty e i ht hi g n cap cur hg a m c news (by rw [hsize]; exact hl) hnews h1 hroom hfit
        rw [hr] at hr2
        simp only [Result.ok.injEq] at hr2
        obtain ⟨rfl, rfl⟩ := hr2
        rw [h2.cellAt j (by rw [Nat.add_mul]; omega), hown.cellAt j hj', List.getElem?_append_left (by rw [hown.1]; exact hj')]
      · have holds : ∀ j u, xs[j]? = some u → w.cell? ((⟨g, 0, none⟩ : Addr).add j) = some u := hown.cells (g := g) rfl
        have hr2 := run_append_grow (P := P) w t ty e i z ht hi hz ⟨g, 0, none⟩ n cap xs (by rw [hsize]; exact hown.1) holds a m c news (by rw [hsize]; exact hl) hnews (by omega) (by simp only [maxLen] at h63; omega) (by rw [hby]; exact growslice_fits (by omega) hbytes)
        rw [hr] at hr2
        simp only [Result.ok.injEq] at hr2
        obtain ⟨_, rfl⟩ := hr2
        exact World.cell?_of_block (heap_alloc_old w.drew _ hb)
  · exact World.cell?_of_block (h3.block b hb (fun e => hvb e.symm))
end
theorem wpList_append_keeps {P : Program} (w : World) {ops : Array Oper} {rest : List Oper} {o : Oper} {a : Act} {Q : Exit → Act → World → Prop} (hgd : o.guard = none) (s x : Operand) (t : TypeId)
    (ho : o.op = .call { callee := .builtin .append, args := #[s, x], argTypes := #[t, t] })
    (base : Nat) (e : TypeId) (i : TypeInfo) (z : Value) (size bytes : Nat) (ht : P.underlying t = some (.slice e)) (hi : P.info? e = some i) (hz : i.zero = some z)
    (hsize : i.size = size) (hby : i.bytes = bytes) (hzs : z.cells.size = size) (hsz : 0 < size)
    (v : Value) (n : Nat) (xs : List Value) (hs : a.eval s = v) (hown : w.ownsRow base e size v n xs)
    (ad : Addr) (m c : Nat) (news : List Value) (hx : a.eval x = .slice (some ad) m c) (hl : news.length = m * size) (hnews : ∀ j u, news[j]? = some u → w.cell? (ad.add j) = some u) (h1 : ∀ u ∈ news, u.oneCell' = true)
    (h63 : n + m ≤ maxLen) (hbytes : (n + m) * bytes ≤ 140737488355328) (hbase : base ≤ w.heap.size)
    (h : ∀ v' w', w'.ownsRow base e size v' (n + m) (xs ++ news) → w.grownBy w' v.ownBlock → (v'.ownBlock = v.ownBlock ∨ v'.ownBlock = some w.heap.size) → (∀ b j, b < w.heap.size → (v.ownBlock = some b → j < n * size) → w'.cell? ⟨b, j, none⟩ = w.cell? ⟨b, j, none⟩) → wpList P ops Q rest (a.put o.dst v') w') :
    wpList P ops Q (o :: rest) a w := by
  refine wpList_plain hgd fun K hK => ?_
  obtain ⟨v', w', hr, h2, h3, h4, h5⟩ := run_append_keeps (P := P) w base t o.type e i z size bytes ht hi hz hsize hby hzs hsz v n xs hown ad m c news hl hnews h1 h63 hbytes hbase
  unfold Oper.wp execOp
  simp only [ho, resolve, invoke, builtin, Sem.run_bind, Sem.run_pure, Result.andThen_ok, List.map_toArray, List.map_cons, List.map_nil, hs, hx, hr]
  exact hK _ _ (h v' w' h2 h3 h4 h5)

/-- The same, at a step of a region that draws its order. -/
theorem step_append_keeps {P : Program} (w : World) {ops : Array Oper} {o : Oper} {a : Act} {K : Act → World → Prop} {Q : Exit → Act → World → Prop} {E : Prop} (hgd : o.guard = none) (s x : Operand) (t : TypeId)
    (ho : o.op = .call { callee := .builtin .append, args := #[s, x], argTypes := #[t, t] })
    (base : Nat) (e : TypeId) (i : TypeInfo) (z : Value) (size bytes : Nat) (ht : P.underlying t = some (.slice e)) (hi : P.info? e = some i) (hz : i.zero = some z)
    (hsize : i.size = size) (hby : i.bytes = bytes) (hzs : z.cells.size = size) (hsz : 0 < size)
    (v : Value) (n : Nat) (xs : List Value) (hs : a.eval s = v) (hown : w.ownsRow base e size v n xs)
    (ad : Addr) (m c : Nat) (news : List Value) (hx : a.eval x = .slice (some ad) m c) (hl : news.length = m * size) (hnews : ∀ j u, news[j]? = some u → w.cell? (ad.add j) = some u) (h1 : ∀ u ∈ news, u.oneCell' = true)
    (h63 : n + m ≤ maxLen) (hbytes : (n + m) * bytes ≤ 140737488355328) (hbase : base ≤ w.heap.size)
    (h : ∀ v' w', w'.ownsRow base e size v' (n + m) (xs ++ news) → w.grownBy w' v.ownBlock → (v'.ownBlock = v.ownBlock ∨ v'.ownBlock = some w.heap.size) → (∀ b j, b < w.heap.size → (v.ownBlock = some b → j < n * size) → w'.cell? ⟨b, j, none⟩ = w.cell? ⟨b, j, none⟩) → K (a.put o.dst v') w') :
    if Region.wanted o (yielded ops a.tmps) = true then Oper.wp P o a w K Q else E := by
  have hw : Region.wanted o (yielded ops a.tmps) = true := by simp [Region.wanted, hgd]
  rw [if_pos hw]
  obtain ⟨v', w', hr, h2, h3, h4, h5⟩ := run_append_keeps (P := P) w base t o.type e i z size bytes ht hi hz hsize hby hzs hsz v n xs hown ad m c news hl hnews h1 h63 hbytes hbase
  unfold Oper.wp execOp
  simp only [ho, resolve, invoke, builtin, Sem.run_bind, Sem.run_pure, Result.andThen_ok, List.map_toArray, List.map_cons, List.map_nil, hs, hx, hr]
  exact h v' w' h2 h3 h4 h5
end Go.Proofs.Ytkcmpipipelgoaa
/- Lists that are grown by their owner, all that they were on the way being kept. -/
namespace Go.Proofs.Ytkcmpipipelgoaa
open Go.RowKit

theorem blk_lt {w : World} {b : Nat} {o : Obj} (h : w.heap[b]? = some o) : b < w.heap.size := (Array.getElem?_eq_some_iff.1 h).1
theorem blk_cell {w : World} {b : Nat} {cs : Array Value} {t : TypeId} {fr : Nat × Nat} (h : w.heap[b]? = some (.cells cs t fr)) (i : Nat) : w.cell? ⟨b, i, none⟩ = cs[i]? := by
  simp [World.cell?, h]
theorem blk_frozen {w : World} {b : Nat} {cs : Array Value} {t : TypeId} (h : w.heap[b]? = some (.cells cs t (0, 0))) (i : Nat) : w.frozen? ⟨b, i, none⟩ = false := by
  simp [World.frozen?, h]
theorem blk_set {w : World} {b i : Nat} {cs : Array Value} {t : TypeId} {fr : Nat × Nat} (h : w.heap[b]? = some (.cells cs t fr)) (v : Value) : (w.setCell ⟨b, i, none⟩ v).heap[b]? = some (.cells (cs.setIfInBounds i v) t fr) := by
  have hl := blk_lt h
  simp only [World.setCell]
  rw [Array.getElem?_modify]
  simp [h]
theorem alloc_new (w : World) (o : Obj) : (w.alloc o).heap[w.heap.size]? = some o := by show (w.heap.push o)[w.heap.size]? = _; simp
theorem row_slice {w : World} {base : Nat} {t : TypeId} {sz n : Nat} {v : Value} {xs : List Value} (h : w.ownsRow base t sz v n xs) : ∃ ao c, v = .slice ao n c := by
  rcases h.2 with ⟨h1, h2⟩ | ⟨g, c, cur, h1, _⟩
  · exact ⟨none, 0, by rw [h1, h2]⟩
  · exact ⟨_, c, h1⟩
theorem own_tch {S : Nat → Prop} {W W' : World} {base sz n : Nat} {t : TypeId} {v : Value} {xs : List Value} (h : W.ownsRow base t sz v n xs) (tc : Tch S W W') (hS : ∀ g, v.ownBlock = some g → ¬ S g) : W'.ownsRow base t sz v n xs := by
  obtain ⟨h1, h2⟩ := h
  refine ⟨h1, ?_⟩
  rcases h2 with h2 | ⟨g, c, cur, hv, hb, hh, hr⟩
  · exact Or.inl h2
  · exact Or.inr ⟨g, c, cur, hv, hb, by rw [tc.block g (blk_lt hh) (hS g (by rw [hv]; rfl))]; exact hh, hr⟩
theorem grown_at {W W1 w1 : World} {row : Option Nat} (t : Tch (fun _ => False) W W1) (h : W1.grownBy w1 row) : Tch (fun i => row = some i) W w1 :=
  (t.mono (fun _ _ h => h.elim)).trans' ⟨h.os, h.tape, h.output, h.size, fun k hk hn => h.block k hk (fun e => hn e.symm)⟩
theorem own_at {W : World} {base sz n : Nat} {t : TypeId} {ao : Option Addr} {c : Nat} {xs : List Value} (h : W.ownsRow base t sz (.slice ao n c) n xs) (hn : 0 < n) : ∃ g, ao = some ⟨g, 0, none⟩ ∧ g < W.heap.size ∧ At W g 0 xs := by
  rcases h.2 with ⟨_, h2⟩ | ⟨g, c', cur, hv, hb, hh, hc, hm, hs, ht⟩
  · omega
  · injection hv with h1
    subst h1
    refine ⟨g, rfl, blk_lt hh, fun j u hu => ?_⟩
    rw [Nat.zero_add, blk_cell hh, ← Array.getElem?_toList]
    rw [← ht, List.getElem?_take] at hu
    split at hu
    · exact hu
    · simp at hu

/-- So many times these cells. -/
def rep (n : Nat) (cs : List Value) : List Value := (List.replicate n cs).flatten
theorem rep_len (n : Nat) (cs : List Value) : (rep n cs).length = n * cs.length := by simp [rep]
theorem rep_succ (n : Nat) (cs : List Value) : rep (n + 1) cs = rep n cs ++ cs := by
  unfold rep
  rw [List.replicate_succ', List.flatten_append]; simp
theorem rep_get (cs : List Value) : ∀ (n q j : Nat), q < n → j < cs.length → (rep n cs)[q * cs.length + j]? = cs[j]?
  | 0, q, j, h, _ => by omega
  | n + 1, q, j, h, hj => by
    rw [rep_succ]
    rcases Nat.lt_or_ge q n with hq | hq
    · have h1 : q * cs.length + j < (rep n cs).length := by
        rw [rep_len]
        have : (q + 1) * cs.length ≤ n * cs.length := Nat.mul_le_mul_right _ hq
        rw [Nat.add_mul] at this
        omega
      rw [List.getElem?_append_left h1]
      exact rep_get cs n q j hq hj
    · obtain rfl : q = n := by omega
      rw [List.getElem?_append_right (by rw [rep_len]; omega), rep_len]
      congr 1
      omega
theorem rep_one {cs : List Value} (h : ∀ u ∈ cs, u.oneCell' = true) (n : Nat) : ∀ u ∈ rep n cs, u.oneCell' = true := fun u hu => by
  unfold rep at hu
  rw [List.mem_flatten] at hu
  obtain ⟨l, hl, hu⟩ := hu
  rw [List.mem_replicate] at hl
  exact h u (hl.2 ▸ hu)

/-- A slice that is kept: all its elements are a mark. -/
def MV (W : World) (v : Value) (cs : List Value) (P : Nat → Nat → Prop) : Prop := ∃ ao m c, v = .slice ao m c ∧ m ≤ 100 ∧ (0 < m → ∃ g, ao = some ⟨g, 0, none⟩ ∧ g < W.heap.size ∧ P g m ∧ At W g 0 (rep m cs))
theorem MV.up {W W' : World} {v : Value} {cs : List Value} {P P' : Nat → Nat → Prop} (h : MV W v cs P) (hsz : W.heap.size ≤ W'.heap.size) (hP : ∀ g m, g < W.heap.size → P g m → P' g m ∧ ∀ j, j < m * cs.length → W'.cell? ⟨g, j, none⟩ = W.cell? ⟨g, j, none⟩) : MV W' v cs P' := by
  obtain ⟨ao, m, c, hv, hm, h⟩ := h
  refine ⟨ao, m, c, hv, hm, fun h0 => ?_⟩
  obtain ⟨g, ha, hg, hp, hc⟩ := h h0
  obtain ⟨h1, h2⟩ := hP g m hg hp
  refine ⟨g, ha, by omega, h1, fun j u hu => ?_⟩
  have hj : j < m * cs.length := by rw [← rep_len]; exact (List.getElem?_eq_some_iff.1 hu).1
  rw [Nat.zero_add, h2 j hj]
  simpa using hc j u hu
theorem MV.of {W : World} {base n : Nat} {e : TypeId} {v : Value} {cs : List Value} {P : Nat → Nat → Prop} (h : W.ownsRow base e cs.length v n (rep n cs)) (hn : n ≤ 100) (hP : ∀ g, v.ownBlock = some g → P g n) : MV W v cs P := by
  obtain ⟨ao, c, rfl⟩ := row_slice h
  refine ⟨ao, n, c, rfl, hn, fun h0 => ?_⟩
  obtain ⟨g, rfl, hg, ha⟩ := own_at h h0
  exact ⟨g, rfl, hg, hP g rfl, ha⟩
/-- A list of such slices, in a book at block b; none of the blocks F is theirs. -/
structure LS (le : TypeId) (W : World) (F : Nat → Prop) (b : Nat) (mk : Nat → List Value) (A : List Value) (rv : Value) : Prop where
  all : W.ownsRow 0 le 1 rv A.length A
  ag : ∀ g, rv.ownBlock = some g → g ≠ b ∧ ¬ F g
  mv : ∀ j (hj : j < A.length), MV W A[j] (mk j) (fun g _ => g ≠ b ∧ ¬ F g ∧ rv.ownBlock ≠ some g)
/-- While one is grown. -/
structure LG (le e : TypeId) (W : World) (F : Nat → Prop) (b : Nat) (mk : Nat → List Value) (A : List Value) (rv x : Value) (cs : List Value) (nx : Nat) : Prop where
  all : W.ownsRow 0 le 1 rv A.length A
  xr : W.ownsRow 0 e cs.length x nx (rep nx cs)
  ag : ∀ g, rv.ownBlock = some g → g ≠ b ∧ ¬ F g
  xg : ∀ g, x.ownBlock = some g → rv.ownBlock ≠ some g ∧ g ≠ b ∧ ¬ F g
  mv : ∀ j (hj : j < A.length), MV W A[j] (mk j) (fun g m => g ≠ b ∧ ¬ F g ∧ rv.ownBlock ≠ some g ∧ (x.ownBlock = some g → m ≤ nx))
theorem LS.tch {S : Nat → Prop} {le : TypeId} {W W' : World} {F : Nat → Prop} {b : Nat} {mk : Nat → List Value} {A : List Value} {rv : Value} (h : LS le W F b mk A rv) (t : Tch S W W') (hS : ∀ i, S i → i = b ∨ F i) : LS le W' F b mk A rv := by
  refine ⟨own_tch h.all t (fun g e hs => ?_), h.ag, fun j hj => (h.mv j hj).up t.size (fun g m hg hP => ⟨hP, fun k _ => t.cell (p := ⟨g, k, none⟩) hg (fun hs => (hS g hs).elim hP.1 hP.2.1)⟩)⟩
  exact (hS g hs).elim (h.ag g e).1 (h.ag g e).2
theorem LS.fresh {le : TypeId} {W : World} {F F' : Nat → Prop} {b : Nat} {mk : Nat → List Value} {A : List Value} {rv : Value} (h : LS le W F b mk A rv) (hF : ∀ i, i < W.heap.size → F' i → F i) : LS le W F' b mk A rv := by
  refine ⟨h.all, fun g e => ⟨(h.ag g e).1, fun hf => (h.ag g e).2 (hF g (h.all.lt g e).2 hf)⟩, fun j hj => (h.mv j hj).up (Nat.le_refl _) (fun g m hg hP => ⟨⟨hP.1, fun hf => hP.2.1 (hF g hg hf), hP.2.2⟩, fun _ _ => rfl⟩)⟩
theorem LS.enter {le e : TypeId} {W : World} {F : Nat → Prop} {b n : Nat} {mk : Nat → List Value} {A : List Value} {rv x : Value} {cs : List Value} (h : LS le W (fun i => F i ∨ x.ownBlock = some i) b mk A rv) (hx : W.ownsRow 0 e cs.length x n (rep n cs)) (hg : ∀ g, x.ownBlock = some g → g ≠ b ∧ ¬ F g) : LG le e W F b mk A rv x cs n :=
  ⟨h.all, hx, fun g e => ⟨(h.ag g e).1, fun hf => (h.ag g e).2 (Or.inl hf)⟩, fun g e => ⟨fun e2 => (h.ag g e2).2 (Or.inr e), hg g e⟩, fun j hj => (h.mv j hj).up (Nat.le_refl _) (fun _ _ _ hP => ⟨⟨hP.1, fun hf => hP.2.1 (Or.inl hf), hP.2.2, fun e => absurd (Or.inr e) hP.2.1⟩, fun _ _ => rfl⟩)⟩
theorem LG.leave {le e : TypeId} {W : World} {F : Nat → Prop} {b n : Nat} {mk : Nat → List Value} {A : List Value} {rv x : Value} {cs : List Value} (h : LG le e W F b mk A rv x cs n) : LS le W F b mk A rv :=
  ⟨h.all, h.ag, fun j hj => (h.mv j hj).up (Nat.le_refl _) (fun _ _ _ hP => ⟨⟨hP.1, hP.2.1, hP.2.2.1⟩, fun _ _ => rfl⟩)⟩
theorem LG.tch {S : Nat → Prop} {le e : TypeId} {W W' : World} {F : Nat → Prop} {b n : Nat} {mk : Nat → List Value} {A : List Value} {rv x : Value} {cs : List Value} (h : LG le e W F b mk A rv x cs n) (t : Tch S W W') (hS : ∀ i, S i → i = b ∨ F i) : LG le e W' F b mk A rv x cs n := by
  refine ⟨own_tch h.all t (fun g e hs => (hS g hs).elim (h.ag g e).1 (h.ag g e).2), own_tch h.xr t (fun g e hs => (hS g hs).elim (h.xg g e).2.1 (h.xg g e).2.2), h.ag, h.xg, fun j hj => (h.mv j hj).up t.size (fun g m hg hP => ⟨hP, fun k _ => t.cell (p := ⟨g, k, none⟩) hg (fun hs => (hS g hs).elim hP.1 hP.2.1)⟩)⟩
theorem LG.one {le e : TypeId} {W W1 w1 : World} {F : Nat → Prop} {b nx : Nat} {mk : Nat → List Value} {A : List Value} {rv x rv' : Value} {cs : List Value} (h : LG le e W F b mk A rv x cs nx) (t : Tch (fun _ => False) W W1) (hgr : W1.grownBy w1 rv.ownBlock) (hown : w1.ownsRow 0 le 1 rv' (A.length + 1) (A ++ [x])) (hat : rv'.ownBlock = rv.ownBlock ∨ rv'.ownBlock = some W1.heap.size) (hmk : mk A.length = cs) (hnx : nx ≤ 100) (hb : b < W.heap.size) (hF : ∀ i, F i → i < W.heap.size) :
    LG le e w1 F b mk (A ++ [x]) rv' x cs nx := by
  have T := grown_at t hgr
  have hne : ∀ g, g < W.heap.size → rv.ownBlock ≠ some g → rv'.ownBlock ≠ some g := fun g hg h1 h2 => by
    rcases hat with e | e
    · exact h1 (e ▸ h2)
    · rw [e] at h2; injection h2 with h2; have := t.size; omega
  have hxlt : ∀ g, x.ownBlock = some g → g < W.heap.size := fun g e => (h.xr.lt g e).2
  have xr' := own_tch h.xr T (fun g e e2 => (h.xg g e).1 e2)
  refine ⟨by rw [List.length_append]; exact hown, xr', fun g e => ?_, fun g e => ⟨hne g (hxlt g e) (h.xg g e).1, (h.xg g e).2⟩, fun j hj => ?_⟩
  · rcases hat with e1 | e1
    · rw [e1] at e; exact h.ag g e
    · rw [e1] at e; injection e with e
      have := t.size
      exact ⟨by omega, fun hf => by have := hF g hf; omega⟩
  · rw [List.length_append, List.length_singleton] at hj
    rcases Nat.lt_or_ge j A.length with hjl | hjl
    · rw [List.getElem_append_left hjl]
      exact (h.mv j hjl).up T.size (fun g m hg hP => ⟨⟨hP.1, hP.2.1, hne g hg hP.2.2.1, hP.2.2.2⟩, fun k _ => T.cell (p := ⟨g, k, none⟩) hg hP.2.2.1⟩)
    · obtain rfl : j = A.length := by omega
      rw [List.getElem_append_right (Nat.le_refl _)]
      simp only [Nat.sub_self, List.getElem_cons_zero]
      rw [hmk]
      exact MV.of xr' hnx (fun g e => ⟨(h.xg g e).2.1, (h.xg g e).2.2, hne g (hxlt g e) (h.xg g e).1, fun _ => Nat.le_refl _⟩)
theorem LG.two {le e : TypeId} {W W1 w1 : World} {F : Nat → Prop} {b nx : Nat} {mk : Nat → List Value} {A : List Value} {rv x x' : Value} {cs : List Value} (h : LG le e W F b mk A rv x cs nx) (t : Tch (fun _ => False) W W1) (hgr : W1.grownBy w1 x.ownBlock) (hown : w1.ownsRow 0 e cs.length x' (nx + 1) (rep (nx + 1) cs)) (hat : x'.ownBlock = x.ownBlock ∨ x'.ownBlock = some W1.heap.size)
    (hk : ∀ b j, b < W1.heap.size → (x.ownBlock = some b → j < nx * cs.length) → w1.cell? ⟨b, j, none⟩ = W1.cell? ⟨b, j, none⟩) (hb : b < W.heap.size) (hF : ∀ i, F i → i < W.heap.size) (hmk : ∀ j, (mk j).length = cs.length) : LG le e w1 F b mk A rv x' cs (nx + 1) := by
  have T := grown_at t hgr
  have hne : ∀ g, g < W.heap.size → x.ownBlock ≠ some g → x'.ownBlock ≠ some g := fun g hg h1 h2 => by
    rcases hat with e | e
    · exact h1 (e ▸ h2)
    · rw [e] at h2; injection h2 with h2; have := t.size; omega
  refine ⟨own_tch h.all T (fun g e e2 => (h.xg g e2).1 e), hown, h.ag, fun g e => ?_, fun j hj => ?_⟩
  · rcases hat with e1 | e1
    · rw [e1] at e; exact h.xg g e
    · rw [e1] at e
      injection e with e
      have := t.size
      exact ⟨fun e2 => by have := (h.all.lt _ e2).2; omega, by omega, fun hf => by have := hF g hf; omega⟩
  · refine (h.mv j hj).up T.size (fun g m hg hP => ⟨⟨hP.1, hP.2.1, hP.2.2.1, fun e => ?_⟩, fun k hkm => ?_⟩)
    · by_cases hx : x.ownBlock = some g
      · have := hP.2.2.2 hx; omega
      · exact absurd e (hne g hg hx)
    · rw [hk g k (Nat.lt_of_lt_of_le hg t.size) (fun e => by
        have h1 := hP.2.2.2 e
        rw [hmk] at hkm
        exact Nat.lt_of_lt_of_le hkm (Nat.mul_le_mul_right _ h1))]
      exact t.cell (p := ⟨g, k, none⟩) hg (fun h => h)
end Go.Proofs.Ytkcmpipipelgoaa
/- make, copy, struct comparison: rows and columns. -/
namespace Go.Proofs.Ytkcmpipipelgoaa
open Go.RowKit Go

theorem info_col : (Try.prog.info? 80).map (fun i => (i.zero, i.size, i.bytes)) = some (some (.agg #[.string ⟨#[]⟩, .int .i64 0, .bool false]), 3, 32) := by kernel_rfl
theorem info_col3 : (Try.prog.info? 80).map (·.size) = some 3 := by kernel_rfl
theorem made3 (a b c : Value) (n : Nat) : madeCells #[a, b, c] (n * 3) = (rep n [a, b, c]).toArray := by
  apply Array.ext'
  apply List.ext_getElem?
  intro j
  show (madeCells #[a, b, c] (n * 3)).toList[j]? = (rep n [a, b, c])[j]?
  rw [Array.getElem?_toList]
  rcases Nat.lt_or_ge j (n * 3) with hj | hj
  · have h := rep_get [a, b, c] n (j / 3) (j % 3) (by omega) (by simp; omega)
    simp only [List.length_cons, List.length_nil, Nat.zero_add] at h
    rw [show j / 3 * 3 + j % 3 = j by omega] at h
    rw [h, Array.getElem?_eq_getElem (by rw [size_madeCells]; exact hj)]
    unfold madeCells
    have h3 : j % 3 < 3 := by omega
    rw [Array.getElem_map, Array.getElem_range]
    have e : (#[a, b, c] : Array Value).size = 3 := rfl
    rw [e]
    rcases (by omega : j % 3 = 0 ∨ j % 3 = 1 ∨ j % 3 = 2) with h | h | h <;> rw [h] <;> rfl
  · rw [Array.getElem?_eq_none (by rw [size_madeCells]; exact hj), List.getElem?_eq_none (by rw [rep_len]; simpa using hj)]
theorem rep_add (n m : Nat) (cs : List Value) : rep (n + m) cs = rep n cs ++ rep m cs := by
  unfold rep
  rw [← List.replicate_append_replicate, List.flatten_append]
theorem rep_drop (n m : Nat) (cs : List Value) : (rep (n + m) cs).drop (n * cs.length) = rep m cs := by
  rw [rep_add, ← rep_len n cs, List.drop_left]
theorem make_col (n : Nat) (w : World) (hn : 32 * n ≤ 281474976710656) :
    (Instr.makeSlice 34 (.int .i64 (n : Int)) (.int .i64 (n : Int))).run Try.prog w = .ok (.slice (some ⟨w.heap.size, 0, none⟩) n n) (w.alloc (.cells (rep n [.string ⟨#[]⟩, .int .i64 0, .bool false]).toArray 80)) := by
  obtain ⟨i0, hi, hz0, hz1, hz2⟩ := info_parts info_col
  have h := run_make (P := Try.prog) w 34 80 i0 (.agg #[.string ⟨#[]⟩, .int .i64 0, .bool false]) Try.underlying34 hi hz0 .i64 .i64 n n (by omega) (Int.le_refl _) (by rw [hz2]; omega) (by omega)
  rw [← made3]
  simpa [hz1, Value.cells] using h
theorem add_plain (b o j : Nat) : (⟨b, o, none⟩ : Addr).add j = ⟨b, o + j, none⟩ := by unfold Addr.add; split <;> simp_all
theorem run_copy_row3 {P : Program} (w : World) (dT sT ty elem : TypeId) (g o dLen dCap : Nat) (a : Addr) (sLen sCap : Nat) (cur : Array Value) (t : TypeId) (cs : List Value)
    (hu : P.underlying dT = some (.slice elem)) (hs : (P.info? elem).map (·.size) = some 3)
    (hg : w.heap[g]? = some (.cells cur t (0, 0))) (hn : cs.length = Nat.min sLen dLen * 3)
    (hsrc : ∀ j v, cs[j]? = some v → w.cell? (a.add j) = some v) (hfit : o + cs.length ≤ cur.size) (h1 : ∀ v ∈ cs, v.oneCell' = true) :
    (Builtin.copy_ #[dT, sT] ty #[.slice (some ⟨g, o, none⟩) dLen dCap, .slice (some a) sLen sCap]).run P w =
      .ok (goInt (Nat.min sLen dLen)) (w.setRow g (cur.toList.take o ++ cs ++ cur.toList.drop (o + cs.length)).toArray) := by
  have hl := run_loadCells_list (P := P) w a cs hsrc
  have hst := run_storeCells_at P g o t cs 0 cur w hg (by simpa using hfit) h1
  cases hq : P.info? elem with
  | none => simp [hq] at hs
  | some i =>
    have hi : i.size = 3 := by simpa [hq] using hs
    simp [Builtin.copy_, run_underlying hu, Builtin.lenOf, Builtin.firstCells, sizeOf, typeInfo, hq, hi, ← hn, hl, hst]
theorem copy_in {P : Program} (W : World) (dT elem t : TypeId) (g dLen dCap : Nat) (so : Option Addr) (n cs : Nat) (cur : Array Value) (xs : List Value)
    (hu : P.underlying dT = some (.slice elem)) (hs : (P.info? elem).map (·.size) = some 3)
    (hg : W.heap[g]? = some (.cells cur t (0, 0))) (hl : xs.length = n * 3) (hnd : n ≤ dLen) (hfit : n * 3 ≤ cur.size) (h1 : ∀ v ∈ xs, v.oneCell' = true) (hsl : SL W so xs) (hso : so = none → cs = 0) :
    ∃ W', (∀ ty, (Builtin.copy_ #[dT, dT] ty #[.slice (some ⟨g, 0, none⟩) dLen dCap, .slice so n cs]).run P W = .ok (.int .i64 n) W') ∧ W'.heap[g]? = some (.cells (xs ++ cur.toList.drop (n * 3)).toArray t (0, 0)) ∧ Tch (fun i => i = g) W W' := by
  rcases Nat.eq_zero_or_pos n with rfl | hn
  · have hx : xs = [] := List.eq_nil_of_length_eq_zero (by omega)
    subst hx
    refine ⟨W, fun ty => ?_, by simpa using hg, Tch.refl _ _⟩
    cases hq : P.info? elem with
    | none => simp [hq] at hs
    | some i =>
      cases so with
      | none => obtain rfl := hso rfl; simp [Builtin.copy_, run_underlying hu, Builtin.lenOf, Builtin.firstCells, sizeOf, typeInfo, hq, storeCells, goInt]
      | some s => simp [Builtin.copy_, run_underlying hu, Builtin.lenOf, Builtin.firstCells, sizeOf, typeInfo, hq, storeCells, goInt, loadCells, loadCellsFrom]
  · obtain ⟨gs, o, rfl, ha⟩ := hsl (by rintro rfl; simp at hl; omega)
    have e : Nat.min n dLen = n := Nat.min_eq_left hnd
    refine ⟨W.setRow g (cur.toList.take 0 ++ xs ++ cur.toList.drop (0 + xs.length)).toArray, fun ty => ?_, ?_, ?_⟩
    · have hr := run_copy_row3 (P := P) W dT dT ty elem g 0 dLen dCap ⟨gs, o, none⟩ n cs cur t xs hu hs hg (by rw [e]; exact hl) (fun j v hv => by rw [add_plain]; exact ha j v hv) (by omega) h1
      rw [hr, e]; rfl
    · rw [setRow_heap W g cur _ t (0, 0) hg]
      simp [hl]
    · exact ⟨rfl, rfl, rfl, by simp [World.setRow], fun k _ hk => setRow_other W g k _ hk⟩
theorem eq_col (a b : Col) : ∃ d : Bool, (d = true ↔ a = b) ∧ ∀ w, (Op.equalIn 10000 80 (.agg #[.string a.nm, .int .i64 a.k, .bool a.nl]) (.agg #[.string b.nm, .int .i64 b.k, .bool b.nl])).run Try.prog w = .ok d w := by
  have u3 := Try.underlying3
  have u9 := Try.underlying9
  have u4 := Try.underlying4
  have hS : Try.prog.underlying 80 = some (.struct (Try.prog.fieldsOf 80)) := by kernel_rfl
  have hp : Try.prog.stoodInHeld 80 = false := by kernel_rfl
  refine ⟨decide (a.nm = b.nm ∧ a.k = b.k ∧ a.nl = b.nl), ?_, fun w => ?_⟩
  · simp only [decide_eq_true_eq]
    exact ⟨Col.ext', fun h => by subst h; exact ⟨rfl, rfl, rfl⟩⟩
  · rw [show (10000 : Nat) = 9999 + 1 from rfl, run_equalIn_agg w 9999 80 _ _ hS hp]
    simp only [Program.fieldsOf, Try.underlying80]
    go_simp
    have hs : (a.nm.toList = b.nm.toList) ↔ a.nm = b.nm := by
      rw [ByteArray.toList_eq, ByteArray.toList_eq]
      exact ⟨fun h => ByteArray.ext (Array.ext' h), fun h => by rw [h]⟩
    by_cases h1 : a.nm = b.nm <;> by_cases h2 : a.k = b.k <;> by_cases h3 : a.nl = b.nl <;> simp [h1, h2, h3, hs]
theorem ne_col (a b : Col) : ∃ d : Bool, (d = true ↔ a ≠ b) ∧ ∀ w, (binOp .neq 80 (.agg #[.string a.nm, .int .i64 a.k, .bool a.nl]) (.agg #[.string b.nm, .int .i64 b.k, .bool b.nl])).run Try.prog w = .ok (.bool d) w := by
  obtain ⟨d, h1, h2⟩ := eq_col a b
  refine ⟨!d, ?_, fun w => ?_⟩
  · cases d <;> simp_all
  · rw [run_neq_struct, h2]; rfl
theorem eql_col (a b : Col) : ∃ d : Bool, (d = true ↔ a = b) ∧ ∀ w, (binOp .eql 80 (.agg #[.string a.nm, .int .i64 a.k, .bool a.nl]) (.agg #[.string b.nm, .int .i64 b.k, .bool b.nl])).run Try.prog w = .ok (.bool d) w := by
  obtain ⟨d, h1, h2⟩ := eq_col a b
  refine ⟨d, h1, fun w => ?_⟩
  rw [run_eql_struct, h2]; rfl
end Go.Proofs.Ytkcmpipipelgoaa
