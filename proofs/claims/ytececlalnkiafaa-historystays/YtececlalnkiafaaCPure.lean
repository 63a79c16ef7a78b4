import Derived.Lib.Bytealg
import Derived.Lib.Small
/- Values, columns, tables, catalogs: plain mathematics. -/
namespace Go.Proofs.Ytececlalnkiafaa
open Go.Lib

/-- A value: its kind, its number, its text. -/
structure Val where
  k : Int
  n : Int
  s : ByteArray

/-- Has it a form? -/
def frm (v : Val) : Prop := (v.k = 0 ∧ v.n = 0 ∧ v.s.size = 0) ∨ (v.k = 1 ∧ v.s.size = 0) ∨ (v.k = 2 ∧ v.n = 0) ∨ (v.k = 3 ∧ v.s.size = 0 ∧ (v.n = 0 ∨ v.n = 1))
instance (v : Val) : Decidable (frm v) := by unfold frm; infer_instance
/-- What is wrong with it. -/
def wrg (v : Val) : Int := if frm v then (if v.s.size ≤ 200 then 0 else 42) else 43
def nullV : Val := ⟨0, 0, ⟨#[]⟩⟩
theorem Val.ext' {a b : Val} (h : a.k = b.k ∧ a.n = b.n ∧ a.s = b.s) : a = b := by
  obtain ⟨ak, an, sa⟩ := a
  obtain ⟨bk, bn, sb⟩ := b
  simp at h
  simp [h]

/-- A column. -/
structure Col where
  nm : ByteArray
  k : Int
  nl : Bool
theorem Col.ext' {a b : Col} (h : a.nm = b.nm ∧ a.k = b.k ∧ a.nl = b.nl) : a = b := by
  obtain ⟨ak, an, sa⟩ := a
  obtain ⟨bk, bn, sb⟩ := b
  simp at h
  simp [h]
/-- A table. -/
structure Tbl where
  id : Int
  ver : Int
  nm : ByteArray
  cols : List Col
  key : Int

def ltr (b : UInt8) : Bool := decide (97 ≤ b.toNat) && decide (b.toNat ≤ 122)
def dgt (b : UInt8) : Bool := decide (48 ≤ b.toNat) && decide (b.toNat ≤ 57)
def sgn (b : UInt8) : Bool := ltr b || dgt b || decide (b.toNat = 95)
/-- A name. -/
def nmOk (s : ByteArray) : Bool := match s.data.toList with
  | [] => false
  | a :: l => decide (l.length ≤ 15) && ltr a && l.all sgn
def kdOk (k : Int) : Bool := decide (k = 1) || decide (k = 2) || decide (k = 3)
/-- What is wrong with a column, behind those ahead of it. -/
def colE (ahead : List Col) (c : Col) : Int := if nmOk c.nm = false then 50 else if ahead.any (fun a => decide (a.nm = c.nm)) then 54 else if kdOk c.k = false then 1 else 0
def colsGo (ahead : List Col) : List Col → Int
  | [] => 0
  | c :: l => if colE ahead c ≠ 0 then colE ahead c else colsGo (ahead ++ [c]) l
def colsE (l : List Col) : Int := if l.length < 1 ∨ 8 < l.length then 55 else colsGo [] l
def keyOk (l : List Col) (k : Int) : Bool := decide (0 ≤ k) && (match l[k.toNat]? with
  | none => false
  | some c => decide (c.k ≠ 3) && !c.nl)
def numOk (n : Int) : Bool := decide (1 ≤ n) && decide (n ≤ 2147483647)
/-- T1. -/
def rightE (t : Tbl) : Int := if numOk t.id = false ∨ numOk t.ver = false then 1 else if nmOk t.nm = false then 50 else if colsE t.cols ≠ 0 then colsE t.cols else if keyOk t.cols t.key = false then 56 else 0
/-- May it stand in a column of kind ck, which may be null or not? -/
def fitE (v : Val) (ck : Int) (cn : Bool) : Int := if wrg v ≠ 0 then wrg v else if v.k = 0 ∧ cn = false then 41 else if v.k ≠ 0 ∧ v.k ≠ ck then 40 else 0
/-- A row filled up. -/
def fullR (t : Tbl) (r : List Val) : List Val := r ++ List.replicate (t.cols.length - r.length) nullV
def fitsAll : List Col → List Val → Bool
  | [], _ => true
  | _ :: _, [] => true
  | c :: l, v :: m => decide (fitE v c.k c.nl = 0) && fitsAll l m
/-- T8: the row and what is wrong. -/
def fitR (t : Tbl) (r : List Val) : List Val × Int := if rightE t ≠ 0 then ([], rightE t) else if t.cols.length < r.length then ([], 57) else if fitsAll t.cols (fullR t r) = false then ([], 57) else (fullR t r, 0)

theorem colsGo_step (l : List Col) (k : Nat) (hk : k < l.length) : colsGo (l.take k) (l.drop k) = if colE (l.take k) l[k] ≠ 0 then colE (l.take k) l[k] else colsGo (l.take (k + 1)) (l.drop (k + 1)) := by
  rw [List.drop_eq_getElem_cons hk, colsGo, List.take_append_getElem hk]
theorem colsGo_end (l : List Col) : colsGo (l.take l.length) (l.drop l.length) = 0 := by simp [colsGo]
theorem fitsAll_iff : ∀ (l : List Col) (m : List Val), l.length = m.length → (fitsAll l m = true ↔ ∀ i (h : i < l.length) (h' : i < m.length), fitE m[i] l[i].k l[i].nl = 0)
  | [], [], _ => by simp [fitsAll]
  | [], _ :: _, h => by simp at h
  | _ :: _, [], h => by simp at h
  | c :: l, v :: m, h => by
    have ih := fitsAll_iff l m (by simpa using h)
    unfold fitsAll
    rw [Bool.and_eq_true, decide_eq_true_iff, ih]
    constructor
    · rintro ⟨h1, h2⟩ i hi hi'
      rcases i with _ | i
      · simpa using h1
      · simpa using h2 i (by simpa using hi) (by simpa using hi')
    · intro h1
      exact ⟨h1 0 (by simp) (by simp), fun i hi hi' => h1 (i + 1) (by simpa using hi) (by simpa using hi')⟩
theorem fullR_len {t : Tbl} {r : List Val} (h : r.length ≤ t.cols.length) : (fullR t r).length = t.cols.length := by simp [fullR]; omega
theorem fullR_lt {t : Tbl} {r : List Val} (i : Nat) (h : i < r.length) (h' : i < (fullR t r).length) : (fullR t r)[i] = r[i] := by simp [fullR, List.getElem_append_left h]
theorem fullR_ge {t : Tbl} {r : List Val} (i : Nat) (h : r.length ≤ i) (h' : i < (fullR t r).length) : (fullR t r)[i] = nullV := by simp [fullR, List.getElem_append_right h]
theorem nmOk_iff (s : ByteArray) : nmOk s = true ↔ (1 ≤ s.size ∧ s.size ≤ 16) ∧ (∀ h : 0 < s.size, ltr s[0] = true) ∧ ∀ i (h : i < s.size), sgn s[i] = true := by
  obtain ⟨⟨l⟩⟩ := s
  unfold nmOk
  show (match l with | [] => false | a :: l => decide (l.length ≤ 15) && ltr a && l.all sgn) = true ↔ (1 ≤ l.length ∧ l.length ≤ 16) ∧ (∀ h : 0 < l.length, ltr l[0] = true) ∧ ∀ i (h : i < l.length), sgn l[i] = true
  cases l with
  | nil => simp
  | cons a l =>
    simp only [Bool.and_eq_true, decide_eq_true_iff, List.all_eq_true, List.length_cons]
    constructor
    · rintro ⟨⟨h1, h2⟩, h3⟩
      refine ⟨by omega, fun _ => by simpa using h2, fun i hi => ?_⟩
      rcases i with _ | i
      · simp [sgn, h2]
      · simpa using h3 _ (List.getElem_mem (by simpa using hi))
    · rintro ⟨h1, h2, h3⟩
      refine ⟨⟨by omega, by simpa using h2 (by simp)⟩, fun x hx => ?_⟩
      obtain ⟨i, hi, rfl⟩ := List.getElem_of_mem hx
      exact h3 (i + 1) (by simpa using hi)
end Go.Proofs.Ytececlalnkiafaa
