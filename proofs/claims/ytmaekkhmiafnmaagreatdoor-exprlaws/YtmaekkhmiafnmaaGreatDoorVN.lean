import Derived.Test.YtmaekkhmiafnmaaGreatDoorRows
import Derived.Test.YtmaekkhmiafnmaaGreatDoorVLit
import Derived.ProofKit
import Derived.ChangeSame
import Derived.ChangeVars
import Derived.JoinedOf
import Derived.RowKit
import Derived.RowKitTokens
import Derived.LaidLaws
import Derived.LaidHandle
import Derived.LaidMore
import Derived.Stop.Joined
import Derived.OpenShut
import Derived.SizedLaws
import Derived.Deep.Slices
import Derived.Lib.AtoiAll
import Derived.Lib.ItoaNum
set_option maxRecDepth 100000
namespace Go.Proofs.YtmaekkhmiafnmaaGreatDoor
open Go.ChangeShapes Go.WideShapes Go.RowKit Go.Deep
set_option maxRecDepth 100000
theorem tr_own : ownKnob Tryz.prog.godebug = none := by kernel_rfl
theorem tr_ws : Tryz.prog.globalNamed "confluence/value.words" = some 1 := by kernel_rfl
theorem tr_wt : (Tryz.prog.globals[1]?).map (·.type) = some 147 := by kernel_rfl
theorem tr_laidOut : laidOutB Tryz.prog = true := by kernel_rfl
theorem c_int : Tryz.prog.cellsOf 3 = 1 := by kernel_rfl
theorem c_str : Tryz.prog.cellsOf 9 = 1 := by kernel_rfl
theorem c_val : Tryz.prog.cellsOf 29 = 3 := by kernel_rfl
theorem c_word : Tryz.prog.cellsOf 146 = 4 := by kernel_rfl
theorem wf_i64 {n : Int} (h : (Lit.int .i64 n).wf = true) : -9223372036854775808 ≤ n ∧ n ≤ 9223372036854775807 := by
  have := bounds_i64 h
  omega
theorem list3 {α : Type} (l : List α) (h : l.length = 3) : ∃ c0 c1 c2, l = [c0, c1, c2] := by
  rcases l with _ | ⟨c0, _ | ⟨c1, _ | ⟨c2, _ | ⟨c3, l⟩⟩⟩⟩ <;> simp at h
  exact ⟨c0, c1, c2, rfl⟩
theorem list4 {α : Type} (l : List α) (h : l.length = 4) : ∃ c0 c1 c2 c3, l = [c0, c1, c2, c3] := by
  rcases l with _ | ⟨c0, _ | ⟨c1, _ | ⟨c2, _ | ⟨c3, _ | ⟨c4, l⟩⟩⟩⟩⟩ <;> simp at h
  exact ⟨c0, c1, c2, c3, rfl⟩
section
variable {H : Type} {enc : TypeId × Value → H} {W : World} {sp : Nat → Bool} {hd : Bool} {fuel : Nat} {x : DataW H × List MemPlace} {cs : List Value}
theorem val_of (h : DataW.trod enc Tryz.prog W 0 sp hd fuel 29 cs = some x) :
    ∃ (k n : Int) (s : ByteArray), cs = [.int .i64 k, .int .i64 n, .string s] ∧ x.1 = .agg [.lit (.int .i64 k), .lit (.int .i64 n), .lit (.string s.data.toList)] ∧ (Val.mk k n s).i64 ∧ s.size ≤ maxLen := by
  obtain ⟨xs, n', _, hx, hcl, hxl, hf⟩ := DataW.trod_struct Tryz.underlying29 h
  rw [c_val] at hcl
  have hxs : xs.length = 3 := hxl
  obtain ⟨c0, c1, c2, rfl⟩ := list3 cs hcl
  obtain ⟨y0, y1, y2, rfl⟩ := list3 xs hxs
  have f0 : DataW.trod enc Tryz.prog W 0 sp hd n' 3 [c0] = some y0 := by have := hf 0 _ rfl; simpa [c_int] using this
  have f1 : DataW.trod enc Tryz.prog W 0 sp hd n' 3 [c1] = some y1 := by have := hf 1 _ rfl; simpa [c_int] using this
  have f2 : DataW.trod enc Tryz.prog W 0 sp hd n' 9 [c2] = some y2 := by have := hf 2 _ rfl; simpa [c_str] using this
  obtain ⟨k, e0, g0, wk⟩ := DataW.trod_int Tryz.underlying3 f0
  obtain ⟨n, e1, g1, wn⟩ := DataW.trod_int Tryz.underlying3 f1
  obtain ⟨s, e2, g2, ws⟩ := DataW.trod_string Tryz.underlying9 f2
  simp at e0 e1 e2
  subst e0 e1 e2
  exact ⟨k, n, s, rfl, by rw [hx, g0, g1, g2]; rfl, ⟨wf_i64 wk, wf_i64 wn⟩, ws⟩
theorem word_of (h : DataW.trod enc Tryz.prog W 0 sp hd fuel 146 cs = some x) :
    ∃ (t : ByteArray) (k n : Int) (s : ByteArray), cs = [.string t, .int .i64 k, .int .i64 n, .string s] ∧ x.1 = .agg [.lit (.string t.data.toList), .agg [.lit (.int .i64 k), .lit (.int .i64 n), .lit (.string s.data.toList)]] := by
  obtain ⟨xs, n', _, hx, hcl, hxl, hf⟩ := DataW.trod_struct Tryz.underlying146 h
  rw [c_word] at hcl
  have hxs : xs.length = 2 := hxl
  obtain ⟨c0, c1, c2, c3, rfl⟩ := list4 cs hcl
  rcases xs with _ | ⟨y0, _ | ⟨y1, _ | ⟨y2, l⟩⟩⟩ <;> simp at hxs
  have f0 : DataW.trod enc Tryz.prog W 0 sp hd n' 9 [c0] = some y0 := by have := hf 0 _ rfl; simpa [c_str] using this
  have f1 : DataW.trod enc Tryz.prog W 0 sp hd n' 29 [c1, c2, c3] = some y1 := by have := hf 1 _ rfl; simpa [c_val] using this
  obtain ⟨t, e0, g0, _⟩ := DataW.trod_string Tryz.underlying9 f0
  obtain ⟨k, n, s, e1, g1, _⟩ := val_of f1
  simp at e0 e1
  obtain ⟨rfl, rfl, rfl⟩ := e1
  subst e0
  exact ⟨t, k, n, s, rfl, by rw [hx, g0]; simp [g1]⟩
end
theorem bytes_of {t : ByteArray} {l : List UInt8} (h : t.data.toList = l) : t = ⟨l.toArray⟩ := by
  obtain ⟨⟨t⟩⟩ := t
  simp at h
  simp [h]
end Go.Proofs.YtmaekkhmiafnmaaGreatDoor
namespace Go.Proofs.YtmaekkhmiafnmaaGreatDoor
def qt (l : List UInt8) : List UInt8 := 39 :: (escs l ++ [39])
theorem qtd_qt (s : ByteArray) : qtd s = qt s.data.toList := rfl
theorem escs_cons (b : UInt8) (l : List UInt8) : escs (b :: l) = esc b ++ escs l := rfl
def sgC (b : UInt8) : Nat := if 48 ≤ b.toNat ∧ b.toNat ≤ 57 then b.toNat - 48 else if 97 ≤ b.toNat ∧ b.toNat ≤ 102 then b.toNat - 87 else 255
theorem sgC_sgn {n : Nat} (h : n < 16) : sgC (sgn n) = n := by
  have : ∀ i : Fin 16, sgC (sgn i.1) = i.1 := by decide
  exact this ⟨n, h⟩
theorem split16 (b : UInt8) : UInt8.ofNat (16 * (b.toNat / 16) + b.toNat % 16) = b := by
  rw [Nat.div_add_mod]; simp
def unqC : List UInt8 → List UInt8
  | [] => []
  | [_] => []
  | [b, c] => if b.toNat = 39 then [39] else b :: unqC [c]
  | b :: c :: d :: r => if b.toNat = 39 then 39 :: unqC (d :: r) else if b.toNat = 92 then UInt8.ofNat (16 * sgC c + sgC d) :: unqC r else b :: unqC (c :: d :: r)
theorem u39 {b : UInt8} (h : b.toNat = 39) : b = 39 := UInt8.toNat_inj.1 h
theorem unqC_escs : ∀ l : List UInt8, unqC (escs l ++ [39]) = l
  | [] => by simp [escs, unqC]
  | b :: l => by
    have ih := unqC_escs l
    rw [escs_cons, List.append_assoc]
    obtain ⟨x, r, hr⟩ : ∃ x r, escs l ++ [39] = x :: r := by
      cases h : escs l ++ [39] with
      | nil => simp at h
      | cons x r => exact ⟨x, r, rfl⟩
    unfold esc
    split
    · rename_i h
      rw [hr] at ih ⊢
      show unqC (39 :: 39 :: x :: r) = _
      unfold unqC
      rw [if_pos (by decide), ih, u39 h]
    · split
      · rename_i h1 h2
        rw [hr] at ih ⊢
        show unqC (92 :: sgn (b.toNat / 16) :: sgn (b.toNat % 16) :: x :: r) = _
        have hb := b.toNat_lt
        unfold unqC
        rw [if_neg (by decide), if_pos (by decide), sgC_sgn (by omega), sgC_sgn (by omega), split16, ih]
      · rename_i h1 h2
        rw [hr] at ih ⊢
        show unqC (b :: x :: r) = _
        cases r with
        | nil =>
          unfold unqC
          rw [if_neg h1, ih]
        | cons y r =>
          unfold unqC
          rw [if_neg h1, if_neg (by omega), ih]
theorem unqC_qt {s t : List UInt8} (h : qt t = s) : unqC (s.drop 1) = t := by subst h; exact unqC_escs t
end Go.Proofs.YtmaekkhmiafnmaaGreatDoor
namespace Go.Proofs.YtmaekkhmiafnmaaGreatDoor
open Go.Lib
inductive Ex where
  | mk (op : Nat) (no : Bool) (v : Val) (nm : ByteArray) (l : List Ex)
namespace Ex
def op : Ex → Nat | mk o _ _ _ _ => o
def no : Ex → Bool | mk _ n _ _ _ => n
def v : Ex → Val | mk _ _ v _ _ => v
def nm : Ex → ByteArray | mk _ _ _ n _ => n
def l : Ex → List Ex | mk _ _ _ _ l => l
end Ex
abbrev zV : Val := ⟨0, 0, ⟨#[]⟩⟩
abbrev heldE (o : Nat) (l : List Ex) : Ex := .mk o false zV ⟨#[]⟩ l
abbrev testE (o : Nat) (no : Bool) (l : List Ex) : Ex := .mk o no zV ⟨#[]⟩ l
abbrev litE (v : Val) : Ex := .mk 0 false v ⟨#[]⟩ []
abbrev colE (nm : ByteArray) : Ex := .mk 1 false zV nm []
structure Tk where
  k : Nat
  b : ByteArray
  p : Nat
def isDig (c : UInt8) : Bool := decide (48 ≤ c.toNat) && decide (c.toNat ≤ 57)
def isLet (c : UInt8) : Bool := decide (97 ≤ c.toNat) && decide (c.toNat ≤ 122)
def isOfW (c : UInt8) : Bool := isLet c || isDig c || decide (c.toNat = 95)
def runL (f : UInt8 → Bool) : List UInt8 → Nat
  | [] => 0
  | c :: r => if f c = true then runL f r + 1 else 0
def quoL : Bool → List UInt8 → Nat
  | _, [] => 0
  | i, c :: r => if c.toNat = 39 then quoL (!i) r + 1 else if i = true then quoL i r + 1 else 0
def twoS : List (List UInt8) := [[124, 124], [60, 62], [60, 61], [62, 61]]
def oneS : List UInt8 := [40, 41, 44, 43, 45, 42, 47, 37, 61, 60, 62]
def okT (x : List UInt8) : Bool := decide (qt (unqC (x.drop 1)) = x) && decide ((unqC (x.drop 1)).length ≤ 200)
def begL (c : UInt8) (l : List UInt8) : Nat × Nat :=
  if c.toNat = 48 then (0, 1)
  else if isDig c = true then (0, runL isDig l)
  else if isLet c = true then (if runL isOfW l ≤ 16 then 2 else 5, runL isOfW l)
  else if c.toNat = 39 then (if okT (l.take (quoL false l)) = true then 1 else 5, quoL false l)
  else if l.take 2 ∈ twoS then (3, 2)
  else if c ∈ oneS then (3, 1)
  else (5, 1)
def toks : Nat → Nat → List UInt8 → List Tk
  | 0, _, _ => []
  | _ + 1, p, [] => [⟨4, ⟨#[]⟩, p⟩]
  | n + 1, p, c :: r =>
    if c.toNat = 32 then toks n (p + 1) r
    else if (begL c (c :: r)).1 = 5 then [⟨5, ⟨#[]⟩, p⟩]
    else ⟨(begL c (c :: r)).1, ⟨((c :: r).take (begL c (c :: r)).2).toArray⟩, p⟩ :: toks n (p + (begL c (c :: r)).2) ((c :: r).drop (begL c (c :: r)).2)
def toksE (s : ByteArray) : List Tk := toks (s.size + 1) 0 s.data.toList
def shp : List (ByteArray × Nat × Nat × Nat) := [
  (⟨#[]⟩, 9, 0, 0), (⟨#[]⟩, 9, 0, 0), (⟨#[111, 114]⟩, 1, 0, 0), (⟨#[97, 110, 100]⟩, 2, 0, 0), (⟨#[110, 111, 116]⟩, 3, 0, 0),
  (⟨#[61]⟩, 4, 0, 0), (⟨#[60, 62]⟩, 4, 0, 0), (⟨#[60]⟩, 4, 0, 0), (⟨#[60, 61]⟩, 4, 0, 0), (⟨#[62]⟩, 4, 0, 0), (⟨#[62, 61]⟩, 4, 0, 0),
  (⟨#[105, 115]⟩, 4, 0, 0), (⟨#[105, 110]⟩, 4, 0, 0), (⟨#[98, 101, 116, 119, 101, 101, 110]⟩, 4, 0, 0), (⟨#[108, 105, 107, 101]⟩, 4, 0, 0),
  (⟨#[124, 124]⟩, 5, 0, 0), (⟨#[43]⟩, 6, 0, 0), (⟨#[45]⟩, 6, 0, 0), (⟨#[42]⟩, 7, 0, 0), (⟨#[47]⟩, 7, 0, 0), (⟨#[37]⟩, 7, 0, 0),
  (⟨#[45]⟩, 9, 0, 0), (⟨#[99, 97, 115, 101]⟩, 9, 0, 0),
  (⟨#[108, 101, 110, 103, 116, 104]⟩, 9, 1, 1), (⟨#[97, 98, 115]⟩, 9, 1, 1), (⟨#[117, 112, 112, 101, 114]⟩, 9, 1, 1), (⟨#[108, 111, 119, 101, 114]⟩, 9, 1, 1),
  (⟨#[110, 117, 108, 108, 105, 102]⟩, 9, 2, 2), (⟨#[115, 117, 98, 115, 116, 114]⟩, 9, 3, 3),
  (⟨#[99, 111, 97, 108, 101, 115, 99, 101]⟩, 9, 1, 400), (⟨#[103, 114, 101, 97, 116, 101, 115, 116]⟩, 9, 1, 400), (⟨#[108, 101, 97, 115, 116]⟩, 9, 1, 400)]
def wd (o : Nat) : ByteArray := (shp.getD o (⟨#[]⟩, 0, 0, 0)).1
def lvl (o : Nat) : Nat := (shp.getD o (⟨#[]⟩, 0, 0, 0)).2.1
def few (o : Nat) : Nat := (shp.getD o (⟨#[]⟩, 0, 0, 0)).2.2.1
def mst (o : Nat) : Nat := (shp.getD o (⟨#[]⟩, 0, 0, 0)).2.2.2
def fnOf (b : ByteArray) : Option Nat := [23, 24, 25, 26, 27, 28, 29, 30, 31].find? (fun o => decide (wd o = b))
abbrev wCom : ByteArray := ⟨#[44]⟩
abbrev wOpen : ByteArray := ⟨#[40]⟩
abbrev wShut : ByteArray := ⟨#[41]⟩
abbrev wMin : ByteArray := ⟨#[45]⟩
abbrev wNull : ByteArray := ⟨#[110, 117, 108, 108]⟩
abbrev wTrue : ByteArray := ⟨#[116, 114, 117, 101]⟩
abbrev wFalse : ByteArray := ⟨#[102, 97, 108, 115, 101]⟩
abbrev wAnd : ByteArray := ⟨#[97, 110, 100]⟩
abbrev wNot : ByteArray := ⟨#[110, 111, 116]⟩
abbrev wIs : ByteArray := ⟨#[105, 115]⟩
abbrev wCase : ByteArray := ⟨#[99, 97, 115, 101]⟩
abbrev wWhen : ByteArray := ⟨#[119, 104, 101, 110]⟩
abbrev wThen : ByteArray := ⟨#[116, 104, 101, 110]⟩
abbrev wElse : ByteArray := ⟨#[101, 108, 115, 101]⟩
abbrev wEnd : ByteArray := ⟨#[101, 110, 100]⟩
def resW : List ByteArray := [⟨#[111, 114]⟩, wAnd, wNot, wIs, wNull, ⟨#[105, 110]⟩, ⟨#[98, 101, 116, 119, 101, 101, 110]⟩, ⟨#[108, 105, 107, 101]⟩, wCase, wWhen, wThen, wElse, wEnd, wTrue, wFalse]
def parV (b : ByteArray) : Val :=
  if b = wNull then zV else if b = wFalse then ⟨3, 0, ⟨#[]⟩⟩ else if b = wTrue then ⟨3, 1, ⟨#[]⟩⟩ else ⟨2, 0, ⟨(unqC (b.data.toList.drop 1)).toArray⟩⟩
inductive Rs where
  | ok (l : List Ex) (r : List Tk)
  | no (why : Int) (p : Nat)
  | out
def Rs.bind (x : Rs) (f : List Ex → List Tk → Rs) : Rs := match x with
  | .ok l r => f l r
  | .no w p => .no w p
  | .out => .out
def atP (ts : List Tk) : Nat := match ts with | t :: _ => t.p | [] => 0
def isT (ts : List Tk) (b : ByteArray) : Bool := match ts with | t :: _ => decide (t.b = b) | [] => false
def wantT (ts : List Tk) (b : ByteArray) (f : List Tk → Rs) : Rs := if isT ts b = true then f ts.tail else .no 110 (atP ts)
def opIn (os : List Nat) (ts : List Tk) : Option Nat := os.find? (fun o => isT ts (wd o))
def numT (ahead : List UInt8) (t : Tk) (r : List Tk) : Rs := match atoiAll (ahead ++ t.b.data.toList) with
  | .ok n => .ok [litE ⟨1, n, ⟨#[]⟩⟩] r
  | _ => .no 114 t.p
def lineOps (k : Nat) : List Nat := if k = 1 then [2] else if k = 2 then [3] else if k = 5 then [15] else if k = 6 then [16, 17] else if k = 7 then [18, 19, 20] else []
inductive NT where
  | line (k : Nat)
  | more (k : Nat) (e : List Ex)
  | list (acc : List Ex)
  | whens (acc : List Ex)
def cmpR (P : NT → List Tk → Rs) (a : List Ex) (r : List Tk) : Rs :=
  match opIn [5, 6, 7, 8, 9, 10] r with
  | some o => (P (.line 5) r.tail).bind fun b r1 => .ok [heldE o (a ++ b)] r1
  | none =>
    if isT r wIs = true then
      (if isT r.tail wNot = true then wantT r.tail.tail wNull fun r2 => .ok [testE 11 true a] r2 else wantT r.tail wNull fun r2 => .ok [testE 11 false a] r2)
    else
      match opIn [12, 13, 14] (if isT r wNot = true then r.tail else r) with
      | some 12 => wantT (if isT r wNot = true then r.tail else r).tail wOpen fun r2 => (P (.list []) r2).bind fun l r3 => wantT r3 wShut fun r4 => .ok [testE 12 (isT r wNot) (a ++ l)] r4
      | some 13 => (P (.line 5) (if isT r wNot = true then r.tail else r).tail).bind fun b r2 => wantT r2 wAnd fun r3 => (P (.line 5) r3).bind fun c r4 => .ok [testE 13 (isT r wNot) (a ++ (b ++ c))] r4
      | some o => (P (.line 5) (if isT r wNot = true then r.tail else r).tail).bind fun b r2 => .ok [testE o (isT r wNot) (a ++ b)] r2
      | none => if isT r wNot = true then .no 110 (atP r.tail) else .ok a r
def wordR (P : NT → List Tk → Rs) (t : Tk) (r : List Tk) : Rs :=
  if t.b = wNull ∨ t.b = wTrue ∨ t.b = wFalse then .ok [litE (parV t.b)] r
  else if t.b = wCase then wantT r wWhen fun r1 => P (.whens []) r1
  else if resW.any (fun a => decide (a = t.b)) = true then .no 110 t.p
  else if isT r wOpen = true then
    match fnOf t.b with
    | none => .no 110 t.p
    | some o => (P (.list []) r.tail).bind fun l r1 => wantT r1 wShut fun r2 => if few o ≤ l.length ∧ l.length ≤ mst o then .ok [heldE o l] r2 else .no 110 t.p
  else .ok [colE t.b] r
def firstR (P : NT → List Tk → Rs) : List Tk → Rs
  | [] => .out
  | t :: r =>
    if t.k = 0 then numT [] t r
    else if t.k = 1 then .ok [litE (parV t.b)] r
    else if t.k = 2 then wordR P t r
    else if t.b = wOpen then (P (.line 1) r).bind fun e r1 => wantT r1 wShut fun r2 => .ok e r2
    else .no 110 t.p
def minusR (P : NT → List Tk → Rs) (ts : List Tk) : Rs :=
  if isT ts wMin = true then
    match ts.tail with
    | [] => .out
    | t :: r => if t.k = 0 then numT [45] t r else (P (.line 8) ts.tail).bind fun l r1 => .ok [heldE 21 l] r1
  else P (.line 9) ts
def rd : Nat → NT → List Tk → Rs
  | 0, _, _ => .out
  | n + 1, .line k, ts =>
    if k = 3 then (if isT ts wNot = true then (rd n (.line 3) ts.tail).bind fun l r => .ok [heldE 4 l] r else rd n (.line 4) ts)
    else if k = 4 then (rd n (.line 5) ts).bind fun a r => cmpR (rd n) a r
    else if k = 8 then minusR (rd n) ts
    else if k = 9 then firstR (rd n) ts
    else (rd n (.line (k + 1)) ts).bind fun e r => rd n (.more k e) r
  | n + 1, .more k e, ts => match opIn (lineOps k) ts with
    | some o => (rd n (.line (k + 1)) ts.tail).bind fun b r => rd n (.more k [heldE o (e ++ b)]) r
    | none => .ok e ts
  | n + 1, .list acc, ts => (rd n (.line 1) ts).bind fun e r => if isT r wCom = true then rd n (.list (acc ++ e)) r.tail else .ok (acc ++ e) r
  | n + 1, .whens acc, ts => (rd n (.line 1) ts).bind fun a r => wantT r wThen fun r1 => (rd n (.line 1) r1).bind fun b r2 =>
    if isT r2 wWhen = true then rd n (.whens (acc ++ a ++ b)) r2.tail
    else if isT r2 wElse = true then (rd n (.line 1) r2.tail).bind fun c r3 => wantT r3 wEnd fun r4 => .ok [heldE 22 (acc ++ a ++ b ++ c)] r4
    else wantT r2 wEnd fun r3 => .ok [heldE 22 (acc ++ a ++ b)] r3
def rdAll (ts : List Tk) : Rs := (rd (12 * ts.length + 12) (.line 1) ts).bind fun l r => match r with
  | [] => .out
  | t :: _ => if t.k = 4 then .ok l [] else .no 110 t.p
def dep : Ex → Nat
  | .mk _ _ _ _ l => depL l + 1
where depL : List Ex → Nat
  | [] => 0
  | e :: l => max (dep e) (depL l)
def parE (s : ByteArray) : Option Ex × Int × Int :=
  if 400 < s.size then (none, 110, 400)
  else match rdAll (toksE s) with
    | .ok [e] _ => if 20 < dep e then (none, 111, 0) else (some e, 0, 0)
    | .no w p => (none, w, p)
    | _ => (none, 0, 0)
def addN (acc xs : List ByteArray) : List ByteArray := xs.foldl (fun a x => if a.any (fun y => decide (y = x)) = true then a else a ++ [x]) acc
def nms : Ex → List ByteArray
  | .mk o _ _ nm l => if o = 1 then [nm] else nmsL l []
where nmsL : List Ex → List ByteArray → List ByteArray
  | [], acc => acc
  | e :: l, acc => nmsL l (addN acc (nms e))
def goW (k : Int) (ks : List Int) : Bool := ks.all fun x => decide (x = k) || decide (x = 0)
def com (ks : List Int) : Int := (ks.find? fun x => decide (x ≠ 0)).getD 0
def splK : List Int → List Int × List Int
  | a :: b :: l => (a :: (splK l).1, b :: (splK l).2)
  | l => ([], l)
def hlds (o : Nat) (ks : List Int) : Int × Bool :=
  if o = 2 ∨ o = 3 ∨ o = 4 then (3, goW 3 ks)
  else if o = 16 ∨ o = 17 ∨ o = 18 ∨ o = 19 ∨ o = 20 ∨ o = 21 ∨ o = 24 then (1, goW 1 ks)
  else if o = 15 ∨ o = 25 ∨ o = 26 then (2, goW 2 ks)
  else if o = 14 then (3, goW 2 ks)
  else if o = 23 then (1, goW 2 ks)
  else if o = 11 then (3, true)
  else if o = 27 then (ks.headD 0, goW (com ks) ks)
  else if o = 29 ∨ o = 30 ∨ o = 31 then (com ks, goW (com ks) ks)
  else if o = 28 then (2, goW 2 (ks.take 1) && goW 1 (ks.drop 1))
  else if o = 22 then (com (splK ks).2, goW 3 (splK ks).1 && goW (com (splK ks).2) (splK ks).2)
  else (3, goW (com ks) ks)
def plc (cs : List (ByteArray × Int)) (nm : ByteArray) : Option Nat := cs.findIdx? (fun c => decide (c.1 = nm))
def kndOf (cs : List (ByteArray × Int)) (nm : ByteArray) : Int × Int := match cs.find? (fun c => decide (c.1 = nm)) with
  | none => (0, 112)
  | some c => if c.2 = 1 ∨ c.2 = 2 ∨ c.2 = 3 then (c.2, 0) else (0, 113)
def chk (cs : List (ByteArray × Int)) : Ex → Int × Int
  | .mk o _ v nm l =>
    if o = 0 then (v.k, 0) else if o = 1 then kndOf cs nm
    else if (chkL l).2 ≠ 0 then (0, (chkL l).2)
    else if (hlds o (chkL l).1).2 = true then ((hlds o (chkL l).1).1, 0) else (0, 113)
where chkL : List Ex → List Int × Int
  | [] => ([], 0)
  | e :: l => if (chk cs e).2 ≠ 0 then ([], (chk cs e).2) else ((chk cs e).1 :: (chkL l).1, (chkL l).2)
end Go.Proofs.YtmaekkhmiafnmaaGreatDoor
namespace Go.Proofs.YtmaekkhmiafnmaaGreatDoor
open Go.Lib
theorem dd_rec {u : Nat} (h : ¬ u < 10) : decDigits u = decDigits (u / 10) ++ [UInt8.ofNat (48 + u % 10)] := by rw [decDigits, dif_neg h]
theorem pu_append : ∀ (l r : List UInt8) (a : Nat), parseUint10 a (l ++ r) = match parseUint10 a l with
    | .ok b => parseUint10 b r
    | .syntax => .syntax
    | .range => .range
  | [], r, a => by simp [parseUint10]
  | c :: l, r, a => by
    simp only [List.cons_append, parseUint10]
    split
    · split
      · rfl
      · split
        · rfl
        · exact pu_append l r _
    · rfl
theorem dig_nat (d : Nat) (h : d < 10) : (UInt8.ofNat (48 + d)).toNat = 48 + d := by
  simp; omega
theorem pu_dec (u : Nat) (h : u < 18446744073709551616) : parseUint10 0 (decDigits u) = .ok u := by
  induction u using Nat.strongRecOn with
  | ind u ih =>
    by_cases h10 : u < 10
    · rw [decDigits_one h10]
      simp only [parseUint10]
      rw [if_pos (by rw [dig_nat u h10]; omega), if_neg (by omega), if_neg (by rw [dig_nat u h10]; omega), dig_nat u h10]
      congr 1; omega
    · rw [dd_rec h10, pu_append, ih (u / 10) (by omega) (by omega)]
      simp only [parseUint10]
      have hd := dig_nat (u % 10) (by omega)
      rw [if_pos (by rw [hd]; omega), if_neg (by omega), if_neg (by rw [hd]; omega), hd]
      congr 1; omega
theorem dec_head (u : Nat) : ∃ c r, decDigits u = c :: r ∧ 48 ≤ c.toNat ∧ c.toNat ≤ 57 := by
  induction u using Nat.strongRecOn with
  | ind u ih =>
    by_cases h10 : u < 10
    · exact ⟨_, [], decDigits_one h10, by rw [dig_nat u h10]; omega, by rw [dig_nat u h10]; omega⟩
    · obtain ⟨c, r, e, h1, h2⟩ := ih (u / 10) (by omega)
      exact ⟨c, r ++ [UInt8.ofNat (48 + u % 10)], by rw [dd_rec h10, e]; rfl, h1, h2⟩
theorem atoi_itoa (n : Int) (h1 : -9223372036854775808 ≤ n) (h2 : n ≤ 9223372036854775807) : atoiAll (itoa n) = .ok n := by
  unfold itoa
  split
  · rename_i h
    obtain ⟨c, r, e, _, _⟩ := dec_head n.natAbs
    have hp : parseMag (decDigits n.natAbs) = .ok n.natAbs := by
      unfold parseMag
      rw [if_neg (by rw [e]; simp), pu_dec _ (by omega)]
    unfold atoiAll
    simp only
    rw [if_pos (by right; decide), hp]
    simp only
    rw [if_neg (fun e => e.1 (by decide)), if_neg (by omega), if_pos (by decide)]
    congr 1; omega
  · rename_i h
    obtain ⟨c, r, e, h3, h4⟩ := dec_head n.toNat
    have hp : parseMag (decDigits n.toNat) = .ok n.toNat := by
      unfold parseMag
      rw [if_neg (by rw [e]; simp), pu_dec _ (by omega)]
    rw [e] at hp ⊢
    unfold atoiAll
    simp only
    rw [if_neg (by omega), hp]
    simp only
    rw [if_neg (by omega), if_neg (by omega), if_neg (by omega)]
    congr 1; omega
theorem itoa_inj {n m : Int} (h1 : -9223372036854775808 ≤ n) (h2 : n ≤ 9223372036854775807) (h3 : -9223372036854775808 ≤ m) (h4 : m ≤ 9223372036854775807) (h : itoa n = itoa m) : n = m := by
  have e1 := atoi_itoa n h1 h2
  have e2 := atoi_itoa m h3 h4
  rw [h, e2] at e1
  injection e1 with e1
  exact e1.symm
theorem itoa_head (n : Int) : ∃ c r, itoa n = c :: r ∧ (c.toNat = 45 ∨ 48 ≤ c.toNat ∧ c.toNat ≤ 57) := by
  unfold itoa
  split
  · exact ⟨45, _, rfl, Or.inl (by decide)⟩
  · obtain ⟨c, r, e, h1, h2⟩ := dec_head n.toNat
    exact ⟨c, r, e, Or.inr ⟨h1, h2⟩⟩
def acc (l : List UInt8) : Int := l.foldl (fun n c => 10 * n - ((c.toNat : Int) - 48)) 0
end Go.Proofs.YtmaekkhmiafnmaaGreatDoor
