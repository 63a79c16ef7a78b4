import Derived.Test.YtmaekkhmiafnmaaGreatDoorVLrq
import Derived.Test.YtmaekkhmiafnmaaGreatDoorVN
import Derived.Laws.RangeAny
import Derived.WalkKit
import Derived.Deep.QuietTactic
import Derived.BigQuiet
set_option maxHeartbeats 2000000
set_option maxRecDepth 100000
namespace Go.Proofs.YtmaekkhmiafnmaaGreatDoor
open Go.RowKit Go Go.Lib
def prB (v : Val) : ByteArray := if wrg v ≠ 0 then ⟨#[63]⟩ else if v.k = 0 then ⟨#[110, 117, 108, 108]⟩ else if v.k = 1 then ⟨(itoa v.n).toArray⟩ else if v.k = 3 then (if v.n = 1 then ⟨#[116, 114, 117, 101]⟩ else ⟨#[102, 97, 108, 115, 101]⟩) else ⟨(qtd v.s).toArray⟩
theorem empty_eq {s : ByteArray} (h : s.size = 0) : s = ⟨#[]⟩ := by
  apply ByteArray.ext
  exact Array.eq_empty_of_size_eq_zero h
theorem frm_of {v : Val} (h : wrg v = 0) : frm v ∧ v.s.size ≤ 200 := by
  unfold wrg at h
  split at h
  · split at h
    · exact ⟨by assumption, by assumption⟩
    · omega
  · omega
theorem print_by (v : Val) (w : World) (q : ByteArray) (hq : q = prB v) (hl : wrg v = 0 → ∀ W, Tch (fun _ => False) w W → Calls Tryz.prog 55 #[vA v.k v.n v.s] W fun x w' => x = .returned (.string q) ∧ Tch (fun _ => False) W w') :
    Calls Tryz.prog 23 #[vA v.k v.n v.s] w fun x w' => x = .returned (.string q) ∧ Tch (fun _ => False) w w' := by
  obtain ⟨k, n, s⟩ := v
  have Hl : Hid _ := hl
  have Hq : Hid _ := hq
  clear hl hq
  obtain ⟨e, he⟩ : ∃ e, e = wrg ⟨k, n, s⟩ := ⟨_, rfl⟩
  have q1 := fun W => wrong_any k n s W
  rw [← he] at q1
  have HQ1 : Hid _ := q1
  have He : Hid (e = wrg ⟨k, n, s⟩) := he
  clear q1 he
  by_cases h0 : e = 0
  · subst h0
    go_enter Tryz.func23, Tryz.ntmps23
    go_wp2_with fail
    refine (HQ1.out _).mono ?_
    rintro x w1 ⟨rfl, t1⟩
    obtain ⟨c0, c1, c2⟩ := box_tch t1
    have T1 : Tch (fun _ => False) w w1 := (Tch.alloc _ _ _).trans' t1
    have q2 := Hl.out He.out.symm w1 T1
    have HT1 : Hid _ := T1
    clear t1 T1
    go_wp2_with fail
    refine q2.mono ?_
    rintro x w2 ⟨rfl, t2⟩
    clear q2
    go_wp2_with fail
    go_ret
    exact ⟨rfl, HT1.out.trans' t2⟩
  · have h0b : (e == 0) = false := beq_eq_false_iff_ne.2 h0
    have HR : Hid (q = ⟨#[63]⟩) := by
      show _ = _
      rw [Hq.out]; unfold prB; rw [if_pos (by rw [← He.out]; exact h0)]
    go_enter Tryz.func23, Tryz.ntmps23
    go_wp2_with fail
    refine (HQ1.out _).mono ?_
    rintro x w1 ⟨rfl, t1⟩
    have T1 : Tch (fun _ => False) w w1 := (Tch.alloc _ _ _).trans' t1
    have HT1 : Hid _ := T1
    clear t1 T1
    go_wp2_with fail
    go_ret
    exact ⟨by rw [HR.out]; rfl, HT1.out⟩
theorem print_any (v : Val) (hi : i64v v.n) (w : World) (hw : HWd w) (hv : HV w) :
    Calls Tryz.prog 23 #[vA v.k v.n v.s] w fun x w' => x = .returned (.string (prB v)) ∧ Tch (fun _ => False) w w' := by
  refine print_by v w _ rfl (fun h0 W t => ?_)
  obtain ⟨hf, h200⟩ := frm_of h0
  have hpr : prB v = if v.k = 0 then ⟨#[110, 117, 108, 108]⟩ else if v.k = 1 then ⟨(itoa v.n).toArray⟩ else if v.k = 3 then (if v.n = 1 then ⟨#[116, 114, 117, 101]⟩ else ⟨#[102, 97, 108, 115, 101]⟩) else ⟨(qtd v.s).toArray⟩ := by unfold prB; rw [if_neg (fun h => h h0)]
  rw [hpr]
  obtain ⟨k, n, s⟩ := v
  simp only at hf h200 hi ⊢
  rcases hf with ⟨e1, e2, e3⟩ | ⟨e1, e2⟩ | ⟨e1, e2⟩ | ⟨e1, e2, e3⟩
  · simp only at e1 e2 e3
    obtain rfl := empty_eq e3
    subst e1 e2
    exact literal_null W (hw.no t)
  · simp only at e1 e2
    obtain rfl := empty_eq e2
    subst e1
    exact literal_int n hi W (hw.no t) (hv.no t)
  · simp only at e1 e2
    subst e1 e2
    exact literal_text s W (hw.no t) _ (fun W' => quoted_any s W' (by omega))
  · simp only at e1 e2 e3
    obtain rfl := empty_eq e2
    subst e1
    rcases e3 with rfl | rfl
    · exact literal_false W (hw.no t)
    · exact literal_true W (hw.no t)
end Go.Proofs.YtmaekkhmiafnmaaGreatDoor
namespace Go.Proofs.YtmaekkhmiafnmaaGreatDoor
open Go.Lib
theorem val_ext3 {a b : Val} (h1 : a.k = b.k) (h2 : a.n = b.n) (h3 : a.s = b.s) : a = b := by
  cases a; cases b; simp only at h1 h2 h3; subst h1 h2 h3; rfl
instance : DecidableEq Val := fun a b => decidable_of_iff (a.k = b.k ∧ a.n = b.n ∧ a.s = b.s) ⟨fun ⟨h1, h2, h3⟩ => val_ext3 h1 h2 h3, fun h => by rw [h]; exact ⟨rfl, rfl, rfl⟩⟩
def wiP (k : Nat) (x : Nat × ByteArray) : ByteArray := if x.1 < k then ⟨#[40]⟩ ++ x.2 ++ ⟨#[41]⟩ else x.2
def prLs : Bool → List (Nat × ByteArray) → ByteArray
  | _, [] => ⟨#[]⟩
  | first, x :: l => (if first = true then x.2 else ⟨#[44, 32]⟩ ++ x.2) ++ prLs false l
def prCh : List (Nat × ByteArray) → ByteArray
  | a :: b :: l => ⟨#[32, 119, 104, 101, 110, 32]⟩ ++ a.2 ++ ⟨#[32, 116, 104, 101, 110, 32]⟩ ++ b.2 ++ prCh l
  | [a] => ⟨#[32, 101, 108, 115, 101, 32]⟩ ++ a.2
  | [] => ⟨#[]⟩
abbrev noP : Nat × ByteArray := (0, ⟨#[]⟩)
def wdT (o : Nat) (no : Bool) : ByteArray := if no = false then wd o else if o = 11 then wd o ++ ⟨#[32, 110, 111, 116]⟩ else ⟨#[110, 111, 116, 32]⟩ ++ wd o
def prC (o : Nat) (no : Bool) (v : Val) (nm : ByteArray) (l : List (Nat × ByteArray)) : ByteArray :=
  if o = 0 then prB v else if o = 1 then nm
  else if o = 4 then ⟨#[110, 111, 116, 32]⟩ ++ wiP 3 (l.getD 0 noP)
  else if o = 21 then ⟨#[45, 40]⟩ ++ (l.getD 0 noP).2 ++ ⟨#[41]⟩
  else if o = 22 then ⟨#[99, 97, 115, 101]⟩ ++ prCh l ++ ⟨#[32, 101, 110, 100]⟩
  else if lvl o = 9 then wd o ++ ⟨#[40]⟩ ++ prLs true l ++ ⟨#[41]⟩
  else if lvl o = 4 then
    (if o = 11 then wiP 5 (l.getD 0 noP) ++ (⟨#[32]⟩ ++ wdT o no ++ ⟨#[32]⟩) ++ ⟨#[110, 117, 108, 108]⟩
     else if o = 12 then wiP 5 (l.getD 0 noP) ++ (⟨#[32]⟩ ++ wdT o no ++ ⟨#[32]⟩) ++ ⟨#[40]⟩ ++ prLs true (l.drop 1) ++ ⟨#[41]⟩
     else if o = 13 then wiP 5 (l.getD 0 noP) ++ (⟨#[32]⟩ ++ wdT o no ++ ⟨#[32]⟩) ++ wiP 5 (l.getD 1 noP) ++ ⟨#[32, 97, 110, 100, 32]⟩ ++ wiP 5 (l.getD 2 noP)
     else wiP 5 (l.getD 0 noP) ++ (⟨#[32]⟩ ++ wdT o no ++ ⟨#[32]⟩) ++ wiP 5 (l.getD 1 noP))
  else wiP (lvl o) (l.getD 0 noP) ++ ⟨#[32]⟩ ++ wd o ++ ⟨#[32]⟩ ++ wiP (lvl o + 1) (l.getD 1 noP)
def prt : Ex → ByteArray
  | .mk o no v nm l => prC o no v nm (prtL l)
where prtL : List Ex → List (Nat × ByteArray)
  | [] => []
  | e :: l => (lvl e.op, prt e) :: prtL l
def tr (b : Bool) : Val := ⟨3, if b = true then 1 else 0, ⟨#[]⟩⟩
def inV (n : Int) : Val := ⟨1, n, ⟨#[]⟩⟩
def txV (s : ByteArray) : Val := ⟨2, 0, s⟩
def ngV (v : Val) : Val := if v = zV then v else tr (decide (v = tr false))
def bothV (a b : Val) : Val := if a = tr false ∨ b = tr true then a else b
def ordV (a b : Val) : Val := if a = zV ∨ b = zV then zV else tr (decide (cmpV a b ≤ 0))
def cmps (o : Nat) (c : Int) : Bool :=
  if o = 5 then decide (c = 0) else if o = 6 then decide (c ≠ 0) else if o = 7 then decide (c < 0) else if o = 8 then decide (c ≤ 0) else if o = 9 then decide (0 < c) else decide (0 ≤ c)
def fitI (n : Int) : Val × Int := if -9223372036854775808 ≤ n ∧ n ≤ 9223372036854775807 then (inV n, 0) else (zV, 114)
def arV (o : Nat) (a b : Int) : Val × Int :=
  if o = 16 then fitI (a + b) else if o = 17 then fitI (a - b) else if o = 18 then fitI (a * b)
  else if b = 0 then (zV, 115) else if o = 19 then fitI (a.tdiv b) else fitI (a.tmod b)
def joiV (a b : ByteArray) : Val × Int := if 200 < a.size + b.size then (zV, 114) else (txV (a ++ b), 0)
def cutV (s : ByteArray) (a n : Int) : Val × Int := if a < 1 ∨ n < 0 then (zV, 114) else (txV ⟨((s.data.toList.drop (a - 1).toNat).take n.toNat).toArray⟩, 0)
def rszB (c d : Nat) (b : UInt8) : UInt8 := if c ≤ b.toNat ∧ b.toNat < c + 26 then UInt8.ofNat (b.toNat - c + d) else b
def rszV (s : ByteArray) (c d : Nat) : Val := txV ⟨(s.data.toList.map (rszB c d)).toArray⟩
def lkM : List UInt8 → List UInt8 → Bool
  | s, [] => s.isEmpty
  | s, c :: p =>
    if c.toNat = 37 then lkA s p
    else match s with
      | [] => false
      | b :: s => (decide (c.toNat = 95) || decide (c = b)) && lkM s p
termination_by s p => (p.length, 0, s.length)
where lkA : List UInt8 → List UInt8 → Bool
  | [], p => lkM [] p
  | b :: s, p => lkM (b :: s) p || lkA s p
termination_by s p => (p.length, 1, s.length)
def allV : List (Val × Int) → List Val × Int
  | [] => ([], 0)
  | (v, e) :: l => if e ≠ 0 then ([], e) else (v :: (allV l).1, (allV l).2)
def stlV (b : Bool) : Val → List (Val × Int) → Val × Int
  | ans, [] => (ans, 0)
  | ans, (v, e) :: l => if e ≠ 0 ∨ v = tr b then (v, e) else stlV b (if v = zV then v else ans) l
def fndV (w : Val) : Val → List (Val × Int) → Val × Int
  | ans, [] => (ans, 0)
  | ans, (v, e) :: l => if e ≠ 0 then (v, e) else if v = w then (tr true, 0) else fndV w (if v = zV then v else ans) l
def chsV : List (Val × Int) → Val × Int
  | (c, e) :: x :: l => if e ≠ 0 then (c, e) else if c = tr true then x else chsV l
  | [x] => x
  | [] => (zV, 0)
def knwV : List (Val × Int) → Val × Int
  | [] => (zV, 0)
  | (v, e) :: l => if e ≠ 0 ∨ v ≠ zV then (v, e) else knwV l
def maxV : Val → List Val → Val
  | m, [] => m
  | m, x :: l => maxV (if 0 < cmpV x m then x else m) l
def minV : Val → List Val → Val
  | m, [] => m
  | m, x :: l => minV (if cmpV x m < 0 then x else m) l
def hk (o : Nat) (l : List Val) : Val × Int :=
  if o = 4 then (ngV (l.getD 0 zV), 0)
  else if 5 ≤ o ∧ o ≤ 10 then (tr (cmps o (cmpV (l.getD 0 zV) (l.getD 1 zV))), 0)
  else if o = 30 then (maxV (l.getD 0 zV) (l.drop 1), 0)
  else if o = 31 then (minV (l.getD 0 zV) (l.drop 1), 0)
  else if o = 21 then arV 17 0 (l.getD 0 zV).n
  else if o = 24 then (if (l.getD 0 zV).n < 0 then arV 17 0 (l.getD 0 zV).n else (inV (l.getD 0 zV).n, 0))
  else if 16 ≤ o ∧ o ≤ 20 then arV o (l.getD 0 zV).n (l.getD 1 zV).n
  else if o = 15 then joiV (l.getD 0 zV).s (l.getD 1 zV).s
  else if o = 14 then (tr (lkM (l.getD 0 zV).s.data.toList (l.getD 1 zV).s.data.toList), 0)
  else if o = 23 then (inV (l.getD 0 zV).s.size, 0)
  else if o = 25 then (rszV (l.getD 0 zV).s 97 65, 0)
  else if o = 26 then (rszV (l.getD 0 zV).s 65 97, 0)
  else cutV (l.getD 0 zV).s (l.getD 1 zV).n (l.getD 2 zV).n
def hldV (o : Nat) (l : List Val) : Val × Int :=
  if o = 11 then (tr (decide (l.getD 0 zV = zV)), 0)
  else if o = 13 then (bothV (ordV (l.getD 1 zV) (l.getD 0 zV)) (ordV (l.getD 0 zV) (l.getD 2 zV)), 0)
  else if o = 27 then (if l.getD 0 zV = l.getD 1 zV then zV else l.getD 0 zV, 0)
  else if l.any (fun x => decide (x = zV)) = true then (zV, 0)
  else hk o l
def wkC (ρ : ByteArray → Val) (o : Nat) (v : Val) (nm : ByteArray) (l : List (Val × Int)) : Val × Int :=
  if o = 0 then (v, 0) else if o = 1 then (ρ nm, 0)
  else if o = 3 then stlV false (tr true) l
  else if o = 2 then stlV true (tr false) l
  else if o = 12 then (if (l.getD 0 (zV, 0)).2 ≠ 0 ∨ (l.getD 0 (zV, 0)).1 = zV then l.getD 0 (zV, 0) else fndV (l.getD 0 (zV, 0)).1 (tr false) (l.drop 1))
  else if o = 22 then chsV l
  else if o = 29 then knwV l
  else if (allV l).2 ≠ 0 then (zV, (allV l).2) else hldV o (allV l).1
def wrk (ρ : ByteArray → Val) : Ex → Val × Int
  | .mk o no v nm l => (if no = true then ngV (wkC ρ o v nm (wrkL l)).1 else (wkC ρ o v nm (wrkL l)).1, (wkC ρ o v nm (wrkL l)).2)
where wrkL : List Ex → List (Val × Int)
  | [] => []
  | e :: l => wrk ρ e :: wrkL l
def rho (cs : List (ByteArray × Int)) (r : List Val) (nm : ByteArray) : Val := match plc cs nm with
  | some i => r.getD i zV
  | none => zV
def sutE (cs : List (ByteArray × Int)) (r : List Val) (l : List ByteArray) : Bool := l.all fun nm => match plc cs nm with
  | some i => decide (fitE (r.getD i zV) ((cs.getD i (⟨#[]⟩, 0)).2) true = 0)
  | none => true
def evE (cs : List (ByteArray × Int)) (r : List Val) (e : Ex) : Val × Int :=
  if (chk cs e).2 ≠ 0 then (zV, (chk cs e).2)
  else if r.length ≠ cs.length then (zV, 1)
  else if sutE cs r (nms e) = true then wrk (rho cs r) e else (zV, 113)
end Go.Proofs.YtmaekkhmiafnmaaGreatDoor
namespace Go.Proofs.YtmaekkhmiafnmaaGreatDoor
open Go.RowKit Go
theorem isDigit_any (r : Int) (w : World) :
    Calls Tryz.prog 114 #[.int .i32 r] w fun x w' => x = .returned (.bool (decide (48 ≤ r) && decide (r ≤ 57))) ∧ w' = w := by
  go_enter Tryz.func114, Tryz.ntmps114
  by_cases h1 : 48 ≤ r
  · go_wp2
    go_ret
    exact ⟨vret_bool (by simp [h1]), rfl⟩
  · go_wp2
    go_ret
    exact ⟨vret_bool (by simp; omega), rfl⟩
theorem isLetter_any (r : Int) (w : World) :
    Calls Tryz.prog 116 #[.int .i32 r] w fun x w' => x = .returned (.bool (decide (97 ≤ r) && decide (r ≤ 122))) ∧ w' = w := by
  go_enter Tryz.func116, Tryz.ntmps116
  by_cases h1 : 97 ≤ r
  · go_wp2
    go_ret
    exact ⟨vret_bool (by simp [h1]), rfl⟩
  · go_wp2
    go_ret
    exact ⟨vret_bool (by simp; omega), rfl⟩
theorem only_any (k : Nat) (b : Bool) (w : World) :
    Calls Tryz.prog 118 #[.int .i64 k, .bool b] w fun x w' => x = .returned (.int .i64 ((if b = true then k else 3 : Nat) : Int)) ∧ w' = w := by
  cases b
  · go_enter Tryz.func118, Tryz.ntmps118
    go_wp2
    go_ret
    exact ⟨rfl, rfl⟩
  · go_enter Tryz.func118, Tryz.ntmps118
    go_wp2
    go_ret
    exact ⟨rfl, rfl⟩
end Go.Proofs.YtmaekkhmiafnmaaGreatDoor
namespace Go.Proofs.YtmaekkhmiafnmaaGreatDoor
open Go.RowKit Go
theorem next_at {P : Program} (W : World) (N : Nat) (s : ByteArray) (pos : Nat) (ty : TypeId) (hN : W.heap[N]? = some (.stringIter s pos)) (h : pos < s.size) :
    (Instr.next (.pointer (some ⟨N, 0, none⟩)) true ty).run P W = .ok (.tuple #[.bool true, .int .i64 pos, .int .i32 (Utf8.decode s pos).1]) { W with heap := W.heap.setIfInBounds N (.stringIter s (pos + (Utf8.decode s pos).2)) } := by
  simp only [Instr.next, getObj, setObj, Sem.run_bind, Sem.run, hN, Result.andThen, h, if_true]
  simp [goInt]
theorem next_at_end {P : Program} (W : World) (N : Nat) (s : ByteArray) (pos : Nat) (ty : TypeId) (hN : W.heap[N]? = some (.stringIter s pos)) (h : ¬ pos < s.size) :
    (Instr.next (.pointer (some ⟨N, 0, none⟩)) true ty).run P W = .ok (.tuple #[.bool false]) W := by
  simp [Instr.next, getObj, Sem.run, hN, h]
theorem dec_cases (s : ByteArray) (pos : Nat) (h : pos < s.size) :
    (((s[pos]'h).toNat < 128 ∧ Utf8.decode s pos = ((s[pos]'h).toNat, 1)) ∨ (128 ≤ (s[pos]'h).toNat ∧ 128 ≤ (Utf8.decode s pos).1 ∧ 1 ≤ (Utf8.decode s pos).2)) := by
  by_cases ha : (s[pos]'h).toNat < 128
  · exact Or.inl ⟨ha, decode_ascii s pos h ha⟩
  · exact Or.inr ⟨by omega, decode_high s pos h (by omega)⟩
theorem drop_c (s : ByteArray) (k : Nat) (h : k < s.size) : s.data.toList.drop k = s[k] :: s.data.toList.drop (k + 1) := by
  rw [List.drop_eq_getElem_cons (by simpa using h)]; rfl
theorem runL_at (f : UInt8 → Bool) (s : ByteArray) (k : Nat) (h : k < s.size) : runL f (s.data.toList.drop k) = if f s[k] = true then runL f (s.data.toList.drop (k + 1)) + 1 else 0 := by
  rw [drop_c s k h]; rfl
theorem runL_end (f : UInt8 → Bool) (s : ByteArray) (k : Nat) (h : s.size ≤ k) : runL f (s.data.toList.drop k) = 0 := by
  rw [List.drop_eq_nil_of_le (by simpa using h)]; rfl
theorem high_no (c : UInt8) (h : 128 ≤ c.toNat) : isDig c = false ∧ isLet c = false ∧ isOfW c = false := by
  unfold isOfW isLet isDig
  refine ⟨?_, ?_, ?_⟩ <;> simp <;> omega
theorem isOfWord_any (r : Int) (w : World) :
    Calls Tryz.prog 117 #[.int .i32 r] w fun x w' => x = .returned (.bool (((decide (97 ≤ r) && decide (r ≤ 122)) || (decide (48 ≤ r) && decide (r ≤ 57))) || decide (r = 95))) ∧ w' = w := by
  go_enter Tryz.func117, Tryz.ntmps117
  by_cases h1 : 97 ≤ r
  · by_cases h2 : r ≤ 122
    · go_wp2
      go_ret
      exact ⟨vret_bool (by first | (rw [Bool.eq_iff_iff]; simp; omega) | (rw [Bool.eq_iff_iff]; simp [h1]; omega) | simp [h1, h2] | (simp; omega) | (simp; done)), rfl⟩
    · have h3 : 48 ≤ r := by omega
      have h4 : ¬ r ≤ 57 := by omega
      go_wp2
      go_ret
      exact ⟨vret_bool (by first | (rw [Bool.eq_iff_iff]; simp; omega) | (rw [Bool.eq_iff_iff]; simp [h1]; omega) | simp [h1, h2] | (simp; omega) | (simp; done)), rfl⟩
  · by_cases h3 : 48 ≤ r
    · by_cases h4 : r ≤ 57
      · go_wp2
        go_ret
        exact ⟨vret_bool (by first | (rw [Bool.eq_iff_iff]; simp; omega) | (rw [Bool.eq_iff_iff]; simp [h1]; omega) | simp [h1, h2] | (simp; omega) | (simp; done)), rfl⟩
      · go_wp2
        go_ret
        exact ⟨vret_bool (by first | (rw [Bool.eq_iff_iff]; simp; omega) | (rw [Bool.eq_iff_iff]; simp [h1]; omega) | simp [h1, h2] | (simp; omega) | (simp; done)), rfl⟩
    · go_wp2
      go_ret
      exact ⟨vret_bool (by first | (rw [Bool.eq_iff_iff]; simp; omega) | (rw [Bool.eq_iff_iff]; simp [h1]; omega) | simp [h1, h2] | (simp; omega) | (simp; done)), rfl⟩
theorem dig_at (s : ByteArray) (pos : Nat) (hp : pos < s.size) :
    ∃ g : Bool, (∀ W, Calls Tryz.prog 114 #[.int .i32 (Utf8.decode s pos).1] W fun x w' => x = .returned (.bool g) ∧ w' = W) ∧ (g = true → (Utf8.decode s pos).2 = 1 ∧ isDig s[pos] = true) ∧ (g = false → isDig s[pos] = false) := by
  refine ⟨_, fun W => isDigit_any _ W, ?_⟩
  rcases dec_cases s pos hp with ⟨h1, h2⟩ | ⟨h1, h2, h3⟩
  · rw [h2]
    have e : (decide ((48 : Int) ≤ (s[pos].toNat : Nat)) && decide (((s[pos].toNat : Nat) : Int) ≤ 57)) = isDig s[pos] := by
      unfold isDig; rw [Bool.eq_iff_iff]; simp; omega
    rw [e]
    exact ⟨fun h => ⟨rfl, h⟩, fun h => h⟩
  · have e : (decide ((48 : Int) ≤ ((Utf8.decode s pos).1 : Nat)) && decide ((((Utf8.decode s pos).1 : Nat) : Int) ≤ 57)) = false := by
      simp; omega
    rw [e]
    exact ⟨fun h => absurd h (by decide), fun _ => (high_no _ h1).1⟩
theorem ofw_at (s : ByteArray) (pos : Nat) (hp : pos < s.size) :
    ∃ g : Bool, (∀ W, Calls Tryz.prog 117 #[.int .i32 (Utf8.decode s pos).1] W fun x w' => x = .returned (.bool g) ∧ w' = W) ∧ (g = true → (Utf8.decode s pos).2 = 1 ∧ isOfW s[pos] = true) ∧ (g = false → isOfW s[pos] = false) := by
  refine ⟨_, fun W => isOfWord_any _ W, ?_⟩
  rcases dec_cases s pos hp with ⟨h1, h2⟩ | ⟨h1, h2, h3⟩
  · rw [h2]
    have e : (((decide ((97 : Int) ≤ (s[pos].toNat : Nat)) && decide (((s[pos].toNat : Nat) : Int) ≤ 122)) || (decide ((48 : Int) ≤ (s[pos].toNat : Nat)) && decide (((s[pos].toNat : Nat) : Int) ≤ 57))) || decide (((s[pos].toNat : Nat) : Int) = 95)) = isOfW s[pos] := by
      unfold isOfW isLet isDig; rw [Bool.eq_iff_iff]; simp; omega
    rw [e]
    exact ⟨fun h => ⟨rfl, h⟩, fun h => h⟩
  · have e : (((decide ((97 : Int) ≤ ((Utf8.decode s pos).1 : Nat)) && decide ((((Utf8.decode s pos).1 : Nat) : Int) ≤ 122)) || (decide ((48 : Int) ≤ ((Utf8.decode s pos).1 : Nat)) && decide ((((Utf8.decode s pos).1 : Nat) : Int) ≤ 57))) || decide ((((Utf8.decode s pos).1 : Nat) : Int) = 95)) = false := by
      simp; omega
    rw [e]
    exact ⟨fun h => absurd h (by decide), fun _ => (high_no _ h1).2.2⟩
theorem run_dig (s : ByteArray) (w : World) :
    Calls Tryz.prog 115 #[.string s, .func (.func 114) #[] #[]] w fun x w' => x = .returned (.int .i64 (runL isDig s.data.toList : Nat)) ∧ Tch (fun _ => False) w w' := by
  go_enter Tryz.func115, Tryz.ntmps115
  go_wp2
  go_loopw [] (fun wr => ∃ pos, wr = w.iter s pos ∧ pos ≤ s.size ∧ Hid (runL isDig s.data.toList = pos + runL isDig (s.data.toList.drop pos))) (fun wr => s.size - wr.iterPos w.heap.size)
  case atStart => exact ⟨0, rfl, Nat.zero_le _, by simp [Hid]⟩
  case round =>
    obtain ⟨pos, rfl, hle, HR⟩ := hrel
    by_cases hp : pos < s.size
    · have hnx : ∀ ty, (Instr.next (.pointer (some ⟨w.heap.size, 0, none⟩)) true ty).run Tryz.prog (w.iter s pos) = _ := fun ty => run_next_any w s pos ty hp
      obtain ⟨g, q, hg⟩ := dig_at s pos hp
      have Hg : Hid _ := hg
      clear hg
      cases g with
      | true =>
        go_wp2_with (go_at_call 114; refine (q _).mono ?_; rintro y w1 ⟨rfl, rfl⟩)
        go_roundw
        case rel =>
          obtain ⟨hd, hf⟩ := Hg.out.1 (by trivial)
          refine ⟨pos + 1, by rw [hd], by omega, ?_⟩
          have := HR.out
          rw [runL_at isDig s pos hp, if_pos hf] at this
          show _ = _
          omega
        case measure =>
          obtain ⟨hd, hf⟩ := Hg.out.1 (by trivial)
          rw [hd]
          simp
          omega
      | false =>
        go_wp2_with (go_at_call 114; refine (q _).mono ?_; rintro y w1 ⟨rfl, rfl⟩)
        go_ret
        have hf := Hg.out.2 (by trivial)
        have := HR.out
        rw [runL_at isDig s pos hp, if_neg (by rw [hf]; decide)] at this
        refine ⟨?_, Tch.alloc _ _ _⟩
        rw [this]
        rfl
    · have hnx : ∀ ty, (Instr.next (.pointer (some ⟨w.heap.size, 0, none⟩)) true ty).run Tryz.prog (w.iter s pos) = _ := fun ty => run_next_end w s pos ty hp
      go_wp2
      go_ret
      have := HR.out
      rw [runL_end isDig s pos (by omega)] at this
      refine ⟨?_, Tch.alloc _ _ _⟩
      rw [this]
      have e : pos = s.size := by omega
      rw [e]; rfl
theorem run_ofw (s : ByteArray) (w : World) :
    Calls Tryz.prog 115 #[.string s, .func (.func 117) #[] #[]] w fun x w' => x = .returned (.int .i64 (runL isOfW s.data.toList : Nat)) ∧ Tch (fun _ => False) w w' := by
  go_enter Tryz.func115, Tryz.ntmps115
  go_wp2
  go_loopw [] (fun wr => ∃ pos, wr = w.iter s pos ∧ pos ≤ s.size ∧ Hid (runL isOfW s.data.toList = pos + runL isOfW (s.data.toList.drop pos))) (fun wr => s.size - wr.iterPos w.heap.size)
  case atStart => exact ⟨0, rfl, Nat.zero_le _, by simp [Hid]⟩
  case round =>
    obtain ⟨pos, rfl, hle, HR⟩ := hrel
    by_cases hp : pos < s.size
    · have hnx : ∀ ty, (Instr.next (.pointer (some ⟨w.heap.size, 0, none⟩)) true ty).run Tryz.prog (w.iter s pos) = _ := fun ty => run_next_any w s pos ty hp
      obtain ⟨g, q, hg⟩ := ofw_at s pos hp
      have Hg : Hid _ := hg
      clear hg
      cases g with
      | true =>
        go_wp2_with (go_at_call 117; refine (q _).mono ?_; rintro y w1 ⟨rfl, rfl⟩)
        go_roundw
        case rel =>
          obtain ⟨hd, hf⟩ := Hg.out.1 (by trivial)
          refine ⟨pos + 1, by rw [hd], by omega, ?_⟩
          have := HR.out
          rw [runL_at isOfW s pos hp, if_pos hf] at this
          show _ = _
          omega
        case measure =>
          obtain ⟨hd, hf⟩ := Hg.out.1 (by trivial)
          rw [hd]
          simp
          omega
      | false =>
        go_wp2_with (go_at_call 117; refine (q _).mono ?_; rintro y w1 ⟨rfl, rfl⟩)
        go_ret
        have hf := Hg.out.2 (by trivial)
        have := HR.out
        rw [runL_at isOfW s pos hp, if_neg (by rw [hf]; decide)] at this
        refine ⟨?_, Tch.alloc _ _ _⟩
        rw [this]
        rfl
    · have hnx : ∀ ty, (Instr.next (.pointer (some ⟨w.heap.size, 0, none⟩)) true ty).run Tryz.prog (w.iter s pos) = _ := fun ty => run_next_end w s pos ty hp
      go_wp2
      go_ret
      have := HR.out
      rw [runL_end isOfW s pos (by omega)] at this
      refine ⟨?_, Tch.alloc _ _ _⟩
      rw [this]
      have e : pos = s.size := by omega
      rw [e]; rfl
end Go.Proofs.YtmaekkhmiafnmaaGreatDoor
