import Derived.Test.YteaagnlhkopgdaaGreatDoorCCopy
import Derived.Test.YteaagnlhkopgdaaGreatDoorCRight2
import Derived.Deep.RegionHeld3
import Derived.Test.YteaagnlhkopgdaaGreatDoorCName
namespace Go.Proofs.YteaagnlhkopgdaaGreatDoor.C
open Go.RowKit Go
def EqOut (xs ys : List Val) (w : World) (x : Ending) (w' : World) : Prop := ∃ b : Bool, x = .returned (.bool b) ∧ (b = true ↔ xs = ys) ∧ ∃ m, w' = w.drewN m
theorem blk_at {w : World} {g : Nat} {cs : List Value} {t : TypeId} {fr : Nat × Nat} (h : w.heap[g]? = some (.cells cs.toArray t fr)) : At w g 0 cs := fun j u hu => by
  rw [Nat.zero_add, blk_cell h]; simpa using hu
end Go.Proofs.YteaagnlhkopgdaaGreatDoor.C
namespace Go.Proofs.YteaagnlhkopgdaaGreatDoor.C
open Go.RowKit Go
theorem set3_cells {W : World} {g c q : Nat} {t : TypeId} {cur : Array Value} (hh : W.heap[g]? = some (.cells cur t (0, 0))) (hs : cur.size = c * 3) (hq : q < c) (v0 v1 : Value) :
    (∃ y, W.cell? ⟨g, q * 3, none⟩ = some y) ∧ (∃ y, (W.setCell ⟨g, q * 3, none⟩ v0).cell? ⟨g, q * 3 + 1, none⟩ = some y) ∧ (∃ y, ((W.setCell ⟨g, q * 3, none⟩ v0).setCell ⟨g, q * 3 + 1, none⟩ v1).cell? ⟨g, q * 3 + 2, none⟩ = some y) ∧ ∀ j, W.frozen? ⟨g, j, none⟩ = false := by
  refine ⟨⟨cur[q * 3]'(by omega), by rw [blk_cell hh]; exact Array.getElem?_eq_getElem _⟩, ⟨cur[q * 3 + 1]'(by omega), ?_⟩, ⟨cur[q * 3 + 2]'(by omega), ?_⟩, fun j => blk_frozen hh j⟩
  · rw [World.cell?_setCell_other (h := by intro e; injection e; omega), blk_cell hh]; exact Array.getElem?_eq_getElem _
  · rw [World.cell?_setCell_other (h := by intro e; injection e; omega), World.cell?_setCell_other (h := by intro e; injection e; omega), blk_cell hh]; exact Array.getElem?_eq_getElem _
end Go.Proofs.YteaagnlhkopgdaaGreatDoor.C
namespace Go.Proofs.YteaagnlhkopgdaaGreatDoor.C
open Go.RowKit Go
theorem right_len {t : Tbl} (h : rightE t = 0) : 1 ≤ t.cols.length ∧ t.cols.length ≤ 8 := by
  unfold rightE at h
  split at h
  · simp at h
  · split at h
    · simp at h
    · split at h
      · rename_i h1; exact absurd h h1
      · rename_i h1
        have h2 : colsE t.cols = 0 := Classical.byContradiction h1
        unfold colsE at h2
        split at h2
        · simp at h2
        · omega
end Go.Proofs.YteaagnlhkopgdaaGreatDoor.C
namespace Go.Proofs.YteaagnlhkopgdaaGreatDoor.C
open Go.Lib
def nb (b : Bool) : Int := if b then 1 else 0
def colL (c : Col) : List UInt8 := textL c.nm ++ bytesL [c.k, nb c.nl]
def colsL (l : List Col) : List UInt8 := l.flatMap colL
def tabL (t : Tbl) : List UInt8 := dg t.id.toNat ++ (dg t.ver.toNat ++ (textL t.nm ++ (bytesL [(t.cols.length : Int)] ++ (colsL t.cols ++ bytesL [t.key]))))
def rowL (vs : List Val) : List UInt8 := textL ⟨(encR vs).1.toArray⟩
def tkCol (S : ByteArray) (p : Nat × Int) : Col × Nat × Int :=
  let r1 := textR 16 S p.1 p.2
  let r2 := byteR S r1.2.1 r1.2.2
  let r3 := byteR S r2.2.1 r2.2.2
  (⟨r1.1, r2.1, decide (r3.1 = 1)⟩, r3.2)
def tkCols (S : ByteArray) : Nat → (Nat × Int) → List Col → List Col × Nat × Int
  | 0, p, l => (l, p)
  | n + 1, p, l => tkCols S n (tkCol S p).2 (l ++ [(tkCol S p).1])
def tkTab (S : ByteArray) (p : Nat × Int) : Tbl × Nat × Int :=
  let r1 := numR 9 127 S p.1 p.2
  let r2 := numR 9 127 S r1.2.1 r1.2.2
  let r3 := textR 16 S r2.2.1 r2.2.2
  let r4 := byteR S r3.2.1 r3.2.2
  let r5 := tkCols S r4.1 r4.2 []
  let r6 := byteR S r5.2.1 r5.2.2
  (⟨r1.1, r2.1, r3.1, r5.1, r6.1⟩, r6.2)
def tkRow (S : ByteArray) (p : Nat × Int) : List Val × Nat × Int :=
  let r1 := textR 1700 S p.1 p.2
  ((decR r1.1).getD [], r1.2)
theorem byte1 {n : Int} (h0 : 0 ≤ n) (h1 : n ≤ 255) : ((UInt8.ofNat n.toNat).toNat : Int) = n := by
  have : (UInt8.ofNat n.toNat).toNat = n.toNat := by
    rw [UInt8.toNat_ofNat']; omega
  rw [this]; omega
theorem nm_size {s : ByteArray} (h : nmOk s = true) : s.size ≤ 16 := ((nmOk_iff s).1 h).1.2
theorem nb_rng (b : Bool) : 0 ≤ nb b ∧ nb b ≤ 255 := by cases b <;> simp [nb]
theorem kd_rng {k : Int} (h : kdOk k = true) : 0 ≤ k ∧ k ≤ 255 := by
  unfold kdOk at h; simp only [Bool.or_eq_true, decide_eq_true_eq] at h; omega
theorem thr_col {S : ByteArray} {a : Nat} {c : Col} {r : List UInt8} (h : Here S a (colL c ++ r)) (h1 : nmOk c.nm = true) (h2 : kdOk c.k = true) : tkCol S (a, 0) = (c, a + (colL c).length, 0) := by
  unfold colL at h ⊢
  rw [List.append_assoc] at h
  have hs := nm_size h1
  have g1 := thr_text (most := 16) h (by omega) (by omega)
  have h' := h.next
  have e : bytesL [c.k, nb c.nl] ++ r = UInt8.ofNat c.k.toNat :: UInt8.ofNat (nb c.nl).toNat :: r := rfl
  rw [e] at h'
  have g2 := thr_byte h'
  have g3 := thr_byte h'.one
  have k1 := byte1 (kd_rng h2).1 (kd_rng h2).2
  have k2 := byte1 (nb_rng c.nl).1 (nb_rng c.nl).2
  unfold tkCol
  simp only [g1, g2, g3]
  have e2 : (bytesL [c.k, nb c.nl]).length = 2 := rfl
  refine Prod.ext ?_ (Prod.ext ?_ rfl)
  · refine Col.ext' ⟨rfl, k1, ?_⟩
    show decide ((UInt8.ofNat (nb c.nl).toNat).toNat = 1) = c.nl
    cases c.nl <;> rfl
  · show _ = _
    simp only [List.length_append, e2]; omega
theorem thr_cols {S : ByteArray} : ∀ (l : List Col) (a : Nat) (m : List Col) (r : List UInt8), Here S a (colsL l ++ r) → (∀ c ∈ l, nmOk c.nm = true ∧ kdOk c.k = true) → tkCols S l.length (a, 0) m = (m ++ l, a + (colsL l).length, 0)
  | [], a, m, r, _, _ => by simp [tkCols, colsL]
  | c :: l, a, m, r, h, hc => by
    have e : colsL (c :: l) = colL c ++ colsL l := List.flatMap_cons
    rw [e, List.append_assoc] at h
    have h1 := thr_col h (hc c (by simp)).1 (hc c (by simp)).2
    show tkCols S (l.length + 1) (a, 0) m = _
    unfold tkCols
    rw [h1]
    simp only
    rw [thr_cols l _ _ r h.next (fun x hx => hc x (by simp [hx])), e]
    simp only [List.length_append, List.append_assoc, List.singleton_append, Prod.mk.injEq, true_and, and_true]
    omega
theorem colsGo_mem : ∀ (l ahead : List Col), colsGo ahead l = 0 → ∀ c ∈ l, nmOk c.nm = true ∧ kdOk c.k = true
  | [], _, _ => by simp
  | c :: l, ahead, h => by
    unfold colsGo at h
    split at h
    · exact absurd h (by assumption)
    · rename_i hE
      intro x hx
      rcases List.mem_cons.1 hx with rfl | hx
      · have hE' : colE ahead x = 0 := Decidable.not_not.1 hE
        unfold colE at hE'
        by_cases h1 : nmOk x.nm = true
        · refine ⟨h1, ?_⟩
          by_cases h2 : kdOk x.k = true
          · exact h2
          · simp only [Bool.not_eq_true] at h2
            rw [h1, h2] at hE'
            split at hE' <;> simp at hE'
            split at hE' <;> simp at hE'
        · simp only [Bool.not_eq_true] at h1
          rw [if_pos h1] at hE'; simp at hE'
      · exact colsGo_mem l _ h x hx
structure RT (t : Tbl) : Prop where
  id : 1 ≤ t.id ∧ t.id ≤ 2147483647
  ver : 1 ≤ t.ver ∧ t.ver ≤ 2147483647
  nm : nmOk t.nm = true
  len : 1 ≤ t.cols.length ∧ t.cols.length ≤ 8
  cols : ∀ c ∈ t.cols, nmOk c.nm = true ∧ kdOk c.k = true
  key : 0 ≤ t.key ∧ t.key < t.cols.length
theorem numOk_iff {n : Int} (h : numOk n = true) : 1 ≤ n ∧ n ≤ 2147483647 := by
  unfold numOk at h; simp only [Bool.and_eq_true, decide_eq_true_eq] at h; exact h
theorem right_rt {t : Tbl} (h : rightE t = 0) : RT t := by
  have hl := right_len h
  unfold rightE at h
  split at h
  · simp at h
  · rename_i h1
    split at h
    · simp at h
    · rename_i h2
      split at h
      · exact absurd h (by assumption)
      · rename_i h3
        split at h
        · simp at h
        · rename_i h4
          simp only [not_or, Bool.not_eq_false] at h1 h2 h4
          refine ⟨numOk_iff h1.1, numOk_iff h1.2, h2, hl, ?_, ?_⟩
          · have h3' : colsE t.cols = 0 := Decidable.not_not.1 h3
            unfold colsE at h3'
            split at h3'
            · simp at h3'
            · exact colsGo_mem _ _ h3'
          · unfold keyOk at h4
            simp only [Bool.and_eq_true, decide_eq_true_eq] at h4
            refine ⟨h4.1, ?_⟩
            have h5 := h4.2
            split at h5
            · simp at h5
            · rename_i c hc
              have := (List.getElem?_eq_some_iff.1 hc).1
              omega
theorem thr_tab {S : ByteArray} {a : Nat} {t : Tbl} {r : List UInt8} (h : Here S a (tabL t ++ r)) (ht : RT t) : tkTab S (a, 0) = (t, a + (tabL t).length, 0) := by
  unfold tabL at h ⊢
  simp only [List.append_assoc] at h
  have i1 := ht.id
  have i2 := ht.ver
  have i3 := nm_size ht.nm
  have i4 := ht.len
  have i5 := ht.key
  have g1 := thr_num h (by omega)
  have h := h.next
  have g2 := thr_num h (by omega)
  have h := h.next
  have g3 := thr_text (most := 16) h (by omega) (by omega)
  have h := h.next
  have e : ∀ (n : Int) (r : List UInt8), bytesL [n] ++ r = UInt8.ofNat n.toNat :: r := fun _ _ => rfl
  rw [e] at h
  have g4 := thr_byte h
  have h := h.one
  have e4 : (UInt8.ofNat ((t.cols.length : Int)).toNat).toNat = t.cols.length := by
    have := byte1 (n := (t.cols.length : Int)) (by omega) (by omega); omega
  have g5 := thr_cols t.cols _ [] _ h ht.cols
  have h := h.next
  rw [e] at h
  have g6 := thr_byte h
  unfold tkTab
  simp only [g1, g2, g3, g4, e4, g5, g6]
  have e1 : ∀ n : Int, (bytesL [n]).length = 1 := fun _ => rfl
  refine Prod.ext ?_ (Prod.ext ?_ rfl)
  · obtain ⟨id, ver, nm, cols, key⟩ := t
    simp only at i1 i2 i5 ⊢
    have k1 : ((id.toNat : Nat) : Int) = id := by omega
    have k2 : ((ver.toNat : Nat) : Int) = ver := by omega
    have k3 : ((UInt8.ofNat key.toNat).toNat : Int) = key := byte1 (by omega) (by simp only at i4; omega)
    rw [k1, k2, k3]; simp
  · simp only [List.length_append, e1]; omega
theorem encGo_len : ∀ (vs : List Val) (bs : List UInt8), (encGo vs bs).1.length ≤ bs.length + vs.length * 211
  | [], bs => by simp [encGo]
  | v :: r, bs => by
    unfold encGo
    split
    · rename_i h
      have h1 := encGo_len r (bs ++ encV v)
      have h2 := encV_len (wrg_zero h).2
      simp only [List.length_append, List.length_cons] at h1 ⊢
      omega
    · simp
theorem encR_len (vs : List Val) : (encR vs).1.length ≤ 1689 := by
  unfold encR
  split
  · simp
  · have := encGo_len vs [UInt8.ofNat vs.length]
    simp only [List.length_cons, List.length_nil] at this
    omega
theorem thr_rowL {S : ByteArray} {a : Nat} {vs : List Val} {r : List UInt8} (h : Here S a (rowL vs ++ r)) (h0 : (encR vs).2 = 0) (hi : ∀ v ∈ vs, v.i64) : tkRow S (a, 0) = (vs, a + (rowL vs).length, 0) := by
  unfold rowL at h ⊢
  have hl := encR_len vs
  have hsz : (⟨(encR vs).1.toArray⟩ : ByteArray).size = (encR vs).1.length := by show (encR vs).1.toArray.size = _; simp
  have g := thr_text (most := 1700) h (by rw [hsz]; omega) (by rw [hsz]; omega)
  unfold tkRow
  simp only [g]
  have e := thr_row (vs := vs) (l := (encR vs).1) (Prod.ext rfl h0) hi
  rw [e.1]; rfl
end Go.Proofs.YteaagnlhkopgdaaGreatDoor.C
namespace Go.Proofs.YteaagnlhkopgdaaGreatDoor.C
open Go.Lib
structure Rc where
  k : Int
  x : Int
  l : Int
  e : Int
  t : Int
  tb : Tbl
  o : List Val
  n : List Val
def tb0 : Tbl := ⟨0, 0, ⟨#[]⟩, [], 0⟩
def rc0 (k : Int) : Rc := ⟨k, 0, 0, 0, 0, tb0, [], []⟩
def cls (k : Int) : Nat := if k = 1 then 1 else if k = 2 then 2 else if k = 3 then 3 else if k = 4 then 4 else if k = 5 then 5 else if k = 6 then 6 else if k = 7 then 7 else if k = 8 ∨ k = 9 then 8 else 0
theorem cls_rng (k : Int) : cls k = 0 ∨ (1 ≤ k ∧ k ≤ 9 ∧ 1 ≤ cls k ∧ cls k ≤ 8) := by
  unfold cls
  by_cases h : 1 ≤ k ∧ k ≤ 9
  · refine Or.inr ⟨h.1, h.2, ?_⟩
    obtain ⟨h1, h2⟩ := h
    repeat' split
    all_goals omega
  · refine Or.inl ?_
    rw [if_neg (by omega), if_neg (by omega), if_neg (by omega), if_neg (by omega), if_neg (by omega), if_neg (by omega), if_neg (by omega), if_neg (by omega)]
def rtN (n : Int) : Prop := 1 ≤ n ∧ n ≤ 2147483647
def rtP (n : Int) : Prop := 1 ≤ n ∧ n ≤ 819208192
def rtRow (vs : List Val) : Prop := vs ≠ [] ∧ (encR vs).2 = 0
instance (n : Int) : Decidable (rtN n) := by unfold rtN; infer_instance
instance (n : Int) : Decidable (rtP n) := by unfold rtP; infer_instance
instance (vs : List Val) : Decidable (rtRow vs) := by
  unfold rtRow
  cases vs with
  | nil => exact isFalse (by simp)
  | cons v l => exact decidable_of_iff ((encR (v :: l)).2 = 0) (by simp)
def rightC (c : Nat) (r : Rc) : Prop := match c with
  | 1 => rtN r.x ∧ rtP r.l
  | 2 => rightE r.tb = 0
  | 3 => rtN r.t ∧ rtRow r.n
  | 4 => rtN r.t ∧ rtRow r.o ∧ rtRow r.n
  | 5 => rtN r.t ∧ rtRow r.o
  | 6 => rtN r.t
  | 7 => (rtN r.x ∧ rtP r.l) ∧ rtP r.e ∧ r.l < r.e
  | 8 => rtP r.l
  | _ => False
def cutC (c : Nat) (r : Rc) : Rc := match c with
  | 1 => { rc0 r.k with x := r.x, l := r.l }
  | 2 => { rc0 r.k with tb := r.tb }
  | 3 => { rc0 r.k with t := r.t, n := r.n }
  | 4 => { rc0 r.k with t := r.t, o := r.o, n := r.n }
  | 5 => { rc0 r.k with t := r.t, o := r.o }
  | 6 => { rc0 r.k with t := r.t }
  | 7 => { rc0 r.k with x := r.x, l := r.l, e := r.e }
  | 8 => { rc0 r.k with l := r.l }
  | _ => rc0 r.k
def bodyL (c : Nat) (r : Rc) : List UInt8 := match c with
  | 1 => dg r.x.toNat ++ dg r.l.toNat
  | 2 => tabL r.tb
  | 3 => dg r.t.toNat ++ rowL r.n
  | 4 => dg r.t.toNat ++ (rowL r.o ++ rowL r.n)
  | 5 => dg r.t.toNat ++ rowL r.o
  | 6 => dg r.t.toNat
  | 7 => dg r.x.toNat ++ (dg r.l.toNat ++ dg r.e.toNat)
  | 8 => dg r.l.toNat
  | _ => []
def recL (r : Rc) : List UInt8 := UInt8.ofNat r.k.toNat :: bodyL (cls r.k) r
def tkC (S : ByteArray) (k : Int) (c : Nat) (p : Nat × Int) : Rc × Nat × Int := match c with
  | 1 => let r1 := numR 9 127 S p.1 p.2; let r2 := numR 9 127 S r1.2.1 r1.2.2; ({ rc0 k with x := r1.1, l := r2.1 }, r2.2)
  | 2 => let r1 := tkTab S p; ({ rc0 k with tb := r1.1 }, r1.2)
  | 3 => let r1 := numR 9 127 S p.1 p.2; let r2 := tkRow S r1.2; ({ rc0 k with t := r1.1, n := r2.1 }, r2.2)
  | 4 => let r1 := numR 9 127 S p.1 p.2; let r2 := tkRow S r1.2; let r3 := tkRow S r2.2; ({ rc0 k with t := r1.1, o := r2.1, n := r3.1 }, r3.2)
  | 5 => let r1 := numR 9 127 S p.1 p.2; let r2 := tkRow S r1.2; ({ rc0 k with t := r1.1, o := r2.1 }, r2.2)
  | 6 => let r1 := numR 9 127 S p.1 p.2; ({ rc0 k with t := r1.1 }, r1.2)
  | 7 => let r1 := numR 9 127 S p.1 p.2; let r2 := numR 9 127 S r1.2.1 r1.2.2; let r3 := numR 9 127 S r2.2.1 r2.2.2; ({ rc0 k with x := r1.1, l := r2.1, e := r3.1 }, r3.2)
  | 8 => let r1 := numR 9 127 S p.1 p.2; ({ rc0 k with l := r1.1 }, r1.2)
  | _ => (rc0 k, p)
theorem to_nat {n : Int} (h : 0 ≤ n) : ((n.toNat : Nat) : Int) = n := by omega
theorem thr_rec {S : ByteArray} {a : Nat} {r : Rc} (h : Here S a (bodyL (cls r.k) r)) (hr : rightC (cls r.k) r) (hc : cutC (cls r.k) r = r) (ho : ∀ v ∈ r.o, v.i64) (hn : ∀ v ∈ r.n, v.i64) : (tkC S r.k (cls r.k) (a, 0)).1 = r := by
  have hE : ∀ l, l ++ [] = l := fun l : List UInt8 => List.append_nil l
  rcases cls_rng r.k with h0 | ⟨_, _, h1, h2⟩
  · rw [h0] at hr; exact hr.elim
  · obtain ⟨c, hcc⟩ : ∃ c, c = cls r.k := ⟨_, rfl⟩
    rw [← hcc] at h hr hc h1 h2 ⊢
    clear hcc
    have hc0 : c = 1 ∨ c = 2 ∨ c = 3 ∨ c = 4 ∨ c = 5 ∨ c = 6 ∨ c = 7 ∨ c = 8 := by omega
    rcases hc0 with rfl | rfl | rfl | rfl | rfl | rfl | rfl | rfl
    · have hr : rtN r.x ∧ rtP r.l := hr
      have h : Here S a (dg r.x.toNat ++ dg r.l.toNat) := h
      unfold rtN rtP at hr
      have g1 := thr_num h (by omega)
      have h := h.next
      rw [← hE (dg r.l.toNat)] at h
      have g2 := thr_num h (by omega)
      conv => rhs; rw [← hc]
      simp only [tkC, cutC, g1, g2, to_nat (show 0 ≤ r.x by omega), to_nat (show 0 ≤ r.l by omega)]
    · have hr : rightE r.tb = 0 := hr
      have h : Here S a (tabL r.tb) := h
      have hs := right_rt hr
      rw [← hE (tabL r.tb)] at h
      have g1 := thr_tab h hs
      conv => rhs; rw [← hc]
      simp only [tkC, cutC, g1]
    · have hr : rtN r.t ∧ rtRow r.n := hr
      have h : Here S a (dg r.t.toNat ++ rowL r.n) := h
      unfold rtN rtRow at hr
      have g1 := thr_num h (by omega)
      have h := h.next
      rw [← hE (rowL r.n)] at h
      have g2 := thr_rowL h hr.2.2 hn
      conv => rhs; rw [← hc]
      simp only [tkC, cutC, g1, g2, to_nat (show 0 ≤ r.t by omega)]
    · have hr : rtN r.t ∧ rtRow r.o ∧ rtRow r.n := hr
      have h : Here S a (dg r.t.toNat ++ (rowL r.o ++ rowL r.n)) := h
      unfold rtN rtRow at hr
      have g1 := thr_num h (by omega)
      have h := h.next
      have g2 := thr_rowL h hr.2.1.2 ho
      have h := h.next
      rw [← hE (rowL r.n)] at h
      have g3 := thr_rowL h hr.2.2.2 hn
      conv => rhs; rw [← hc]
      simp only [tkC, cutC, g1, g2, g3, to_nat (show 0 ≤ r.t by omega)]
    · have hr : rtN r.t ∧ rtRow r.o := hr
      have h : Here S a (dg r.t.toNat ++ rowL r.o) := h
      unfold rtN rtRow at hr
      have g1 := thr_num h (by omega)
      have h := h.next
      rw [← hE (rowL r.o)] at h
      have g2 := thr_rowL h hr.2.2 ho
      conv => rhs; rw [← hc]
      simp only [tkC, cutC, g1, g2, to_nat (show 0 ≤ r.t by omega)]
    · have hr : rtN r.t := hr
      have h : Here S a (dg r.t.toNat) := h
      unfold rtN at hr
      rw [← hE (dg r.t.toNat)] at h
      have g1 := thr_num h (by omega)
      conv => rhs; rw [← hc]
      simp only [tkC, cutC, g1, to_nat (show 0 ≤ r.t by omega)]
    · have hr : (rtN r.x ∧ rtP r.l) ∧ rtP r.e ∧ r.l < r.e := hr
      have h : Here S a (dg r.x.toNat ++ (dg r.l.toNat ++ dg r.e.toNat)) := h
      unfold rtN rtP at hr
      have g1 := thr_num h (by omega)
      have h := h.next
      have g2 := thr_num h (by omega)
      have h := h.next
      rw [← hE (dg r.e.toNat)] at h
      have g3 := thr_num h (by omega)
      conv => rhs; rw [← hc]
      simp only [tkC, cutC, g1, g2, g3, to_nat (show 0 ≤ r.x by omega), to_nat (show 0 ≤ r.l by omega), to_nat (show 0 ≤ r.e by omega)]
    · have hr : rtP r.l := hr
      have h : Here S a (dg r.l.toNat) := h
      unfold rtP at hr
      rw [← hE (dg r.l.toNat)] at h
      have g1 := thr_num h (by omega)
      conv => rhs; rw [← hc]
      simp only [tkC, cutC, g1, to_nat (show 0 ≤ r.l by omega)]
end Go.Proofs.YteaagnlhkopgdaaGreatDoor.C
namespace Go.Proofs.YteaagnlhkopgdaaGreatDoor.C
open Go.RowKit Go
theorem wrap_of {n : Int} (h1 : -9223372036854775808 ≤ n) (h2 : n ≤ 9223372036854775807) : IntKind.i64.wrap n = n := by
  simp [IntKind.wrap, IntKind.signed, IntKind.bits]; omega
theorem info_row : (Tryz.prog.info? 26).map (fun i => (i.zero, i.size, i.bytes)) = some (some (.slice none 0 0), 1, 24) := by kernel_rfl
def mkR (j : Nat) : List Value := [.int .i64 (-5 - ((j / 14 * 14 : Nat) : Int)), .int .i64 0, .string ⟨#[]⟩]
theorem mark_step (cur : Array Value) (q c : Nat) (a b d : Value) (hs : cur.size = c * 3) (hq : q < c) (h : cur.toList.take (q * 3) = rep q [a, b, d]) : (((cur.setIfInBounds (q * 3) a).setIfInBounds (q * 3 + 1) b).setIfInBounds (q * 3 + 2) d).toList.take ((q + 1) * 3) = rep (q + 1) [a, b, d] := by
  rw [rep_succ, ← h]
  apply List.ext_getElem?
  intro j
  rw [List.getElem?_take]
  have hl : cur.toList.length = c * 3 := by simpa using hs
  rcases Nat.lt_or_ge j (q * 3) with h1 | h1
  · rw [if_pos (by omega), List.getElem?_append_left (by rw [List.length_take]; omega), List.getElem?_take, if_pos h1, Array.getElem?_toList, Array.getElem?_toList, Array.getElem?_setIfInBounds_ne (by omega), Array.getElem?_setIfInBounds_ne (by omega), Array.getElem?_setIfInBounds_ne (by omega)]
  · rw [List.getElem?_append_right (by rw [List.length_take]; omega), List.length_take, show min (q * 3) cur.toList.length = q * 3 by omega]
    rcases Nat.lt_or_ge j ((q + 1) * 3) with h2 | h2
    · rw [if_pos h2, Array.getElem?_toList]
      rcases (by omega : j = q * 3 ∨ j = q * 3 + 1 ∨ j = q * 3 + 2) with rfl | rfl | rfl
      · rw [Array.getElem?_setIfInBounds_ne (by omega), Array.getElem?_setIfInBounds_ne (by omega), Array.getElem?_setIfInBounds_self_of_lt (by omega)]; simp
      · rw [Array.getElem?_setIfInBounds_ne (by omega), Array.getElem?_setIfInBounds_self_of_lt (by simp; omega), show q * 3 + 1 - q * 3 = 1 by omega]; rfl
      · rw [Array.getElem?_setIfInBounds_self_of_lt (by simp; omega), show q * 3 + 2 - q * 3 = 2 by omega]; rfl
    · rw [if_neg (by omega), List.getElem?_eq_none (by simp; omega)]
def MC (e : TypeId) (W : World) (v : Value) (n : Nat) (cs : List Value) (q : Nat) : Prop := (v = .slice none 0 0 ∧ n = 0) ∨ ∃ g c cur, v = .slice (some ⟨g, 0, none⟩) n c ∧ W.heap[g]? = some (.cells cur e (0, 0)) ∧ n ≤ c ∧ c ≤ maxLen ∧ cur.size = c * 3 ∧ cur.toList.take (q * 3) = rep q cs
theorem MC.of {e : TypeId} {W : World} {v : Value} {n : Nat} {cs xs : List Value} (h : W.ownsRow 0 e 3 v n xs) : MC e W v n cs 0 := by
  rcases h.2 with h | ⟨g, c, cur, h1, _, h2, h3, h4, h5, _⟩
  · exact Or.inl h
  · exact Or.inr ⟨g, c, cur, h1, h2, h3, h4, h5, by simp [rep]⟩
theorem MC.tch {S : Nat → Prop} {e : TypeId} {W W' : World} {v : Value} {n : Nat} {cs : List Value} {q : Nat} (h : MC e W v n cs q) (t : Tch S W W') (hS : ∀ g, v.ownBlock = some g → ¬ S g) : MC e W' v n cs q := by
  rcases h with h | ⟨g, c, cur, h1, h2, h3⟩
  · exact Or.inl h
  · exact Or.inr ⟨g, c, cur, h1, by rw [t.block g (blk_lt h2) (hS g (by rw [h1]; rfl))]; exact h2, h3⟩
theorem MC.own {e : TypeId} {W : World} {v : Value} {n : Nat} {cs : List Value} (h : MC e W v n cs n) (hcs : cs.length = 3) : W.ownsRow 0 e cs.length v n (rep n cs) := by
  refine ⟨rep_len _ _, ?_⟩
  rw [hcs]
  rcases h with h | ⟨g, c, cur, h1, h2, h3, h4, h5, h6⟩
  · exact Or.inl h
  · exact Or.inr ⟨g, c, cur, h1, Nat.zero_le _, h2, h3, h4, h5, h6⟩
end Go.Proofs.YteaagnlhkopgdaaGreatDoor.C
