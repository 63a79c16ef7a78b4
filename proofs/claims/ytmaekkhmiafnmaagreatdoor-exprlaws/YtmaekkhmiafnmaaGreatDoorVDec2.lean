import Derived.Test.YtmaekkhmiafnmaaGreatDoorWriter2
import Derived.Lib.Bytealg
import Derived.Lib.Small
set_option maxHeartbeats 1000000
set_option maxRecDepth 100000
namespace Go.Proofs.YtmaekkhmiafnmaaGreatDoor
open Go.RowKit
theorem conv_row {w : World} {base : Nat} {v : Value} {bs : List UInt8} (h : w.ownsRow base 5 1 v bs.length (Lib.byteCells bs)) : (convert 118 9 v).run Tryz.prog w = .ok (.string ⟨bs.toArray⟩) w := by
  rcases h.2 with ⟨rfl, h2⟩ | ⟨g, cap, cur, rfl, _, hh, _, _, _, hx⟩
  · obtain rfl : bs = [] := List.eq_nil_of_length_eq_zero h2
    exact Lib.run_convert_nil_bytes w 118 9 5 0 Tryz.underlying118 Tryz.underlying5 Tryz.underlying9
  · refine run_convert_bytes_back w 118 9 5 ⟨g, 0, none⟩ cap bs Tryz.underlying118 Tryz.underlying5 Tryz.underlying9 ?_
    exact Lib.bytes_of_row hh (by simpa using hx)
end Go.Proofs.YtmaekkhmiafnmaaGreatDoor
namespace Go.Proofs.YtmaekkhmiafnmaaGreatDoor
open Go.Lib
structure Val where
  k : Int
  n : Int
  s : ByteArray
def frm (v : Val) : Prop := (v.k = 0 ∧ v.n = 0 ∧ v.s.size = 0) ∨ (v.k = 1 ∧ v.s.size = 0) ∨ (v.k = 2 ∧ v.n = 0) ∨ (v.k = 3 ∧ v.s.size = 0 ∧ (v.n = 0 ∨ v.n = 1))
instance (v : Val) : Decidable (frm v) := by unfold frm; infer_instance
def wrg (v : Val) : Int := if frm v then (if v.s.size ≤ 200 then 0 else 42) else 43
def Val.i64 (v : Val) : Prop := (-9223372036854775808 ≤ v.k ∧ v.k ≤ 9223372036854775807) ∧ (-9223372036854775808 ≤ v.n ∧ v.n ≤ 9223372036854775807)
def rk (k : Int) : Int := if k = 0 then 0 else if k = 3 then 1 else if k = 1 then 2 else if k = 2 then 3 else 4
def cmpV (a b : Val) : Int :=
  if rk a.k ≠ rk b.k then compareInt (rk a.k) (rk b.k)
  else if a.k ≠ b.k then compareInt a.k b.k
  else if a.n ≠ b.n then compareInt a.n b.n
  else compareBytes a.s.data.toList b.s.data.toList
theorem compareBytes_refl : ∀ l : List UInt8, compareBytes l l = 0
  | [] => rfl
  | a :: l => by
    unfold compareBytes
    rw [if_neg (UInt8.lt_irrefl a), if_neg (UInt8.lt_irrefl a)]
    exact compareBytes_refl l
theorem compareBytes_eq : ∀ {l m : List UInt8}, compareBytes l m = 0 → l = m
  | [], [], _ => rfl
  | [], _ :: _, h => by simp [compareBytes] at h
  | _ :: _, [], h => by simp [compareBytes] at h
  | a :: l, b :: m, h => by
    unfold compareBytes at h
    by_cases h1 : a < b
    · rw [if_pos h1] at h; simp at h
    · rw [if_neg h1] at h
      by_cases h2 : b < a
      · rw [if_pos h2] at h; simp at h
      · rw [if_neg h2] at h
        have : a = b := UInt8.le_antisymm (UInt8.not_lt.1 h2) (UInt8.not_lt.1 h1)
        rw [this, compareBytes_eq h]
theorem compareBytes_rng : ∀ (l m : List UInt8), compareBytes l m = -1 ∨ compareBytes l m = 0 ∨ compareBytes l m = 1
  | [], [] => by simp [compareBytes]
  | [], _ :: _ => by simp [compareBytes]
  | _ :: _, [] => by simp [compareBytes]
  | a :: l, b :: m => by
    unfold compareBytes
    split
    · simp
    · split
      · simp
      · exact compareBytes_rng l m
theorem compareBytes_neg : ∀ (l m : List UInt8), compareBytes l m = -compareBytes m l
  | [], [] => by simp [compareBytes]
  | [], _ :: _ => by simp [compareBytes]
  | _ :: _, [] => by simp [compareBytes]
  | a :: l, b :: m => by
    unfold compareBytes
    by_cases h1 : a < b
    · rw [if_pos h1, if_neg (UInt8.lt_asymm h1), if_pos h1]
    · rw [if_neg h1]
      by_cases h2 : b < a
      · rw [if_pos h2, if_pos h2]; simp
      · rw [if_neg h2, if_neg h2, if_neg h1]; exact compareBytes_neg l m
def beN : Nat → Nat → List UInt8
  | 0, _ => []
  | k + 1, u => UInt8.ofNat (u / 256 ^ k % 256) :: beN k u
def be8 (u : Nat) : List UInt8 := beN 8 u
def key (v : Val) : List UInt8 :=
  if v.k = 0 then [1] else if v.k = 3 then [2, UInt8.ofNat v.n.toNat] else if v.k = 1 then 3 :: be8 (v.n + 9223372036854775808).toNat else 4 :: v.s.data.toList
theorem cmpV_refl (a : Val) : cmpV a a = 0 := by simp [cmpV, compareBytes_refl]
end Go.Proofs.YtmaekkhmiafnmaaGreatDoor
namespace Go.Proofs.YtmaekkhmiafnmaaGreatDoor
open Go.RowKit
abbrev vA (k n : Int) (s : ByteArray) : Value := .agg #[.int .i64 k, .int .i64 n, .string s]
theorem emp (s : ByteArray) : s.toList.isEmpty = decide (s.size = 0) := by
  by_cases h : s.size = 0
  · rw [empty_of_size h]; simp [h]
  · rw [nonempty_of_size (by omega)]; simp [h]
theorem vret_bool {a b : Bool} (h : a = b) : Ending.returned (.bool a) = .returned (.bool b) := by rw [h]
theorem box_cells (w : World) (a b c : Value) (t : TypeId) : (w.alloc (.cells #[a, b, c] t)).cell? ⟨w.heap.size, 0, none⟩ = some a ∧ (w.alloc (.cells #[a, b, c] t)).cell? ⟨w.heap.size, 1, none⟩ = some b ∧ (w.alloc (.cells #[a, b, c] t)).cell? ⟨w.heap.size, 2, none⟩ = some c := by simp
theorem box_tch {w w1 : World} {a b c : Value} {t : TypeId} (h : Tch (fun _ => False) (w.alloc (.cells #[a, b, c] t)) w1) : w1.cell? ⟨w.heap.size, 0, none⟩ = some a ∧ w1.cell? ⟨w.heap.size, 1, none⟩ = some b ∧ w1.cell? ⟨w.heap.size, 2, none⟩ = some c := by
  obtain ⟨h0, h1, h2⟩ := box_cells w a b c t
  exact ⟨(h.cell (p := ⟨_, _, none⟩) (by simp) (fun h => h)).trans h0, (h.cell (p := ⟨_, _, none⟩) (by simp) (fun h => h)).trans h1, (h.cell (p := ⟨_, _, none⟩) (by simp) (fun h => h)).trans h2⟩
theorem hasForm_any (k n : Int) (s : ByteArray) (w : World) :
    Calls Tryz.prog 81 #[vA k n s] w fun x w' => x = .returned (.bool (decide (frm ⟨k, n, s⟩))) ∧ Tch (fun _ => False) w w' := by
  go_enter Tryz.func81, Tryz.ntmps81
  go_wp2
  all_goals (go_ret; refine ⟨vret_bool ?_, Tch.alloc _ _ _⟩; rw [Bool.eq_iff_iff, decide_eq_true_iff]; unfold frm; simp only [emp] at *; generalize s.size = z at *; simp at *; omega)
theorem wrong_any (k n : Int) (s : ByteArray) (w : World) :
    Calls Tryz.prog 54 #[vA k n s] w fun x w' => x = .returned (.int .i64 (wrg ⟨k, n, s⟩)) ∧ Tch (fun _ => False) w w' := by
  go_enter Tryz.func54, Tryz.ntmps54
  go_wp2_with (go_at_call 81; refine (hasForm_any _ _ _ _).mono ?_; rintro x w1 ⟨rfl, t1⟩; obtain ⟨c0, c1, c2⟩ := box_tch t1)
  all_goals (go_ret; refine ⟨?_, (Tch.alloc _ _ _).trans' t1⟩; congr 2; simp_all [wrg] <;> omega)
def fitE (v : Val) (ck : Int) (cn : Bool) : Int := if wrg v ≠ 0 then wrg v else if v.k = 0 ∧ cn = false then 41 else if v.k ≠ 0 ∧ v.k ≠ ck then 40 else 0
abbrev cA (nm : ByteArray) (ck : Int) (cn : Bool) : Value := .agg #[.string nm, .int .i64 ck, .bool cn]
theorem box_tch2 {w w1 : World} {a b c d e f : Value} {t u : TypeId} (h : Tch (fun _ => False) ((w.alloc (.cells #[a, b, c] t)).alloc (.cells #[d, e, f] u)) w1) : (w1.cell? ⟨w.heap.size, 0, none⟩ = some a ∧ w1.cell? ⟨w.heap.size, 1, none⟩ = some b ∧ w1.cell? ⟨w.heap.size, 2, none⟩ = some c) ∧ w1.cell? ⟨w.heap.size + 1, 0, none⟩ = some d ∧ w1.cell? ⟨w.heap.size + 1, 1, none⟩ = some e ∧ w1.cell? ⟨w.heap.size + 1, 2, none⟩ = some f := by
  have h1 : Tch (fun _ => False) (w.alloc (.cells #[a, b, c] t)) w1 := (Tch.alloc _ _ _).trans' h
  refine ⟨box_tch h1, ?_⟩
  have := box_tch h
  simpa using this
theorem fits_any (k n : Int) (s nm : ByteArray) (ck : Int) (cn : Bool) (w : World) :
    Calls Tryz.prog 63 #[vA k n s, cA nm ck cn] w fun x w' => x = .returned (.int .i64 (fitE ⟨k, n, s⟩ ck cn)) ∧ Tch (fun _ => False) w w' := by
  go_enter Tryz.func63, Tryz.ntmps63
  go_wp2_with (go_at_call 54; refine (wrong_any _ _ _ _).mono ?_; rintro x w1 ⟨rfl, t1⟩; obtain ⟨⟨c0, c1, c2⟩, c3, c4, c5⟩ := box_tch2 t1)
  all_goals (go_ret; refine ⟨?_, ((Tch.alloc _ _ _).trans' (Tch.alloc _ _ _)).trans' t1⟩; congr 2; simp_all [fitE])
end Go.Proofs.YtmaekkhmiafnmaaGreatDoor
namespace Go.Proofs.YtmaekkhmiafnmaaGreatDoor
open Go.RowKit
theorem heap_new (w : World) (o : Obj) : (w.alloc o).heap[w.heap.size]? = some o := by show (w.heap.push o)[w.heap.size]? = _; simp
def RowAt (w : World) (g o : Nat) (vs : List Val) : Prop := ∀ j (hj : j < vs.length), w.cell? ⟨g, o + j * 3, none⟩ = some (.int .i64 vs[j].k) ∧ w.cell? ⟨g, o + j * 3 + 1, none⟩ = some (.int .i64 vs[j].n) ∧ w.cell? ⟨g, o + j * 3 + 2, none⟩ = some (.string vs[j].s)
theorem RowAt.tch {S : Nat → Prop} {w w' : World} {g o : Nat} {vs : List Val} (h : RowAt w g o vs) (t : Tch S w w') (hg : vs ≠ [] → ¬ S g) : RowAt w' g o vs := by
  intro j hj
  have hS := hg (by intro e; subst e; simp at hj)
  obtain ⟨h0, h1, h2⟩ := h j hj
  have hl : g < w.heap.size := cell_lt h0
  exact ⟨(t.cell (p := ⟨g, _, none⟩) hl hS).trans h0, (t.cell (p := ⟨g, _, none⟩) hl hS).trans h1, (t.cell (p := ⟨g, _, none⟩) hl hS).trans h2⟩
theorem no_mono {S : Nat → Prop} {w w' : World} (t : Tch (fun _ => False) w w') : Tch S w w' := t.mono (fun _ _ h => h.elim)
theorem ge_new {w w' : World} (t : Tch (fun i => w.heap.size ≤ i) w w') : Tch (fun _ => False) w w' := t.mono (fun i hi h => by omega)
end Go.Proofs.YtmaekkhmiafnmaaGreatDoor
namespace Go.Proofs.YtmaekkhmiafnmaaGreatDoor
open Go.RowKit
theorem box_set (W : World) (p : Nat) (x0 x1 x2 y0 y1 y2 : Value) (c0 : W.cell? ⟨p, 0, none⟩ = some x0) (c1 : W.cell? ⟨p, 1, none⟩ = some x1) (c2 : W.cell? ⟨p, 2, none⟩ = some x2) :
    let W' := ((W.setCell ⟨p, 0, none⟩ y0).setCell ⟨p, 1, none⟩ y1).setCell ⟨p, 2, none⟩ y2
    W'.cell? ⟨p, 0, none⟩ = some y0 ∧ W'.cell? ⟨p, 1, none⟩ = some y1 ∧ W'.cell? ⟨p, 2, none⟩ = some y2 := by
  intro W'
  refine ⟨?_, ?_, ?_⟩
  · show (((W.setCell ⟨p, 0, none⟩ y0).setCell ⟨p, 1, none⟩ y1).setCell ⟨p, 2, none⟩ y2).cell? ⟨p, 0, none⟩ = _
    rw [World.cell?_setCell_other (h := by simp), World.cell?_setCell_other (h := by simp), World.cell?_setCell_same (h := c0)]
  · show (((W.setCell ⟨p, 0, none⟩ y0).setCell ⟨p, 1, none⟩ y1).setCell ⟨p, 2, none⟩ y2).cell? ⟨p, 1, none⟩ = _
    have d1 : (W.setCell ⟨p, 0, none⟩ y0).cell? ⟨p, 1, none⟩ = some x1 := by rw [World.cell?_setCell_other (h := by simp)]; exact c1
    rw [World.cell?_setCell_other (h := by simp), World.cell?_setCell_same (h := d1)]
  · have d2 : ((W.setCell ⟨p, 0, none⟩ y0).setCell ⟨p, 1, none⟩ y1).cell? ⟨p, 2, none⟩ = some x2 := by rw [World.cell?_setCell_other (h := by simp), World.cell?_setCell_other (h := by simp)]; exact c2
    exact World.cell?_setCell_same _ _ _ d2
theorem box_set_tch (W : World) (p : Nat) (y0 y1 y2 : Value) : Tch (fun i => i = p) W (((W.setCell ⟨p, 0, none⟩ y0).setCell ⟨p, 1, none⟩ y1).setCell ⟨p, 2, none⟩ y2) :=
  ((Tch.setCell (fun i => i = p) W ⟨p, 0, none⟩ y0 rfl).setCellR ⟨p, 1, none⟩ y1 rfl).setCellR ⟨p, 2, none⟩ y2 rfl
end Go.Proofs.YtmaekkhmiafnmaaGreatDoor
namespace Go.Proofs.YtmaekkhmiafnmaaGreatDoor
open Go.RowKit
theorem blk_lt {w : World} {b : Nat} {o : Obj} (h : w.heap[b]? = some o) : b < w.heap.size := (Array.getElem?_eq_some_iff.1 h).1
theorem blk_cell {w : World} {b : Nat} {cs : Array Value} {t : TypeId} {fr : Nat × Nat} (h : w.heap[b]? = some (.cells cs t fr)) (i : Nat) : w.cell? ⟨b, i, none⟩ = cs[i]? := by
  simp [World.cell?, h]
theorem blk_set {w : World} {b i : Nat} {cs : Array Value} {t : TypeId} {fr : Nat × Nat} (h : w.heap[b]? = some (.cells cs t fr)) (v : Value) : (w.setCell ⟨b, i, none⟩ v).heap[b]? = some (.cells (cs.setIfInBounds i v) t fr) := by
  have hl := blk_lt h
  simp only [World.setCell]
  rw [Array.getElem?_modify]
  simp [h]
theorem info_val : (Tryz.prog.info? 29).map (fun i => (i.zero, i.size, i.bytes)) = some (some (.agg #[.int .i64 0, .int .i64 0, .string ⟨#[]⟩]), 3, 32) := by kernel_rfl
structure RO (w : World) (R n : Nat) (l : List Val) : Prop where
  blk : ∃ cur, w.heap[R]? = some (.cells cur 29 (0, 0)) ∧ cur.size = n * 3
  got : RowAt w R 0 l
theorem RO.tch {S : Nat → Prop} {w w' : World} {R n : Nat} {l : List Val} (h : RO w R n l) (t : Tch S w w') (hs : ¬ S R) : RO w' R n l := by
  obtain ⟨cur, h1, h2⟩ := h.blk
  exact ⟨⟨cur, (t.block R (blk_lt h1) hs).trans h1, h2⟩, h.got.tch t (fun _ => hs)⟩
theorem RO.step {w : World} {R n : Nat} {l : List Val} (h : RO w R n l) (hk : l.length < n) (v : Val) : RO (((w.setCell ⟨R, l.length * 3, none⟩ (.int .i64 v.k)).setCell ⟨R, l.length * 3 + 1, none⟩ (.int .i64 v.n)).setCell ⟨R, l.length * 3 + 2, none⟩ (.string v.s)) R n (l ++ [v]) := by
  obtain ⟨cur, h1, h2⟩ := h.blk
  have h3 := blk_set (blk_set (blk_set h1 (i := l.length * 3) (.int .i64 v.k)) (i := l.length * 3 + 1) (.int .i64 v.n)) (i := l.length * 3 + 2) (.string v.s)
  refine ⟨⟨_, h3, by simp [h2]⟩, fun i hi => ?_⟩
  rw [blk_cell h3, blk_cell h3, blk_cell h3]
  simp only [Nat.zero_add]
  rw [List.length_append, List.length_singleton] at hi
  rcases Nat.lt_or_ge i l.length with hik | hik
  · obtain ⟨g1, g2, g3⟩ := h.got i hik
    rw [blk_cell h1] at g1 g2 g3
    simp only [Nat.zero_add] at g1 g2 g3
    rw [List.getElem_append_left hik]
    refine ⟨?_, ?_, ?_⟩
    · rw [Array.getElem?_setIfInBounds_ne (by omega), Array.getElem?_setIfInBounds_ne (by omega), Array.getElem?_setIfInBounds_ne (by omega)]; exact g1
    · rw [Array.getElem?_setIfInBounds_ne (by omega), Array.getElem?_setIfInBounds_ne (by omega), Array.getElem?_setIfInBounds_ne (by omega)]; exact g2
    · rw [Array.getElem?_setIfInBounds_ne (by omega), Array.getElem?_setIfInBounds_ne (by omega), Array.getElem?_setIfInBounds_ne (by omega)]; exact g3
  · obtain rfl : i = l.length := by omega
    rw [List.getElem_append_right (Nat.le_refl _)]
    simp only [Nat.sub_self, List.getElem_cons_zero]
    refine ⟨?_, ?_, ?_⟩
    · rw [Array.getElem?_setIfInBounds_ne (by omega), Array.getElem?_setIfInBounds_ne (by omega), Array.getElem?_setIfInBounds_self_of_lt (by omega)]
    · rw [Array.getElem?_setIfInBounds_ne (by omega), Array.getElem?_setIfInBounds_self_of_lt (by simp; omega)]
    · rw [Array.getElem?_setIfInBounds_self_of_lt (by simp; omega)]
end Go.Proofs.YtmaekkhmiafnmaaGreatDoor
