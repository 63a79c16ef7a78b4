import Derived.Test.YtmnhkgibplnnnaaGMem
import Derived.Test.YtmnhkgibplnnnaaKeeps
import Derived.Test.YtmnhkgibplnnnaaQTail
import Derived.Deep.LoopGhost
/- Items in the world; ahead. -/
namespace Go.Proofs.Ytmnhkgibplnnnaa
open Go.RowKit Go

def itV (x : It) : Value := .agg #[.int .i64 x.r, .int .i64 x.t, .pointer (some ⟨x.p, 0, none⟩)]
def ic (x : It) : List Value := [.int .i64 x.r, .int .i64 x.t, .pointer (some ⟨x.p, 0, none⟩)]
def icl (l : List It) : List Value := l.flatMap ic
theorem icl_len (l : List It) : (icl l).length = l.length * 3 := by
  induction l with
  | nil => rfl
  | cons a l ih => show (ic a ++ icl l).length = _; rw [List.length_append, ih, List.length_cons]; show 3 + _ = _; omega
theorem icl_append (l m : List It) : icl (l ++ m) = icl l ++ icl m := by simp [icl]
theorem icl_get (l : List It) : ∀ k, k < l.length → (icl l)[k * 3]? = some (.int .i64 (hat l k).r) ∧ (icl l)[k * 3 + 1]? = some (.int .i64 (hat l k).t) ∧ (icl l)[k * 3 + 2]? = some (.pointer (some ⟨(hat l k).p, 0, none⟩)) := by
  induction l with
  | nil => intro k hk; simp at hk
  | cons a l ih =>
    intro k hk
    cases k with
    | zero => exact ⟨rfl, rfl, rfl⟩
    | succ k =>
      have := ih k (by simpa using hk)
      have e : ∀ j, (icl (a :: l))[(k + 1) * 3 + j]? = (icl l)[k * 3 + j]? := fun j => by
        show (ic a ++ icl l)[(k + 1) * 3 + j]? = _
        rw [List.getElem?_append_right (by show 3 ≤ _; omega)]
        congr 1; show _ - 3 = _; omega
      have e0 := e 0
      simp only [Nat.add_zero] at e0
      have hh : hat (a :: l) (k + 1) = hat l k := by simp [hat, List.getD]
      rw [e0, e 1, e 2, hh]
      exact this
theorem icl_set (l : List It) : ∀ k, k < l.length → ∀ x, icl (l.set k x) = (icl l).take (k * 3) ++ ic x ++ (icl l).drop (k * 3 + 3) := by
  induction l with
  | nil => intro k hk; simp at hk
  | cons a l ih =>
    intro k hk x
    cases k with
    | zero => rfl
    | succ k =>
      have := ih k (by simpa using hk) x
      show ic a ++ icl (l.set k x) = (ic a ++ icl l).take ((k + 1) * 3) ++ ic x ++ (ic a ++ icl l).drop ((k + 1) * 3 + 3)
      rw [this]
      have h3 : (ic a).length = 3 := rfl
      rw [show (k + 1) * 3 = (ic a).length + k * 3 by omega, List.take_length_add_append, show (ic a).length + k * 3 + 3 = (ic a).length + (k * 3 + 3) by omega, List.drop_length_add_append]
      simp
/-- A heap in the world: its row lies at g, in a block of any type. -/
structure HR (w : World) (g cap : Nat) (l : List It) : Prop where
  blk : ∃ cur ty, w.heap[g]? = some (.cells cur ty (0, 0)) ∧ cur.size = cap * 3 ∧ cur.toList.take (l.length * 3) = icl l
  len : l.length ≤ cap
  cap : cap ≤ maxLen
  ty : ∀ cur t fr, w.heap[g]? = some (.cells cur t fr) → t = 72 ∨ t = 77
theorem ty_of {w : World} {g : Nat} {cur : Array Value} {t : TypeId} {fr : Nat × Nat} (h : w.heap[g]? = some (.cells cur t fr)) (ht : t = 72 ∨ t = 77) : ∀ cur t fr, w.heap[g]? = some (.cells cur t fr) → t = 72 ∨ t = 77 := fun _ _ _ e => by
  rw [h] at e; cases e; exact ht
def hV (g cap : Nat) (l : List It) : Value := .slice (some ⟨g, 0, none⟩) l.length cap
theorem HR.lt {w : World} {g cap : Nat} {l : List It} (h : HR w g cap l) : g < w.heap.size := by obtain ⟨_, _, h, _⟩ := h.blk; exact blk_lt h
theorem HR.tch {S : Nat → Prop} {w w' : World} {g cap : Nat} {l : List It} (h : HR w g cap l) (t : Tch S w w') (hS : ¬ S g) : HR w' g cap l := by
  obtain ⟨cur, ty, h1, h2, h3⟩ := h.blk
  exact ⟨⟨cur, ty, by rw [t.block g (blk_lt h1) hS]; exact h1, h2, h3⟩, h.len, h.cap, ty_of (by rw [t.block g (blk_lt h1) hS]; exact h1) (h.ty _ _ _ h1)⟩
theorem HR.no {w w' : World} {g cap : Nat} {l : List It} (h : HR w g cap l) (t : Tch (fun _ => False) w w') : HR w' g cap l := h.tch t (fun h => h)
theorem HR.cells {w : World} {g cap : Nat} {l : List It} (h : HR w g cap l) {k : Nat} (hk : k < l.length) : w.cell? ⟨g, k * 3, none⟩ = some (.int .i64 (hat l k).r) ∧ w.cell? ⟨g, k * 3 + 1, none⟩ = some (.int .i64 (hat l k).t) ∧ w.cell? ⟨g, k * 3 + 2, none⟩ = some (.pointer (some ⟨(hat l k).p, 0, none⟩)) := by
  obtain ⟨cur, ty, h1, h2, h3⟩ := h.blk
  have e : ∀ j, j < l.length * 3 → w.cell? ⟨g, j, none⟩ = (icl l)[j]? := fun j hj => by
    rw [blk_cell h1, ← h3, List.getElem?_take, if_pos hj, Array.getElem?_toList]
  obtain ⟨c0, c1, c2⟩ := icl_get l k hk
  rw [e _ (by omega), e _ (by omega), e _ (by omega)]
  exact ⟨c0, c1, c2⟩
theorem HR.frozen {w : World} {g cap : Nat} {l : List It} (h : HR w g cap l) (j : Nat) : w.frozen? ⟨g, j, none⟩ = false := by
  obtain ⟨cur, ty, h1, _⟩ := h.blk
  exact blk_frozen h1 j
theorem HR.set {w : World} {g cap : Nat} {l : List It} (h : HR w g cap l) {k : Nat} (hk : k < l.length) (x : It) : HR (w.setCells g (k * 3) (ic x)) g cap (l.set k x) := by
  obtain ⟨cur, ty, h1, h2, h3⟩ := h.blk
  have hl := h.len
  have hc : cur.toList.length = cap * 3 := by simpa using h2
  have hs := set_blk (ic x) (k * 3) w cur h1 (by show k * 3 + 3 ≤ _; omega)
  refine ⟨⟨_, ty, hs, ?_, ?_⟩, by simpa using h.len, h.cap, ty_of hs (h.ty _ _ _ h1)⟩
  · simp only [List.size_toArray, List.length_append, List.length_take, List.length_drop, hc, show (ic x).length = 3 from rfl]
    omega
  · rw [List.length_set, icl_set l k hk x, ← h3]
    have e3 : (ic x).length = 3 := rfl
    simp only [e3]
    rw [List.take_take, Nat.min_eq_left (by omega), List.append_assoc, List.append_assoc, List.take_append, List.take_of_length_le (by rw [List.length_take]; omega)]
    congr 1
    rw [List.length_take, Nat.min_eq_left (by omega), List.take_append, List.take_of_length_le (by rw [e3]; omega)]
    congr 1
    rw [e3, List.drop_take]
    congr 1
set_option maxRecDepth 100000 in
theorem nan_any (x : Int) (w : World) : Calls Try.prog 36 #[.int .i64 x] w fun e w' => e = .returned (.bool false) ∧ w' = w := by
  go_enter Try.func36, Try.ntmps36
  go_wp2
  go_ret
  exact ⟨rfl, rfl⟩
def cpr (x y : Int) : Int := if x < y then -1 else if y < x then 1 else 0
set_option maxRecDepth 100000 in
theorem cmp_any (x y : Int) (w : World) : Calls Try.prog 35 #[.int .i64 x, .int .i64 y] w fun e w' => e = .returned (.int .i64 (cpr x y)) ∧ w' = w := by
  have q1 := nan_any x w
  have q2 := nan_any y w
  rcases Int.lt_trichotomy x y with h | h | h
  · have e : cpr x y = -1 := by unfold cpr; rw [if_pos h]
    rw [e]
    go_enter Try.func35, Try.ntmps35
    go_wp2_with (go_at_call 36; (first | refine q1.mono ?_ | refine q2.mono ?_); rintro e w1 ⟨rfl, rfl⟩)
    go_ret
    exact ⟨rfl, rfl⟩
  · subst h
    have e : cpr x x = 0 := by unfold cpr; rw [if_neg (by omega), if_neg (by omega)]
    rw [e]
    go_enter Try.func35, Try.ntmps35
    go_wp2_with (go_at_call 36; refine q1.mono ?_; rintro e w1 ⟨rfl, rfl⟩)
    go_ret
    exact ⟨rfl, rfl⟩
  · have e : cpr x y = 1 := by unfold cpr; rw [if_neg (by omega), if_pos h]
    have h2 : ¬ x < y := by omega
    rw [e]
    go_enter Try.func35, Try.ntmps35
    go_wp2_with (go_at_call 36; (first | refine q1.mono ?_ | refine q2.mono ?_); rintro e w1 ⟨rfl, rfl⟩)
    go_ret
    exact ⟨rfl, rfl⟩

set_option maxHeartbeats 1000000 in
set_option maxRecDepth 100000 in
theorem ahead_any (a b : It) (w : World) : Calls Try.prog 34 #[itV a, itV b] w fun e w' => e = .returned (.bool (decide (a.lt b))) ∧ Tch (fun _ => False) w w' := by
  obtain ⟨w0, hw0⟩ : ∃ w0, w0 = (w.alloc (.cells #[.int .i64 a.r, .int .i64 a.t, .pointer (some ⟨a.p, 0, none⟩)] 72)).alloc (.cells #[.int .i64 b.r, .int .i64 b.t, .pointer (some ⟨b.p, 0, none⟩)] 72) := ⟨_, rfl⟩
  have HT : Hid (Tch (fun _ => False) w w0) := by show Tch _ _ _; rw [hw0]; exact (Tch.alloc _ _ _).allocR _
  have ba : w0.heap[w.heap.size]? = some (.cells #[.int .i64 a.r, .int .i64 a.t, .pointer (some ⟨a.p, 0, none⟩)] 72 (0, 0)) := by
    rw [hw0, (Tch.alloc (fun _ => False) _ _).block _ (by simp) (fun h => h)]; exact alloc_new w _
  have bb : w0.heap[w.heap.size + 1]? = some (.cells #[.int .i64 b.r, .int .i64 b.t, .pointer (some ⟨b.p, 0, none⟩)] 72 (0, 0)) := by
    rw [hw0, ← World.size_alloc]; exact alloc_new _ _
  have a0 : w0.cell? ⟨w.heap.size, 0, none⟩ = some (.int .i64 a.r) := blk_cell ba 0
  have a1 : w0.cell? ⟨w.heap.size, 1, none⟩ = some (.int .i64 a.t) := blk_cell ba 1
  have b0 : w0.cell? ⟨w.heap.size + 1, 0, none⟩ = some (.int .i64 b.r) := blk_cell bb 0
  have b1 : w0.cell? ⟨w.heap.size + 1, 1, none⟩ = some (.int .i64 b.t) := blk_cell bb 1
  have q := cmp_any a.r b.r w0
  unfold itV
  rw [hw0] at a0 a1 b0 b1 q
  have HW : Hid (w0 = _) := hw0
  clear ba bb hw0
  rcases Int.lt_trichotomy a.r b.r with h | h | h
  · have e : cpr a.r b.r = -1 := by unfold cpr; rw [if_pos h]
    have d : decide (a.lt b) = true := by simp [It.lt, h]
    rw [e] at q
    rw [d]
    go_enter Try.func34, Try.ntmps34
    go_wp2_with (go_at_call 35; refine q.mono ?_; rintro e w1 ⟨rfl, rfl⟩)
    go_ret
    exact ⟨rfl, by rw [← HW.out]; exact HT.out⟩
  · have e : cpr a.r b.r = 0 := by unfold cpr; rw [if_neg (by omega), if_neg (by omega)]
    have d : decide (a.lt b) = decide (a.t < b.t) := by simp [It.lt, h]
    rw [e] at q
    rw [d]
    clear d h
    go_enter Try.func34, Try.ntmps34
    go_wp2_with (go_at_call 35; refine q.mono ?_; rintro e w1 ⟨rfl, rfl⟩)
    go_ret
    exact ⟨rfl, by rw [← HW.out]; exact HT.out⟩
  · have e : cpr a.r b.r = 1 := by unfold cpr; rw [if_neg (by omega), if_pos h]
    have d : decide (a.lt b) = false := decide_eq_false (by unfold It.lt; omega)
    rw [e] at q
    rw [d]
    go_enter Try.func34, Try.ntmps34
    go_wp2_with (go_at_call 35; refine q.mono ?_; rintro e w1 ⟨rfl, rfl⟩)
    go_ret
    exact ⟨rfl, by rw [← HW.out]; exact HT.out⟩
end Go.Proofs.Ytmnhkgibplnnnaa
