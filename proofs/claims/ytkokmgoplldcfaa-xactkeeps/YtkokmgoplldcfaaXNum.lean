/- What stands under a number: find, known, isPart, fate, mayGoOn, state, over, transaction. -/
import Derived.Test.YtkokmgoplldcfaaXMem
import Derived.Lib.QuietBelow
namespace Go.Proofs.Ytkokmgoplldcfaa
open Go.RowKit Go Go.Sort

theorem alloc_new (w : World) (o : Obj) : (w.alloc o).heap[w.heap.size]? = some o := by show (w.heap.push o)[w.heap.size]? = _; simp

theorem Calls.tch_regrown_of {P : Program} {f : FuncId} {args : Array Value} {w : World} {d : Nat} {os : Array Obj} {v : Value}
    (h : Calls P f args (grow (redrawn w d) os) fun e w' => e = .returned v ∧ Tch (fun _ => False) (grow (redrawn w d) os) w') : Calls P f args (grow (redrawn w d) os) fun e w'' => e = .returned v ∧ ∃ p : Regrown, w'' = grow (redrawn w p.d) p.os :=
  Calls.regrown_of (h.mono fun _ _ ⟨he, t⟩ => ⟨he, t.below (Nat.le_refl _) (fun _ _ h => h)⟩)
theorem tch_regrown (w : World) (p : Regrown) : Tch (fun _ => False) w (grow (redrawn w p.d) p.os) := Tch.of_below (below_regrown w p.d p.os) (Nat.le_refl _)

theorem known_any (o : Option (Nat × Int)) (w : World) : Calls Try.prog 33 #[numV o] w fun x w' => x = .returned (.bool o.isSome) ∧ Tch (fun _ => False) w w' := by
  cases o with
  | none =>
    simp only [numV, Option.isSome_none]
    go_enter Try.func33, Try.ntmps33
    go_wp2
    go_ret
    exact ⟨rfl, Tch.alloc _ _ _⟩
  | some a =>
    obtain ⟨tb, i⟩ := a
    simp only [numV, Option.isSome_some]
    go_enter Try.func33, Try.ntmps33
    go_wp2
    go_ret
    exact ⟨rfl, Tch.alloc _ _ _⟩

def isP : Option (Nat × Int) → Bool
  | none => false
  | some a => decide (0 ≤ a.2)
theorem isPart_any (o : Option (Nat × Int)) (w : World) : Calls Try.prog 56 #[numV o] w fun x w' => x = .returned (.bool (isP o)) ∧ Tch (fun _ => False) w w' := by
  have q := fun W => known_any o W
  cases o with
  | none =>
    simp only [numV, Option.isSome_none] at q ⊢
    go_enter Try.func56, Try.ntmps56
    go_wp2_with fail
    refine (q _).mono ?_
    rintro x w1 ⟨rfl, t1⟩
    clear q
    have T : Hid (Tch (fun _ => False) w w1) := (Tch.alloc _ _ _).trans' t1
    clear t1
    go_wp2
    go_ret
    exact ⟨rfl, T.out⟩
  | some a =>
    obtain ⟨tb, i⟩ := a
    simp only [numV, Option.isSome_some, isP] at q ⊢
    obtain ⟨w0, hw0⟩ : ∃ w0, w0 = w.alloc (.cells #[.pointer (some ⟨tb, 0, none⟩), .int .i64 i] 72) := ⟨_, rfl⟩
    have hb : w0.heap[w.heap.size]? = some (.cells #[.pointer (some ⟨tb, 0, none⟩), .int .i64 i] 72 (0, 0)) := by rw [hw0]; exact alloc_new _ _
    go_enter Try.func56, Try.ntmps56
    go_wp2_with fail
    rw [← hw0]
    refine (q _).mono ?_
    rintro x w1 ⟨rfl, t1⟩
    clear q
    have T : Hid (Tch (fun _ => False) w w1) := by rw [hw0] at t1; exact (Tch.alloc _ _ _).trans' t1
    have c1 : w1.cell? ⟨w.heap.size, 1, none⟩ = some (.int .i64 i) := by rw [t1.cell (p := ⟨w.heap.size, 1, none⟩) (blk_lt hb) (fun h => h), blk_cell hb]; rfl
    clear t1 hb hw0
    go_wp2
    go_ret
    exact ⟨rfl, T.out⟩

theorem XB.c {w : World} {σ : Nat → Option Nat} {tb : Nat} {t : Tx} (h : XB w σ tb t) : ∃ v, w.cell? ⟨tb, 0, none⟩ = some (.int .i64 t.x) ∧ w.cell? ⟨tb, 1, none⟩ = some (.int .i64 t.st) ∧ w.cell? ⟨tb, 2, none⟩ = some v ∧ w.ownsRow 0 93 3 v t.ps.length (pcl t.ps) := by
  obtain ⟨v, h1, h2, _⟩ := h.blk
  exact ⟨v, by rw [blk_cell h1]; rfl, by rw [blk_cell h1]; rfl, by rw [blk_cell h1]; rfl, h2⟩
/-- A part's cells. -/
theorem XB.part {w : World} {σ : Nat → Option Nat} {tb : Nat} {t : Tx} (h : XB w σ tb t) {k : Nat} {p : Pt} (hk : t.ps[k]? = some p) : ∃ g cap, w.cell? ⟨tb, 2, none⟩ = some (.slice (some ⟨g, 0, none⟩) t.ps.length cap) ∧ w.cell? ⟨g, k * 3, none⟩ = some (.int .i64 p.x) ∧ w.cell? ⟨g, k * 3 + 1, none⟩ = some (.int .i64 p.ar) ∧ w.cell? ⟨g, k * 3 + 2, none⟩ = some (.int .i64 p.ft) := by
  obtain ⟨v, _, _, c2, hv⟩ := h.c
  have hlt := (List.getElem?_eq_some_iff.1 hk).1
  rcases hv.2 with ⟨rfl, h0⟩ | ⟨g, cap, cur, rfl, _, hg, _, _, hs, ht⟩
  · omega
  · have hc : ∀ j u, (pcl t.ps)[j]? = some u → w.cell? ⟨g, j, none⟩ = some u := fun j u hu => by
      rw [blk_cell hg, ← Array.getElem?_toList]
      rw [← ht, List.getElem?_take] at hu
      split at hu
      · exact hu
      · cases hu
    obtain ⟨q0, q1, q2⟩ := pcl_get t.ps k p hk
    exact ⟨g, cap, c2, hc _ _ q0, hc _ _ q1, hc _ _ q2⟩

theorem fate_any (σ : Nat → Option Nat) (tb : Nat) (t : Tx) (i : Int) (w : World) (h : XB w σ tb t) (hi : i = -1 ∨ ∃ k : Nat, i = k ∧ k < t.ps.length) (_h64 : t.ps.length ≤ 64) :
    Calls Try.prog 57 #[numV (some (tb, i))] w fun x w' => x = .returned (.int .i64 (fate t i)) ∧ Tch (fun _ => False) w w' := by
  obtain ⟨w0, hw0⟩ : ∃ w0, w0 = w.alloc (.cells #[.pointer (some ⟨tb, 0, none⟩), .int .i64 i] 72) := ⟨_, rfl⟩
  have hb : w0.heap[w.heap.size]? = some (.cells #[.pointer (some ⟨tb, 0, none⟩), .int .i64 i] 72 (0, 0)) := by rw [hw0]; exact alloc_new _ _
  have q := isPart_any (some (tb, i)) w0
  have t0 : Tch (fun _ => False) w w0 := by rw [hw0]; exact Tch.alloc _ _ _
  simp only [numV, isP] at q ⊢
  rcases hi with rfl | ⟨k, rfl, hk⟩
  · have HF : Hid (fate t (-1) = 0) := rfl
    have e : decide (0 ≤ (-1 : Int)) = false := rfl
    rw [e] at q
    go_enter Try.func57, Try.ntmps57
    go_wp2_with fail
    rw [← hw0]
    refine q.mono ?_
    rintro x w1 ⟨rfl, t1⟩
    clear q hw0 hb
    have T : Hid (Tch (fun _ => False) w w1) := t0.trans' t1
    clear t1 t0
    go_wp2
    go_ret
    exact ⟨by rw [HF.out]; rfl, T.out⟩
  · have e : decide (0 ≤ (k : Int)) = true := by simp
    obtain ⟨p, hp⟩ : ∃ p, t.ps[k]? = some p := ⟨_, List.getElem?_eq_getElem hk⟩
    have HF : Hid (fate t k = p.ft) := by show _ = _; simp [fate, hp]
    rw [e] at q
    go_enter Try.func57, Try.ntmps57
    go_wp2_with fail
    rw [← hw0]
    refine q.mono ?_
    rintro x w1 ⟨rfl, t1⟩
    have T := t0.trans' t1
    have c0 : w1.cell? ⟨w.heap.size, 0, none⟩ = some (.pointer (some ⟨tb, 0, none⟩)) := by rw [t1.cell (p := ⟨w.heap.size, 0, none⟩) (blk_lt hb) (fun h => h), blk_cell hb]; rfl
    have c1 : w1.cell? ⟨w.heap.size, 1, none⟩ = some (.int .i64 k) := by rw [t1.cell (p := ⟨w.heap.size, 1, none⟩) (blk_lt hb) (fun h => h), blk_cell hb]; rfl
    obtain ⟨g, cap, d2, _, _, d5⟩ := (h.tch T (fun _ _ h => h.elim) (fun _ _ h => h)).part hp
    have HT : Hid (Tch (fun _ => False) w w1) := T
    obtain ⟨n, hn⟩ : ∃ n, n = t.ps.length := ⟨_, rfl⟩
    rw [← hn] at d2 hk
    have hkI : (k : Int) < n := by omega
    clear q hw0 hb t1 t0 T h hp hn
    go_wp2_with fail
    go_region
    go_wp2
    go_ret
    exact ⟨by rw [HF.out]; rfl, HT.out.drew⟩
end Go.Proofs.Ytkokmgoplldcfaa
