/- What stands under a number: mayGoOn, state, over, find, transaction. -/
import Derived.Test.YtkokmgoplldcfaaXNum
namespace Go.Proofs.Ytkokmgoplldcfaa
open Go.RowKit Go Go.Sort

def may (t : Tx) (i : Int) : Bool := decide (t.st = 1) && decide (fate t i = 0)
theorem fate_le {t : Tx} (h : ∀ (i : Nat) p, t.ps[i]? = some p → p.ft ≤ 2) (i : Int) : fate t i ≤ 2 := by
  unfold fate
  split
  · split
    · exact h _ _ (by assumption)
    · omega
  · omega

theorem mayGoOn_any (σ : Nat → Option Nat) (tb : Nat) (t : Tx) (i : Int) (w : World) (h : XB w σ tb t) (hi : i = -1 ∨ ∃ k : Nat, i = k ∧ k < t.ps.length) (h64 : t.ps.length ≤ 64) (hst : t.st ≤ 4) :
    Calls Try.prog 34 #[numV (some (tb, i))] w fun x w' => x = .returned (.bool (may t i)) ∧ Tch (fun _ => False) w w' := by
  obtain ⟨w0, hw0⟩ : ∃ w0, w0 = w.alloc (.cells #[.pointer (some ⟨tb, 0, none⟩), .int .i64 i] 72) := ⟨_, rfl⟩
  have hb : w0.heap[w.heap.size]? = some (.cells #[.pointer (some ⟨tb, 0, none⟩), .int .i64 i] 72 (0, 0)) := by rw [hw0]; exact alloc_new _ _
  have t0 : Tch (fun _ => False) w w0 := by rw [hw0]; exact Tch.alloc _ _ _
  have h0 := h.tch t0 (fun _ _ h => h.elim) (fun _ _ h => h)
  have q := fate_any σ tb t i w0 h0 hi h64
  obtain ⟨v, _, c1, _, _⟩ := h0.c
  have b0 : w0.cell? ⟨w.heap.size, 0, none⟩ = some (.pointer (some ⟨tb, 0, none⟩)) := by rw [blk_cell hb]; rfl
  have b1 : w0.cell? ⟨w.heap.size, 1, none⟩ = some (.int .i64 i) := by rw [blk_cell hb]; rfl
  obtain ⟨f, hf⟩ : ∃ f, f = fate t i := ⟨_, rfl⟩
  obtain ⟨s, hs⟩ : ∃ s, s = t.st := ⟨_, rfl⟩
  have HM : Hid (may t i = (decide (s = 1) && decide (f = 0))) := by show _ = _; rw [hs, hf]; rfl
  have HT : Hid (Tch (fun _ => False) w w0) := t0
  rw [← hf] at q
  rw [← hs] at c1 hst
  simp only [numV] at q ⊢
  clear hf hs t0 h h0 hi h64 hb
  by_cases h1 : s = 1
  · subst h1
    have c1' : w0.cell? ⟨tb, 1, none⟩ = some (.int .i64 1) := c1
    clear c1
    rw [hw0] at c1' b0 b1
    go_enter Try.func34, Try.ntmps34
    go_wp2_with fail
    rw [← hw0]
    refine q.mono ?_
    rintro x w1 ⟨rfl, t1⟩
    clear q
    have T : Hid (Tch (fun _ => False) w w1) := HT.out.trans' t1
    clear t1 c1' b0 b1 hw0
    by_cases hf0 : f = 0
    · subst hf0
      go_wp2
      go_ret
      exact ⟨by rw [HM.out]; rfl, T.out⟩
    · have hf1 : ((f : Int) == 0) = false := by simp; omega
      have hfI : ¬ (f : Int) = 0 := by omega
      go_wp2
      go_ret
      exact ⟨by rw [HM.out]; simp [hf0], T.out⟩
  · have hs1 : ((s : Int) == 1) = false := by simp; omega
    have hsI : ¬ (s : Int) = 1 := by omega
    rw [hw0] at c1 b0 b1
    go_enter Try.func34, Try.ntmps34
    go_wp2
    go_ret
    refine ⟨by rw [HM.out]; simp [h1], ?_⟩
    exact Tch.alloc _ _ _

theorem state_some (σ : Nat → Option Nat) (tb : Nat) (t : Tx) (i : Int) (w : World) (h : XB w σ tb t) (hi : i = -1 ∨ ∃ k : Nat, i = k ∧ k < t.ps.length) (h64 : t.ps.length ≤ 64) :
    Calls Try.prog 38 #[numV (some (tb, i))] w fun x w' => x = .returned (.int .i64 (stE (some (t, i)))) ∧ Tch (fun _ => False) w w' := by
  obtain ⟨w0, hw0⟩ : ∃ w0, w0 = w.alloc (.cells #[.pointer (some ⟨tb, 0, none⟩), .int .i64 i] 72) := ⟨_, rfl⟩
  have hb : w0.heap[w.heap.size]? = some (.cells #[.pointer (some ⟨tb, 0, none⟩), .int .i64 i] 72 (0, 0)) := by rw [hw0]; exact alloc_new _ _
  have t0 : Tch (fun _ => False) w w0 := by rw [hw0]; exact Tch.alloc _ _ _
  have q0 := known_any (some (tb, i)) w0
  have q := fun W (hW : Tch (fun _ => False) w W) => fate_any σ tb t i W (h.tch hW (fun _ _ h => h.elim) (fun _ _ h => h)) hi h64
  obtain ⟨f, hf⟩ : ∃ f, f = fate t i := ⟨_, rfl⟩
  obtain ⟨s, hs⟩ : ∃ s, s = t.st := ⟨_, rfl⟩
  have HM : Hid (stE (some (t, i)) = if f = 2 then 4 else s) := by show _ = _; rw [hs, hf]; rfl
  rw [← hf] at q
  simp only [numV, Option.isSome_some] at q q0 ⊢
  clear hf
  go_enter Try.func38, Try.ntmps38
  go_wp2_with fail
  rw [← hw0]
  clear hw0
  refine q0.mono ?_
  rintro x w1 ⟨rfl, t1⟩
  clear q0
  have b0 : w1.cell? ⟨w.heap.size, 0, none⟩ = some (.pointer (some ⟨tb, 0, none⟩)) := by rw [t1.cell (p := ⟨w.heap.size, 0, none⟩) (blk_lt hb) (fun h => h), blk_cell hb]; rfl
  have b1 : w1.cell? ⟨w.heap.size, 1, none⟩ = some (.int .i64 i) := by rw [t1.cell (p := ⟨w.heap.size, 1, none⟩) (blk_lt hb) (fun h => h), blk_cell hb]; rfl
  have T : Tch (fun _ => False) w w1 := t0.trans' t1
  have Q := q w1 T
  have HT : Hid (Tch (fun _ => False) w w1) := T
  have Hh : Hid (XB w σ tb t) := h
  have Hs : Hid (s = t.st) := hs
  clear q T t0 t1 hi h64 hb h hs
  go_wp2_with fail
  refine Q.mono ?_
  rintro x w2 ⟨rfl, t2⟩
  clear Q
  have T := HT.out.trans' t2
  obtain ⟨v, _, c1, _, _⟩ := (Hh.out.tch T (fun _ _ h => h.elim) (fun _ _ h => h)).c
  rw [← Hs.out] at c1
  have b0' : w2.cell? ⟨w.heap.size, 0, none⟩ = some (.pointer (some ⟨tb, 0, none⟩)) := by rw [t2.cell (p := ⟨w.heap.size, 0, none⟩) (cell_lt b0) (fun h => h)]; exact b0
  have HT2 : Hid (Tch (fun _ => False) w w2) := T
  clear T t2 b0 b1 HT
  by_cases hf0 : f = 2
  · subst hf0
    go_wp2
    go_ret
    exact ⟨by rw [HM.out]; rfl, HT2.out⟩
  · have hf1 : ((f : Int) == 2) = false := by simp; omega
    have hfI : ¬ (f : Int) = 2 := by omega
    go_wp2
    go_ret
    exact ⟨by rw [HM.out, if_neg hf0]; rfl, HT2.out⟩
theorem state_none (w : World) : Calls Try.prog 38 #[numV none] w fun x w' => x = .returned (.int .i64 0) ∧ Tch (fun _ => False) w w' := by
  have q0 := fun W => known_any none W
  simp only [numV, Option.isSome_none] at q0 ⊢
  go_enter Try.func38, Try.ntmps38
  go_wp2_with fail
  refine (q0 _).mono ?_
  rintro x w1 ⟨rfl, t1⟩
  clear q0
  have T : Hid (Tch (fun _ => False) w w1) := (Tch.alloc _ _ _).trans' t1
  clear t1
  go_wp2
  go_ret
  exact ⟨rfl, T.out⟩

theorem over_any (σ : Nat → Option Nat) (tb : Nat) (t : Tx) (w : World) (h : XB w σ tb t) : Calls Try.prog 61 #[.pointer (some ⟨tb, 0, none⟩)] w fun x w' => x = .returned (.bool (decide (3 ≤ t.st))) ∧ w' = w := by
  obtain ⟨v, _, c1, _, _⟩ := h.c
  go_enter Try.func61, Try.ntmps61
  go_wp2
  go_ret
  refine ⟨?_, rfl⟩
  have e : decide ((3 : Int) ≤ (t.st : Int)) = decide (3 ≤ t.st) := decide_eq_decide.2 (by omega)
  rw [← e]; rfl

set_option maxRecDepth 100000 in
theorem find_any (b : Nat) (m : Mg) (σ : Nat → Option Nat) (mb : Nat) (bl : Nat → Nat) (k : Int) (w : World) (h : MG w b m σ mb bl) (h1 : -9223372036854775808 ≤ k) (h2 : k ≤ 9223372036854775807) :
    Calls Try.prog 32 #[.map (some mb), .int .i64 k] w fun x w' => x = .returned (numV (lkB bl m.tx k)) ∧ Tch (fun _ => False) w w' := by
  obtain ⟨w0, hw0⟩ : ∃ w0, w0 = w.alloc (.cells #[.pointer none, .int .i64 0] 72) := ⟨_, rfl⟩
  have t0 : Tch (fun _ => False) w w0 := by rw [hw0]; exact Tch.alloc _ _ _
  have hl := (h.no t0).look h1 h2
  obtain ⟨p, i, hpi⟩ : ∃ p i, numV (lkB bl m.tx k) = .agg #[.pointer p, .int .i64 i] := by
    cases lkB bl m.tx k with
    | none => exact ⟨_, _, rfl⟩
    | some a => exact ⟨_, _, rfl⟩
  rw [hpi] at hl ⊢
  clear t0 hpi h
  rw [hw0] at hl
  have hrs : Try.f32.results = #[.cell 4 72] := by kernel_rfl
  go_enter Try.func32, Try.ntmps32
  go_wp2_with fail
  refine bodyPost_ret (v := .agg #[.pointer p, .int .i64 i]) (by simp only [results, hrs]; go_simp) rfl ⟨rfl, Tch.alloc _ _ _⟩
end Go.Proofs.Ytkokmgoplldcfaa
