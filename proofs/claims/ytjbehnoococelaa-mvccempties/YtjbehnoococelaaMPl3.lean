import Derived.Test.YtjbehnoococelaaMPl2
/- stands, ongoing, seenBy; newest. -/
namespace Go.Proofs.Ytjbehnoococelaa
open Go.RowKit Go Go.Sort

section
variable (hb mb : Nat) (m : Mg) (w : World) (F : Nat → Prop) (hM : MF w mb m F) (c0 : w.cell? ⟨hb, 0, none⟩ = some (.pointer (some ⟨mb, 0, none⟩)))
variable (wr : Int) (h1 : -9223372036854775808 ≤ wr) (h2 : wr ≤ 9223372036854775807) (th : Bool) (ao : Option Addr) (n cap : Nat)
include hM c0 h1 h2
theorem stands_any : Calls Try.prog 47 #[.pointer (some ⟨hb, 0, none⟩), .agg #[.int .i64 wr, .bool th, .slice ao n cap]] w fun x w' => x = .returned (.bool ((m.state wr : Int) != 4)) ∧ Tch (fun _ => False) w w' := by
  obtain ⟨w0, hw0⟩ : ∃ w0, w0 = w.alloc (.cells #[.int .i64 wr, .bool th, .slice ao n cap] 84) := ⟨_, rfl⟩
  have t0 : Tch (fun _ => False) w w0 := by rw [hw0]; exact Tch.alloc _ _ _
  have b0 : w0.heap[w.heap.size]? = some (.cells #[.int .i64 wr, .bool th, .slice ao n cap] 84 (0, 0)) := by rw [hw0]; exact alloc_new _ _
  have d0 : w0.cell? ⟨w.heap.size, 0, none⟩ = some (.int .i64 wr) := by rw [blk_cell b0]; rfl
  have e0 : w0.cell? ⟨hb, 0, none⟩ = some (.pointer (some ⟨mb, 0, none⟩)) := by rw [t0.cell (p := ⟨hb, 0, none⟩) (cell_lt c0) (fun h => h)]; exact c0
  have cS : ∀ d os, Calls Try.prog 44 #[.pointer (some ⟨mb, 0, none⟩), .int .i64 wr] (grow (redrawn w0 d) os) fun e w'' => e = .returned (.int .i64 (m.state wr)) ∧ ∃ p : Regrown, w'' = grow (redrawn w0 p.d) p.os := fun d os => Calls.tch_regrown_of (state_f mb m _ F (hM.no (t0.trans' (tch_regrown w0 ⟨d, os⟩))) wr h1 h2)
  obtain ⟨st, hst⟩ : ∃ st, st = m.state wr := ⟨_, rfl⟩
  rw [← hst] at cS ⊢
  have Hw0 : Hid _ := hw0
  have HT : Hid (∀ p : Regrown, Tch (fun _ => False) w (grow (redrawn w0 p.d) p.os)) := fun p => t0.trans' (tch_regrown w0 p)
  have d0' := cell_regrown d0
  have e0' := cell_regrown e0
  clear hst hM c0 b0 hw0 t0 h1 h2 d0 e0
  go_enter Try.func47, Try.ntmps47
  go_wp2_with fail
  have hw0 := Hw0.out
  rw [← hw0]
  clear hw0
  refine wp_region_quiet_below (by kernel_rfl) (by kernel_rfl) ?_
  repeat (go_big_quiet_step ((go_at_call 44; exact cS _ _)))
  refine wpQuiet_nil ?_
  rintro w1 ⟨pp, rfl⟩
  have T := HT.out pp
  go_wp2_with fail
  go_ret
  exact ⟨rfl, T⟩
theorem ongoing_any : Calls Try.prog 32 #[.pointer (some ⟨hb, 0, none⟩), .agg #[.int .i64 wr, .bool th, .slice ao n cap]] w fun x w' => x = .returned (.bool (decide (m.state wr = 1 ∨ m.state wr = 2))) ∧ Tch (fun _ => False) w w' := by
  obtain ⟨w0, hw0⟩ : ∃ w0, w0 = w.alloc (.cells #[.int .i64 wr, .bool th, .slice ao n cap] 84) := ⟨_, rfl⟩
  have t0 : Tch (fun _ => False) w w0 := by rw [hw0]; exact Tch.alloc _ _ _
  have b0 : w0.heap[w.heap.size]? = some (.cells #[.int .i64 wr, .bool th, .slice ao n cap] 84 (0, 0)) := by rw [hw0]; exact alloc_new _ _
  have d0 : w0.cell? ⟨w.heap.size, 0, none⟩ = some (.int .i64 wr) := by rw [blk_cell b0]; rfl
  have e0 : w0.cell? ⟨hb, 0, none⟩ = some (.pointer (some ⟨mb, 0, none⟩)) := by rw [t0.cell (p := ⟨hb, 0, none⟩) (cell_lt c0) (fun h => h)]; exact c0
  have cS : ∀ d os, Calls Try.prog 44 #[.pointer (some ⟨mb, 0, none⟩), .int .i64 wr] (grow (redrawn w0 d) os) fun e w'' => e = .returned (.int .i64 (m.state wr)) ∧ ∃ p : Regrown, w'' = grow (redrawn w0 p.d) p.os := fun d os => Calls.tch_regrown_of (state_f mb m _ F (hM.no (t0.trans' (tch_regrown w0 ⟨d, os⟩))) wr h1 h2)
  obtain ⟨st, hst⟩ : ∃ st, st = m.state wr := ⟨_, rfl⟩
  rw [← hst] at cS ⊢
  have Hw0 : Hid _ := hw0
  have HT : Hid (∀ p : Regrown, Tch (fun _ => False) w (grow (redrawn w0 p.d) p.os)) := fun p => t0.trans' (tch_regrown w0 p)
  have d0' := cell_regrown d0
  have e0' := cell_regrown e0
  clear hst hM c0 b0 hw0 t0 h1 h2 d0 e0
  by_cases h4 : st = 1
  · subst h4
    go_enter Try.func32, Try.ntmps32
    go_wp2_with fail
    have hw0 := Hw0.out
    rw [← hw0]
    clear hw0
    refine wp_region_quiet_below (by kernel_rfl) (by kernel_rfl) ?_
    repeat (go_big_quiet_step ((go_at_call 44; exact cS _ _)))
    refine wpQuiet_nil ?_
    rintro w1 ⟨pp, rfl⟩
    have T := HT.out pp
    go_wp2_with fail
    go_ret
    exact ⟨rfl, T⟩
  · have h4' : ¬ (st : Int) = 1 := by omega
    have h5' : ((st : Int) == 1) = false := by simpa using h4'
    have HD : Hid (decide (st = 1 ∨ st = 2) = ((st : Int) == 2)) := by
      show _ = _
      rw [Bool.eq_iff_iff]; simp; omega
    go_enter Try.func32, Try.ntmps32
    go_wp2_with fail
    have hw0 := Hw0.out
    rw [← hw0]
    clear hw0
    refine wp_region_quiet_below (by kernel_rfl) (by kernel_rfl) ?_
    repeat (go_big_quiet_step ((go_at_call 44; exact cS _ _)))
    refine wpQuiet_nil ?_
    rintro w1 ⟨pp, rfl⟩
    have T := HT.out pp
    go_wp2_with fail
    go_ret
    exact ⟨by rw [HD.out]; rfl, T⟩
end
/-- A snapshot that lies somewhere for reading, in boxes: the heap, the snapshot, the number. -/
structure SB (w : World) (hb bh bs bx : Nat) (mn mx : Int) (l : List Int) (so : Option Addr) (sc : Nat) (own : Int) : Prop where
  h : w.heap[bh]? = some (.cells #[.pointer (some ⟨hb, 0, none⟩)] 29 (0, 0))
  s : w.heap[bs]? = some (.cells #[.int .i64 mn, .int .i64 mx, .slice so l.length sc] 27 (0, 0))
  x : w.heap[bx]? = some (.cells #[.int .i64 own] 3 (0, 0))
  ir : IR w so l
theorem SB.no {w w' : World} {hb bh bs bx : Nat} {mn mx : Int} {l : List Int} {so : Option Addr} {sc : Nat} {own : Int} (k : SB w hb bh bs bx mn mx l so sc own) (t : Tch (fun _ => False) w w') : SB w' hb bh bs bx mn mx l so sc own :=
  ⟨by rw [t.block bh (blk_lt k.h) (fun h => h)]; exact k.h, by rw [t.block bs (blk_lt k.s) (fun h => h)]; exact k.s, by rw [t.block bx (blk_lt k.x) (fun h => h)]; exact k.x, k.ir.no t⟩
theorem seen1_any (hb mb : Nat) (m : Mg) (w : World) (F : Nat → Prop) (hM : MF w mb m F) (c0 : w.cell? ⟨hb, 0, none⟩ = some (.pointer (some ⟨mb, 0, none⟩))) (wr : Int) (h1 : -9223372036854775808 ≤ wr) (h2 : wr ≤ 9223372036854775807) (th : Bool) (ao : Option Addr) (n cap : Nat) (bh bs bx : Nat) (mn mx : Int) (l : List Int) (so : Option Addr) (sc : Nat) (own : Int) (h3 : -9223372036854775808 ≤ own) (h4 : own ≤ 9223372036854775807) (hl : l.length ≤ 9223372036854775807) (k : SB w hb bh bs bx mn mx l so sc own) :
    Calls Try.prog 48 #[.agg #[.int .i64 wr, .bool th, .slice ao n cap], .pointer (some ⟨bh, 0, none⟩), .pointer (some ⟨bs, 0, none⟩), .pointer (some ⟨bx, 0, none⟩)] w fun x w' => x = .returned (.bool (m.sees mn mx l own wr)) ∧ Tch (fun _ => False) w w' := by
  obtain ⟨w0, hw0⟩ : ∃ w0, w0 = w.alloc (.cells #[.int .i64 wr, .bool th, .slice ao n cap] 84) := ⟨_, rfl⟩
  have t0 : Tch (fun _ => False) w w0 := by rw [hw0]; exact Tch.alloc _ _ _
  have b0 : w0.heap[w.heap.size]? = some (.cells #[.int .i64 wr, .bool th, .slice ao n cap] 84 (0, 0)) := by rw [hw0]; exact alloc_new _ _
  have d0 : w0.cell? ⟨w.heap.size, 0, none⟩ = some (.int .i64 wr) := by rw [blk_cell b0]; rfl
  have e0 : w0.cell? ⟨hb, 0, none⟩ = some (.pointer (some ⟨mb, 0, none⟩)) := by rw [t0.cell (p := ⟨hb, 0, none⟩) (cell_lt c0) (fun h => h)]; exact c0
  have k0 := k.no t0
  have g0 : w0.cell? ⟨bh, 0, none⟩ = some (.pointer (some ⟨hb, 0, none⟩)) := by rw [blk_cell k0.h]; rfl
  have g1 : w0.cell? ⟨bs, 0, none⟩ = some (.int .i64 mn) := by rw [blk_cell k0.s]; rfl
  have g2 : w0.cell? ⟨bs, 1, none⟩ = some (.int .i64 mx) := by rw [blk_cell k0.s]; rfl
  have g3 : w0.cell? ⟨bs, 2, none⟩ = some (.slice so l.length sc) := by rw [blk_cell k0.s]; rfl
  have g4 : w0.cell? ⟨bx, 0, none⟩ = some (.int .i64 own) := by rw [blk_cell k0.x]; rfl
  have cS : ∀ d os, Calls Try.prog 49 #[.pointer (some ⟨mb, 0, none⟩), .agg #[.int .i64 mn, .int .i64 mx, .slice so l.length sc], .int .i64 own, .int .i64 wr] (grow (redrawn w0 d) os) fun e w'' => e = .returned (.bool (m.sees mn mx l own wr)) ∧ ∃ p : Regrown, w'' = grow (redrawn w0 p.d) p.os := fun d os => Calls.tch_regrown_of (sees_f mb m _ F (hM.no (t0.trans' (tch_regrown w0 ⟨d, os⟩))) mn mx l so sc hl (k0.ir.no (tch_regrown w0 ⟨d, os⟩)) own wr h1 h2 h3 h4)
  obtain ⟨sv, hsv⟩ : ∃ sv, sv = m.sees mn mx l own wr := ⟨_, rfl⟩
  rw [← hsv] at cS ⊢
  obtain ⟨ln, hln⟩ : ∃ ln, ln = l.length := ⟨_, rfl⟩
  rw [← hln] at cS g3
  have Hw0 : Hid _ := hw0
  have HT : Hid (∀ p : Regrown, Tch (fun _ => False) w (grow (redrawn w0 p.d) p.os)) := fun p => t0.trans' (tch_regrown w0 p)
  have d0' := cell_regrown d0
  have e0' := cell_regrown e0
  have g0' := cell_regrown g0
  have g1' := cell_regrown g1
  have g2' := cell_regrown g2
  have g3' := cell_regrown g3
  have g4' := cell_regrown g4
  clear hsv hln hM c0 b0 hw0 t0 h1 h2 h3 h4 hl d0 e0 g0 g1 g2 g3 g4 k k0
  go_enter Try.func48, Try.ntmps48
  go_wp2_with fail
  have hw0 := Hw0.out
  rw [← hw0]
  clear hw0
  refine wp_region_quiet_below (by kernel_rfl) (by kernel_rfl) ?_
  repeat (go_big_quiet_step ((go_at_call 49; exact cS _ _)))
  refine wpQuiet_nil ?_
  rintro w1 ⟨pp, rfl⟩
  have T := HT.out pp
  go_wp2_with fail
  go_ret
  exact ⟨rfl, T⟩
theorem seenBy_any (hb : Nat) (mn mx : Int) (so : Option Addr) (ln sc : Nat) (own : Int) (w : World) :
    Calls Try.prog 35 #[.pointer (some ⟨hb, 0, none⟩), .agg #[.int .i64 mn, .int .i64 mx, .slice so ln sc], .int .i64 own] w fun x w' => x = .returned (.func (.func 48) #[] #[.pointer (some ⟨w.heap.size, 0, none⟩), .pointer (some ⟨w.heap.size + 1, 0, none⟩), .pointer (some ⟨w.heap.size + 1 + 1, 0, none⟩)]) ∧
      w' = ((w.alloc (.cells #[.pointer (some ⟨hb, 0, none⟩)] 29)).alloc (.cells #[.int .i64 mn, .int .i64 mx, .slice so ln sc] 27)).alloc (.cells #[.int .i64 own] 3) := by
  have hmf : ∀ (fn : Fn) (first cap : Array Value) (w : World), (Instr.makeFunc fn first cap).run Try.prog w = .ok (.func fn first cap) w := fun _ _ _ _ => rfl
  go_enter Try.func35, Try.ntmps35
  go_wp2
  go_ret
  exact ⟨rfl, rfl⟩
end Go.Proofs.Ytjbehnoococelaa
