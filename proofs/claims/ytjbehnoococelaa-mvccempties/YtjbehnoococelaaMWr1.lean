import Derived.Test.YtjbehnoococelaaMWr0
/- lay; what write defers. -/
namespace Go.Proofs.Ytjbehnoococelaa
open Go.RowKit Go Go.Sort Go.Maps

theorem lay_any (w : World) (hb mb tb : Nat) (T : List (Int × Nat)) (E : List En) (C : Nat → Ch) (σ : Nat → Option Nat) (q : Nat) (h : HW w hb mb tb T E C σ q) (hq : q ≤ 1000) (k : Int) (h1 : -9223372036854775808 ≤ k) (h2 : k ≤ 9223372036854775807) (S : ByteArray) (hS : S.size ≤ maxLen) (z : VV) (hz : VOK w σ z) :
    Calls Try.prog 45 #[.pointer (some ⟨hb, 0, none⟩), .int .i64 k, .string S, .agg #[.int .i64 z.1.wr, .bool z.1.th, .slice z.2.1 z.1.n z.2.2]] w fun x w' => LayOut w hb mb tb E C σ q k S z x w' := by
  cases hl : lkT T k with
  | none => exact lay_C w hb mb tb T E C σ q h hq k h1 h2 S hS z hz hl
  | some l =>
    cases he : lkE E k S.data.toList with
    | none => exact lay_B w hb mb tb T E C σ q h hq k h1 h2 S hS z hz l hl he
    | some cb => exact lay_A w hb mb tb T E C σ q h hq k h1 h2 S hS z hz l hl cb he
theorem wdone_d (bd bu : Nat) (u : FrameMode) (w : World) (h : w.cell? ⟨bd, 0, none⟩ = some (.bool true)) :
    CallsD Try.prog 46 #[.pointer (some ⟨bd, 0, none⟩), .pointer (some ⟨bu, 0, none⟩)] u w fun e u' w' => u' = u ∧ e = .returned (.tuple #[]) ∧ w' = w := by
  go_enter_d Try.func46, Try.ntmps46
  go_wp2
  go_end0
  exact ⟨rfl, rfl⟩
/-- The function value of undo, called. -/
theorem wundo_d (bd bu : Nat) (u : FrameMode) (w : World) (R : World → Prop) (h : w.cell? ⟨bd, 0, none⟩ = some (.bool false)) (c1 c2 c3 c4 c5 : Value) (hu : w.cell? ⟨bu, 0, none⟩ = some (.func (.func 57) #[] #[c1, c2, c3, c4, c5]))
    (hc : Calls Try.prog 57 #[c1, c2, c3, c4, c5] w fun x w' => x = .returned (.tuple #[]) ∧ R w') :
    CallsD Try.prog 46 #[.pointer (some ⟨bd, 0, none⟩), .pointer (some ⟨bu, 0, none⟩)] u w fun e u' w' => u' = u ∧ e = .returned (.tuple #[]) ∧ R w' := by
  go_enter_d Try.func46, Try.ntmps46
  go_wp2_with fail
  refine hc.mono ?_
  rintro x w1 ⟨rfl, h1⟩
  go_wp2
  go_end0
  exact ⟨rfl, h1⟩
end Go.Proofs.Ytjbehnoococelaa
