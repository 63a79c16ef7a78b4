import Derived.Test.YtblhmjndegfofaaCSames
/- pick and name, told exactly. -/
namespace Go.Proofs.Ytblhmjndegfofaa
open Go.RowKit Go

def pk (c : Int) (n : Nat) : Nat := (if c < 0 then -(c + 1) else c).toNat % n
theorem pk3_any (c : Int) (h1 : -9223372036854775808 ≤ c) (h2 : c ≤ 9223372036854775807) (w : World) : Calls Try.prog 18 #[.int .i64 c, .int .i64 3] w fun x w' => x = .returned (.int .i64 (pk c 3 : Nat)) ∧ w' = w := by
  by_cases hc : c < 0
  · have e1 : IntKind.i64.wrap (c + 1) = c + 1 := wrap_of (by omega) (by omega)
    have e2 : IntKind.i64.wrap (-(c + 1)) = -(c + 1) := wrap_of (by omega) (by omega)
    obtain ⟨m, hm⟩ : ∃ m : Nat, -(c + 1) = m := ⟨(-(c + 1)).toNat, by omega⟩
    have HP : Hid (pk c 3 = m % 3) := by
      show _ = _
      unfold pk
      rw [if_pos hc, hm]; simp
    go_enter Try.func18, Try.ntmps18
    go_wp2
    go_ret
    refine ⟨?_, rfl⟩
    rw [HP.out]
    simp
  · obtain ⟨m, rfl⟩ : ∃ m : Nat, c = m := ⟨c.toNat, by omega⟩
    have HP : Hid (pk m 3 = m % 3) := by
      show _ = _
      unfold pk
      rw [if_neg hc]; simp
    go_enter Try.func18, Try.ntmps18
    go_wp2
    go_ret
    refine ⟨?_, rfl⟩
    rw [HP.out]
    rfl
theorem pk4_any (c : Int) (h1 : -9223372036854775808 ≤ c) (h2 : c ≤ 9223372036854775807) (w : World) : Calls Try.prog 18 #[.int .i64 c, .int .i64 4] w fun x w' => x = .returned (.int .i64 (pk c 4 : Nat)) ∧ w' = w := by
  by_cases hc : c < 0
  · have e1 : IntKind.i64.wrap (c + 1) = c + 1 := wrap_of (by omega) (by omega)
    have e2 : IntKind.i64.wrap (-(c + 1)) = -(c + 1) := wrap_of (by omega) (by omega)
    obtain ⟨m, hm⟩ : ∃ m : Nat, -(c + 1) = m := ⟨(-(c + 1)).toNat, by omega⟩
    have HP : Hid (pk c 4 = m % 4) := by
      show _ = _
      unfold pk
      rw [if_pos hc, hm]; simp
    go_enter Try.func18, Try.ntmps18
    go_wp2
    go_ret
    refine ⟨?_, rfl⟩
    rw [HP.out]
    simp
  · obtain ⟨m, rfl⟩ : ∃ m : Nat, c = m := ⟨c.toNat, by omega⟩
    have HP : Hid (pk m 4 = m % 4) := by
      show _ = _
      unfold pk
      rw [if_neg hc]; simp
    go_enter Try.func18, Try.ntmps18
    go_wp2
    go_ret
    refine ⟨?_, rfl⟩
    rw [HP.out]
    rfl
theorem pk6_any (c : Int) (h1 : -9223372036854775808 ≤ c) (h2 : c ≤ 9223372036854775807) (w : World) : Calls Try.prog 18 #[.int .i64 c, .int .i64 6] w fun x w' => x = .returned (.int .i64 (pk c 6 : Nat)) ∧ w' = w := by
  by_cases hc : c < 0
  · have e1 : IntKind.i64.wrap (c + 1) = c + 1 := wrap_of (by omega) (by omega)
    have e2 : IntKind.i64.wrap (-(c + 1)) = -(c + 1) := wrap_of (by omega) (by omega)
    obtain ⟨m, hm⟩ : ∃ m : Nat, -(c + 1) = m := ⟨(-(c + 1)).toNat, by omega⟩
    have HP : Hid (pk c 6 = m % 6) := by
      show _ = _
      unfold pk
      rw [if_pos hc, hm]; simp
    go_enter Try.func18, Try.ntmps18
    go_wp2
    go_ret
    refine ⟨?_, rfl⟩
    rw [HP.out]
    simp
  · obtain ⟨m, rfl⟩ : ∃ m : Nat, c = m := ⟨c.toNat, by omega⟩
    have HP : Hid (pk m 6 = m % 6) := by
      show _ = _
      unfold pk
      rw [if_neg hc]; simp
    go_enter Try.func18, Try.ntmps18
    go_wp2
    go_ret
    refine ⟨?_, rfl⟩
    rw [HP.out]
    rfl
theorem nameK_any (c : Int) (h1 : -9223372036854775808 ≤ c) (h2 : c ≤ 9223372036854775807) (w : World) : Calls Try.prog 11 #[.int .i64 c] w fun x w' => x = .returned (.string (nmS (pk c 6))) ∧ Tch (fun _ => False) w w' := by
  obtain ⟨w0, hw0⟩ : ∃ w0, w0 = w.alloc (.cells #[.string ⟨#[97]⟩, .string ⟨#[98]⟩, .string ⟨#[99]⟩, .string ⟨#[100]⟩, .string ⟨#[101]⟩, .string ⟨#[102]⟩] 9) := ⟨_, rfl⟩
  have hb : w0.heap[w.heap.size]? = some (.cells #[.string ⟨#[97]⟩, .string ⟨#[98]⟩, .string ⟨#[99]⟩, .string ⟨#[100]⟩, .string ⟨#[101]⟩, .string ⟨#[102]⟩] 9 (0, 0)) := by rw [hw0]; exact alloc_new _ _
  have hc : ∀ k : Nat, k < 6 → w0.cell? ⟨w.heap.size, k, none⟩ = some (.string (nmS k)) := fun k hk => by
    rw [blk_cell hb]
    rcases (by omega : k = 0 ∨ k = 1 ∨ k = 2 ∨ k = 3 ∨ k = 4 ∨ k = 5) with rfl | rfl | rfl | rfl | rfl | rfl <;> rfl
  have q := pk6_any c h1 h2 w0
  have Hw0 : Hid _ := hw0
  have Hc : Hid _ := hc
  clear hb hw0 hc
  go_enter Try.func11, Try.ntmps11
  go_wp2_with fail
  have hw0 := Hw0.out
  rw [← hw0]
  clear hw0
  refine q.mono ?_
  rintro y w1 ⟨rfl, hw1⟩
  obtain rfl := hw1.symm
  clear hw1 q
  obtain ⟨k, hkk⟩ : ∃ k, k = pk c 6 := ⟨_, rfl⟩
  have hk : k < 6 := by rw [hkk]; unfold pk; omega
  rw [← hkk]
  have c0 := Hc.out k hk
  have Hkk : Hid (k = pk c 6) := hkk
  clear hkk
  have hkI : (k : Int) < 6 := by omega
  clear hk
  have HT : Hid (Tch (fun _ => False) w w0) := by show Tch _ _ _; rw [Hw0.out]; exact Tch.alloc _ _ _
  go_wp2_with fail
  go_ret
  exact ⟨by rw [← Hkk.out]; rfl, HT.out⟩
end Go.Proofs.Ytblhmjndegfofaa
