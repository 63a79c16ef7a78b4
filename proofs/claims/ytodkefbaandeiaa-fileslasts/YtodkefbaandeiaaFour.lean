/- pick, file, four of the statements' package. -/
import Derived.Test.YtodkefbaandeiaaFace
namespace Go.Proofs.Ytodkefbaandeiaa
open Go.RowKit Go.ChangeMaps

/-- What pick picks. -/
def pk (c n : Int) : Int := (if c < 0 then -(c + 1) else c) % n
theorem pick_any (c n : Int) (w : World) (h1 : -9223372036854775808 ≤ c) (h2 : c ≤ 9223372036854775807) (hn : 0 < n) (hn2 : n ≤ 9223372036854775807) :
    Calls Try.prog 8 #[.int .i64 c, .int .i64 n] w fun x w' => x = .returned (.int .i64 (pk c n)) ∧ w' = w := by
  have hnz : (n == 0) = false := by simp; omega
  by_cases h0 : c < 0
  · have hp : 0 ≤ -(c + 1) := by omega
    have HU : Hid (-((c + 1).tmod n) = pk c n) := by show _ = _; unfold pk; rw [if_pos h0, ← Int.neg_tmod, Int.tmod_eq_emod_of_nonneg hp]
    go_enter Try.func8, Try.ntmps8
    go_wp2
    go_ret
    exact ⟨ret_int HU.out, rfl⟩
  · have HU : Hid (c % n = pk c n) := by show _ = _; unfold pk; rw [if_neg h0]
    have hp : 0 ≤ c := by omega
    go_enter Try.func8, Try.ntmps8
    go_wp2
    go_ret
    exact ⟨ret_int HU.out, rfl⟩
theorem pk_rng (c n : Int) (hn : 0 < n) : 0 ≤ pk c n ∧ pk c n < n := by
  unfold pk; exact ⟨Int.emod_nonneg _ (by omega), Int.emod_lt_of_pos _ hn⟩

/-- The four names. -/
def fileB (k : Int) : ByteArray := if k = 0 then ⟨#[97]⟩ else if k = 1 then ⟨#[98, 46, 49]⟩ else if k = 2 then ⟨#[99, 95, 50]⟩ else ⟨#[100, 45, 51]⟩
theorem file_any (n : Int) (w : World) (h1 : -9223372036854775808 ≤ n) (h2 : n ≤ 9223372036854775807) :
    Calls Try.prog 23 #[.int .i64 n] w fun x w' => x = .returned (.string (fileB (pk n 4))) ∧ Tch (fun _ => False) w w' := by
  have hr := pk_rng n 4 (by omega)
  have hp := fun (W : World) => pick_any n 4 W h1 h2 (by omega) (by omega)
  obtain ⟨k, hk⟩ : ∃ k, k = pk n 4 := ⟨_, rfl⟩
  rw [← hk] at hr hp ⊢
  clear hk
  have hk4 : k = 0 ∨ k = 1 ∨ k = 2 ∨ k = 3 := by omega
  clear hr
  rcases hk4 with rfl | rfl | rfl | rfl
  all_goals
    go_enter Try.func23, Try.ntmps23
    go_wp2_with (go_at_call 8; refine (hp _).mono ?_; rintro x w1 ⟨rfl, rfl⟩)
    go_ret
    exact ⟨rfl, Tch.alloc _ _ _⟩

def fourD : Nat → Dsk
  | 0 => newD 100000
  | k + 1 => ((fourD k).create (fileB k).data.toList).2
theorem fourD_ok {k : Nat} (hk : k < 4) : ((fourD k).create (fileB k).data.toList).1 = 0 ∧ (fourD k).m.length < maxLen := by
  have : k = 0 ∨ k = 1 ∨ k = 2 ∨ k = 3 := by omega
  rcases this with rfl | rfl | rfl | rfl <;> exact ⟨by decide, by decide⟩
theorem pk_small {k n : Nat} (hk : k < n) : pk (k : Int) n = k := by
  unfold pk
  rw [if_neg (by omega)]
  exact Int.emod_eq_of_lt (by omega) (by omega)

set_option maxHeartbeats 1000000 in
set_option maxRecDepth 100000 in
theorem four_any (w : World) :
    Calls Try.prog 7 #[] w fun x w' => ∃ b, x = .returned (.pointer (some ⟨b, 0, none⟩)) ∧ DF w' b (fourD 4) (fun i => i < w.heap.size) ∧ Tch (fun _ => False) w w' := by
  have hn := new_any 100000 w (by omega) (by omega)
  go_enter Try.func7, Try.ntmps7
  go_wp2_with fail
  refine hn.mono ?_
  rintro x w1 ⟨b, rfl, h1, t1⟩
  clear hn
  go_wp2_with fail
  go_loopw [3] (fun i wr => ∃ k : Nat, i = .int .i64 k ∧ k ≤ 4 ∧ DF wr b (fourD k) (fun i => i < w.heap.size) ∧ Tch (fun _ => False) w wr) (fun i _ => 4 - (intOf i).toNat)
  case atStart => exact ⟨0, rfl, by omega, h1, t1⟩
  case round =>
    obtain ⟨k, rfl, hk, hD, hT⟩ := hrel
    clear h1 t1
    by_cases hlt : (k : Int) < 4
    · go_wp2_with fail
      refine (file_any k _ (by omega) (by omega)).mono ?_
      rintro x w2 ⟨rfl, t2⟩
      obtain ⟨ok, hl⟩ := fourD_ok (k := k) (by omega)
      have hc := create_f b (fourD k) (fun i => i < w.heap.size) w2 (fileB k) (hD.no t2) hl
      rw [ok] at hc
      have hpk : pk (k : Int) 4 = k := pk_small (n := 4) (by omega)
      rw [hpk]
      go_wp2_with fail
      refine hc.mono ?_
      rintro x w3 ⟨rfl, h3, t3⟩
      have T3 : Tch (fun _ => False) w w3 := (hT.trans' t2).trans t3 (fun i hi hn => hn hi)
      clear hc t2 t3 hT hD hl
      go_wp2
      go_roundw
      case rel => exact ⟨k + 1, by go_num, by omega, h3, T3⟩
      case measure => simp [intOf]; omega
    · obtain rfl : k = 4 := by omega
      go_wp2
      go_ret
      exact ⟨b, rfl, hD, hT⟩
end Go.Proofs.Ytodkefbaandeiaa
