/- A raw value made right; rows of them, as the law makes them. -/
import Derived.Test.YtnjbkkccofjmgaaDoorVCmp
import Derived.Test.YtnjbkkccofjmgaaDoorVPrint
namespace Go.Proofs.YtnjbkkccofjmgaaDoor
open Go.RowKit

/-- A kind of any number. -/
def kd4 (k : Int) : Int := (if k < 0 then -(k + 1) else k) % 4
def cutS (s : ByteArray) : ByteArray := if 200 < s.size then s.extract 0 200 else s
/-- A raw value made right. -/
def rt (v : Val) : Val := if kd4 v.k = 1 then ⟨1, v.n, ⟨#[]⟩⟩ else if kd4 v.k = 2 then ⟨2, 0, cutS v.s⟩ else if kd4 v.k = 3 then ⟨3, v.n % 2, ⟨#[]⟩⟩ else ⟨0, 0, ⟨#[]⟩⟩
theorem rt_ok (v : Val) (hi : v.i64) : frm (rt v) ∧ (rt v).s.size ≤ 200 ∧ (rt v).i64 := by
  obtain ⟨_, hn⟩ := hi
  unfold rt
  split
  · exact ⟨Or.inr (Or.inl ⟨rfl, rfl⟩), by show 0 ≤ 200; omega, ⟨by simp, hn⟩⟩
  · split
    · refine ⟨Or.inr (Or.inr (Or.inl ⟨rfl, rfl⟩)), ?_, ⟨by simp, by simp⟩⟩
      show (cutS v.s).size ≤ 200
      unfold cutS
      split
      · simp; omega
      · omega
    · split
      · exact ⟨Or.inr (Or.inr (Or.inr ⟨rfl, rfl, by show v.n % 2 = 0 ∨ v.n % 2 = 1; omega⟩)), by show 0 ≤ 200; omega, ⟨by simp, by show -9223372036854775808 ≤ v.n % 2 ∧ v.n % 2 ≤ 9223372036854775807; omega⟩⟩
      · exact ⟨Or.inl ⟨rfl, rfl, rfl⟩, by decide, ⟨by simp, by simp⟩⟩

theorem i64_and1 (n : Int) : bits .and .i64 n 1 = n % 2 := by
  have h127 : (BitVec.ofInt 64 1).toNat = 2 ^ 1 - 1 := by decide
  have key : (BitVec.ofInt 64 n &&& BitVec.ofInt 64 1).toNat = (n % ((2 ^ 64 : Nat) : Int)).toNat % 2 ^ 1 := by
    rw [BitVec.toNat_and, BitVec.toNat_ofInt, h127, Nat.and_two_pow_sub_one_eq_mod]
  show IntKind.i64.wrap ((BitVec.ofInt 64 n &&& BitVec.ofInt 64 1).toNat : Nat) = n % 2
  rw [key, IntKind.wrap_i64]
  omega
theorem right_res (tmps : Array Value) (W : World) (p : Nat) (k n : Int) (s : ByteArray) (c0 : W.cell? ⟨p, 0, none⟩ = some (.int .i64 k)) (c1 : W.cell? ⟨p, 1, none⟩ = some (.int .i64 n)) (c2 : W.cell? ⟨p, 2, none⟩ = some (.string s)) (h2 : tmps[2]?.getD undef = .pointer (some ⟨p, 0, none⟩)) :
    (results Tryd.f35 tmps).run Tryd.prog W = .ok (vA k n s) W := by
  have hrs : Tryd.f35.results = #[.cell 2 23] := by kernel_rfl
  simp only [results, hrs]
  go_simp
set_option maxHeartbeats 2000000 in
set_option maxRecDepth 100000 in
theorem right_any (v : Val) (w : World) (hi : v.i64) :
    Calls Tryd.prog 35 #[vA v.k v.n v.s] w fun x w' => x = .returned (vA (rt v).k (rt v).n (rt v).s) ∧ Tch (fun _ => False) w w' := by
  obtain ⟨vk, vn, vs⟩ := v
  obtain ⟨⟨hk1, hk2⟩, hn1, hn2⟩ := hi
  simp only at hk1 hk2 hn1 hn2
  have HR : Hid (rt ⟨vk, vn, vs⟩ = if kd4 vk = 1 then ⟨1, vn, ⟨#[]⟩⟩ else if kd4 vk = 2 then ⟨2, 0, cutS vs⟩ else if kd4 vk = 3 then ⟨3, vn % 2, ⟨#[]⟩⟩ else ⟨0, 0, ⟨#[]⟩⟩) := rfl
  have hb := i64_and1 vn
  have HF : Hid (∀ (k n : Int) (s : ByteArray) (tmps : Array Value), tmps[2]?.getD undef = .pointer (some ⟨w.heap.size + 1, 0, none⟩) → (results Tryd.f35 tmps).run Tryd.prog ((w.alloc (.cells #[.int .i64 vk, .int .i64 vn, .string vs] 23)).alloc (.cells #[.int .i64 k, .int .i64 n, .string s] 23)) = .ok (vA k n s) ((w.alloc (.cells #[.int .i64 vk, .int .i64 vn, .string vs] 23)).alloc (.cells #[.int .i64 k, .int .i64 n, .string s] 23))) := fun k n s tmps h => by
    obtain ⟨-, d0, d1, d2⟩ := box_tch2 (Tch.refl (fun _ => False) ((w.alloc (.cells #[.int .i64 vk, .int .i64 vn, .string vs] 23)).alloc (.cells #[.int .i64 k, .int .i64 n, .string s] 23)))
    exact right_res tmps _ _ k n s d0 d1 d2 h
  by_cases hneg : vk < 0
  · have ht : -((vk + 1).tmod 4) = kd4 vk := by
      unfold kd4; rw [if_pos hneg, ← Int.neg_tmod, Int.tmod_eq_emod_of_nonneg (by omega)]
    have hke : -(vk + 1) = -(vk + 1) := rfl
    clear hke
    generalize kd4 vk = q at ht HR
    by_cases hl : 200 < vs.size
    · have hl' : (200 : Int) < vs.size := by omega
      have HS : Hid (cutS vs = vs.extract 0 200) := by show _ = _; unfold cutS; rw [if_pos hl]
      rcases (by omega : q = 1 ∨ q = 2 ∨ q = 3 ∨ (q ≠ 1 ∧ q ≠ 2 ∧ q ≠ 3)) with rfl | rfl | rfl | ⟨h1, h2, h3⟩
      · go_enter Tryd.func35, Tryd.ntmps35
        go_wp2_with fail
        refine bodyPost_ret (HF.out _ _ _ _ rfl) rfl ⟨by rw [HR.out]; rfl, (Tch.alloc _ _ _).allocR _⟩
      · go_enter Tryd.func35, Tryd.ntmps35
        go_wp2_with fail
        refine bodyPost_ret (HF.out _ _ _ _ rfl) rfl ⟨by rw [HR.out, HS.out]; rfl, (Tch.alloc _ _ _).allocR _⟩
      · go_enter Tryd.func35, Tryd.ntmps35
        go_wp2_with fail
        refine bodyPost_ret (HF.out _ _ _ _ rfl) rfl ⟨by rw [HR.out]; rfl, (Tch.alloc _ _ _).allocR _⟩
      · go_enter Tryd.func35, Tryd.ntmps35
        go_wp2_with fail
        refine bodyPost_ret (HF.out _ _ _ _ rfl) rfl ⟨by rw [HR.out, if_neg h1, if_neg h2, if_neg h3], (Tch.alloc _ _ _).allocR _⟩
    · have hl' : ¬ (200 : Int) < vs.size := by omega
      have HS : Hid (cutS vs = vs) := by show _ = _; unfold cutS; rw [if_neg hl]
      rcases (by omega : q = 1 ∨ q = 2 ∨ q = 3 ∨ (q ≠ 1 ∧ q ≠ 2 ∧ q ≠ 3)) with rfl | rfl | rfl | ⟨h1, h2, h3⟩
      · go_enter Tryd.func35, Tryd.ntmps35
        go_wp2_with fail
        refine bodyPost_ret (HF.out _ _ _ _ rfl) rfl ⟨by rw [HR.out]; rfl, (Tch.alloc _ _ _).allocR _⟩
      · go_enter Tryd.func35, Tryd.ntmps35
        go_wp2_with fail
        refine bodyPost_ret (HF.out _ _ _ _ rfl) rfl ⟨by rw [HR.out, HS.out]; rfl, (Tch.alloc _ _ _).allocR _⟩
      · go_enter Tryd.func35, Tryd.ntmps35
        go_wp2_with fail
        refine bodyPost_ret (HF.out _ _ _ _ rfl) rfl ⟨by rw [HR.out]; rfl, (Tch.alloc _ _ _).allocR _⟩
      · go_enter Tryd.func35, Tryd.ntmps35
        go_wp2_with fail
        refine bodyPost_ret (HF.out _ _ _ _ rfl) rfl ⟨by rw [HR.out, if_neg h1, if_neg h2, if_neg h3], (Tch.alloc _ _ _).allocR _⟩
  · have ht : vk.tmod 4 = kd4 vk := by
      unfold kd4; rw [if_neg hneg, Int.tmod_eq_emod_of_nonneg (by omega)]
    generalize kd4 vk = q at ht HR
    by_cases hl : 200 < vs.size
    · have hl' : (200 : Int) < vs.size := by omega
      have HS : Hid (cutS vs = vs.extract 0 200) := by show _ = _; unfold cutS; rw [if_pos hl]
      rcases (by omega : q = 1 ∨ q = 2 ∨ q = 3 ∨ (q ≠ 1 ∧ q ≠ 2 ∧ q ≠ 3)) with rfl | rfl | rfl | ⟨h1, h2, h3⟩
      · go_enter Tryd.func35, Tryd.ntmps35
        go_wp2_with fail
        refine bodyPost_ret (HF.out _ _ _ _ rfl) rfl ⟨by rw [HR.out]; rfl, (Tch.alloc _ _ _).allocR _⟩
      · go_enter Tryd.func35, Tryd.ntmps35
        go_wp2_with fail
        refine bodyPost_ret (HF.out _ _ _ _ rfl) rfl ⟨by rw [HR.out, HS.out]; rfl, (Tch.alloc _ _ _).allocR _⟩
      · go_enter Tryd.func35, Tryd.ntmps35
        go_wp2_with fail
        refine bodyPost_ret (HF.out _ _ _ _ rfl) rfl ⟨by rw [HR.out]; rfl, (Tch.alloc _ _ _).allocR _⟩
      · go_enter Tryd.func35, Tryd.ntmps35
        go_wp2_with fail
        refine bodyPost_ret (HF.out _ _ _ _ rfl) rfl ⟨by rw [HR.out, if_neg h1, if_neg h2, if_neg h3], (Tch.alloc _ _ _).allocR _⟩
    · have hl' : ¬ (200 : Int) < vs.size := by omega
      have HS : Hid (cutS vs = vs) := by show _ = _; unfold cutS; rw [if_neg hl]
      rcases (by omega : q = 1 ∨ q = 2 ∨ q = 3 ∨ (q ≠ 1 ∧ q ≠ 2 ∧ q ≠ 3)) with rfl | rfl | rfl | ⟨h1, h2, h3⟩
      · go_enter Tryd.func35, Tryd.ntmps35
        go_wp2_with fail
        refine bodyPost_ret (HF.out _ _ _ _ rfl) rfl ⟨by rw [HR.out]; rfl, (Tch.alloc _ _ _).allocR _⟩
      · go_enter Tryd.func35, Tryd.ntmps35
        go_wp2_with fail
        refine bodyPost_ret (HF.out _ _ _ _ rfl) rfl ⟨by rw [HR.out, HS.out]; rfl, (Tch.alloc _ _ _).allocR _⟩
      · go_enter Tryd.func35, Tryd.ntmps35
        go_wp2_with fail
        refine bodyPost_ret (HF.out _ _ _ _ rfl) rfl ⟨by rw [HR.out]; rfl, (Tch.alloc _ _ _).allocR _⟩
      · go_enter Tryd.func35, Tryd.ntmps35
        go_wp2_with fail
        refine bodyPost_ret (HF.out _ _ _ _ rfl) rfl ⟨by rw [HR.out, if_neg h1, if_neg h2, if_neg h3], (Tch.alloc _ _ _).allocR _⟩
end Go.Proofs.YtnjbkkccofjmgaaDoor
