/- The document's Writer (confluenceref1), call by call. -/
import Derived.Test.YtnjbkkccofjmgaaDoorWriter3
import Derived.Test.YtnjbkkccofjmgaaDoorReader
import Derived.Deep.RegionWith
import Derived.Test.YtnjbkkccofjmgaaDoorQTail
namespace Go.Proofs.YtnjbkkccofjmgaaDoor
open Go.RowKit

structure XW (w : World) (b : Nat) (s : ByteArray) (e : Int) : Prop where
  c0 : w.cell? ⟨b, 0, none⟩ = some (.string s)
  c1 : w.cell? ⟨b, 1, none⟩ = some (.int .i64 e)
  f0 : w.frozen? ⟨b, 0, none⟩ = false
  f1 : w.frozen? ⟨b, 1, none⟩ = false
theorem XW.tch {T : Nat → Prop} {w w' : World} {b : Nat} {s : ByteArray} {e : Int} (h : XW w b s e) (t : Tch T w w') (hb : ¬ T b) : XW w' b s e := by
  have hl : b < w.heap.size := cell_lt h.c0
  exact ⟨(t.cell (p := ⟨b, 0, none⟩) hl hb).trans h.c0, (t.cell (p := ⟨b, 1, none⟩) hl hb).trans h.c1, (t.frozen (p := ⟨b, 0, none⟩) hl hb).trans h.f0, (t.frozen (p := ⟨b, 1, none⟩) hl hb).trans h.f1⟩
theorem XW.set0 {w : World} {b : Nat} {s : ByteArray} {e : Int} (h : XW w b s e) (s' : ByteArray) : XW (w.setCell ⟨b, 0, none⟩ (.string s')) b s' e := by
  refine ⟨?_, ?_, by simpa using h.f0, by simpa using h.f1⟩
  · rw [World.cell?_setCell_same (h := h.c0)]
  · rw [World.cell?_setCell_other (h := by simp)]; exact h.c1
theorem XW.set1 {w : World} {b : Nat} {s : ByteArray} {e : Int} (h : XW w b s e) (c : Int) : XW (w.setCell ⟨b, 1, none⟩ (.int .i64 c)) b s c := by
  refine ⟨?_, ?_, by simpa using h.f0, by simpa using h.f1⟩
  · rw [World.cell?_setCell_other (h := by simp)]; exact h.c0
  · rw [World.cell?_setCell_same (h := h.c1)]

theorem xnewWriter_any (w : World) :
    Calls Tryd.prog 42 #[] w fun x w' => x = .returned (.pointer (some ⟨w.heap.size, 0, none⟩)) ∧ XW w' w.heap.size ⟨#[]⟩ 0 ∧ Tch (fun _ => False) w w' ∧ w'.heap.size = w.heap.size + 1 := by
  go_enter Tryd.func42, Tryd.ntmps42
  go_wp2
  go_ret
  exact ⟨rfl, ⟨by simp, by simp, by simp, by simp⟩, Tch.alloc _ _ _, by simp⟩

theorem xwwrong_any (b : Nat) (s : ByteArray) (e c : Int) (w : World) (h : XW w b s e) :
    Calls Tryd.prog 68 #[.pointer (some ⟨b, 0, none⟩), .int .i64 c] w fun x w' => x = .returned (.tuple #[]) ∧ XW w' b s (failE e c) ∧ Tch (fun i => i = b) w w' := by
  have c1 := h.c1; have f1 := h.f1
  by_cases he : e = 0
  · subst he
    have HF : Hid (failE 0 c = c) := rfl
    go_enter Tryd.func68, Tryd.ntmps68
    go_wp2
    go_end0
    rw [HF.out]
    exact ⟨rfl, h.set1 c, Tch.setCell _ _ _ _ rfl⟩
  · have hn : (e == 0) = false := by simpa using he
    have HF : Hid (failE e c = e) := by show _ = _; unfold failE; rw [if_neg he]
    have HW : Hid (XW w b s e) := h
    go_enter Tryd.func68, Tryd.ntmps68
    go_wp2
    go_end0
    rw [HF.out]
    exact ⟨rfl, HW.out, Tch.refl _ _⟩

theorem xwdone_any (b : Nat) (s : ByteArray) (e : Int) (w : World) (h : XW w b s e) :
    Calls Tryd.prog 46 #[.pointer (some ⟨b, 0, none⟩)] w fun x w' => x = .returned (.tuple #[.string (if e = 0 then s else ⟨#[]⟩), .int .i64 e]) ∧ Tch (fun _ => False) w w' := by
  have c0 := h.c0; have c1 := h.c1
  by_cases he : e = 0
  · subst he
    rw [if_pos rfl]
    go_enter Tryd.func46, Tryd.ntmps46
    go_wp2
    first | (go_ret2; exact ⟨rfl, Tch.refl _ _⟩) | (go_quiet (fail); go_wp2; go_ret2; exact ⟨rfl, (Tch.refl _ _).drewN _⟩)
  · have hn : (e != 0) = true := by simpa using he
    rw [if_neg he]
    go_enter Tryd.func46, Tryd.ntmps46
    go_wp2
    first | (go_ret2; exact ⟨rfl, Tch.refl _ _⟩) | (go_quiet (fail); go_wp2; go_ret2; exact ⟨rfl, (Tch.refl _ _).drewN _⟩)

theorem xone_any (n : Nat) (w : World) (h1 : n ≤ 255) :
    Calls Tryd.prog 69 #[.int .i64 n] w fun x w' => x = .returned (.string ⟨#[UInt8.ofNat n]⟩) ∧ Tch (fun _ => False) w w' := by
  have hb : (n : Int) ≤ 255 := by omega
  have hcv : (convert 51 9 (.slice (some ⟨w.heap.size, 0, none⟩) 1 1)).run Tryd.prog (w.alloc (.cells #[.int .u8 (n : Int)] 5)) = .ok (.string ⟨#[UInt8.ofNat n]⟩) (w.alloc (.cells #[.int .u8 (n : Int)] 5)) := by
    have := run_convert_bytes_back (P := Tryd.prog) (w.alloc (.cells #[.int .u8 (n : Int)] 5)) 51 9 5 ⟨w.heap.size, 0, none⟩ 1 [UInt8.ofNat n] Tryd.underlying51 Tryd.underlying5 Tryd.underlying9 (fun j hj => by
      rcases j with _ | j
      · have e : ((UInt8.ofNat n).toNat : Int) = n := by simp; omega
        simp only [List.getElem_cons_zero]
        rw [e]; simp [Addr.add]
      · simp at hj)
    simpa using this
  go_enter Tryd.func69, Tryd.ntmps69
  go_wp2
  go_ret
  exact ⟨rfl, Tch.alloc _ _ _⟩

theorem app_list (a b : List UInt8) : (⟨a.toArray⟩ : ByteArray) ++ ⟨b.toArray⟩ = ⟨(a ++ b).toArray⟩ := by
  apply ByteArray.ext
  simp
theorem size_list (a : List UInt8) : (⟨a.toArray⟩ : ByteArray).size = a.length := by show a.toArray.size = _; simp

set_option maxHeartbeats 1000000 in
set_option maxRecDepth 100000 in
theorem xdigits_any (n : Nat) (w : World) (hn : n < 18446744073709551616) :
    Calls Tryd.prog 70 #[.int .u64 n] w fun x w' => x = .returned (.string ⟨(dg n).toArray⟩) ∧ Tch (fun _ => False) w w' := by
  go_enter Tryd.func70, Tryd.ntmps70
  go_wp2
  go_loopw [0, 3] (fun v sv wr => ∃ (m f : Nat) (pre : List UInt8), v = .int .u64 m ∧ sv = .string ⟨pre.toArray⟩ ∧ (m : Int) ≤ 18446744073709551615 ∧ f < 10 ∧ m < 128 ^ (f + 1) ∧ Hid (pre.length + (f + 1) ≤ 10) ∧ Hid (pre ++ dgf (f + 1) m = dg n) ∧ Tch (fun _ => False) w wr) (fun v _ _ => (intOf v).toNat)
  case atStart => exact ⟨n, 9, [], rfl, rfl, by omega, by omega, Nat.lt_of_lt_of_le hn (by decide), by show _ ≤ _; simp, rfl, Tch.refl _ _⟩
  case round =>
    obtain ⟨m, f, pre, rfl, rfl, hmn, hf, hm, HL, HP, hT⟩ := hrel
    obtain ⟨P, hP⟩ : ∃ P : ByteArray, P = ⟨pre.toArray⟩ := ⟨_, rfl⟩
    have hps : P.size ≤ 10 := by rw [hP, size_list]; have := HL.out; omega
    have HPe : Hid (P = ⟨pre.toArray⟩) := hP
    rw [← hP]
    clear hP
    by_cases hlt128 : m < 128
    · have hl : ¬ (128 : Int) ≤ m := by omega
      have HC : Hid (P ++ ⟨#[UInt8.ofNat m]⟩ = ⟨(dg n).toArray⟩) := by
        show _ = _
        rw [HPe.out, ← HP.out, dgf_last hlt128, ← app_list]
      have hmi : (m : Int) ≤ 255 := by omega
      have ho := fun (W : World) => xone_any m W (by omega)
      go_wp2_with fail
      refine (ho _).mono ?_
      rintro x w1 ⟨rfl, t1⟩
      have hsz : P.size + (⟨#[UInt8.ofNat m]⟩ : ByteArray).size ≤ 9223372036854775807 := by show P.size + 1 ≤ _; omega
      have hadd := fun (W : World) => run_string_add_sum (P := Tryd.prog) W P ⟨#[UInt8.ofNat m]⟩ hsz
      go_wp2
      go_ret
      exact ⟨ret_str HC.out, hT.trans' t1⟩
    · have hl : (128 : Int) ≤ m := by omega
      obtain ⟨f, rfl⟩ : ∃ f', f = f' + 1 := by
        rcases f with _ | f
        · simp at hm; omega
        · exact ⟨f, rfl⟩
      have HM : Hid (m / 128 < 128 ^ (f + 1)) := by
        show _ < _
        rw [Nat.pow_succ] at hm
        exact Nat.div_lt_of_lt_mul (by rw [Nat.mul_comm]; exact hm)
      have HA : Hid ((128 : Int) + (m : Int) % 128 = ((m % 128 + 128 : Nat) : Int)) := by show _ = _; omega
      have ho := fun (W : World) => xone_any (m % 128 + 128) W (by omega)
      rw [← HA.out] at ho
      have HP2 : Hid ((pre ++ [UInt8.ofNat (m % 128 + 128)]) ++ dgf (f + 1) (m / 128) = dg n) := by
        show _ = _
        rw [← HP.out, dgf_more hlt128]; simp
      obtain ⟨B, hB⟩ : ∃ B, B = UInt8.ofNat (m % 128 + 128) := ⟨_, rfl⟩
      rw [← hB] at ho HP2
      clear hB HA
      have HC : Hid (P ++ ⟨#[B]⟩ = ⟨(pre ++ [B]).toArray⟩) := by
        show _ = _
        rw [HPe.out, ← app_list]
      go_wp2_with fail
      refine (ho _).mono ?_
      rintro x w1 ⟨rfl, t1⟩
      have hsz : P.size + (⟨#[B]⟩ : ByteArray).size ≤ 9223372036854775807 := by show P.size + 1 ≤ _; omega
      have hadd := fun (W : World) => run_string_add_sum (P := Tryd.prog) W P ⟨#[B]⟩ hsz
      go_wp2
      go_roundw
      case rel => exact ⟨m / 128, f, _, by go_num, by rw [HC.out], by omega, by omega, HM.out, by have := HL.out; show _ ≤ _; simp; omega, HP2, hT.trans' t1⟩
      case measure => simp [intOf]; omega

end Go.Proofs.YtnjbkkccofjmgaaDoor
