import Derived.Test.YtjiblajnfnmjnaaGreatDoorVAgain
import Derived.Test.YtjiblajnfnmjnaaGreatDoorVForm
import Derived.Test.YtjiblajnfnmjnaaGreatDoorCPure
import Derived.Test.YtjiblajnfnmjnaaGreatDoorCCopy
import Derived.Deep.RegionHeld3
set_option maxHeartbeats 2000000
set_option maxRecDepth 100000
namespace Go.Proofs.YtjiblajnfnmjnaaGreatDoor
theorem pow_split {last i : Nat} (h : i + 1 < last) : (128 : Nat) ^ (last - 1 - i) = 128 ^ (last - 1 - (i + 1)) * 128 := by
  rw [← Nat.pow_succ]; congr 1; omega
theorem div_bound {q t last i : Nat} (h : i + 1 < last) (hq : q < t * 128 ^ (last - 1 - i)) : q / 128 < t * 128 ^ (last - 1 - (i + 1)) := by
  rw [pow_split h, ← Nat.mul_assoc] at hq
  exact Nat.div_lt_of_lt_mul (by rw [Nat.mul_comm]; exact hq)
theorem fuel_div {q f : Nat} (h : q < 128 ^ (f + 1)) : q / 128 < 128 ^ f := by
  rw [Nat.pow_succ] at h
  exact Nat.div_lt_of_lt_mul (by rw [Nat.mul_comm]; exact h)
theorem fwd {last top : Nat} (ht : top ≤ 127) : ∀ (f q i m : Nat) (rest : List UInt8), q < 128 ^ f → 0 < f → (0 < i → 0 < q) → i < last → q < (top + 1) * 128 ^ (last - 1 - i) →
    dgs last top (dgf f q ++ rest) i m = (m + q * 128 ^ i, i + (dgf f q).length, 0) := by
  intro f
  induction f with
  | zero => intro q i m rest _ h; omega
  | succ f ih =>
    intro q i m rest hq _ hpos hi hb
    by_cases hlt : q < 128
    · have hmod : (UInt8.ofNat q).toNat = q := by simp; omega
      rw [dgf_last hlt]
      have hA : ¬ (i + 1 = last ∧ top < (UInt8.ofNat q).toNat) := by
        rintro ⟨h1, h2⟩
        rw [hmod] at h2
        have : last - 1 - i = 0 := by omega
        rw [this] at hb; simp at hb; omega
      have hz : ¬ ((UInt8.ofNat q).toNat = 0 ∧ 0 < i) := by
        rintro ⟨h1, h2⟩
        rw [hmod] at h1
        have := hpos h2; omega
      rw [List.cons_append, dgs_end hA (by rw [hmod]; omega) hz, hmod, Nat.mod_eq_of_lt hlt]
      simp
    · have hmod : (UInt8.ofNat (q % 128 + 128)).toNat = q % 128 + 128 := by simp; omega
      rw [dgf_more hlt]
      have hnl : i + 1 < last := by
        rcases Nat.lt_or_ge (i + 1) last with h | h
        · exact h
        · have : last - 1 - i = 0 := by omega
          rw [this] at hb; simp at hb; omega
      have hf : 0 < f := by
        rcases f with _ | f
        · simp at hq; omega
        · omega
      rw [List.cons_append, dgs_more (by omega) (by rw [hmod]; omega), hmod]
      rw [ih (q / 128) (i + 1) _ rest (fuel_div hq) hf (fun _ => by omega) hnl (div_bound hnl hb)]
      have e1 : (q % 128 + 128) % 128 = q % 128 := by omega
      rw [e1, Nat.pow_succ]
      have e2 : m + q % 128 * 128 ^ i + q / 128 * (128 ^ i * 128) = m + q * 128 ^ i := by
        have h1 : q / 128 * (128 ^ i * 128) = (q / 128 * 128) * 128 ^ i := by rw [Nat.mul_comm (128 ^ i) 128, ← Nat.mul_assoc]
        rw [h1, Nat.add_assoc, ← Nat.add_mul]
        have h2 : q % 128 + q / 128 * 128 = q := by omega
        rw [h2]
      rw [e2]
      simp only [List.length_cons]
      congr 2
      omega
theorem fwd9 {q : Nat} (h : q < 9223372036854775808) (rest : List UInt8) : dgs 9 127 (dg q ++ rest) 0 0 = (q, (dg q).length, 0) := by
  have := fwd (last := 9) (top := 127) (by omega) 10 q 0 0 rest (Nat.lt_of_lt_of_le h (by decide)) (by omega) (by omega) (by omega) (Nat.lt_of_lt_of_le h (by decide))
  simpa [dg] using this
theorem fwd10 {q : Nat} (h : q < 18446744073709551616) (rest : List UInt8) : dgs 10 1 (dg q ++ rest) 0 0 = (q, (dg q).length, 0) := by
  have := fwd (last := 10) (top := 1) (by omega) 10 q 0 0 rest (Nat.lt_of_lt_of_le h (by decide)) (by omega) (by omega) (by omega) (Nat.lt_of_lt_of_le h (by decide))
  simpa [dg] using this
theorem unf_fol {n : Int} (h1 : -9223372036854775808 ≤ n) (h2 : n ≤ 9223372036854775807) : unf (fol n) = n := by
  unfold unf fol
  by_cases h : 0 ≤ n
  · rw [if_pos h, if_pos (by omega)]; omega
  · rw [if_neg h, if_neg (by omega)]; omega
def Here (S : ByteArray) (a : Nat) (l : List UInt8) : Prop := S.data.toList.drop a = l ∧ a ≤ S.size
theorem Here.left {S : ByteArray} {a : Nat} {l : List UInt8} (h : Here S a l) : S.size - a = l.length := by
  have : S.data.toList.length = S.size := by simp
  rw [← h.1, List.length_drop, this]
theorem Here.next {S : ByteArray} {a : Nat} {l r : List UInt8} (h : Here S a (l ++ r)) : Here S (a + l.length) r := by
  have h1 := h.left
  refine ⟨?_, by rw [List.length_append] at h1; have := h.2; omega⟩
  rw [← List.drop_drop, h.1, List.drop_left]
theorem Here.one {S : ByteArray} {a : Nat} {b : UInt8} {r : List UInt8} (h : Here S a (b :: r)) : Here S (a + 1) r := Here.next (l := [b]) h
theorem here_zero (l : List UInt8) : Here ⟨l.toArray⟩ 0 l := ⟨rfl, Nat.zero_le _⟩
theorem thr_num {S : ByteArray} {a q : Nat} {r : List UInt8} (h : Here S a (dg q ++ r)) (hq : q < 9223372036854775808) : numR 9 127 S a 0 = (q, a + (dg q).length, 0) := by
  apply numR_ok
  rw [h.1]; exact fwd9 hq r
theorem thr_int {S : ByteArray} {a q : Nat} {r : List UInt8} (h : Here S a (dg q ++ r)) (hq : q < 18446744073709551616) : numR 10 1 S a 0 = (q, a + (dg q).length, 0) := by
  apply numR_ok
  rw [h.1]; exact fwd10 hq r
theorem thr_byte {S : ByteArray} {a : Nat} {b : UInt8} {r : List UInt8} (h : Here S a (b :: r)) : byteR S a 0 = (b.toNat, a + 1, 0) := by
  have hl := h.left
  have ha : a < S.size := by simp at hl; omega
  unfold byteR
  rw [if_neg (by simp), if_pos ha]
  have : S.data.toList.getD a 0 = b := by
    have h0 : (S.data.toList.drop a)[0]? = some b := by rw [h.1]; rfl
    rw [List.getElem?_drop] at h0
    rw [List.getD_eq_getElem?_getD, show a = a + 0 from rfl, h0]; rfl
  rw [this]
theorem thr_text {S : ByteArray} {a : Nat} {t : ByteArray} {r : List UInt8} {most : Int} (h : Here S a (textL t ++ r)) (hm : (t.size : Int) ≤ most) (ht : t.size < 9223372036854775808) : textR most S a 0 = (t, a + (textL t).length, 0) := by
  have hl := h.left
  have ha := h.2
  have hsz : t.data.toList.length = t.size := by simp
  unfold textL at h hl ⊢
  rw [List.append_assoc] at h hl
  simp only [List.length_append] at hl
  have hd : dgs 9 127 (S.data.toList.drop a) 0 0 = (t.size, (dg t.size).length, 0) := by rw [h.1]; exact fwd9 ht _
  unfold textR
  rw [if_neg (by simp), if_neg (by omega)]
  simp only [hd]
  rw [if_neg (by simp), if_neg (by omega), if_neg (by omega)]
  have h2 := h.next
  have : S.extract (a + (dg t.size).length) (a + (dg t.size).length + t.size) = t := by
    apply ByteArray.ext
    apply Array.toList_inj.1
    rw [ext_list, h2.1, List.take_left' hsz]
  rw [this, List.length_append, hsz]
  simp only [Prod.mk.injEq, true_and, and_true]
  omega
theorem thr_val {S : ByteArray} {a : Nat} {v : Val} {r : List UInt8} (h : Here S a (encV v ++ r)) (hv : wrg v = 0) (hi : v.i64) : rdV S a 0 = ((v, true), a + (encV v).length, 0) := by
  obtain ⟨hf, hs⟩ := wrg_zero hv
  obtain ⟨k, n, s⟩ := v
  have hem : ∀ s : ByteArray, s.size = 0 → s = ⟨#[]⟩ := fun s hs => by
    obtain ⟨⟨l⟩⟩ := s
    have : l.length = 0 := hs
    rw [List.length_eq_zero_iff.1 this]
  rcases hf with ⟨h1, h2, h3⟩ | ⟨h1, h3⟩ | ⟨h1, h2⟩ | ⟨h1, h3, h2⟩
  · simp only at h1 h2 h3
    subst h1 h2
    rw [hem s h3] at h ⊢
    have e : encV ⟨0, 0, ⟨#[]⟩⟩ = [0] := rfl
    rw [e] at h ⊢
    have hb := thr_byte (b := 0) (r := r) (by simpa using h)
    unfold rdV
    rw [hb]; simp
  · simp only at h1 h3
    subst h1
    rw [hem s h3] at h ⊢
    have e : encV ⟨1, n, ⟨#[]⟩⟩ = 1 :: dg (fol n) := rfl
    rw [e] at h ⊢
    rw [List.cons_append] at h
    have hb := thr_byte h
    have hn := thr_int h.one (fol_lt n hi.2.1 hi.2.2)
    unfold rdV
    rw [hb]
    have h1 : (1 : UInt8).toNat = 1 := rfl
    simp only [h1, hn]
    simp [unf_fol hi.2.1 hi.2.2]
    omega
  · simp only at h1 h2
    subst h1 h2
    have e : encV ⟨2, 0, s⟩ = 2 :: textL s := rfl
    rw [e] at h ⊢
    rw [List.cons_append] at h
    have hb := thr_byte h
    have hs' : s.size ≤ 200 := hs
    have hn := thr_text (most := 200) h.one (by omega) (by omega)
    unfold rdV
    rw [hb]
    have h1 : (2 : UInt8).toNat = 2 := rfl
    simp only [h1, hn]
    simp
    omega
  · simp only at h1 h2 h3
    subst h1
    rw [hem s h3] at h ⊢
    rcases h2 with h2 | h2
    · subst h2
      have e : encV ⟨3, 0, ⟨#[]⟩⟩ = [3] := rfl
      rw [e] at h ⊢
      have hb := thr_byte (b := 3) (r := r) (by simpa using h)
      unfold rdV
      rw [hb]; simp
    · subst h2
      have e : encV ⟨3, 1, ⟨#[]⟩⟩ = [4] := rfl
      rw [e] at h ⊢
      have hb := thr_byte (b := 4) (r := r) (by simpa using h)
      unfold rdV
      rw [hb]; simp
theorem thr_go {S : ByteArray} : ∀ (vs : List Val) (a : Nat) (l : List Val), Here S a (vs.flatMap encV) → (∀ v ∈ vs, wrg v = 0 ∧ v.i64) → decGo S vs.length a 0 l = some (l ++ vs)
  | [], a, l, h, _ => by
    have hl := h.left
    simp at hl
    show decGo S 0 a 0 l = _
    unfold decGo
    rw [if_pos (by simp [doneE]; omega)]; simp
  | v :: vs, a, l, h, hv => by
    rw [List.flatMap_cons] at h
    have h1 := thr_val h (hv v (by simp)).1 (hv v (by simp)).2
    show decGo S (vs.length + 1) a 0 l = _
    unfold decGo
    rw [h1]
    simp only [if_true]
    rw [thr_go vs _ _ h.next (fun u hu => hv u (by simp [hu]))]
    simp
theorem thr_row {vs : List Val} {l : List UInt8} (h : encR vs = (l, 0)) (hi : ∀ v ∈ vs, v.i64) : decR ⟨l.toArray⟩ = some vs ∧ vs.length ≤ 8 ∧ ∀ v ∈ vs, wrg v = 0 := by
  unfold encR at h
  split at h
  · simp at h
  · rename_i h8
    have hw : ∀ v ∈ vs, wrg v = 0 := by
      have : ∀ (vs : List Val) (bs l : List UInt8), encGo vs bs = (l, 0) → ∀ v ∈ vs, wrg v = 0 := by
        intro vs
        induction vs with
        | nil => intro _ _ _ v hv; simp at hv
        | cons u r ih =>
          intro bs l h v hv
          unfold encGo at h
          split at h
          · rename_i hu
            rcases List.mem_cons.1 hv with rfl | hv
            · exact hu
            · exact ih _ _ h v hv
          · rename_i hu
            simp only [Prod.mk.injEq] at h
            exact absurd h.2 hu
      exact this vs _ _ h
    rw [encGo_all _ _ hw] at h
    simp only [Prod.mk.injEq, and_true] at h
    subst h
    refine ⟨?_, by omega, hw⟩
    have h0 := here_zero ([UInt8.ofNat vs.length] ++ vs.flatMap encV)
    have hb := thr_byte (b := UInt8.ofNat vs.length) (r := vs.flatMap encV) h0
    have hm : (UInt8.ofNat vs.length).toNat = vs.length := by simp; omega
    unfold decR
    rw [hb, hm]
    simp only
    rw [if_neg (by omega), thr_go vs 1 [] (Here.one (b := UInt8.ofNat vs.length) h0) (fun v hv => ⟨hw v hv, hi v hv⟩)]
    rfl
end Go.Proofs.YtjiblajnfnmjnaaGreatDoor
namespace Go.Proofs.YtjiblajnfnmjnaaGreatDoor.C
open Go.RowKit
set_option maxRecDepth 100000
theorem letter_any (c : UInt8) (w : World) :
    Calls Tryz.prog 96 #[.int .u8 c.toNat] w fun x w' => x = .returned (.bool (ltr c)) ∧ w' = w := by
  have h0 := c.toNat_lt
  go_enter Tryz.func96, Tryz.ntmps96
  go_wp2
  all_goals (go_ret; refine ⟨vret_bool ?_, rfl⟩; rw [Bool.eq_iff_iff]; simp [ltr] at *; try omega)
theorem digit_any (c : UInt8) (w : World) :
    Calls Tryz.prog 97 #[.int .u8 c.toNat] w fun x w' => x = .returned (.bool (dgt c)) ∧ w' = w := by
  have h0 := c.toNat_lt
  go_enter Tryz.func97, Tryz.ntmps97
  go_wp2
  all_goals (go_ret; refine ⟨vret_bool ?_, rfl⟩; rw [Bool.eq_iff_iff]; simp [dgt] at *; try omega)
theorem nm_no {s : ByteArray} (h : ¬ ((1 ≤ s.size ∧ s.size ≤ 16) ∧ (∀ h : 0 < s.size, ltr s[0] = true) ∧ ∀ i (h : i < s.size), sgn s[i] = true)) : nmOk s = false := by
  rw [← Bool.not_eq_true, nmOk_iff]; exact h
theorem isName_any (s : ByteArray) (w : World) :
    Calls Tryz.prog 59 #[.string s] w fun x w' => x = .returned (.bool (nmOk s)) ∧ w' = w := by
  by_cases h0 : (s.size : Int) < 1
  · have HR : Hid (nmOk s = false) := nm_no (by omega)
    go_enter Tryz.func59, Tryz.ntmps59
    go_wp2
    go_ret
    exact ⟨by rw [HR.out]; rfl, rfl⟩
  by_cases h1 : 16 < (s.size : Int)
  · have HR : Hid (nmOk s = false) := nm_no (by omega)
    go_enter Tryz.func59, Tryz.ntmps59
    go_wp2
    go_ret
    exact ⟨by rw [HR.out]; rfl, rfl⟩
  have hp : 0 < s.size := by omega
  have hp' : (0 : Int) < s.size := by omega
  cases hl : ltr s[0]
  · have HR : Hid (nmOk s = false) := nm_no (fun h => by have := h.2.1 hp; simp [hl] at this)
    have hq := letter_any s[0] w
    rw [hl] at hq
    clear hl
    go_enter Tryz.func59, Tryz.ntmps59
    go_wp2_with (go_at_call 96; refine hq.mono ?_; rintro x w1 ⟨rfl, hw1⟩; obtain rfl := hw1.symm; clear hw1)
    go_ret
    exact ⟨by rw [HR.out]; rfl, rfl⟩
  have HL : Hid (ltr s[0] = true) := hl
  have hq := letter_any s[0] w
  rw [hl] at hq
  clear hl
  go_enter Tryz.func59, Tryz.ntmps59
  go_wp2_with (go_at_call 96; refine hq.mono ?_; rintro x w1 ⟨rfl, hw1⟩; obtain rfl := hw1.symm; clear hw1)
  clear hq
  go_loopw [20] (fun i wr => ∃ k : Nat, i = .int .i64 k ∧ k ≤ s.size ∧ wr = w ∧ Hid (∀ j (h : j < s.size), j < k → sgn s[j] = true)) (fun i _ => s.size - (intOf i).toNat)
  case atStart => exact ⟨0, rfl, by omega, rfl, fun _ _ h => by omega⟩
  case round =>
    obtain ⟨k, rfl, hk, rfl, hall⟩ := hrel
    by_cases hlt : k < s.size
    · have hlt' : (k : Int) < s.size := by omega
      have hc := (s[k]).toNat_lt
      have q1 := letter_any s[k] wr
      have q2 := digit_any s[k] wr
      have HQ : Hid (sgn s[k] = (ltr s[k] || dgt s[k] || decide ((s[k]).toNat = 95))) := by show _ = _; rfl
      have HB : Hid (sgn s[k] = false → nmOk s = false) := fun h => nm_no (fun h' => by have := h'.2.2 k hlt; rw [h] at this; simp at this)
      have HG : Hid (sgn s[k] = true → ∀ j (h : j < s.size), j < k + 1 → sgn s[j] = true) := fun h j hj hjk => by
        rcases Nat.lt_or_ge j k with h1 | h1
        · exact hall.out j hj h1
        · obtain rfl : j = k := by omega
          exact h
      cases hl : ltr s[k]
      · cases hd : dgt s[k]
        · rw [hl] at q1; rw [hd] at q2
          have HQ2 : Hid (sgn s[k] = decide ((s[k]).toNat = 95)) := by show _ = _; rw [HQ.out, hl, hd]; simp
          by_cases h95 : ((s[k]).toNat : Int) = 95
          · have HE : Hid _ := HG.out (by rw [HQ2.out]; simp; omega)
            rw [h95] at q1 q2
            clear hl hd
            go_wp2_with (first | (go_at_call 96; refine q1.mono ?_; rintro x w1 ⟨rfl, hw1⟩; obtain rfl := hw1.symm; clear hw1) | (go_at_call 97; refine q2.mono ?_; rintro x w1 ⟨rfl, hw1⟩; obtain rfl := hw1.symm; clear hw1))
            go_roundw
            case rel => exact ⟨k + 1, by go_num, by omega, by first | rfl | trivial, HE⟩
            case measure => simp [intOf]; omega
          · have HE : Hid _ := HB.out (by rw [HQ2.out]; simp; omega)
            clear hl hd
            go_wp2_with (first | (go_at_call 96; refine q1.mono ?_; rintro x w1 ⟨rfl, hw1⟩; obtain rfl := hw1.symm; clear hw1) | (go_at_call 97; refine q2.mono ?_; rintro x w1 ⟨rfl, hw1⟩; obtain rfl := hw1.symm; clear hw1))
            go_ret
            exact ⟨by rw [HE.out]; rfl, rfl⟩
        · rw [hl] at q1; rw [hd] at q2
          have HE : Hid _ := HG.out (by rw [HQ.out, hl, hd]; simp)
          clear hl hd
          go_wp2_with (first | (go_at_call 96; refine q1.mono ?_; rintro x w1 ⟨rfl, hw1⟩; obtain rfl := hw1.symm; clear hw1) | (go_at_call 97; refine q2.mono ?_; rintro x w1 ⟨rfl, hw1⟩; obtain rfl := hw1.symm; clear hw1))
          go_roundw
          case rel => exact ⟨k + 1, by go_num, by omega, by first | rfl | trivial, HE⟩
          case measure => simp [intOf]; omega
      · rw [hl] at q1
        have HE : Hid _ := HG.out (by rw [HQ.out, hl]; simp)
        clear hl
        go_wp2_with (go_at_call 96; refine q1.mono ?_; rintro x w1 ⟨rfl, hw1⟩; obtain rfl := hw1.symm; clear hw1)
        go_roundw
        case rel => exact ⟨k + 1, by go_num, by omega, by first | rfl | trivial, HE⟩
        case measure => simp [intOf]; omega
    · have hlt' : ¬ (k : Int) < s.size := by omega
      have HR : Hid (nmOk s = true) := by
        show _ = _
        rw [nmOk_iff]; exact ⟨by omega, fun _ => HL.out, fun i hi => hall.out i hi (by omega)⟩
      go_wp2
      go_ret
      exact ⟨by rw [HR.out]; rfl, rfl⟩
set_option maxRecDepth 100000
theorem kind_any (k : Int) (w : World) :
    Calls Tryz.prog 101 #[.int .i64 k] w fun x w' => x = .returned (.bool (kdOk k)) ∧ w' = w := by
  go_enter Tryz.func101, Tryz.ntmps101
  go_wp2
  all_goals (go_ret; refine ⟨vret_bool ?_, rfl⟩; rw [Bool.eq_iff_iff]; simp [kdOk] at *; try omega)
theorem number_any (k : Int) (w : World) :
    Calls Tryz.prog 62 #[.int .i64 k] w fun x w' => x = .returned (.bool (numOk k)) ∧ w' = w := by
  go_enter Tryz.func62, Tryz.ntmps62
  go_wp2
  all_goals (go_ret; refine ⟨vret_bool ?_, rfl⟩; rw [Bool.eq_iff_iff]; simp [numOk] at *; try omega)
theorem str_ne {x y : ByteArray} (h : x ≠ y) : (x.toList == y.toList) = false := by
  rw [beq_eq_false_iff_ne, ne_eq]
  rw [ByteArray.toList_eq, ByteArray.toList_eq]
  exact fun h' => h (ByteArray.ext (Array.ext' h'))
theorem hasColumn_any (l : List Col) (ao : Option Addr) (c : Nat) (nm : ByteArray) (w : World) (h : SL w ao (ccl l)) (hl : l.length ≤ 9223372036854775807) :
    Calls Tryz.prog 100 #[.slice ao l.length c, .string nm] w fun x w' => x = .returned (.bool (l.any (fun a => decide (a.nm = nm)))) ∧ Tch (fun _ => False) w w' := by
  have HS : Hid (∀ W, Tch (fun _ => False) w W → SL W ao (ccl l)) := fun W t => h.no t
  clear h
  go_enter Tryz.func100, Tryz.ntmps100
  go_wp2_with fail
  go_loopw [9] (fun i wr => ∃ k : Nat, i = .int .i64 k ∧ k ≤ l.length ∧ Tch (fun _ => False) w wr ∧ Hid (∀ j (h : j < l.length), j < k → l[j].nm ≠ nm)) (fun i _ => l.length - (intOf i).toNat)
  case atStart => exact ⟨0, rfl, by omega, Tch.refl _ _, fun _ _ h => by omega⟩
  case round =>
    obtain ⟨k, rfl, hk, hT, HA⟩ := hrel
    by_cases hlt : (k : Int) < l.length
    · have hkl : k < l.length := by omega
      obtain ⟨g, o, rfl, ha⟩ := (HS.out _ hT).col hkl
      obtain ⟨c0, c1, c2⟩ := ha.col k hkl
      obtain ⟨x, hx⟩ : ∃ x, x = l[k] := ⟨_, rfl⟩
      rw [← hx] at c0 c1 c2
      have HX : Hid (x = l[k]) := hx
      clear ha hx
      by_cases he : x.nm = nm
      · have HR : Hid (l.any (fun a => decide (a.nm = nm)) = true) := by
          show _ = _
          rw [List.any_eq_true]
          exact ⟨x, by rw [HX.out]; exact List.getElem_mem _, by simpa using he⟩
        rw [he] at c0
        clear he
        go_wp2_with fail
        go_ret
        exact ⟨by rw [HR.out]; rfl, hT.allocR _⟩
      · have HE : Hid (∀ j (h : j < l.length), j < k + 1 → l[j].nm ≠ nm) := fun j hj hjk => by
          rcases Nat.lt_or_ge j k with h1 | h1
          · exact HA.out j hj h1
          · obtain rfl : j = k := by omega
            rw [← HX.out]; exact he
        have hne := str_ne he
        clear he
        go_wp2_with fail
        go_roundw
        case rel => exact ⟨k + 1, by go_num, by omega, hT.allocR _, HE⟩
        case measure => simp [intOf]; omega
    · have HR : Hid (l.any (fun a => decide (a.nm = nm)) = false) := by
        show _ = _
        rw [List.any_eq_false]
        intro a ha
        obtain ⟨i, hi, rfl⟩ := List.getElem_of_mem ha
        simpa using HA.out i hi (by omega)
      go_wp2_with fail
      go_ret
      exact ⟨by rw [HR.out]; rfl, hT⟩
theorem wrongColumns_any (l : List Col) (ao : Option Addr) (c : Nat) (w : World) (h : SL w ao (ccl l)) (hc : l.length ≤ c) (hl : l.length ≤ 9223372036854775807) :
    Calls Tryz.prog 63 #[.slice ao l.length c] w fun x w' => x = .returned (.int .i64 (colsE l)) ∧ Tch (fun _ => False) w w' := by
  by_cases h0 : (l.length : Int) < 1
  · have HR : Hid (colsE l = 55) := if_pos (by omega)
    clear h
    go_enter Tryz.func63, Tryz.ntmps63
    go_wp2
    go_ret
    exact ⟨by rw [HR.out]; rfl, Tch.refl _ _⟩
  by_cases h1 : 8 < (l.length : Int)
  · have HR : Hid (colsE l = 55) := if_pos (by omega)
    clear h
    go_enter Tryz.func63, Tryz.ntmps63
    go_wp2
    go_ret
    exact ⟨by rw [HR.out]; rfl, Tch.refl _ _⟩
  have HS : Hid (∀ W, Tch (fun _ => False) w W → SL W ao (ccl l)) := fun W t => h.no t
  have HC : Hid (colsE l = colsGo (l.take 0) (l.drop 0)) := if_neg (by omega)
  clear h
  go_enter Tryz.func63, Tryz.ntmps63
  go_wp2_with fail
  go_loopw [15] (fun i wr => ∃ k : Nat, i = .int .i64 k ∧ k ≤ l.length ∧ Tch (fun _ => False) w wr ∧ Hid (colsE l = colsGo (l.take k) (l.drop k))) (fun i _ => l.length - (intOf i).toNat)
  case atStart => exact ⟨0, rfl, by omega, Tch.refl _ _, HC⟩
  case round =>
    clear HC
    obtain ⟨k, rfl, hk, hT, HC⟩ := hrel
    by_cases hlt : (k : Int) < l.length
    · have hkl : k < l.length := by omega
      have hkc : (k : Int) ≤ c := by omega
      obtain ⟨g, o, rfl, ha⟩ := (HS.out _ hT).col hkl
      obtain ⟨c0, c1, c2⟩ := ha.col k hkl
      obtain ⟨x, hx⟩ : ∃ x, x = l[k] := ⟨_, rfl⟩
      obtain ⟨E, hE⟩ : ∃ E, E = colE (l.take k) x := ⟨_, rfl⟩
      have HE : Hid (colsE l = if E ≠ 0 then E else colsGo (l.take (k + 1)) (l.drop (k + 1))) := by
        show _ = _
        rw [HC.out, colsGo_step l k hkl, hE, hx]
      rw [← hx] at c0 c1 c2
      obtain ⟨wa, hwa⟩ : ∃ wa, wa = wr.alloc (.cells #[.string x.nm, .int .i64 x.k, .bool x.nl] 43) := ⟨_, rfl⟩
      have hTa : Tch (fun _ => False) w wa := by rw [hwa]; exact hT.allocR _
      have q1 := isName_any x.nm wa
      obtain ⟨b0, b1, b2⟩ := box_cells wr (.string x.nm) (.int .i64 x.k) (.bool x.nl) 43
      rw [← hwa] at b0 b1 b2
      have HWA : Hid _ := hwa
      clear ha hx HC
      obtain ⟨B, hB⟩ : ∃ B, B = wr.heap.size := ⟨_, rfl⟩
      have HBB : Hid (B = wr.heap.size) := hB
      rw [← hB] at b0 b1 b2
      clear hwa hB
      cases hn : nmOk x.nm
      · rw [hn] at q1
        have HR : Hid (colsE l = 50) := by
          show _ = _
          have e1 : E = 50 := by rw [hE]; unfold colE; rw [if_pos hn]
          rw [HE.out, e1, if_pos (by decide)]
        clear hn hE HE
        go_wp2_with fail
        rw [← HBB.out]
        have hwa := HWA.out
        rw [← hwa]
        clear hwa
        refine q1.mono ?_
        rintro y w1 ⟨rfl, hw1⟩
        obtain rfl := hw1.symm
        clear hw1 q1
        go_wp2_with fail
        go_ret
        exact ⟨by rw [HR.out]; rfl, hTa⟩
      · rw [hn] at q1
        have htk : (l.take k).length = k := by rw [List.length_take]; omega
        have q2 := fun W (t : Tch (fun _ => False) wa W) => hasColumn_any (l.take k) (some ⟨g, o, none⟩) c x.nm W ((HS.out _ (hTa.trans' t)).takeC k) (by omega)
        rw [htk] at q2
        have q3 := fun W => kind_any x.k W
        clear htk
        cases hh : (l.take k).any (fun a => decide (a.nm = x.nm))
        · rw [hh] at q2
          have Hq2 : Hid _ := q2
          clear q2
          cases hd : kdOk x.k
          · rw [hd] at q3
            have HR : Hid (colsE l = 1) := by
              show _ = _
              have e1 : E = 1 := by rw [hE]; unfold colE; rw [if_neg (by simp [hn]), if_neg (by simp [hh]), if_pos hd]
              rw [HE.out, e1, if_pos (by decide)]
            clear hn hE HE hh hd
            go_wp2_with fail
            rw [← HBB.out]
            have hwa := HWA.out
            rw [← hwa]
            clear hwa
            refine q1.mono ?_
            rintro y w1 ⟨rfl, hw1⟩
            obtain rfl := hw1.symm
            clear hw1 q1
            have HS3 : Hid (∀ W, Tch (fun _ => False) wa W → Tch (fun _ => False) wa W ∧ W.cell? ⟨B, 0, none⟩ = some (.string x.nm)) := fun W t => ⟨t, by rw [t.cell (p := ⟨B, 0, none⟩) (cell_lt b0) (fun h => h)]; exact b0⟩
            have HB2 : Hid (∀ W, Tch (fun _ => False) wa W → W.cell? ⟨B, 0, none⟩ = some (.string x.nm) ∧ W.cell? ⟨B, 1, none⟩ = some (.int .i64 x.k)) := fun W t => ⟨by rw [t.cell (p := ⟨B, 0, none⟩) (cell_lt b0) (fun h => h)]; exact b0, by rw [t.cell (p := ⟨B, 1, none⟩) (cell_lt b1) (fun h => h)]; exact b1⟩
            go_wp2_with fail
            go_region_held3 (fun W => Tch (fun _ => False) wa W ∧ W.cell? ⟨B, 0, none⟩ = some (.string x.nm))
              ((refine HS3.out _ ?_; first | assumption | exact (Tch.refl _ _).drew))
              ((go_at_call 100; refine (Hq2.out _ (show _ ∧ _ by assumption).1).mono ?_; rintro y w2 ⟨rfl, t2⟩; have V2 := Tch.trans' (show _ ∧ _ by assumption).1 t2))
            have hT2 : Tch (fun _ => False) w w2 := hTa.trans' V2
            obtain ⟨b0, b1⟩ := HB2.out _ V2
            go_wp2_with fail
            refine (q3 w2).mono ?_
            rintro y w3 ⟨rfl, hw1⟩
            obtain rfl := hw1.symm
            clear hw1 q3
            go_wp2_with fail
            go_ret
            exact ⟨by rw [HR.out]; rfl, hT2⟩
          · rw [hd] at q3
            have HR : Hid (colsE l = colsGo (l.take (k + 1)) (l.drop (k + 1))) := by
              show _ = _
              have e1 : E = 0 := by rw [hE]; unfold colE; rw [if_neg (by simp [hn]), if_neg (by simp [hh]), if_neg (by simp [hd])]
              rw [HE.out, e1, if_neg (by simp)]
            clear hn hE HE hh hd
            go_wp2_with fail
            rw [← HBB.out]
            have hwa := HWA.out
            rw [← hwa]
            clear hwa
            refine q1.mono ?_
            rintro y w1 ⟨rfl, hw1⟩
            obtain rfl := hw1.symm
            clear hw1 q1
            have HS3 : Hid (∀ W, Tch (fun _ => False) wa W → Tch (fun _ => False) wa W ∧ W.cell? ⟨B, 0, none⟩ = some (.string x.nm)) := fun W t => ⟨t, by rw [t.cell (p := ⟨B, 0, none⟩) (cell_lt b0) (fun h => h)]; exact b0⟩
            have HB2 : Hid (∀ W, Tch (fun _ => False) wa W → W.cell? ⟨B, 0, none⟩ = some (.string x.nm) ∧ W.cell? ⟨B, 1, none⟩ = some (.int .i64 x.k)) := fun W t => ⟨by rw [t.cell (p := ⟨B, 0, none⟩) (cell_lt b0) (fun h => h)]; exact b0, by rw [t.cell (p := ⟨B, 1, none⟩) (cell_lt b1) (fun h => h)]; exact b1⟩
            go_wp2_with fail
            go_region_held3 (fun W => Tch (fun _ => False) wa W ∧ W.cell? ⟨B, 0, none⟩ = some (.string x.nm))
              ((refine HS3.out _ ?_; first | assumption | exact (Tch.refl _ _).drew))
              ((go_at_call 100; refine (Hq2.out _ (show _ ∧ _ by assumption).1).mono ?_; rintro y w2 ⟨rfl, t2⟩; have V2 := Tch.trans' (show _ ∧ _ by assumption).1 t2))
            have hT2 : Tch (fun _ => False) w w2 := hTa.trans' V2
            obtain ⟨b0, b1⟩ := HB2.out _ V2
            go_wp2_with fail
            refine (q3 w2).mono ?_
            rintro y w3 ⟨rfl, hw1⟩
            obtain rfl := hw1.symm
            clear hw1 q3
            go_wp2_with fail
            go_roundw
            case rel => exact ⟨k + 1, by go_num, by omega, hT2, HR⟩
            case measure => simp [intOf]; omega
        · rw [hh] at q2
          have Hq2 : Hid _ := q2
          clear q2
          have HR : Hid (colsE l = 54) := by
            show _ = _
            have e1 : E = 54 := by rw [hE]; unfold colE; rw [if_neg (by simp [hn]), if_pos (by simp [hh])]
            rw [HE.out, e1, if_pos (by decide)]
          clear hn hE HE hh q3
          go_wp2_with fail
          rw [← HBB.out]
          have hwa := HWA.out
          rw [← hwa]
          clear hwa
          refine q1.mono ?_
          rintro y w1 ⟨rfl, hw1⟩
          obtain rfl := hw1.symm
          clear hw1 q1
          have HS3 : Hid (∀ W, Tch (fun _ => False) wa W → Tch (fun _ => False) wa W ∧ W.cell? ⟨B, 0, none⟩ = some (.string x.nm)) := fun W t => ⟨t, by rw [t.cell (p := ⟨B, 0, none⟩) (cell_lt b0) (fun h => h)]; exact b0⟩
          have HB2 : Hid (∀ W, Tch (fun _ => False) wa W → W.cell? ⟨B, 0, none⟩ = some (.string x.nm) ∧ W.cell? ⟨B, 1, none⟩ = some (.int .i64 x.k)) := fun W t => ⟨by rw [t.cell (p := ⟨B, 0, none⟩) (cell_lt b0) (fun h => h)]; exact b0, by rw [t.cell (p := ⟨B, 1, none⟩) (cell_lt b1) (fun h => h)]; exact b1⟩
          go_wp2_with fail
          go_region_held3 (fun W => Tch (fun _ => False) wa W ∧ W.cell? ⟨B, 0, none⟩ = some (.string x.nm))
            ((refine HS3.out _ ?_; first | assumption | exact (Tch.refl _ _).drew))
            ((go_at_call 100; refine (Hq2.out _ (show _ ∧ _ by assumption).1).mono ?_; rintro y w2 ⟨rfl, t2⟩; have V2 := Tch.trans' (show _ ∧ _ by assumption).1 t2))
          have hT2 : Tch (fun _ => False) w w2 := hTa.trans' V2
          obtain ⟨b0, b1⟩ := HB2.out _ V2
          go_wp2_with fail
          go_ret
          exact ⟨by rw [HR.out]; rfl, hT2⟩
    · have HR : Hid (colsE l = 0) := by
        show _ = _
        obtain rfl : k = l.length := by omega
        rw [HC.out, colsGo_end]
      go_wp2_with fail
      go_ret
      exact ⟨by rw [HR.out]; rfl, hT⟩
set_option maxRecDepth 100000
theorem keyOk_in {l : List Col} {key : Int} (h0 : 0 ≤ key) (h1 : key < l.length) : ∃ (h : key.toNat < l.length), keyOk l key = (decide (l[key.toNat].k ≠ 3) && !l[key.toNat].nl) := by
  have h : key.toNat < l.length := by omega
  refine ⟨h, ?_⟩
  unfold keyOk
  rw [List.getElem?_eq_getElem h]
  simp [h0]
theorem keyOk_out {l : List Col} {key : Int} (h : ¬ (0 ≤ key ∧ key < l.length)) : keyOk l key = false := by
  unfold keyOk
  by_cases h0 : 0 ≤ key
  · rw [List.getElem?_eq_none (by omega)]; simp
  · simp [h0]
theorem isKey_any (l : List Col) (ao : Option Addr) (c : Nat) (key : Int) (w : World) (h : SL w ao (ccl l)) :
    Calls Tryz.prog 64 #[.slice ao l.length c, .int .i64 key] w fun x w' => x = .returned (.bool (keyOk l key)) ∧ w' = w := by
  by_cases h0 : 0 ≤ key
  · by_cases h1 : key < l.length
    · obtain ⟨hk, he⟩ := keyOk_in h0 h1
      obtain ⟨g, o, rfl, ha⟩ := h.col hk
      obtain ⟨c0, c1, c2⟩ := ha.col key.toNat hk
      obtain ⟨x, hx⟩ : ∃ x, x = l[key.toNat] := ⟨_, rfl⟩
      rw [← hx] at he c0 c1 c2
      obtain ⟨k, rfl⟩ : ∃ k : Nat, key = k := ⟨key.toNat, by omega⟩
      simp only [Int.toNat_natCast] at c0 c1 c2
      have HE : Hid _ := he
      clear ha hx he h
      go_enter Tryz.func64, Tryz.ntmps64
      go_wp2
      all_goals (go_ret; refine ⟨vret_bool ?_, rfl⟩; rw [HE.out, Bool.eq_iff_iff]; simp at *; try simp_all)
    · have HE : Hid _ := keyOk_out (l := l) (key := key) (by omega)
      clear h
      go_enter Tryz.func64, Tryz.ntmps64
      go_wp2
      go_ret
      exact ⟨by rw [HE.out]; rfl, rfl⟩
  · have HE : Hid _ := keyOk_out (l := l) (key := key) (by omega)
    clear h
    go_enter Tryz.func64, Tryz.ntmps64
    go_wp2
    go_ret
    exact ⟨by rw [HE.out]; rfl, rfl⟩
theorem box5 {w w1 : World} {a b c d e : Value} {t : TypeId} (h : Tch (fun _ => False) (w.alloc (.cells #[a, b, c, d, e] t)) w1) : w1.cell? ⟨w.heap.size, 0, none⟩ = some a ∧ w1.cell? ⟨w.heap.size, 1, none⟩ = some b ∧ w1.cell? ⟨w.heap.size, 2, none⟩ = some c ∧ w1.cell? ⟨w.heap.size, 3, none⟩ = some d ∧ w1.cell? ⟨w.heap.size, 4, none⟩ = some e := by
  have key : ∀ j v, (w.alloc (.cells #[a, b, c, d, e] t)).cell? ⟨w.heap.size, j, none⟩ = some v → w1.cell? ⟨w.heap.size, j, none⟩ = some v := fun j v hv => (h.cell (p := ⟨_, _, none⟩) (by simp) (fun h => h)).trans hv
  exact ⟨key 0 _ (by simp), key 1 _ (by simp), key 2 _ (by simp), key 3 _ (by simp), key 4 _ (by simp)⟩
theorem right_any (t : Tbl) (ao : Option Addr) (c : Nat) (w : World) (h : SL w ao (ccl t.cols)) (hc : t.cols.length ≤ c) (hl : t.cols.length ≤ 9223372036854775807) :
    Calls Tryz.prog 26 #[tA t.id t.ver t.nm (.slice ao t.cols.length c) t.key] w fun x w' => x = .returned (.int .i64 (rightE t)) ∧ Tch (fun _ => False) w w' := by
  obtain ⟨w0, hw0⟩ : ∃ w0, w0 = w.alloc (.cells #[.int .i64 t.id, .int .i64 t.ver, .string t.nm, .slice ao t.cols.length c, .int .i64 t.key] 29) := ⟨_, rfl⟩
  have T0 : Tch (fun _ => False) w w0 := by rw [hw0]; exact Tch.alloc _ _ _
  obtain ⟨N, hN⟩ : ∃ N, N = w.heap.size := ⟨_, rfl⟩
  have HB : Hid (∀ W, Tch (fun _ => False) w0 W → W.cell? ⟨N, 0, none⟩ = some (.int .i64 t.id) ∧ W.cell? ⟨N, 1, none⟩ = some (.int .i64 t.ver) ∧ W.cell? ⟨N, 2, none⟩ = some (.string t.nm) ∧ W.cell? ⟨N, 3, none⟩ = some (.slice ao t.cols.length c) ∧ W.cell? ⟨N, 4, none⟩ = some (.int .i64 t.key)) := fun W tw => by
    rw [hw0] at tw; rw [hN]; exact box5 tw
  have HS : Hid (∀ W, Tch (fun _ => False) w0 W → SL W ao (ccl t.cols)) := fun W tw => h.no (T0.trans' tw)
  obtain ⟨b0, b1, b2, b3, b4⟩ := HB.out w0 (Tch.refl _ _)
  have q1 := number_any t.id w0
  have q2 := number_any t.ver w0
  have q3 := isName_any t.nm w0
  have q4 := wrongColumns_any t.cols ao c w0 (HS.out w0 (Tch.refl _ _)) hc hl
  have q5 := fun W tw => isKey_any t.cols ao c t.key W (HS.out W tw)
  obtain ⟨n1, e1⟩ : ∃ n1, n1 = numOk t.id := ⟨_, rfl⟩
  obtain ⟨n2, e2⟩ : ∃ n2, n2 = numOk t.ver := ⟨_, rfl⟩
  obtain ⟨n3, e3⟩ : ∃ n3, n3 = nmOk t.nm := ⟨_, rfl⟩
  obtain ⟨n4, e4⟩ : ∃ n4, n4 = colsE t.cols := ⟨_, rfl⟩
  obtain ⟨n5, e5⟩ : ∃ n5, n5 = keyOk t.cols t.key := ⟨_, rfl⟩
  have HR : Hid (rightE t = if n1 = false ∨ n2 = false then 1 else if n3 = false then 50 else if n4 ≠ 0 then n4 else if n5 = false then 56 else 0) := by
    show _ = _
    rw [e1, e2, e3, e4, e5]; rfl
  rw [← e1] at q1
  rw [← e2] at q2
  rw [← e3] at q3
  rw [← e4] at q4
  rw [← e5] at q5
  have Hw0 : Hid _ := hw0
  have HN : Hid _ := hN
  clear h e1 e2 e3 e4 e5 HS hw0 hN
  go_enter Tryz.func26, Tryz.ntmps26
  go_wp2_with fail
  rw [← HN.out]
  have hw0 := Hw0.out
  rw [← hw0]
  clear hw0
  cases n1 with
  | false =>
    refine q1.mono ?_
    rintro y w1 ⟨rfl, hw1⟩
    obtain rfl := hw1.symm
    go_wp2_with fail
    go_ret
    exact ⟨by rw [HR.out]; rfl, T0⟩
  | true =>
    refine q1.mono ?_
    rintro y w1 ⟨rfl, hw1⟩
    obtain rfl := hw1.symm
    clear hw1 q1
    cases n2 with
    | false =>
      go_wp2_with (go_at_call 62; refine q2.mono ?_; rintro y w1 ⟨rfl, hw1⟩; obtain rfl := hw1.symm; clear hw1 q2)
      go_ret
      exact ⟨by rw [HR.out]; rfl, T0⟩
    | true =>
      cases n3 with
      | false =>
        go_wp2_with (first | (go_at_call 62; refine q2.mono ?_; rintro y w1 ⟨rfl, hw1⟩; obtain rfl := hw1.symm; clear hw1 q2) | (go_at_call 59; refine q3.mono ?_; rintro y w1 ⟨rfl, hw1⟩; obtain rfl := hw1.symm; clear hw1 q3))
        go_ret
        exact ⟨by rw [HR.out]; rfl, T0⟩
      | true =>
        by_cases h4 : n4 = 0
        · subst h4
          cases n5 with
          | false =>
            go_wp2_with (first | (go_at_call 62; refine q2.mono ?_; rintro y w1 ⟨rfl, hw1⟩; obtain rfl := hw1.symm; clear hw1 q2) | (go_at_call 59; refine q3.mono ?_; rintro y w1 ⟨rfl, hw1⟩; obtain rfl := hw1.symm; clear hw1 q3) | (go_at_call 63; refine q4.mono ?_; rintro y w2 ⟨rfl, t2⟩; obtain ⟨b0, b1, b2, b3, b4⟩ := HB.out w2 t2) | (go_at_call 64; refine (q5 w2 t2).mono ?_; rintro y w3 ⟨rfl, hw1⟩; obtain rfl := hw1.symm; clear hw1))
            go_ret
            exact ⟨by rw [HR.out]; rfl, T0.trans' t2⟩
          | true =>
            go_wp2_with (first | (go_at_call 62; refine q2.mono ?_; rintro y w1 ⟨rfl, hw1⟩; obtain rfl := hw1.symm; clear hw1 q2) | (go_at_call 59; refine q3.mono ?_; rintro y w1 ⟨rfl, hw1⟩; obtain rfl := hw1.symm; clear hw1 q3) | (go_at_call 63; refine q4.mono ?_; rintro y w2 ⟨rfl, t2⟩; obtain ⟨b0, b1, b2, b3, b4⟩ := HB.out w2 t2) | (go_at_call 64; refine (q5 w2 t2).mono ?_; rintro y w3 ⟨rfl, hw1⟩; obtain rfl := hw1.symm; clear hw1))
            go_ret
            exact ⟨by rw [HR.out]; rfl, T0.trans' t2⟩
        · have HR2 : Hid (rightE t = n4) := by
            show _ = _
            rw [HR.out, if_neg (by simp), if_neg (by simp), if_pos h4]
          have hb4 : (n4 != 0) = true := by simpa using h4
          clear h4 HR
          go_wp2_with (first | (go_at_call 62; refine q2.mono ?_; rintro y w1 ⟨rfl, hw1⟩; obtain rfl := hw1.symm; clear hw1 q2) | (go_at_call 59; refine q3.mono ?_; rintro y w1 ⟨rfl, hw1⟩; obtain rfl := hw1.symm; clear hw1 q3) | (go_at_call 63; refine q4.mono ?_; rintro y w2 ⟨rfl, t2⟩; obtain ⟨b0, b1, b2, b3, b4⟩ := HB.out w2 t2))
          go_ret
          exact ⟨by rw [HR2.out]; rfl, T0.trans' t2⟩
end Go.Proofs.YtjiblajnfnmjnaaGreatDoor.C
