import Derived.Test.YteaagnlhkopgdaaGreatDoorVAgain
import Derived.BigQuiet
import Derived.Lib.Bytealg
import Derived.Lib.Small
import Derived.Test.YteaagnlhkopgdaaGreatDoorVEnc
set_option maxHeartbeats 2000000
set_option maxRecDepth 100000
namespace Go.Proofs.YteaagnlhkopgdaaGreatDoor
theorem pow_split {last i : Nat} (h : i + 1 < last) : (128 : Nat) ^ (last - 1 - i) = 128 ^ (last - 1 - (i + 1)) * 128 := by
  rw [← Nat.pow_succ]; congr 1; omega
theorem div_bound {q t last i : Nat} (h : i + 1 < last) (hq : q < t * 128 ^ (last - 1 - i)) : q / 128 < t * 128 ^ (last - 1 - (i + 1)) := by
  rw [pow_split h, ← Nat.mul_assoc] at hq
  exact Nat.div_lt_of_lt_mul (by rw [Nat.mul_comm]; exact hq)
theorem fuel_div {q f : Nat} (h : q < 128 ^ (f + 1)) : q / 128 < 128 ^ f := by
  rw [Nat.pow_succ] at h
  exact Nat.div_lt_of_lt_mul (by rw [Nat.mul_comm]; exact h)
theorem fwd {last top : Nat} (ht : top ≤ 127) : ∀ (f q i m : Nat) (rest : List UInt8), q < 128 ^ f → 0 < f → (0 < i → 0 < q) → i < last → q < (top + 1) * 128 ^ (last - 1 - i) →
    dgs last top (dgf f q ++ rest) i m = (m + q * 128 ^ i, i + (dgf f q).length, 0) := by
  intro f
  induction f with
  | zero => intro q i m rest _ h; omega
  | succ f ih =>
    intro q i m rest hq _ hpos hi hb
    by_cases hlt : q < 128
    · have hmod : (UInt8.ofNat q).toNat = q := by simp; omega
      rw [dgf_last hlt]
      have hA : ¬ (i + 1 = last ∧ top < (UInt8.ofNat q).toNat) := by
        rintro ⟨h1, h2⟩
        rw [hmod] at h2
        have : last - 1 - i = 0 := by omega
        rw [this] at hb; simp at hb; omega
      have hz : ¬ ((UInt8.ofNat q).toNat = 0 ∧ 0 < i) := by
        rintro ⟨h1, h2⟩
        rw [hmod] at h1
        have := hpos h2; omega
      rw [List.cons_append, dgs_end hA (by rw [hmod]; omega) hz, hmod, Nat.mod_eq_of_lt hlt]
      simp
    · have hmod : (UInt8.ofNat (q % 128 + 128)).toNat = q % 128 + 128 := by simp; omega
      rw [dgf_more hlt]
      have hnl : i + 1 < last := by
        rcases Nat.lt_or_ge (i + 1) last with h | h
        · exact h
        · have : last - 1 - i = 0 := by omega
          rw [this] at hb; simp at hb; omega
      have hf : 0 < f := by
        rcases f with _ | f
        · simp at hq; omega
        · omega
      rw [List.cons_append, dgs_more (by omega) (by rw [hmod]; omega), hmod]
      rw [ih (q / 128) (i + 1) _ rest (fuel_div hq) hf (fun _ => by omega) hnl (div_bound hnl hb)]
      have e1 : (q % 128 + 128) % 128 = q % 128 := by omega
      rw [e1, Nat.pow_succ]
      have e2 : m + q % 128 * 128 ^ i + q / 128 * (128 ^ i * 128) = m + q * 128 ^ i := by
        have h1 : q / 128 * (128 ^ i * 128) = (q / 128 * 128) * 128 ^ i := by rw [Nat.mul_comm (128 ^ i) 128, ← Nat.mul_assoc]
        rw [h1, Nat.add_assoc, ← Nat.add_mul]
        have h2 : q % 128 + q / 128 * 128 = q := by omega
        rw [h2]
      rw [e2]
      simp only [List.length_cons]
      congr 2
      omega
theorem fwd9 {q : Nat} (h : q < 9223372036854775808) (rest : List UInt8) : dgs 9 127 (dg q ++ rest) 0 0 = (q, (dg q).length, 0) := by
  have := fwd (last := 9) (top := 127) (by omega) 10 q 0 0 rest (Nat.lt_of_lt_of_le h (by decide)) (by omega) (by omega) (by omega) (Nat.lt_of_lt_of_le h (by decide))
  simpa [dg] using this
theorem fwd10 {q : Nat} (h : q < 18446744073709551616) (rest : List UInt8) : dgs 10 1 (dg q ++ rest) 0 0 = (q, (dg q).length, 0) := by
  have := fwd (last := 10) (top := 1) (by omega) 10 q 0 0 rest (Nat.lt_of_lt_of_le h (by decide)) (by omega) (by omega) (by omega) (Nat.lt_of_lt_of_le h (by decide))
  simpa [dg] using this
theorem unf_fol {n : Int} (h1 : -9223372036854775808 ≤ n) (h2 : n ≤ 9223372036854775807) : unf (fol n) = n := by
  unfold unf fol
  by_cases h : 0 ≤ n
  · rw [if_pos h, if_pos (by omega)]; omega
  · rw [if_neg h, if_neg (by omega)]; omega
def Here (S : ByteArray) (a : Nat) (l : List UInt8) : Prop := S.data.toList.drop a = l ∧ a ≤ S.size
theorem Here.left {S : ByteArray} {a : Nat} {l : List UInt8} (h : Here S a l) : S.size - a = l.length := by
  have : S.data.toList.length = S.size := by simp
  rw [← h.1, List.length_drop, this]
theorem Here.next {S : ByteArray} {a : Nat} {l r : List UInt8} (h : Here S a (l ++ r)) : Here S (a + l.length) r := by
  have h1 := h.left
  refine ⟨?_, by rw [List.length_append] at h1; have := h.2; omega⟩
  rw [← List.drop_drop, h.1, List.drop_left]
theorem Here.one {S : ByteArray} {a : Nat} {b : UInt8} {r : List UInt8} (h : Here S a (b :: r)) : Here S (a + 1) r := Here.next (l := [b]) h
theorem here_zero (l : List UInt8) : Here ⟨l.toArray⟩ 0 l := ⟨rfl, Nat.zero_le _⟩
theorem thr_num {S : ByteArray} {a q : Nat} {r : List UInt8} (h : Here S a (dg q ++ r)) (hq : q < 9223372036854775808) : numR 9 127 S a 0 = (q, a + (dg q).length, 0) := by
  apply numR_ok
  rw [h.1]; exact fwd9 hq r
theorem thr_int {S : ByteArray} {a q : Nat} {r : List UInt8} (h : Here S a (dg q ++ r)) (hq : q < 18446744073709551616) : numR 10 1 S a 0 = (q, a + (dg q).length, 0) := by
  apply numR_ok
  rw [h.1]; exact fwd10 hq r
theorem thr_byte {S : ByteArray} {a : Nat} {b : UInt8} {r : List UInt8} (h : Here S a (b :: r)) : byteR S a 0 = (b.toNat, a + 1, 0) := by
  have hl := h.left
  have ha : a < S.size := by simp at hl; omega
  unfold byteR
  rw [if_neg (by simp), if_pos ha]
  have : S.data.toList.getD a 0 = b := by
    have h0 : (S.data.toList.drop a)[0]? = some b := by rw [h.1]; rfl
    rw [List.getElem?_drop] at h0
    rw [List.getD_eq_getElem?_getD, show a = a + 0 from rfl, h0]; rfl
  rw [this]
theorem thr_text {S : ByteArray} {a : Nat} {t : ByteArray} {r : List UInt8} {most : Int} (h : Here S a (textL t ++ r)) (hm : (t.size : Int) ≤ most) (ht : t.size < 9223372036854775808) : textR most S a 0 = (t, a + (textL t).length, 0) := by
  have hl := h.left
  have ha := h.2
  have hsz : t.data.toList.length = t.size := by simp
  unfold textL at h hl ⊢
  rw [List.append_assoc] at h hl
  simp only [List.length_append] at hl
  have hd : dgs 9 127 (S.data.toList.drop a) 0 0 = (t.size, (dg t.size).length, 0) := by rw [h.1]; exact fwd9 ht _
  unfold textR
  rw [if_neg (by simp), if_neg (by omega)]
  simp only [hd]
  rw [if_neg (by simp), if_neg (by omega), if_neg (by omega)]
  have h2 := h.next
  have : S.extract (a + (dg t.size).length) (a + (dg t.size).length + t.size) = t := by
    apply ByteArray.ext
    apply Array.toList_inj.1
    rw [ext_list, h2.1, List.take_left' hsz]
  rw [this, List.length_append, hsz]
  simp only [Prod.mk.injEq, true_and, and_true]
  omega
theorem thr_val {S : ByteArray} {a : Nat} {v : Val} {r : List UInt8} (h : Here S a (encV v ++ r)) (hv : wrg v = 0) (hi : v.i64) : rdV S a 0 = ((v, true), a + (encV v).length, 0) := by
  obtain ⟨hf, hs⟩ := wrg_zero hv
  obtain ⟨k, n, s⟩ := v
  have hem : ∀ s : ByteArray, s.size = 0 → s = ⟨#[]⟩ := fun s hs => by
    obtain ⟨⟨l⟩⟩ := s
    have : l.length = 0 := hs
    rw [List.length_eq_zero_iff.1 this]
  rcases hf with ⟨h1, h2, h3⟩ | ⟨h1, h3⟩ | ⟨h1, h2⟩ | ⟨h1, h3, h2⟩
  · simp only at h1 h2 h3
    subst h1 h2
    rw [hem s h3] at h ⊢
    have e : encV ⟨0, 0, ⟨#[]⟩⟩ = [0] := rfl
    rw [e] at h ⊢
    have hb := thr_byte (b := 0) (r := r) (by simpa using h)
    unfold rdV
    rw [hb]; simp
  · simp only at h1 h3
    subst h1
    rw [hem s h3] at h ⊢
    have e : encV ⟨1, n, ⟨#[]⟩⟩ = 1 :: dg (fol n) := rfl
    rw [e] at h ⊢
    rw [List.cons_append] at h
    have hb := thr_byte h
    have hn := thr_int h.one (fol_lt n hi.2.1 hi.2.2)
    unfold rdV
    rw [hb]
    have h1 : (1 : UInt8).toNat = 1 := rfl
    simp only [h1, hn]
    simp [unf_fol hi.2.1 hi.2.2]
    omega
  · simp only at h1 h2
    subst h1 h2
    have e : encV ⟨2, 0, s⟩ = 2 :: textL s := rfl
    rw [e] at h ⊢
    rw [List.cons_append] at h
    have hb := thr_byte h
    have hs' : s.size ≤ 200 := hs
    have hn := thr_text (most := 200) h.one (by omega) (by omega)
    unfold rdV
    rw [hb]
    have h1 : (2 : UInt8).toNat = 2 := rfl
    simp only [h1, hn]
    simp
    omega
  · simp only at h1 h2 h3
    subst h1
    rw [hem s h3] at h ⊢
    rcases h2 with h2 | h2
    · subst h2
      have e : encV ⟨3, 0, ⟨#[]⟩⟩ = [3] := rfl
      rw [e] at h ⊢
      have hb := thr_byte (b := 3) (r := r) (by simpa using h)
      unfold rdV
      rw [hb]; simp
    · subst h2
      have e : encV ⟨3, 1, ⟨#[]⟩⟩ = [4] := rfl
      rw [e] at h ⊢
      have hb := thr_byte (b := 4) (r := r) (by simpa using h)
      unfold rdV
      rw [hb]; simp
theorem thr_go {S : ByteArray} : ∀ (vs : List Val) (a : Nat) (l : List Val), Here S a (vs.flatMap encV) → (∀ v ∈ vs, wrg v = 0 ∧ v.i64) → decGo S vs.length a 0 l = some (l ++ vs)
  | [], a, l, h, _ => by
    have hl := h.left
    simp at hl
    show decGo S 0 a 0 l = _
    unfold decGo
    rw [if_pos (by simp [doneE]; omega)]; simp
  | v :: vs, a, l, h, hv => by
    rw [List.flatMap_cons] at h
    have h1 := thr_val h (hv v (by simp)).1 (hv v (by simp)).2
    show decGo S (vs.length + 1) a 0 l = _
    unfold decGo
    rw [h1]
    simp only [if_true]
    rw [thr_go vs _ _ h.next (fun u hu => hv u (by simp [hu]))]
    simp
theorem thr_row {vs : List Val} {l : List UInt8} (h : encR vs = (l, 0)) (hi : ∀ v ∈ vs, v.i64) : decR ⟨l.toArray⟩ = some vs ∧ vs.length ≤ 8 ∧ ∀ v ∈ vs, wrg v = 0 := by
  unfold encR at h
  split at h
  · simp at h
  · rename_i h8
    have hw : ∀ v ∈ vs, wrg v = 0 := by
      have : ∀ (vs : List Val) (bs l : List UInt8), encGo vs bs = (l, 0) → ∀ v ∈ vs, wrg v = 0 := by
        intro vs
        induction vs with
        | nil => intro _ _ _ v hv; simp at hv
        | cons u r ih =>
          intro bs l h v hv
          unfold encGo at h
          split at h
          · rename_i hu
            rcases List.mem_cons.1 hv with rfl | hv
            · exact hu
            · exact ih _ _ h v hv
          · rename_i hu
            simp only [Prod.mk.injEq] at h
            exact absurd h.2 hu
      exact this vs _ _ h
    rw [encGo_all _ _ hw] at h
    simp only [Prod.mk.injEq, and_true] at h
    subst h
    refine ⟨?_, by omega, hw⟩
    have h0 := here_zero ([UInt8.ofNat vs.length] ++ vs.flatMap encV)
    have hb := thr_byte (b := UInt8.ofNat vs.length) (r := vs.flatMap encV) h0
    have hm : (UInt8.ofNat vs.length).toNat = vs.length := by simp; omega
    unfold decR
    rw [hb, hm]
    simp only
    rw [if_neg (by omega), thr_go vs 1 [] (Here.one (b := UInt8.ofNat vs.length) h0) (fun v hv => ⟨hw v hv, hi v hv⟩)]
    rfl
end Go.Proofs.YteaagnlhkopgdaaGreatDoor
namespace Go.Proofs.YteaagnlhkopgdaaGreatDoor
open Go.RowKit
theorem Val.ext' {a b : Val} (h : a.k = b.k ∧ a.n = b.n ∧ a.s = b.s) : a = b := by
  obtain ⟨ak, an, sa⟩ := a
  obtain ⟨bk, bn, sb⟩ := b
  simp at h
  simp [h]
def RowOf (w : World) (ao : Option Addr) (vs : List Val) : Prop := vs ≠ [] → ∃ g o, ao = some ⟨g, o, none⟩ ∧ RowAt w g o vs
theorem RowOf.tch {S : Nat → Prop} {w w' : World} {ao : Option Addr} {vs : List Val} (h : RowOf w ao vs) (t : Tch S w w') (hS : ∀ g o, ao = some ⟨g, o, none⟩ → ¬ S g) : RowOf w' ao vs := by
  intro hv
  obtain ⟨g, o, ha, hr⟩ := h hv
  exact ⟨g, o, ha, hr.tch t (fun _ => hS g o ha)⟩
theorem RowOf.no {w w' : World} {ao : Option Addr} {vs : List Val} (h : RowOf w ao vs) (t : Tch (fun _ => False) w w') : RowOf w' ao vs := h.tch t (fun _ _ _ h => h)
theorem eq_val (a b : Val) : ∃ d : Bool, (d = true ↔ a = b) ∧ ∀ w, (Op.equalIn 10000 52 (.agg #[.int .i64 a.k, .int .i64 a.n, .string a.s]) (.agg #[.int .i64 b.k, .int .i64 b.n, .string b.s])).run Tryz.prog w = .ok d w := by
  have u3 := Tryz.underlying3
  have u9 := Tryz.underlying9
  have hS : Tryz.prog.underlying 52 = some (.struct (Tryz.prog.fieldsOf 52)) := by kernel_rfl
  have hp : Tryz.prog.stoodInHeld 52 = false := by kernel_rfl
  refine ⟨decide (a.k = b.k ∧ a.n = b.n ∧ a.s = b.s), ?_, fun w => ?_⟩
  · simp only [decide_eq_true_eq]
    exact ⟨Val.ext', fun h => by subst h; exact ⟨rfl, rfl, rfl⟩⟩
  · rw [show (10000 : Nat) = 9999 + 1 from rfl, run_equalIn_agg w 9999 52 _ _ hS hp]
    simp only [Program.fieldsOf, Tryz.underlying52]
    go_simp
    have hs : (a.s.toList = b.s.toList) ↔ a.s = b.s := by
      rw [ByteArray.toList_eq, ByteArray.toList_eq]
      exact ⟨fun h => ByteArray.ext (Array.ext' h), fun h => by rw [h]⟩
    by_cases h1 : a.k = b.k <;> by_cases h2 : a.n = b.n <;> by_cases h3 : a.s = b.s <;> simp [h1, h2, h3, hs]
theorem ne_val (a b : Val) : ∃ d : Bool, (d = true ↔ a ≠ b) ∧ ∀ w, (binOp .neq 52 (.agg #[.int .i64 a.k, .int .i64 a.n, .string a.s]) (.agg #[.int .i64 b.k, .int .i64 b.n, .string b.s])).run Tryz.prog w = .ok (.bool d) w := by
  obtain ⟨d, h1, h2⟩ := eq_val a b
  refine ⟨!d, ?_, fun w => ?_⟩
  · cases d <;> simp_all
  · rw [run_neq_struct, h2]; rfl
theorem eql_val (a b : Val) : ∃ d : Bool, (d = true ↔ a = b) ∧ ∀ w, (binOp .eql 52 (.agg #[.int .i64 a.k, .int .i64 a.n, .string a.s]) (.agg #[.int .i64 b.k, .int .i64 b.n, .string b.s])).run Tryz.prog w = .ok (.bool d) w := by
  obtain ⟨d, h1, h2⟩ := eq_val a b
  refine ⟨d, h1, fun w => ?_⟩
  rw [run_eql_struct, h2]; rfl
def EqOut (xs ys : List Val) (w : World) (x : Ending) (w' : World) : Prop := ∃ b : Bool, x = .returned (.bool b) ∧ (b = true ↔ xs = ys) ∧ ∃ m, w' = w.drewN m
theorem equal_any (xs ys : List Val) (ao bo : Option Addr) (ca cb : Nat) (w : World) (ha : RowOf w ao xs) (hb : RowOf w bo ys) (h1 : xs.length ≤ 9223372036854775807) :
    Calls Tryz.prog 52 #[.slice ao xs.length ca, .slice bo ys.length cb] w fun x w' => EqOut xs ys w x w' := by
  by_cases hl : xs.length = ys.length
  · have HA : Hid (∀ m, RowOf (w.drewN m) ao xs) := fun m => ha.no ((Tch.refl _ w).drewN m)
    have HB : Hid (∀ m, RowOf (w.drewN m) bo ys) := fun m => hb.no ((Tch.refl _ w).drewN m)
    have HL : Hid (xs.length = ys.length) := hl
    obtain ⟨n, hn⟩ : ∃ n, n = xs.length := ⟨_, rfl⟩
    have hn2 : n = ys.length := by omega
    rw [← hn, ← hn2]
    have HN : Hid (n = xs.length ∧ n = ys.length) := ⟨hn, hn2⟩
    rw [← hn] at h1
    clear ha hb hl hn hn2
    go_enter Tryz.func52, Tryz.ntmps52
    go_wp2_with fail
    go_loopw [13] (fun i wr => ∃ (k m : Nat), i = .int .i64 k ∧ k ≤ n ∧ Hid (∀ j (h1 : j < xs.length) (h2 : j < ys.length), j < k → xs[j] = ys[j]) ∧ wr = w.drewN m) (fun i _ => n - (intOf i).toNat)
    case atStart => exact ⟨0, 0, rfl, by omega, fun j _ _ h => by omega, rfl⟩
    case round =>
      obtain ⟨k, m, rfl, hk, HE, hwr⟩ := hrel
      by_cases hlt : (k : Int) < n
      · have hA := HA.out m
        have hB := HB.out m
        rw [← hwr] at hA hB
        have hx : k < xs.length := by have := HN.out.1; omega
        have hy : k < ys.length := by have := HN.out.2; omega
        obtain ⟨ga, oa, rfl, hra⟩ := hA (by intro e; rw [e] at hx; simp at hx)
        obtain ⟨gb, ob, rfl, hrb⟩ := hB (by intro e; rw [e] at hy; simp at hy)
        obtain ⟨a0, a1, a2⟩ := hra k hx
        obtain ⟨b0, b1, b2⟩ := hrb k hy
        have HW : Hid (wr = w.drewN m) := hwr
        obtain ⟨u, hu⟩ : ∃ u, u = xs[k] := ⟨_, rfl⟩
        obtain ⟨v, hv⟩ : ∃ v, v = ys[k] := ⟨_, rfl⟩
        rw [← hu] at a0 a1 a2
        rw [← hv] at b0 b1 b2
        have HU : Hid (u = xs[k] ∧ v = ys[k]) := ⟨hu, hv⟩
        clear hA hB hra hrb hwr hu hv
        obtain ⟨d, hd1, hd⟩ := ne_val u v
        have HD : Hid (d = true ↔ u ≠ v) := hd1
        clear hd1
        cases d with
        | true =>
          go_wp2_with fail
          go_quiet (fail)
          go_wp2
          go_ret
          refine ⟨false, rfl, ⟨fun h => by simp at h, fun h => ?_⟩, m + nq, by rw [HW.out, World.drewN_drewN]⟩
          exact absurd (by rw [HU.out.1, HU.out.2]; subst h; rfl) (HD.out.1 (by trivial))
        | false =>
          have HE2 : Hid (∀ j (h1 : j < xs.length) (h2 : j < ys.length), j < k + 1 → xs[j] = ys[j]) := fun j h1 h2 hj => by
            rcases Nat.lt_or_ge j k with h | h
            · exact HE.out j h1 h2 h
            · obtain rfl : j = k := by omega
              rw [← HU.out.1, ← HU.out.2]
              exact Classical.byContradiction fun hne => by have := HD.out.2 hne; simp at this
          go_wp2_with fail
          go_quiet (fail)
          go_wp2
          go_roundw
          case rel => exact ⟨k + 1, m + nq, by go_num, by omega, HE2, by rw [HW.out, World.drewN_drewN]⟩
          case measure => simp [intOf]; omega
      · have HW : Hid (wr = w.drewN m) := hwr
        clear hwr
        go_wp2
        go_ret
        refine ⟨true, rfl, ⟨fun _ => ?_, fun _ => rfl⟩, m, HW.out⟩
        exact List.ext_getElem HL.out (fun j h1 h2 => HE.out j h1 h2 (by have := HN.out.1; omega))
  · have hl' : ((xs.length : Int) != ys.length) = true := by simp; omega
    clear ha hb
    go_enter Tryz.func52, Tryz.ntmps52
    go_wp2
    go_ret
    exact ⟨false, rfl, ⟨fun h => by simp at h, fun h => absurd (by rw [h]) hl⟩, 0, rfl⟩
theorem same_any (xs ys : List Val) (ao bo : Option Addr) (ca cb : Nat) (w : World) (ha : RowOf w ao xs) (hb : RowOf w bo ys) (h1 : xs.length ≤ 9223372036854775807) :
    Calls Tryz.prog 29 #[.slice ao xs.length ca, .slice bo ys.length cb] w fun x w' => EqOut xs ys w x w' := by
  have hq := equal_any xs ys ao bo ca cb w ha hb h1
  clear ha hb
  go_enter Tryz.func29, Tryz.ntmps29
  go_wp2_with fail
  refine hq.mono ?_
  rintro x w1 ⟨b, rfl, hb, m, rfl⟩
  have HB : Hid (b = true ↔ xs = ys) := hb
  clear hb hq
  go_wp2_with fail
  go_ret
  exact ⟨b, rfl, HB.out, m, rfl⟩
end Go.Proofs.YteaagnlhkopgdaaGreatDoor
namespace Go.Proofs.YteaagnlhkopgdaaGreatDoor.C
open Go.Lib
def nullV : Val := ⟨0, 0, ⟨#[]⟩⟩
structure Col where
  nm : ByteArray
  k : Int
  nl : Bool
theorem Col.ext' {a b : Col} (h : a.nm = b.nm ∧ a.k = b.k ∧ a.nl = b.nl) : a = b := by
  obtain ⟨ak, an, sa⟩ := a
  obtain ⟨bk, bn, sb⟩ := b
  simp at h
  simp [h]
structure Tbl where
  id : Int
  ver : Int
  nm : ByteArray
  cols : List Col
  key : Int
def ltr (b : UInt8) : Bool := decide (97 ≤ b.toNat) && decide (b.toNat ≤ 122)
def dgt (b : UInt8) : Bool := decide (48 ≤ b.toNat) && decide (b.toNat ≤ 57)
def sgn (b : UInt8) : Bool := ltr b || dgt b || decide (b.toNat = 95)
def nmOk (s : ByteArray) : Bool := match s.data.toList with
  | [] => false
  | a :: l => decide (l.length ≤ 15) && ltr a && l.all sgn
def kdOk (k : Int) : Bool := decide (k = 1) || decide (k = 2) || decide (k = 3)
def colE (ahead : List Col) (c : Col) : Int := if nmOk c.nm = false then 50 else if ahead.any (fun a => decide (a.nm = c.nm)) then 54 else if kdOk c.k = false then 1 else 0
def colsGo (ahead : List Col) : List Col → Int
  | [] => 0
  | c :: l => if colE ahead c ≠ 0 then colE ahead c else colsGo (ahead ++ [c]) l
def colsE (l : List Col) : Int := if l.length < 1 ∨ 8 < l.length then 55 else colsGo [] l
def keyOk (l : List Col) (k : Int) : Bool := decide (0 ≤ k) && (match l[k.toNat]? with
  | none => false
  | some c => decide (c.k ≠ 3) && !c.nl)
def numOk (n : Int) : Bool := decide (1 ≤ n) && decide (n ≤ 2147483647)
def rightE (t : Tbl) : Int := if numOk t.id = false ∨ numOk t.ver = false then 1 else if nmOk t.nm = false then 50 else if colsE t.cols ≠ 0 then colsE t.cols else if keyOk t.cols t.key = false then 56 else 0
theorem colsGo_step (l : List Col) (k : Nat) (hk : k < l.length) : colsGo (l.take k) (l.drop k) = if colE (l.take k) l[k] ≠ 0 then colE (l.take k) l[k] else colsGo (l.take (k + 1)) (l.drop (k + 1)) := by
  rw [List.drop_eq_getElem_cons hk, colsGo, List.take_append_getElem hk]
theorem colsGo_end (l : List Col) : colsGo (l.take l.length) (l.drop l.length) = 0 := by simp [colsGo]
theorem nmOk_iff (s : ByteArray) : nmOk s = true ↔ (1 ≤ s.size ∧ s.size ≤ 16) ∧ (∀ h : 0 < s.size, ltr s[0] = true) ∧ ∀ i (h : i < s.size), sgn s[i] = true := by
  obtain ⟨⟨l⟩⟩ := s
  unfold nmOk
  show (match l with | [] => false | a :: l => decide (l.length ≤ 15) && ltr a && l.all sgn) = true ↔ (1 ≤ l.length ∧ l.length ≤ 16) ∧ (∀ h : 0 < l.length, ltr l[0] = true) ∧ ∀ i (h : i < l.length), sgn l[i] = true
  cases l with
  | nil => simp
  | cons a l =>
    simp only [Bool.and_eq_true, decide_eq_true_iff, List.all_eq_true, List.length_cons]
    constructor
    · rintro ⟨⟨h1, h2⟩, h3⟩
      refine ⟨by omega, fun _ => by simpa using h2, fun i hi => ?_⟩
      rcases i with _ | i
      · simp [sgn, h2]
      · simpa using h3 _ (List.getElem_mem (by simpa using hi))
    · rintro ⟨h1, h2, h3⟩
      refine ⟨⟨by omega, by simpa using h2 (by simp)⟩, fun x hx => ?_⟩
      obtain ⟨i, hi, rfl⟩ := List.getElem_of_mem hx
      exact h3 (i + 1) (by simpa using hi)
end Go.Proofs.YteaagnlhkopgdaaGreatDoor.C
namespace Go.Proofs.YteaagnlhkopgdaaGreatDoor.C
open Go.RowKit
set_option maxRecDepth 100000
theorem letter_any (c : UInt8) (w : World) :
    Calls Tryz.prog 130 #[.int .u8 c.toNat] w fun x w' => x = .returned (.bool (ltr c)) ∧ w' = w := by
  have h0 := c.toNat_lt
  go_enter Tryz.func130, Tryz.ntmps130
  go_wp2
  all_goals (go_ret; refine ⟨vret_bool ?_, rfl⟩; rw [Bool.eq_iff_iff]; simp [ltr] at *; try omega)
theorem digit_any (c : UInt8) (w : World) :
    Calls Tryz.prog 131 #[.int .u8 c.toNat] w fun x w' => x = .returned (.bool (dgt c)) ∧ w' = w := by
  have h0 := c.toNat_lt
  go_enter Tryz.func131, Tryz.ntmps131
  go_wp2
  all_goals (go_ret; refine ⟨vret_bool ?_, rfl⟩; rw [Bool.eq_iff_iff]; simp [dgt] at *; try omega)
theorem nm_no {s : ByteArray} (h : ¬ ((1 ≤ s.size ∧ s.size ≤ 16) ∧ (∀ h : 0 < s.size, ltr s[0] = true) ∧ ∀ i (h : i < s.size), sgn s[i] = true)) : nmOk s = false := by
  rw [← Bool.not_eq_true, nmOk_iff]; exact h
theorem isName_any (s : ByteArray) (w : World) :
    Calls Tryz.prog 124 #[.string s] w fun x w' => x = .returned (.bool (nmOk s)) ∧ w' = w := by
  by_cases h0 : (s.size : Int) < 1
  · have HR : Hid (nmOk s = false) := nm_no (by omega)
    go_enter Tryz.func124, Tryz.ntmps124
    go_wp2
    go_ret
    exact ⟨by rw [HR.out]; rfl, rfl⟩
  by_cases h1 : 16 < (s.size : Int)
  · have HR : Hid (nmOk s = false) := nm_no (by omega)
    go_enter Tryz.func124, Tryz.ntmps124
    go_wp2
    go_ret
    exact ⟨by rw [HR.out]; rfl, rfl⟩
  have hp : 0 < s.size := by omega
  have hp' : (0 : Int) < s.size := by omega
  cases hl : ltr s[0]
  · have HR : Hid (nmOk s = false) := nm_no (fun h => by have := h.2.1 hp; simp [hl] at this)
    have hq := letter_any s[0] w
    rw [hl] at hq
    clear hl
    go_enter Tryz.func124, Tryz.ntmps124
    go_wp2_with (go_at_call 130; refine hq.mono ?_; rintro x w1 ⟨rfl, hw1⟩; obtain rfl := hw1.symm; clear hw1)
    go_ret
    exact ⟨by rw [HR.out]; rfl, rfl⟩
  have HL : Hid (ltr s[0] = true) := hl
  have hq := letter_any s[0] w
  rw [hl] at hq
  clear hl
  go_enter Tryz.func124, Tryz.ntmps124
  go_wp2_with (go_at_call 130; refine hq.mono ?_; rintro x w1 ⟨rfl, hw1⟩; obtain rfl := hw1.symm; clear hw1)
  clear hq
  go_loopw [20] (fun i wr => ∃ k : Nat, i = .int .i64 k ∧ k ≤ s.size ∧ wr = w ∧ Hid (∀ j (h : j < s.size), j < k → sgn s[j] = true)) (fun i _ => s.size - (intOf i).toNat)
  case atStart => exact ⟨0, rfl, by omega, rfl, fun _ _ h => by omega⟩
  case round =>
    obtain ⟨k, rfl, hk, rfl, hall⟩ := hrel
    by_cases hlt : k < s.size
    · have hlt' : (k : Int) < s.size := by omega
      have hc := (s[k]).toNat_lt
      have q1 := letter_any s[k] wr
      have q2 := digit_any s[k] wr
      have HQ : Hid (sgn s[k] = (ltr s[k] || dgt s[k] || decide ((s[k]).toNat = 95))) := by show _ = _; rfl
      have HB : Hid (sgn s[k] = false → nmOk s = false) := fun h => nm_no (fun h' => by have := h'.2.2 k hlt; rw [h] at this; simp at this)
      have HG : Hid (sgn s[k] = true → ∀ j (h : j < s.size), j < k + 1 → sgn s[j] = true) := fun h j hj hjk => by
        rcases Nat.lt_or_ge j k with h1 | h1
        · exact hall.out j hj h1
        · obtain rfl : j = k := by omega
          exact h
      cases hl : ltr s[k]
      · cases hd : dgt s[k]
        · rw [hl] at q1; rw [hd] at q2
          have HQ2 : Hid (sgn s[k] = decide ((s[k]).toNat = 95)) := by show _ = _; rw [HQ.out, hl, hd]; simp
          by_cases h95 : ((s[k]).toNat : Int) = 95
          · have HE : Hid _ := HG.out (by rw [HQ2.out]; simp; omega)
            rw [h95] at q1 q2
            clear hl hd
            go_wp2_with (first | (go_at_call 130; refine q1.mono ?_; rintro x w1 ⟨rfl, hw1⟩; obtain rfl := hw1.symm; clear hw1) | (go_at_call 131; refine q2.mono ?_; rintro x w1 ⟨rfl, hw1⟩; obtain rfl := hw1.symm; clear hw1))
            go_roundw
            case rel => exact ⟨k + 1, by go_num, by omega, by first | rfl | trivial, HE⟩
            case measure => simp [intOf]; omega
          · have HE : Hid _ := HB.out (by rw [HQ2.out]; simp; omega)
            clear hl hd
            go_wp2_with (first | (go_at_call 130; refine q1.mono ?_; rintro x w1 ⟨rfl, hw1⟩; obtain rfl := hw1.symm; clear hw1) | (go_at_call 131; refine q2.mono ?_; rintro x w1 ⟨rfl, hw1⟩; obtain rfl := hw1.symm; clear hw1))
            go_ret
            exact ⟨by rw [HE.out]; rfl, rfl⟩
        · rw [hl] at q1; rw [hd] at q2
          have HE : Hid _ := HG.out (by rw [HQ.out, hl, hd]; simp)
          clear hl hd
          go_wp2_with (first | (go_at_call 130; refine q1.mono ?_; rintro x w1 ⟨rfl, hw1⟩; obtain rfl := hw1.symm; clear hw1) | (go_at_call 131; refine q2.mono ?_; rintro x w1 ⟨rfl, hw1⟩; obtain rfl := hw1.symm; clear hw1))
          go_roundw
          case rel => exact ⟨k + 1, by go_num, by omega, by first | rfl | trivial, HE⟩
          case measure => simp [intOf]; omega
      · rw [hl] at q1
        have HE : Hid _ := HG.out (by rw [HQ.out, hl]; simp)
        clear hl
        go_wp2_with (go_at_call 130; refine q1.mono ?_; rintro x w1 ⟨rfl, hw1⟩; obtain rfl := hw1.symm; clear hw1)
        go_roundw
        case rel => exact ⟨k + 1, by go_num, by omega, by first | rfl | trivial, HE⟩
        case measure => simp [intOf]; omega
    · have hlt' : ¬ (k : Int) < s.size := by omega
      have HR : Hid (nmOk s = true) := by
        show _ = _
        rw [nmOk_iff]; exact ⟨by omega, fun _ => HL.out, fun i hi => hall.out i hi (by omega)⟩
      go_wp2
      go_ret
      exact ⟨by rw [HR.out]; rfl, rfl⟩
end Go.Proofs.YteaagnlhkopgdaaGreatDoor.C
