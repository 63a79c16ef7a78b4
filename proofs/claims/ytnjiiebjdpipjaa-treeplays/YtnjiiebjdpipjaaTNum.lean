import Derived.Test.YtnjiiebjdpipjaaTOver
import Derived.Test.YtnjiiebjdpipjaaTSmall
import Derived.Deep.LoopGhost
import Derived.Test.YtnjiiebjdpipjaaTTGet
/- Back of a tree of numbers. -/
namespace Go.Proofs.Ytnjiiebjdpipjaa
open Go.RowKit Go Go.Shelf

set_option maxHeartbeats 2000000 in
set_option maxRecDepth 100000 in
theorem back_any (b : Nat) (f o : ByteArray) (w : World) : Calls Try.prog 27 #[pv b, .string f, .string o] w fun x w' => x = .returned (.func (.func 72) #[] #[pv w.heap.size, pv (w.heap.size + 1)]) ∧ w' = (w.alloc (.cells #[pv b] 23)).alloc (.cells #[.string f, .string o, .bool true] 90) := by
  have q := over_any b f o true w
  go_enter Try.func27, Try.ntmps27
  go_wp2_with fail
  refine q.mono ?_
  rintro x w' ⟨rfl, rfl⟩
  clear q
  go_wp2_with fail
  go_ret
  exact ⟨rfl, rfl⟩
end Go.Proofs.Ytnjiiebjdpipjaa
/- Floors, pick, numbered of the law. -/
namespace Go.Proofs.Ytnjiiebjdpipjaa
open Go.RowKit Go

theorem pow_small (h : Nat) (hh : h ≤ 8) : 8 ^ h ≤ 16777216 ∧ 16 ^ h ≤ 4294967296 := by
  have h1 : 8 ^ h ≤ 8 ^ 8 := Nat.pow_le_pow_right (by omega) hh
  have h2 : 16 ^ h ≤ 16 ^ 8 := Nat.pow_le_pow_right (by omega) hh
  exact ⟨by simpa using h1, by simpa using h2⟩
set_option maxHeartbeats 2000000 in
set_option maxRecDepth 100000 in
theorem floors_any (n ht : Nat) (w : World) (hht : ht ≤ 8) (hn : n < 1000000000000) (hf : (n = 0 ∧ ht = 0) ∨ (1 ≤ n ∧ 1 ≤ ht ∧ 2 * 8 ^ (ht - 1) ≤ n + 1 ∧ n + 1 ≤ 16 ^ ht)) : Calls Try.prog 11 #[.int .i64 n, .int .i64 ht] w fun x w' => x = .returned (.bool true) ∧ w' = w := by
  rcases hf with ⟨rfl, rfl⟩ | ⟨h1, h2, h3, h4⟩
  · go_enter Try.func11, Try.ntmps11
    go_wp2
    go_ret
    exact ⟨rfl, rfl⟩
  · have a1 : ¬ (n : Int) = 0 := by omega
    have a2 : ¬ (ht : Int) < 1 := by omega
    have a3 : ¬ (20 : Int) < ht := by omega
    have H3 : Hid (2 * 8 ^ (ht - 1) ≤ n + 1 ∧ n + 1 ≤ 16 ^ ht) := ⟨h3, h4⟩
    have HB : Hid (1 ≤ n ∧ 1 ≤ ht ∧ ht ≤ 8 ∧ n < 1000000000000) := ⟨h1, h2, hht, hn⟩
    clear h1 h2 h3 h4 hn hht
    go_enter Try.func11, Try.ntmps11
    go_wp2_with fail
    obtain ⟨h1, h2, hht, hn⟩ := HB.out
    have hhti : (ht : Int) ≤ 8 := by omega
    have hnI : (n : Int) < 1000000000000 := by omega
    clear hn
    go_loopw [5, 6, 7] (fun s5 s6 s7 wr => ∃ (i le mo : Nat), s5 = .int .i64 le ∧ s6 = .int .i64 mo ∧ s7 = .int .i64 i ∧ 1 ≤ i ∧ i ≤ ht ∧ wr = w ∧ Hid (le = 2 * 8 ^ (i - 1) ∧ mo = 16 ^ i)) (fun _ _ s7 _ => ht - (intOf s7).toNat)
    case atStart => exact ⟨1, 2, 16, rfl, rfl, rfl, by omega, by omega, rfl, (⟨by decide, by decide⟩ : (2 = 2 * 8 ^ (1 - 1) ∧ 16 = 16 ^ 1))⟩
    case round =>
      obtain ⟨i, le, mo, rfl, rfl, rfl, hi, hk, rfl, HH⟩ := hrel
      have hle : le ≤ 33554432 := by rw [HH.out.1]; have := pow_small (i - 1) (by omega); omega
      have hmo : mo ≤ 4294967296 * 16 := by
        rw [HH.out.2]
        have := pow_small (i - 1) (by omega)
        obtain ⟨j, rfl⟩ : ∃ j, i = j + 1 := ⟨i - 1, by omega⟩
        rw [Nat.add_sub_cancel] at this
        rw [Nat.pow_succ]
        omega
      by_cases hlt : (i : Int) < ht
      · have hm40 : (mo : Int) < 1099511627776 := by omega
        have hli : (le : Int) ≤ 33554432 := by omega
        have hmi : (mo : Int) ≤ 68719476736 := by omega
        have HN : Hid (le * 8 = 2 * 8 ^ (i + 1 - 1) ∧ mo * 16 = 16 ^ (i + 1)) := by
          obtain ⟨e1, e2⟩ := HH.out
          obtain ⟨j, rfl⟩ : ∃ j, i = j + 1 := ⟨i - 1, by omega⟩
          rw [Nat.add_sub_cancel] at e1
          refine ⟨?_, ?_⟩
          · rw [e1, Nat.add_sub_cancel, Nat.pow_succ]; omega
          · rw [e2, Nat.pow_succ 16 (j + 1)]
        go_wp2_with fail
        go_roundw
        case measure => simp [intOf]; omega
        case rel => exact ⟨i + 1, le * 8, mo * 16, by go_num, by go_num, by go_num, by omega, by omega, trivial, HN⟩
      · obtain rfl : i = ht := by omega
        have b1 : (le : Int) - 1 ≤ n := by have := H3.out.1; have := HH.out.1; omega
        have b2 : (n : Int) ≤ mo - 1 := by have := H3.out.2; have := HH.out.2; omega
        have hli : (le : Int) ≤ 33554432 := by omega
        have hmi : (mo : Int) ≤ 68719476736 := by omega
        go_wp2_with fail
        go_ret
        exact ⟨by simp, rfl⟩
end Go.Proofs.Ytnjiiebjdpipjaa
/- pick, numbered of the law; which keys there are. -/
namespace Go.Proofs.Ytnjiiebjdpipjaa
open Go.RowKit Go

/-- The key of a number. -/
def kN (n : Nat) : ByteArray := (⟨#[107]⟩ : ByteArray) ++ (⟨#[UInt8.ofNat (n / 256), UInt8.ofNat (n % 256)]⟩ : ByteArray)
theorem kN_inj {x y : Nat} (hx : x < 2048) (hy : y < 2048) (h : kN x = kN y) : x = y := by
  have h1 := congrArg (fun b : ByteArray => b.data.toList) h
  simp only [kN, ByteArray.data_append, Array.toList_append, List.append_cancel_left_eq] at h1
  simp only [List.cons.injEq, and_true] at h1
  obtain ⟨e1, e2⟩ := h1
  have f1 := congrArg UInt8.toNat e1
  have f2 := congrArg UInt8.toNat e2
  simp only [UInt8.toNat_ofNat'] at f1 f2
  omega
set_option maxHeartbeats 1000000 in
set_option maxRecDepth 100000 in
theorem numbered_any (n : Nat) (w : World) (hn : n < 2048) : Calls Try.prog 10 #[.string ⟨#[107]⟩, .int .i64 n] w fun x w' => x = .returned (.string (kN n)) ∧ Tch (fun _ => False) w w' := by
  have hnI : (n : Int) < 2048 := by omega
  have hcv : (convert 71 9 (.slice (some ⟨w.heap.size, 0, none⟩) 2 2)).run Try.prog (w.alloc (.cells #[.int .u8 ((n : Int) / 256), .int .u8 ((n : Int) % 256)] 5)) = .ok (.string ⟨#[UInt8.ofNat (n / 256), UInt8.ofNat (n % 256)]⟩) (w.alloc (.cells #[.int .u8 ((n : Int) / 256), .int .u8 ((n : Int) % 256)] 5)) := by
    have := run_convert_bytes_back (P := Try.prog) (w.alloc (.cells #[.int .u8 ((n : Int) / 256), .int .u8 ((n : Int) % 256)] 5)) 71 9 5 ⟨w.heap.size, 0, none⟩ 2 [UInt8.ofNat (n / 256), UInt8.ofNat (n % 256)] Try.underlying71 Try.underlying5 Try.underlying9 (fun j hj => by
      rw [add_plain, Nat.zero_add, blk_cell (alloc_new w _)]
      rcases j with _ | _ | j
      · have e : ((UInt8.ofNat (n / 256)).toNat : Int) = (n : Int) / 256 := by rw [UInt8.toNat_ofNat']; omega
        simp only [List.getElem_cons_zero]
        rw [e]; rfl
      · have e : ((UInt8.ofNat (n % 256)).toNat : Int) = (n : Int) % 256 := by rw [UInt8.toNat_ofNat']; omega
        simp only [List.getElem_cons_succ, List.getElem_cons_zero]
        rw [e]; rfl
      · simp at hj; omega)
    simpa using this
  go_enter Try.func10, Try.ntmps10
  go_wp2
  go_ret
  exact ⟨rfl, Tch.alloc _ _ _⟩
/-- Which of n things a number speaks of. -/
def pkN (c : Int) (n : Nat) : Nat := ((if c < 0 then -(c + 1) else c) % (n : Int)).toNat
theorem pkN_lt (c : Int) (n : Nat) (hn : 0 < n) : pkN c n < n := by
  unfold pkN
  have h1 := Int.emod_lt_of_pos (if c < 0 then -(c + 1) else c) (show (0 : Int) < n by omega)
  omega
theorem pick8_any (c : Int) (n : Nat) (w : World) (h1 : -9223372036854775808 ≤ c) (h2 : c ≤ 9223372036854775807) (hn : 0 < n) (hn2 : n ≤ 9223372036854775807) : Calls Try.prog 8 #[.int .i64 c, .int .i64 n] w fun x w' => x = .returned (.int .i64 (pkN c n)) ∧ w' = w := by
  have hn0 : ¬ (n : Int) = 0 := by omega
  have hnb : ((n : Int) == 0) = false := by simp; omega
  by_cases hc : c < 0
  · obtain ⟨d, hd⟩ : ∃ d : Nat, -(c + 1) = d := ⟨(-(c + 1)).toNat, by omega⟩
    obtain ⟨rfl⟩ : c = -(d : Int) - 1 := by omega
    have HE : Hid (((d : Int) % n) = (pkN (-(d : Int) - 1) n : Nat)) := by
      show _ = _
      have e : (if (-(d : Int) - 1) < 0 then -((-(d : Int) - 1) + 1) else (-(d : Int) - 1)) = (d : Int) := by rw [if_pos hc]; omega
      simp only [pkN, e]
      have := Int.emod_nonneg (d : Int) (show (n : Int) ≠ 0 by omega)
      omega
    clear hd
    go_enter Try.func8, Try.ntmps8
    go_wp2
    go_ret
    exact ⟨by rw [← HE.out]; rfl, rfl⟩
  · obtain ⟨d, rfl⟩ : ∃ d : Nat, c = d := ⟨c.toNat, by omega⟩
    have HE : Hid (((d : Int) % n) = (pkN (d : Int) n : Nat)) := by
      show _ = _
      have e : (if (d : Int) < 0 then -((d : Int) + 1) else (d : Int)) = (d : Int) := if_neg (by omega)
      simp only [pkN, e]
      have := Int.emod_nonneg (d : Int) (show (n : Int) ≠ 0 by omega)
      omega
    go_enter Try.func8, Try.ntmps8
    go_wp2
    go_ret
    exact ⟨by rw [← HE.out]; rfl, rfl⟩
/-- What has no part in common with a power of two goes through all. -/
theorem odd_inj {a i j : Nat} (ha : a % 2 = 1) (hi : i < 2048) (hj : j < 2048) (h : i * a % 2048 = j * a % 2048) : i = j := by
  have hc2 : Nat.Coprime 2 a := by
    unfold Nat.Coprime
    rw [Nat.gcd_rec, ha]; decide
  have hc : Nat.Coprime 2048 a := by
    have := Nat.Coprime.pow_left 11 hc2
    simpa using this
  have key : ∀ p q : Nat, q ≤ p → p < 2048 → p * a % 2048 = q * a % 2048 → p = q := fun p q hqp hp e => by
    have h1 : 2048 ∣ a * (p - q) := by
      rw [Nat.mul_sub]
      have e1 : a * p = p * a := Nat.mul_comm _ _
      have e2 : a * q = q * a := Nat.mul_comm _ _
      have hle : q * a ≤ p * a := Nat.mul_le_mul_right _ hqp
      rw [e1, e2]
      exact ⟨(p * a) / 2048 - (q * a) / 2048, by omega⟩
    have h2 := Nat.Coprime.dvd_of_dvd_mul_left hc h1
    obtain ⟨z, hz⟩ := h2
    omega
  rcases Nat.le_total j i with h' | h'
  · exact key i j h' hi h
  · exact (key j i h' hj h.symm).symm
theorem odd_surj {a x : Nat} (ha : a % 2 = 1) (hx : x < 2048) : ∃ i, i < 2048 ∧ i * a % 2048 = x := by
  rcases Classical.em (∃ i, i < 2048 ∧ i * a % 2048 = x) with h | h
  · exact h
  · exfalso
    have hnd : ((List.range 2048).map (fun i => i * a % 2048)).Nodup := by
      refine List.pairwise_map.2 ?_
      refine List.Pairwise.imp_of_mem ?_ (List.nodup_range (n := 2048))
      intro i j hi hj hne e
      exact hne (odd_inj ha (List.mem_range.1 hi) (List.mem_range.1 hj) e)
    have hsub : (List.range 2048).map (fun i => i * a % 2048) ⊆ (List.range 2048).erase x := fun y hy => by
      obtain ⟨i, hi, rfl⟩ := List.mem_map.1 hy
      refine (List.mem_erase_of_ne (fun e => h ⟨i, List.mem_range.1 hi, e⟩)).2 (List.mem_range.2 (Nat.mod_lt _ (by omega)))
    have h1 := hnd.length_le_of_subset hsub
    rw [List.length_map, List.length_range, List.length_erase_of_mem (List.mem_range.2 hx), List.length_range] at h1
    omega
/-- Just these keys are there, each with its number. -/
def EM (l : List It) (n : Nat) (S : Nat → Prop) : Prop := ∀ e, e ∈ l ↔ ∃ x : Nat, x < n ∧ S x ∧ e = (kN x, (x : Int))
theorem EM.put {l l' : List It} {n x : Nat} {S : Nat → Prop} {old : GV} {th : Bool} (h : EM l n S) (hn : n ≤ 2048) (hx : x < n) (hr : PutRel (kN x) (x : Int) l l' old th) : EM l' n (fun y => S y ∨ y = x) := by
  rcases hr with ⟨_, a, b, _, _, rfl, rfl⟩ | ⟨_, _, a, b, _, _, rfl, rfl⟩
  · have h1 : (kN x, old) ∈ a ++ (kN x, old) :: b := by simp
    obtain ⟨y, hy, hS, e⟩ := (h _).1 h1
    injection e with e1 e2
    have hxy := kN_inj (by omega) (by omega) e1
    subst hxy
    subst e2
    intro e
    rw [h e]
    exact ⟨fun ⟨y, h2, h3, h4⟩ => ⟨y, h2, Or.inl h3, h4⟩, fun ⟨y, h2, h3, h4⟩ => ⟨y, h2, h3.elim id (fun e => e ▸ hS), h4⟩⟩
  · intro e
    have h1 := h e
    simp only [List.mem_append, List.mem_cons] at h1 ⊢
    constructor
    · rintro (h2 | h2 | h2)
      · obtain ⟨y, h3, h4, h5⟩ := h1.1 (Or.inl h2); exact ⟨y, h3, Or.inl h4, h5⟩
      · exact ⟨x, hx, Or.inr rfl, h2⟩
      · obtain ⟨y, h3, h4, h5⟩ := h1.1 (Or.inr h2); exact ⟨y, h3, Or.inl h4, h5⟩
    · rintro ⟨y, h3, h4 | h4, h5⟩
      · rcases h1.2 ⟨y, h3, h4, h5⟩ with h6 | h6
        · exact Or.inl h6
        · exact Or.inr (Or.inr h6)
      · exact Or.inr (Or.inl (by rw [h5, h4]))
theorem EM.del {l l' : List It} {n x : Nat} {S : Nat → Prop} {old : GV} {th : Bool} (h : EM l n S) (hn : n ≤ 2048) (hx : x < n) (hS : S x) (hr : RemRel (kN x) l l' old th) : th = true ∧ old = (x : Int) ∧ EM l' n (fun y => S y ∧ y ≠ x) ∧ l.length = l'.length + 1 := by
  have hin : (kN x, (x : Int)) ∈ l := (h _).2 ⟨x, hx, hS, rfl⟩
  rcases hr with ⟨rfl, hi⟩ | ⟨_, _, _, a, b, rfl, ha, hb⟩
  · have hlen := hi.len
    obtain ⟨a, b, ha, hb, rfl, rfl⟩ := hi
    have h1 : (kN x, old) ∈ a ++ (kN x, old) :: b := by simp
    obtain ⟨y, hy, hS', e⟩ := (h _).1 h1
    injection e with e1 e2
    have hxy := kN_inj (by omega) (by omega) e1
    subst hxy
    subst e2
    refine ⟨rfl, rfl, fun e => ?_, hlen⟩
    have h2 := h e
    simp only [List.mem_append, List.mem_cons] at h2 ⊢
    have hself := kc_self (kN x)
    constructor
    · rintro (h3 | h3)
      · obtain ⟨y, h4, h5, h6⟩ := h2.1 (Or.inl h3)
        refine ⟨y, h4, ⟨h5, fun eq => ?_⟩, h6⟩
        have := ha e h3
        unfold Lo at this
        rw [h6, eq] at this
        simp only at this
        omega
      · obtain ⟨y, h4, h5, h6⟩ := h2.1 (Or.inr (Or.inr h3))
        refine ⟨y, h4, ⟨h5, fun eq => ?_⟩, h6⟩
        have := hb e h3
        unfold Hi at this
        rw [h6, eq] at this
        simp only at this
        omega
    · rintro ⟨y, h4, ⟨h5, h7⟩, h6⟩
      rcases h2.2 ⟨y, h4, h5, h6⟩ with h8 | h8 | h8
      · exact Or.inl h8
      · exfalso
        rw [h6] at h8
        injection h8 with h8 _
        exact h7 (kN_inj (by omega) (by omega) h8)
      · exact Or.inr h8
  · exfalso
    have hself := kc_self (kN x)
    rcases List.mem_append.1 hin with h1 | h1
    · have := ha _ h1; unfold Lo at this; simp only at this; omega
    · have := hb _ h1; unfold Hi at this; simp only at this; omega
theorem sorted_nodup {l : List It} (h : Sorted l) : l.Nodup := h.imp (fun {a b} h e => by
  subst e
  have := kc_self a.1
  unfold KL at h
  omega)
theorem EM.len_le {l : List It} {n : Nat} {S : Nat → Prop} (h : EM l n S) (hs : Sorted l) : l.length ≤ n := by
  have h1 := (sorted_nodup hs).length_le_of_subset (l₂ := (List.range n).map (fun x => (kN x, (x : Int)))) (fun e he => by
    obtain ⟨x, hx, _, rfl⟩ := (h e).1 he
    exact List.mem_map.2 ⟨x, List.mem_range.2 hx, rfl⟩)
  simpa using h1
theorem EM.len_all {l : List It} {n : Nat} {S : Nat → Prop} (h : EM l n S) (hs : Sorted l) (hn : n ≤ 2048) (hS : ∀ x, x < n → S x) : l.length = n := by
  have h0 := h.len_le hs
  have hnd : ((List.range n).map (fun x => ((kN x, (x : Int)) : It))).Nodup := by
    refine List.pairwise_map.2 ?_
    refine List.Pairwise.imp_of_mem ?_ (List.nodup_range (n := n))
    intro i j hi hj hne e
    injection e with e1 _
    have := List.mem_range.1 hi
    have := List.mem_range.1 hj
    exact hne (kN_inj (by omega) (by omega) e1)
  have h1 := hnd.length_le_of_subset (l₂ := l) (fun e he => by
    obtain ⟨x, hx, rfl⟩ := List.mem_map.1 he
    have := List.mem_range.1 hx
    exact (h _).2 ⟨x, this, hS x this, rfl⟩)
  rw [List.length_map, List.length_range] at h1
  omega
theorem EM.none {l : List It} {n : Nat} {S : Nat → Prop} (h : EM l n S) (hS : ∀ x, x < n → ¬ S x) : l = [] := by
  cases l with
  | nil => rfl
  | cons e l =>
    obtain ⟨x, hx, hs, _⟩ := (h e).1 (by simp)
    exact absurd hs (hS x hx)
theorem EM.congr {l : List It} {n : Nat} {S T : Nat → Prop} (h : EM l n S) (hT : ∀ x, x < n → (S x ↔ T x)) : EM l n T := fun e => by
  rw [h e]
  exact ⟨fun ⟨x, a, b, c⟩ => ⟨x, a, (hT x a).1 b, c⟩, fun ⟨x, a, b, c⟩ => ⟨x, a, (hT x a).2 b, c⟩⟩
end Go.Proofs.Ytnjiiebjdpipjaa
