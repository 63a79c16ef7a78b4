/- CodeThrough: cut, walked. -/
import Derived.Test.YtdicnnlfnfcmeaaDoorThrough
namespace Go.Proofs.YtdicnnlfnfcmeaaDoor
open Go.RowKit Go.Deep

/-- T has all bytes of the first M steps but the last one. -/
structure Short (T : ByteArray) (f : Nat → Stp) (M : Nat) : Prop where
  t : T.data.toList = (encs f M).dropLast
  ne : encs f M ≠ []
theorem Short.size {T : ByteArray} {f : Nat → Stp} {M : Nat} (h : Short T f M) : T.size + 1 = (encs f M).length := by
  have h1 : T.data.toList.length = T.size := Array.length_toList
  have h2 : 0 < (encs f M).length := List.length_pos_iff.2 h.ne
  rw [h.t, List.length_dropLast] at h1
  omega
theorem cut_cases {T : ByteArray} {f : Nat → Stp} {M k : Nat} (h : Short T f M) (hk : k < M) (ha : (encs f k).length ≤ T.size) :
    (∃ rest, T.data.toList.drop (encs f k).length = enc (f k) ++ rest) ∨ (T.data.toList.drop (encs f k).length = (enc (f k)).dropLast ∧ enc (f k) ≠ [] ∧ T.size < (encs f k).length + (enc (f k)).length) := by
  obtain ⟨r, hr⟩ := encs_pre f (k + 1) M hk
  have hs := h.size
  have hL : encs f M = encs f k ++ (enc (f k) ++ r) := by rw [hr, encs, List.append_assoc]
  have hlen : (encs f M).length = (encs f k).length + ((enc (f k)).length + r.length) := by rw [hL]; simp
  by_cases hr0 : r = []
  · right
    subst hr0
    have hne : enc (f k) ≠ [] := by
      intro he
      rw [he] at hlen; simp at hlen; omega
    refine ⟨?_, hne, ?_⟩
    · rw [h.t, hL, List.append_nil, List.dropLast_append_of_ne_nil hne]; simp
    · simp at hlen; omega
  · left
    refine ⟨r.dropLast, ?_⟩
    rw [h.t, hL, List.dropLast_append_of_ne_nil (by simp [hr0]), List.dropLast_append_of_ne_nil hr0]
    simp

/-- Where the Reader of the shorter text is: where it would be of the whole one, or something is missing. -/
def CU (w : World) (R : Nat) (T : ByteArray) (f : Nat → Stp) (k : Nat) : Prop := RD w R T (encs f k).length 0 ∨ ∃ a, RD w R T a 11
theorem CU.tch {S : Nat → Prop} {w w' : World} {R : Nat} {T : ByteArray} {f : Nat → Stp} {k : Nat} (h : CU w R T f k) (t : Tch S w w') (hS : ¬ S R) : CU w' R T f k := by
  rcases h with h | ⟨a, h⟩
  · exact Or.inl (h.tch t hS)
  · exact Or.inr ⟨a, h.tch t hS⟩
theorem cu_of {w' : World} {R a' k : Nat} {T : ByteArray} {f : Nat → Stp} {e' : Int} (hr : RD w' R T a' e') (h : (a' = (encs f (k + 1)).length ∧ e' = 0) ∨ e' = 11) : CU w' R T f (k + 1) := by
  rcases h with ⟨rfl, rfl⟩ | rfl
  · exact Or.inl hr
  · exact Or.inr ⟨a', hr⟩
theorem encs_succ_len (f : Nat → Stp) (k : Nat) : (encs f (k + 1)).length = (encs f k).length + (enc (f k)).length := by rw [encs, List.length_append]

theorem ck1 {T : ByteArray} {f : Nat → Stp} {M k : Nat} {n : Int} {s : ByteArray} (h : Short T f M) (hk : k < M) (ha : (encs f k).length ≤ T.size) (hp : f k = ⟨1, n, s⟩) :
    ((byteR T (encs f k).length 0).2.1 = (encs f (k + 1)).length ∧ (byteR T (encs f k).length 0).2.2 = 0) ∨ (byteR T (encs f k).length 0).2.2 = 11 := by
  have he : enc (f k) = bytesL [pk n 256] := by rw [hp]; simp [enc]
  rcases cut_cases h hk ha with ⟨rest, h1⟩ | ⟨_, _, h3⟩
  · rw [he] at h1
    left; rw [rd1 h1, encs_succ_len, he]; exact ⟨by simp [bytesL], rfl⟩
  · rw [he] at h3
    right; rw [sh1 (by simp [bytesL] at h3; omega)]
theorem ck2 {T : ByteArray} {f : Nat → Stp} {M k : Nat} {n : Int} {s : ByteArray} (h : Short T f M) (hk : k < M) (ha : (encs f k).length ≤ T.size) (hp : f k = ⟨2, n, s⟩) :
    ((numR 9 127 T (encs f k).length 0).2.1 = (encs f (k + 1)).length ∧ (numR 9 127 T (encs f k).length 0).2.2 = 0) ∨ (numR 9 127 T (encs f k).length 0).2.2 = 11 := by
  have he : enc (f k) = dg (v2 n).toNat := by rw [hp]; simp [enc]
  have hr := v2_rng n
  rcases cut_cases h hk ha with ⟨rest, h1⟩ | ⟨h1, _, _⟩
  · rw [he] at h1
    left; rw [rd2 (by omega) h1, encs_succ_len, he]; exact ⟨rfl, rfl⟩
  · rw [he] at h1
    right; rw [sh2 (by omega) h1]
theorem ck3 {T : ByteArray} {f : Nat → Stp} {M k : Nat} {n : Int} {s : ByteArray} (h : Short T f M) (hk : k < M) (ha : (encs f k).length ≤ T.size) (hp : f k = ⟨3, n, s⟩) (hn1 : -9223372036854775808 ≤ n) (hn2 : n ≤ 9223372036854775807) :
    ((numR 10 1 T (encs f k).length 0).2.1 = (encs f (k + 1)).length ∧ (numR 10 1 T (encs f k).length 0).2.2 = 0) ∨ (numR 10 1 T (encs f k).length 0).2.2 = 11 := by
  have he : enc (f k) = dg (fol n) := by rw [hp]; simp [enc]
  have hr := fol_lt n hn1 hn2
  rcases cut_cases h hk ha with ⟨rest, h1⟩ | ⟨h1, _, _⟩
  · rw [he] at h1
    left; rw [rd3 hr h1, encs_succ_len, he]; exact ⟨rfl, rfl⟩
  · rw [he] at h1
    right; rw [sh3 hr h1]
theorem ck4 {T : ByteArray} {f : Nat → Stp} {M k : Nat} {n : Int} {s : ByteArray} (h : Short T f M) (hk : k < M) (ha : (encs f k).length ≤ T.size) (hp : f k = ⟨4, n, s⟩) :
    ((textR 300 T (encs f k).length 0).2.1 = (encs f (k + 1)).length ∧ (textR 300 T (encs f k).length 0).2.2 = 0) ∨ (textR 300 T (encs f k).length 0).2.2 = 11 := by
  have he : enc (f k) = textL (bnd s) := by rw [hp]; simp [enc]
  have hr := bnd_le s
  rcases cut_cases h hk ha with ⟨rest, h1⟩ | ⟨h1, _, _⟩
  · rw [he] at h1
    left; rw [rd4 ha hr h1, encs_succ_len, he]; exact ⟨rfl, rfl⟩
  · rw [he] at h1
    right; rw [sh4 hr h1]
theorem ck5 {T : ByteArray} {f : Nat → Stp} {M k : Nat} {n : Int} {s : ByteArray} (h : Short T f M) (hk : k < M) (ha : (encs f k).length ≤ T.size) (hp : f k = ⟨5, n, s⟩) :
    ((rawR (bnd s).size T (encs f k).length 0).2.1 = (encs f (k + 1)).length ∧ (rawR (bnd s).size T (encs f k).length 0).2.2 = 0) ∨ (rawR (bnd s).size T (encs f k).length 0).2.2 = 11 := by
  have he : enc (f k) = (bnd s).data.toList := by rw [hp]; simp [enc]
  have h0 : (bnd s).data.toList.length = (bnd s).size := Array.length_toList
  rcases cut_cases h hk ha with ⟨rest, h1⟩ | ⟨_, _, h3⟩
  · rw [he] at h1
    left; rw [rd5 ha h1, encs_succ_len, he]; exact ⟨rfl, rfl⟩
  · rw [he] at h3
    right; rw [sh5 (by omega)]

theorem cu1 {W : World} {R : Nat} {T : ByteArray} {f : Nat → Stp} {M k : Nat} {kd n : Int} {s : ByteArray} (h : Short T f M) (hk : k < M) (hp : f k = ⟨kd, n, s⟩) (hkd : kd = 1) (hT : T.size ≤ 281474976710656) (hc : CU W R T f k) :
    Calls Tryd.prog 11 #[.pointer (some ⟨R, 0, none⟩)] W fun x w' => (∃ v, x = .returned v) ∧ CU w' R T f (k + 1) ∧ Tch (fun i => i = R) W w' := by
  subst hkd
  rcases hc with hc | ⟨a, hc⟩
  · refine (rbyte_any R T _ 0 W hc hT).mono ?_
    rintro x w' ⟨rfl, h1, t1⟩
    exact ⟨⟨_, rfl⟩, cu_of h1 (ck1 h hk hc.le hp), t1⟩
  · refine (rbyte_any R T a 11 W hc hT).mono ?_
    rintro x w' ⟨rfl, h1, t1⟩
    exact ⟨⟨_, rfl⟩, cu_of h1 (Or.inr (by simp [byteR])), t1⟩
theorem cu2 {W : World} {R : Nat} {T : ByteArray} {f : Nat → Stp} {M k : Nat} {kd n : Int} {s : ByteArray} (h : Short T f M) (hk : k < M) (hp : f k = ⟨kd, n, s⟩) (hkd : kd = 2) (hT : T.size ≤ 281474976710656) (hc : CU W R T f k) :
    Calls Tryd.prog 13 #[.pointer (some ⟨R, 0, none⟩)] W fun x w' => (∃ v, x = .returned v) ∧ CU w' R T f (k + 1) ∧ Tch (fun i => i = R) W w' := by
  subst hkd
  rcases hc with hc | ⟨a, hc⟩
  · refine (rvar_any R T _ 0 W hc hT).mono ?_
    rintro x w' ⟨rfl, h1, t1⟩
    exact ⟨⟨_, rfl⟩, cu_of h1 (ck2 h hk hc.le hp), t1⟩
  · refine (rvar_any R T a 11 W hc hT).mono ?_
    rintro x w' ⟨rfl, h1, t1⟩
    exact ⟨⟨_, rfl⟩, cu_of h1 (Or.inr (by simp [numR])), t1⟩
theorem cu3 {W : World} {R : Nat} {T : ByteArray} {f : Nat → Stp} {M k : Nat} {kd n : Int} {s : ByteArray} (h : Short T f M) (hk : k < M) (hp : f k = ⟨kd, n, s⟩) (hkd : kd = 3) (hn1 : -9223372036854775808 ≤ n) (hn2 : n ≤ 9223372036854775807) (hT : T.size ≤ 281474976710656) (hc : CU W R T f k) :
    Calls Tryd.prog 15 #[.pointer (some ⟨R, 0, none⟩)] W fun x w' => (∃ v, x = .returned v) ∧ CU w' R T f (k + 1) ∧ Tch (fun i => i = R) W w' := by
  subst hkd
  rcases hc with hc | ⟨a, hc⟩
  · refine (rint_any R T _ 0 W hc hT).mono ?_
    rintro x w' ⟨rfl, h1, t1⟩
    exact ⟨⟨_, rfl⟩, cu_of h1 (ck3 h hk hc.le hp hn1 hn2), t1⟩
  · refine (rint_any R T a 11 W hc hT).mono ?_
    rintro x w' ⟨rfl, h1, t1⟩
    exact ⟨⟨_, rfl⟩, cu_of h1 (Or.inr (by simp [numR])), t1⟩
theorem cu4 {W : World} {R : Nat} {T : ByteArray} {f : Nat → Stp} {M k : Nat} {kd n : Int} {s : ByteArray} (h : Short T f M) (hk : k < M) (hp : f k = ⟨kd, n, s⟩) (hkd : kd = 4) (hT : T.size ≤ 281474976710656) (hc : CU W R T f k) :
    Calls Tryd.prog 16 #[.pointer (some ⟨R, 0, none⟩), .int .i64 300] W fun x w' => (∃ v, x = .returned v) ∧ CU w' R T f (k + 1) ∧ Tch (fun i => i = R) W w' := by
  subst hkd
  rcases hc with hc | ⟨a, hc⟩
  · refine (rtext_any R T _ 0 300 W hc hT).mono ?_
    rintro x w' ⟨rfl, h1, t1⟩
    exact ⟨⟨_, rfl⟩, cu_of h1 (ck4 h hk hc.le hp), t1⟩
  · refine (rtext_any R T a 11 300 W hc hT).mono ?_
    rintro x w' ⟨rfl, h1, t1⟩
    exact ⟨⟨_, rfl⟩, cu_of h1 (Or.inr (by simp [textR])), t1⟩
theorem cu5 {W : World} {R : Nat} {T : ByteArray} {f : Nat → Stp} {M k : Nat} {kd n : Int} {s : ByteArray} (h : Short T f M) (hk : k < M) (hp : f k = ⟨kd, n, s⟩) (hkd : kd = 5) (hT : T.size ≤ 281474976710656) (hc : CU W R T f k) :
    Calls Tryd.prog 19 #[.pointer (some ⟨R, 0, none⟩), .int .i64 (bnd s).size] W fun x w' => (∃ v, x = .returned v) ∧ CU w' R T f (k + 1) ∧ Tch (fun i => i = R) W w' := by
  subst hkd
  rcases hc with hc | ⟨a, hc⟩
  · refine (rraw_any R T _ 0 _ W hc hT).mono ?_
    rintro x w' ⟨rfl, h1, t1⟩
    exact ⟨⟨_, rfl⟩, cu_of h1 (ck5 h hk hc.le hp), t1⟩
  · refine (rraw_any R T a 11 _ W hc hT).mono ?_
    rintro x w' ⟨rfl, h1, t1⟩
    exact ⟨⟨_, rfl⟩, cu_of h1 (Or.inr (by simp [rawR])), t1⟩
theorem cu_end {W : World} {R : Nat} {T : ByteArray} {f : Nat → Stp} {M : Nat} (h : Short T f M) (hc : CU W R T f M) : ∃ a, RD W R T a 11 := by
  rcases hc with hc | hc
  · have := h.size; have := hc.le; omega
  · exact hc

set_option maxHeartbeats 8000000 in
set_option maxRecDepth 100000 in
theorem cut_any (f : Nat → Stp) (b off len cap : Nat) (T : ByteArray) (w : World) (hg : HE w) (hops : OpsF w b off len f) (hb : b < w.heap.size) (hS : Short T f (min len 200)) (hT : T.size ≤ 281474976710656) :
    Calls Tryd.prog 24 #[.slice (some ⟨b, off, none⟩) len cap, .string T] w fun x w' => x = .returned (.int .i64 11) ∧ Tch (fun _ => False) w w' := by
  have hg0 : 0 < w.heap.size := cell_lt hg
  have HG : Hid (∀ W, Tch (fun i => w.heap.size ≤ i) w W → HE W) := fun W t => hg.tch t (by omega)
  have HO : Hid (∀ W, Tch (fun i => w.heap.size ≤ i) w W → OpsF W b off len f) := fun W t => hops.tch t (by omega)
  clear hops hg
  go_enter Tryd.func24, Tryd.ntmps24
  go_wp2_with fail
  refine (newReader_any _ _).mono ?_
  rintro x w2 ⟨rfl, r2, t2, z2⟩
  have T2 := no_mono (S := fun i => w.heap.size ≤ i) t2
  have c2 : CU w2 w.heap.size T f 0 := Or.inl r2
  clear r2 t2 z2
  go_wp2_with fail
  go_loopw [6] (fun i wr => ∃ k : Nat, i = .int .i64 k ∧ k ≤ len ∧ k ≤ 200 ∧ CU wr w.heap.size T f k ∧ Tch (fun i => w.heap.size ≤ i) w wr) (fun i _ => len - (intOf i).toNat)
  case atStart => exact ⟨0, rfl, Nat.zero_le _, Nat.zero_le _, c2, T2⟩
  case round =>
    obtain ⟨k, rfl, hk, hk2, hC, hTc⟩ := hrel
    clear c2 T2
    by_cases hlt : k < len
    · have hlt' : (k : Int) < len := by omega
      by_cases h200 : (k : Int) < 200
      · obtain ⟨o, l, ⟨o0, o1, o2, o3, o4⟩, hn1, hn2, _⟩ := HO.out wr hTc k hlt
        rcases hp : f k with ⟨kd, n, s⟩
        rw [hp] at o1 o2 o3 hn1 hn2
        simp only [] at o1 o2 o3 hn1 hn2
        have hkM : k < min len 200 := by omega
        go_wp2_with fail
        all_goals clear o0 o1 o2 o3 o4
        · refine (cu1 hS hkM hp (by simpa using ‹(kd == 1) = true›) hT hC).mono ?_
          rintro y w6 ⟨⟨v, rfl⟩, h6, t6⟩
          have T6 := hTc.trans' (eq_mono t6 (Nat.le_refl _))
          clear hC hTc t6
          go_wp2
          go_roundw
          case rel => exact ⟨k + 1, by go_num, by omega, by omega, h6, T6⟩
          case measure => simp [intOf]; omega
        · refine (cu2 hS hkM hp (by simpa using ‹(kd == 2) = true›) hT hC).mono ?_
          rintro y w6 ⟨⟨v, rfl⟩, h6, t6⟩
          have T6 := hTc.trans' (eq_mono t6 (Nat.le_refl _))
          clear hC hTc t6
          go_wp2
          go_roundw
          case rel => exact ⟨k + 1, by go_num, by omega, by omega, h6, T6⟩
          case measure => simp [intOf]; omega
        · refine (cu3 hS hkM hp (by simpa using ‹(kd == 3) = true›) hn1 hn2 hT hC).mono ?_
          rintro y w6 ⟨⟨v, rfl⟩, h6, t6⟩
          have T6 := hTc.trans' (eq_mono t6 (Nat.le_refl _))
          clear hC hTc t6
          go_wp2
          go_roundw
          case rel => exact ⟨k + 1, by go_num, by omega, by omega, h6, T6⟩
          case measure => simp [intOf]; omega
        · refine (cu4 hS hkM hp (by simpa using ‹(kd == 4) = true›) hT hC).mono ?_
          rintro y w6 ⟨⟨v, rfl⟩, h6, t6⟩
          have T6 := hTc.trans' (eq_mono t6 (Nat.le_refl _))
          clear hC hTc t6
          go_wp2
          go_roundw
          case rel => exact ⟨k + 1, by go_num, by omega, by omega, h6, T6⟩
          case measure => simp [intOf]; omega
        · refine (bounded_any s _).mono ?_
          rintro y w5 ⟨rfl, hw5⟩
          subst hw5
          go_wp2_with fail
          refine (cu5 hS hkM hp (by simpa using ‹(kd == 5) = true›) hT hC).mono ?_
          rintro y w6 ⟨⟨v, rfl⟩, h6, t6⟩
          have T6 := hTc.trans' (eq_mono t6 (Nat.le_refl _))
          clear hC hTc t6
          go_wp2
          go_roundw
          case rel => exact ⟨k + 1, by go_num, by omega, by omega, h6, T6⟩
          case measure => simp [intOf]; omega
        · have he := enc_none hp (by simpa using ‹(kd == 1) = false›) (by simpa using ‹(kd == 2) = false›) (by simpa using ‹(kd == 3) = false›) (by simpa using ‹(kd == 4) = false›) (by simpa using ‹(kd == 5) = false›)
          have hC2 : CU wr w.heap.size T f (k + 1) := by unfold CU; rw [he]; exact hC
          go_roundw
          case rel => exact ⟨k + 1, by go_num, by omega, by omega, hC2, hTc⟩
          case measure => simp [intOf]; omega
      · have HM : Hid (CU wr w.heap.size T f (min len 200)) := by have : min len 200 = k := by omega
                                                                  rw [this]; exact hC
        obtain ⟨a, ha⟩ := cu_end hS HM.out
        go_wp2_with fail
        have hd := rdone_q w.heap.size T a 11 _ ha (HG.out _ hTc)
        rw [show doneE 11 (T.size - a) = 11 from rfl] at hd
        refine hd.mono ?_
        rintro x w3 ⟨rfl, t3⟩
        have T3 := ge_new (hTc.trans' (no_mono t3))
        clear hC hTc t3 HM hd ha
        go_wp2
        go_ret
        exact ⟨rfl, T3⟩
    · have hlt' : ¬ (k : Int) < len := by omega
      have HM : Hid (CU wr w.heap.size T f (min len 200)) := by have : min len 200 = k := by omega
                                                                rw [this]; exact hC
      obtain ⟨a, ha⟩ := cu_end hS HM.out
      go_wp2_with fail
      have hd := rdone_q w.heap.size T a 11 _ ha (HG.out _ hTc)
      rw [show doneE 11 (T.size - a) = 11 from rfl] at hd
      refine hd.mono ?_
      rintro x w3 ⟨rfl, t3⟩
      have T3 := ge_new (hTc.trans' (no_mono t3))
      clear hC hTc t3 HM hd ha
      go_wp2
      go_ret
      exact ⟨rfl, T3⟩
end Go.Proofs.YtdicnnlfnfcmeaaDoor
