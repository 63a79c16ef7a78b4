/- CodeThrough: each step is read where it stands. -/
import Derived.Test.YtdicnnlfnfcmeaaDoorCut
import Derived.Deep.RegionWith
namespace Go.Proofs.YtdicnnlfnfcmeaaDoor
open Go.RowKit Go.Deep

theorem at_step {T : ByteArray} {f : Nat → Stp} {M k : Nat} (h : T.data.toList = encs f M) (hk : k < M) : ∃ rest, T.data.toList.drop (encs f k).length = enc (f k) ++ rest := by
  obtain ⟨r, hr⟩ := encs_pre f (k + 1) M hk
  refine ⟨r, ?_⟩
  rw [h, hr, encs, List.append_assoc]; simp
theorem rt1 {W : World} {R : Nat} {T : ByteArray} {f : Nat → Stp} {M k : Nat} {kd n : Int} {s : ByteArray} (h : T.data.toList = encs f M) (hk : k < M) (hp : f k = ⟨kd, n, s⟩) (hkd : kd = 1) (hT : T.size ≤ 281474976710656) (hc : RD W R T (encs f k).length 0) :
    Calls Tryd.prog 11 #[.pointer (some ⟨R, 0, none⟩)] W fun x w' => x = .returned (.int .i64 (pk n 256)) ∧ RD w' R T (encs f (k + 1)).length 0 ∧ Tch (fun i => i = R) W w' := by
  subst hkd
  obtain ⟨rest, hr⟩ := at_step h hk
  have he : enc (f k) = bytesL [pk n 256] := by rw [hp]; simp [enc]
  rw [he] at hr
  have hb := rbyte_any R T _ 0 W hc hT
  rw [rd1 hr] at hb
  have hr2 := pk_rng n 256 (by omega)
  refine hb.mono ?_
  rintro x w' ⟨rfl, h1, t1⟩
  refine ⟨ret_int (by simp only []; omega), ?_, t1⟩
  rw [encs_succ_len, he]; exact h1
theorem rt2 {W : World} {R : Nat} {T : ByteArray} {f : Nat → Stp} {M k : Nat} {kd n : Int} {s : ByteArray} (h : T.data.toList = encs f M) (hk : k < M) (hp : f k = ⟨kd, n, s⟩) (hkd : kd = 2) (hT : T.size ≤ 281474976710656) (hc : RD W R T (encs f k).length 0) :
    Calls Tryd.prog 13 #[.pointer (some ⟨R, 0, none⟩)] W fun x w' => x = .returned (.int .i64 (pk n 4611686018427387904)) ∧ RD w' R T (encs f (k + 1)).length 0 ∧ Tch (fun i => i = R) W w' := by
  subst hkd
  obtain ⟨rest, hr⟩ := at_step h hk
  have he : enc (f k) = dg (v2 n).toNat := by rw [hp]; simp [enc]
  rw [he] at hr
  have hv := v2_rng n
  have hb := rvar_any R T _ 0 W hc hT
  rw [rd2 (by omega) hr] at hb
  refine hb.mono ?_
  rintro x w' ⟨rfl, h1, t1⟩
  refine ⟨ret_int (by simp only []; show _ = v2 n; omega), ?_, t1⟩
  rw [encs_succ_len, he]; exact h1
theorem rt3 {W : World} {R : Nat} {T : ByteArray} {f : Nat → Stp} {M k : Nat} {kd n : Int} {s : ByteArray} (h : T.data.toList = encs f M) (hk : k < M) (hp : f k = ⟨kd, n, s⟩) (hkd : kd = 3) (hn1 : -9223372036854775808 ≤ n) (hn2 : n ≤ 9223372036854775807) (hT : T.size ≤ 281474976710656) (hc : RD W R T (encs f k).length 0) :
    Calls Tryd.prog 15 #[.pointer (some ⟨R, 0, none⟩)] W fun x w' => x = .returned (.int .i64 n) ∧ RD w' R T (encs f (k + 1)).length 0 ∧ Tch (fun i => i = R) W w' := by
  subst hkd
  obtain ⟨rest, hr⟩ := at_step h hk
  have he : enc (f k) = dg (fol n) := by rw [hp]; simp [enc]
  rw [he] at hr
  have hb := rint_any R T _ 0 W hc hT
  rw [rd3 (fol_lt n hn1 hn2) hr] at hb
  refine hb.mono ?_
  rintro x w' ⟨rfl, h1, t1⟩
  refine ⟨ret_int (unf_fol hn1 hn2), ?_, t1⟩
  rw [encs_succ_len, he]; exact h1
theorem rt4 {W : World} {R : Nat} {T : ByteArray} {f : Nat → Stp} {M k : Nat} {kd n : Int} {s : ByteArray} (h : T.data.toList = encs f M) (hk : k < M) (hp : f k = ⟨kd, n, s⟩) (hkd : kd = 4) (hT : T.size ≤ 281474976710656) (hc : RD W R T (encs f k).length 0) :
    Calls Tryd.prog 16 #[.pointer (some ⟨R, 0, none⟩), .int .i64 300] W fun x w' => x = .returned (.string (bnd s)) ∧ RD w' R T (encs f (k + 1)).length 0 ∧ Tch (fun i => i = R) W w' := by
  subst hkd
  obtain ⟨rest, hr⟩ := at_step h hk
  have he : enc (f k) = textL (bnd s) := by rw [hp]; simp [enc]
  rw [he] at hr
  have hb := rtext_any R T _ 0 300 W hc hT
  rw [rd4 hc.le (bnd_le s) hr] at hb
  refine hb.mono ?_
  rintro x w' ⟨rfl, h1, t1⟩
  refine ⟨rfl, ?_, t1⟩
  rw [encs_succ_len, he]; exact h1
theorem rt5 {W : World} {R : Nat} {T : ByteArray} {f : Nat → Stp} {M k : Nat} {kd n : Int} {s : ByteArray} (h : T.data.toList = encs f M) (hk : k < M) (hp : f k = ⟨kd, n, s⟩) (hkd : kd = 5) (hT : T.size ≤ 281474976710656) (hc : RD W R T (encs f k).length 0) :
    Calls Tryd.prog 19 #[.pointer (some ⟨R, 0, none⟩), .int .i64 (bnd s).size] W fun x w' => x = .returned (.string (bnd s)) ∧ RD w' R T (encs f (k + 1)).length 0 ∧ Tch (fun i => i = R) W w' := by
  subst hkd
  obtain ⟨rest, hr⟩ := at_step h hk
  have he : enc (f k) = (bnd s).data.toList := by rw [hp]; simp [enc]
  rw [he] at hr
  have hb := rraw_any R T _ 0 (bnd s).size W hc hT
  rw [rd5 hc.le hr] at hb
  refine hb.mono ?_
  rintro x w' ⟨rfl, h1, t1⟩
  refine ⟨rfl, ?_, t1⟩
  rw [encs_succ_len, he]; exact h1
theorem short_of {f : Nat → Stp} {M : Nat} {T : ByteArray} (h : T.data.toList = encs f M) (hne : 0 < T.size) : Short (T.extract 0 (T.size - 1)) f M := by
  have h1 : T.data.toList.length = T.size := Array.length_toList
  refine ⟨?_, ?_⟩
  · rw [Lib.extract_data, ← h, List.dropLast_eq_take]
    simp
  · intro he; rw [h, he] at h1; simp at h1; omega
end Go.Proofs.YtdicnnlfnfcmeaaDoor
