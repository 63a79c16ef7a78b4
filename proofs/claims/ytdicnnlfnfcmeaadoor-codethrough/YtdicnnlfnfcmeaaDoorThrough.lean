/- CodeThrough: its inner functions, walked: bounded, laid. -/
import Derived.Test.YtdicnnlfnfcmeaaDoorPlainThrough
namespace Go.Proofs.YtdicnnlfnfcmeaaDoor
open Go.RowKit Go.Deep

theorem bounded_any (s : ByteArray) (w : World) : Calls Tryd.prog 23 #[.string s] w fun x w' => x = .returned (.string (bnd s)) ∧ w' = w := by
  by_cases h : 300 < s.size
  · have h' : (300 : Int) < s.size := by omega
    have HB : Hid (s.extract 0 300 = bnd s) := by show _ = _; unfold bnd; rw [if_pos h]
    go_enter Tryd.func23, Tryd.ntmps23
    go_wp2
    go_ret
    exact ⟨ret_str HB.out, rfl⟩
  · have h' : ¬ (300 : Int) < s.size := by omega
    have HB : Hid (s = bnd s) := by show _ = _; unfold bnd; rw [if_neg h]
    go_enter Tryd.func23, Tryd.ntmps23
    go_wp2
    go_ret
    exact ⟨ret_str HB.out, rfl⟩

/-- The cells of the steps f. -/
def OpsF (w : World) (b off len : Nat) (f : Nat → Stp) : Prop := ∀ i, i < len → ∃ (o : Bool) (l : Value),
  (w.cell? ⟨b, off + i * 5, none⟩ = some (.bool o) ∧ w.cell? ⟨b, off + i * 5 + 1, none⟩ = some (.int .i64 (f i).k) ∧ w.cell? ⟨b, off + i * 5 + 2, none⟩ = some (.int .i64 (f i).n) ∧ w.cell? ⟨b, off + i * 5 + 3, none⟩ = some (.string (f i).s) ∧ w.cell? ⟨b, off + i * 5 + 4, none⟩ = some l) ∧ -9223372036854775808 ≤ (f i).n ∧ (f i).n ≤ 9223372036854775807 ∧ ∃ la ln lc, l = .slice la ln lc
theorem opsF_of {w : World} {b off len : Nat} (h : Ops w b off len) : ∃ f, OpsF w b off len f := by
  obtain ⟨f, hf⟩ := choose_lt (n := len) (p := fun i (x : Stp) => ∃ (o : Bool) (l : Value),
    (w.cell? ⟨b, off + i * 5, none⟩ = some (.bool o) ∧ w.cell? ⟨b, off + i * 5 + 1, none⟩ = some (.int .i64 x.k) ∧ w.cell? ⟨b, off + i * 5 + 2, none⟩ = some (.int .i64 x.n) ∧ w.cell? ⟨b, off + i * 5 + 3, none⟩ = some (.string x.s) ∧ w.cell? ⟨b, off + i * 5 + 4, none⟩ = some l) ∧ -9223372036854775808 ≤ x.n ∧ x.n ≤ 9223372036854775807 ∧ ∃ la ln lc, l = .slice la ln lc) (fun i hi => by
    obtain ⟨o, k, n, s, l, hc, _, _, h3, h4, h5⟩ := h i hi
    exact ⟨⟨k, n, s⟩, o, l, hc, h3, h4, h5⟩)
  exact ⟨f, hf⟩
theorem OpsF.tch {S : Nat → Prop} {w w' : World} {b off len : Nat} {f : Nat → Stp} (h : OpsF w b off len f) (t : Tch S w w') (hS : ¬ S b) : OpsF w' b off len f := by
  intro i hi
  obtain ⟨o, l, ⟨h0, h1, h2, h3, h4⟩, hr⟩ := h i hi
  have hl : b < w.heap.size := cell_lt h0
  exact ⟨o, l, ⟨(t.cell (p := ⟨b, _, none⟩) hl hS).trans h0, (t.cell (p := ⟨b, _, none⟩) hl hS).trans h1, (t.cell (p := ⟨b, _, none⟩) hl hS).trans h2, (t.cell (p := ⟨b, _, none⟩) hl hS).trans h3, (t.cell (p := ⟨b, _, none⟩) hl hS).trans h4⟩, hr⟩

theorem upd0 (bs l : List UInt8) : upd bs 0 l 0 = (bs ++ l, 0) := by rw [upd_lay, laidOn_zero]
theorem v2_rng (n : Int) : 0 ≤ v2 n ∧ v2 n < 4611686018427387904 := pk_rng n _ (by omega)

/-- The Writer's call of one step. -/
theorem ld1 {W : World} {bw k : Nat} {f : Nat → Stp} {kd n : Int} {s : ByteArray} (hp : f k = ⟨kd, n, s⟩) (hk : kd = 1) (hb : 310 * k ≤ 62000) (hW : WS W bw (encs f k) 0) :
    Calls Tryd.prog 10 #[.pointer (some ⟨bw, 0, none⟩), .slice (some ⟨W.heap.size, 0, none⟩) 1 1] (W.alloc (.cells #[.int .i64 (pk n 256)] 3)) fun x w' => x = .returned (.tuple #[]) ∧ WS w' bw (encs f (k + 1)) 0 ∧ Tch (fun i => bw ≤ i) W w' := by
  have tA : Tch (fun _ => False) W (W.alloc (.cells #[.int .i64 (pk n 256)] 3)) := Tch.alloc _ _ _
  have hlt := hW.lt
  have hl := encs_len f k
  have hr := pk_rng n 256 (by omega)
  refine (wbyte_any bw (encs f k) 0 [pk n 256] W.heap.size 1 _ (hW.tch tA (fun _ _ _ h => h)) (by simp only [List.length_cons, List.length_nil]; omega) (by omega) ⟨_, _, heap_alloc_new W _⟩ (fun j hj => by
    rcases j with _ | j
    · simp
    · simp at hj)).mono ?_
  rintro x w2 ⟨rfl, h2, t2⟩
  have hc : bytesC [pk n 256] = 0 := by unfold bytesC; rw [if_pos]; simp [byteOk]; omega
  rw [hc, upd0] at h2
  refine ⟨rfl, ?_, (no_mono tA).trans' (wt_le t2)⟩
  have he : encs f (k + 1) = encs f k ++ bytesL [pk n 256] := by subst hk; rw [encs, hp]; simp [enc]
  rw [he]; exact h2
theorem ld2 {W : World} {bw k : Nat} {f : Nat → Stp} {kd n : Int} {s : ByteArray} (hp : f k = ⟨kd, n, s⟩) (hk : kd = 2) (hb : 310 * k ≤ 62000) (hW : WS W bw (encs f k) 0) :
    Calls Tryd.prog 12 #[.pointer (some ⟨bw, 0, none⟩), .int .i64 (v2 n)] W fun x w' => x = .returned (.tuple #[]) ∧ WS w' bw (encs f (k + 1)) 0 ∧ Tch (fun i => bw ≤ i) W w' := by
  have hl := encs_len f k
  have hr := v2_rng n
  refine (wvar_any bw (encs f k) 0 (v2 n) _ hW (by omega) (by omega)).mono ?_
  rintro x w2 ⟨rfl, h2, t2⟩
  have hc : varC (v2 n) = 0 := by unfold varC; rw [if_neg (by omega)]
  rw [hc, upd0] at h2
  refine ⟨rfl, ?_, wt_le t2⟩
  have he : encs f (k + 1) = encs f k ++ varL (v2 n) := by subst hk; rw [encs, hp]; simp [enc, varL]
  rw [he]; exact h2
theorem ld3 {W : World} {bw k : Nat} {f : Nat → Stp} {kd n : Int} {s : ByteArray} (hp : f k = ⟨kd, n, s⟩) (hk : kd = 3) (hb : 310 * k ≤ 62000) (h1 : -9223372036854775808 ≤ n) (h2 : n ≤ 9223372036854775807) (hW : WS W bw (encs f k) 0) :
    Calls Tryd.prog 14 #[.pointer (some ⟨bw, 0, none⟩), .int .i64 n] W fun x w' => x = .returned (.tuple #[]) ∧ WS w' bw (encs f (k + 1)) 0 ∧ Tch (fun i => bw ≤ i) W w' := by
  have hl := encs_len f k
  refine (wint_any bw (encs f k) 0 n _ hW h1 h2 (by omega)).mono ?_
  rintro x w2 ⟨rfl, h3, t2⟩
  rw [laidOn_zero] at h3
  refine ⟨rfl, ?_, wt_le t2⟩
  have he : encs f (k + 1) = encs f k ++ dg (fol n) := by subst hk; rw [encs, hp]; simp [enc]
  rw [he]; exact h3
theorem ld4 {W : World} {bw k : Nat} {f : Nat → Stp} {kd n : Int} {s : ByteArray} (hp : f k = ⟨kd, n, s⟩) (hk : kd = 4) (hb : 310 * k ≤ 62000) (hW : WS W bw (encs f k) 0) :
    Calls Tryd.prog 17 #[.pointer (some ⟨bw, 0, none⟩), .string (bnd s), .int .i64 300] W fun x w' => x = .returned (.tuple #[]) ∧ WS w' bw (encs f (k + 1)) 0 ∧ Tch (fun i => bw ≤ i) W w' := by
  have hl := encs_len f k
  have hs := bnd_le s
  refine (wtext_any bw (encs f k) 0 (bnd s) 300 _ hW (by omega)).mono ?_
  rintro x w2 ⟨rfl, h2, t2⟩
  have hc : textC (bnd s) 300 = 0 := by unfold textC; rw [if_neg (by omega), if_neg (by omega)]
  rw [hc, upd0] at h2
  refine ⟨rfl, ?_, wt_le t2⟩
  have he : encs f (k + 1) = encs f k ++ textL (bnd s) := by subst hk; rw [encs, hp]; simp [enc]
  rw [he]; exact h2
theorem ld5 {W : World} {bw k : Nat} {f : Nat → Stp} {kd n : Int} {s : ByteArray} (hp : f k = ⟨kd, n, s⟩) (hk : kd = 5) (hb : 310 * k ≤ 62000) (hW : WS W bw (encs f k) 0) :
    Calls Tryd.prog 18 #[.pointer (some ⟨bw, 0, none⟩), .string (bnd s)] W fun x w' => x = .returned (.tuple #[]) ∧ WS w' bw (encs f (k + 1)) 0 ∧ Tch (fun i => bw ≤ i) W w' := by
  have hl := encs_len f k
  have hs := bnd_le s
  refine (wraw_any bw (encs f k) 0 (bnd s) _ hW (by omega)).mono ?_
  rintro x w2 ⟨rfl, h2, t2⟩
  rw [laidOn_zero] at h2
  refine ⟨rfl, ?_, wt_le t2⟩
  have he : encs f (k + 1) = encs f k ++ (bnd s).data.toList := by subst hk; rw [encs, hp]; simp [enc]
  rw [he]; exact h2
theorem enc_none {f : Nat → Stp} {k : Nat} {kd n : Int} {s : ByteArray} (hp : f k = ⟨kd, n, s⟩) (k1 : ¬ kd = 1) (k2 : ¬ kd = 2) (k3 : ¬ kd = 3) (k4 : ¬ kd = 4) (k5 : ¬ kd = 5) : encs f (k + 1) = encs f k := by
  rw [encs, hp]; simp [enc, k1, k2, k3, k4, k5]

set_option maxHeartbeats 8000000 in
set_option maxRecDepth 100000 in
theorem laid_any (f : Nat → Stp) (b off len cap bw : Nat) (w : World) (hg : HE w) (hops : OpsF w b off len f) (hb : b < bw) (h0 : 0 < bw) (hW0 : WS w bw [] 0) :
    Calls Tryd.prog 22 #[.slice (some ⟨b, off, none⟩) len cap, .pointer (some ⟨bw, 0, none⟩)] w fun x w' => x = .returned (.bool true) ∧ WS w' bw (encs f (min len 200)) 0 ∧ Tch (fun i => bw ≤ i) w w' := by
  have HG : Hid (∀ W, Tch (fun i => bw ≤ i) w W → HE W) := fun W t => hg.tch t (by omega)
  have HO : Hid (∀ W, Tch (fun i => bw ≤ i) w W → OpsF W b off len f) := fun W t => hops.tch t (by omega)
  clear hops hg
  go_enter Tryd.func22, Tryd.ntmps22
  go_wp2_with fail
  go_loopw [5] (fun i wr => ∃ k : Nat, i = .int .i64 k ∧ k ≤ len ∧ k ≤ 200 ∧ WS wr bw (encs f k) 0 ∧ Tch (fun i => bw ≤ i) w wr) (fun i _ => len - (intOf i).toNat)
  case atStart => exact ⟨0, rfl, Nat.zero_le _, Nat.zero_le _, hW0, Tch.refl _ _⟩
  case round =>
    obtain ⟨k, rfl, hk, hk2, hW, hT⟩ := hrel
    clear hW0
    have hkb : 310 * k ≤ 62000 := by omega
    by_cases hlt : k < len
    · have hlt' : (k : Int) < len := by omega
      by_cases h200 : (k : Int) < 200
      · obtain ⟨o, l, ⟨o0, o1, o2, o3, o4⟩, hn1, hn2, la, ln, lc, hl5⟩ := HO.out wr hT k hlt
        subst hl5
        rcases hp : f k with ⟨kd, n, s⟩
        rw [hp] at o1 o2 o3 hn1 hn2
        simp only [] at o1 o2 o3 hn1 hn2
        go_wp2_with fail
        all_goals clear o0 o1 o2 o3 o4
        all_goals
          obtain ⟨W1, hW1e⟩ : ∃ W1, W1 = wr.alloc (.cells #[.bool o, .int .i64 kd, .int .i64 n, .string s, .slice la ln lc] 44) := ⟨_, rfl⟩
          have tA : Tch (fun _ => False) wr W1 := by rw [hW1e]; exact Tch.alloc _ _ _
          rw [← hW1e]
          have hW1 := hW.tch tA (fun _ _ _ h => h)
          have T1 := hT.trans' (no_mono tA)
          clear hW hT tA hW1e
        · have hk1 : kd = 1 := by simpa using ‹(kd == 1) = true›
          refine (pick_any n 256 _ hn1 hn2 (by omega) (by omega)).mono ?_
          rintro y w5 ⟨rfl, hw5⟩
          subst hw5
          go_wp2_with fail
          refine (ld1 hp hk1 hkb hW1).mono ?_
          rintro y w6 ⟨rfl, h6, t6⟩
          have T6 := T1.trans' t6
          clear hW1 T1 t6
          go_wp2
          go_roundw
          case rel => exact ⟨k + 1, by go_num, by omega, by omega, h6, T6⟩
          case measure => simp [intOf]; omega
        · have hk1 : kd = 2 := by simpa using ‹(kd == 2) = true›
          refine (pick_any n 4611686018427387904 _ hn1 hn2 (by omega) (by omega)).mono ?_
          rintro y w5 ⟨rfl, hw5⟩
          subst hw5
          go_wp2_with fail
          refine (ld2 hp hk1 hkb hW1).mono ?_
          rintro y w6 ⟨rfl, h6, t6⟩
          have T6 := T1.trans' t6
          clear hW1 T1 t6
          go_wp2
          go_roundw
          case rel => exact ⟨k + 1, by go_num, by omega, by omega, h6, T6⟩
          case measure => simp [intOf]; omega
        · have hk1 : kd = 3 := by simpa using ‹(kd == 3) = true›
          refine (ld3 hp hk1 hkb hn1 hn2 hW1).mono ?_
          rintro y w6 ⟨rfl, h6, t6⟩
          have T6 := T1.trans' t6
          clear hW1 T1 t6
          go_wp2
          go_roundw
          case rel => exact ⟨k + 1, by go_num, by omega, by omega, h6, T6⟩
          case measure => simp [intOf]; omega
        · have hk1 : kd = 4 := by simpa using ‹(kd == 4) = true›
          refine (bounded_any s _).mono ?_
          rintro y w5 ⟨rfl, hw5⟩
          subst hw5
          go_wp2_with fail
          refine (ld4 hp hk1 hkb hW1).mono ?_
          rintro y w6 ⟨rfl, h6, t6⟩
          have T6 := T1.trans' t6
          clear hW1 T1 t6
          go_wp2
          go_roundw
          case rel => exact ⟨k + 1, by go_num, by omega, by omega, h6, T6⟩
          case measure => simp [intOf]; omega
        · have hk1 : kd = 5 := by simpa using ‹(kd == 5) = true›
          refine (bounded_any s _).mono ?_
          rintro y w5 ⟨rfl, hw5⟩
          subst hw5
          go_wp2_with fail
          refine (ld5 hp hk1 hkb hW1).mono ?_
          rintro y w6 ⟨rfl, h6, t6⟩
          have T6 := T1.trans' t6
          clear hW1 T1 t6
          go_wp2
          go_roundw
          case rel => exact ⟨k + 1, by go_num, by omega, by omega, h6, T6⟩
          case measure => simp [intOf]; omega
        · have he := enc_none hp (by simpa using ‹(kd == 1) = false›) (by simpa using ‹(kd == 2) = false›) (by simpa using ‹(kd == 3) = false›) (by simpa using ‹(kd == 4) = false›) (by simpa using ‹(kd == 5) = false›)
          have hW2 : WS W1 bw (encs f (k + 1)) 0 := by rw [he]; exact hW1
          go_roundw
          case rel => exact ⟨k + 1, by go_num, by omega, by omega, hW2, T1⟩
          case measure => simp [intOf]; omega
      · have HM : Hid (min len 200 = k) := by show _ = _; omega
        go_wp2_with fail
        refine (wdone_any bw (encs f k) 0 _ hW (HG.out _ hT)).mono ?_
        rintro x w3 ⟨rfl, t3⟩
        have hW3 := hW.tch t3 (fun _ _ _ h => h)
        have T3 := hT.trans' (no_mono t3)
        clear hW hT t3
        go_wp2
        go_ret
        rw [HM.out]
        exact ⟨rfl, hW3, T3⟩
    · have hlt' : ¬ (k : Int) < len := by omega
      have HM : Hid (min len 200 = k) := by show _ = _; omega
      go_wp2_with fail
      refine (wdone_any bw (encs f k) 0 _ hW (HG.out _ hT)).mono ?_
      rintro x w3 ⟨rfl, t3⟩
      have hW3 := hW.tch t3 (fun _ _ _ h => h)
      have T3 := hT.trans' (no_mono t3)
      clear hW hT t3
      go_wp2
      go_ret
      rw [HM.out]
      exact ⟨rfl, hW3, T3⟩
end Go.Proofs.YtdicnnlfnfcmeaaDoor
