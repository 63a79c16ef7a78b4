import Derived.Test.YteaagnlhkopgdaaGreatDoorDMg3
import Derived.Test.YteaagnlhkopgdaaGreatDoorDMg6
import Derived.Test.YteaagnlhkopgdaaGreatDoorDMg9
import Derived.Test.YteaagnlhkopgdaaGreatDoorVPrint
set_option maxHeartbeats 8000000
set_option maxRecDepth 100000
namespace Go.Proofs.YteaagnlhkopgdaaGreatDoor.C
open Go.RowKit Go Go.Sort
theorem rrightM_any (r : Rc) (s : Sk) (F : Nat → Prop) (w : World) (h : RW w F r s) (hl : r.tb.cols.length ≤ 4398046511104) : Calls Tryz.prog 17 #[rV r s] w fun x w' => EqT (RR r) w x w' := by
  classical
  by_cases hk : 1 ≤ r.k ∧ r.k ≤ 9
  · have h15 : r.k = 1 ∨ r.k = 2 ∨ r.k = 3 ∨ r.k = 4 ∨ r.k = 5 ∨ r.k = 6 ∨ r.k = 7 ∨ r.k = 8 ∨ r.k = 9 := by omega
    rcases h15 with e | e | e | e | e | e | e | e | e
    · exact rrightM_1 r s F w h hl e (decide (r = cutC (cls r.k) r)) (decide (rtRow r.o)) (decide (rtRow r.n)) decide_eq_true_iff decide_eq_true_iff decide_eq_true_iff
    · exact rrightM_2 r s F w h hl e (decide (r = cutC (cls r.k) r)) (decide (rtRow r.o)) (decide (rtRow r.n)) decide_eq_true_iff decide_eq_true_iff decide_eq_true_iff
    · exact rrightM_3 r s F w h hl e (decide (r = cutC (cls r.k) r)) (decide (rtRow r.o)) (decide (rtRow r.n)) decide_eq_true_iff decide_eq_true_iff decide_eq_true_iff
    · exact rrightM_4 r s F w h hl e (decide (r = cutC (cls r.k) r)) (decide (rtRow r.o)) (decide (rtRow r.n)) decide_eq_true_iff decide_eq_true_iff decide_eq_true_iff
    · exact rrightM_5 r s F w h hl e (decide (r = cutC (cls r.k) r)) (decide (rtRow r.o)) (decide (rtRow r.n)) decide_eq_true_iff decide_eq_true_iff decide_eq_true_iff
    · exact rrightM_6 r s F w h hl e (decide (r = cutC (cls r.k) r)) (decide (rtRow r.o)) (decide (rtRow r.n)) decide_eq_true_iff decide_eq_true_iff decide_eq_true_iff
    · exact rrightM_7 r s F w h hl e (decide (r = cutC (cls r.k) r)) (decide (rtRow r.o)) (decide (rtRow r.n)) decide_eq_true_iff decide_eq_true_iff decide_eq_true_iff
    · exact rrightM_8 r s F w h hl e (decide (r = cutC (cls r.k) r)) (decide (rtRow r.o)) (decide (rtRow r.n)) decide_eq_true_iff decide_eq_true_iff decide_eq_true_iff
    · exact rrightM_9 r s F w h hl e (decide (r = cutC (cls r.k) r)) (decide (rtRow r.o)) (decide (rtRow r.n)) decide_eq_true_iff decide_eq_true_iff decide_eq_true_iff
  · exact rrightM_0 r s F w h hl hk (decide (r = cutC (cls r.k) r)) (decide (rtRow r.o)) (decide (rtRow r.n)) decide_eq_true_iff decide_eq_true_iff decide_eq_true_iff
end Go.Proofs.YteaagnlhkopgdaaGreatDoor.C
namespace Go.Proofs.YteaagnlhkopgdaaGreatDoor.C
open Go.RowKit Go Go.Sort
theorem rrowed_ok (vs : List Val) (ao : Option Addr) (c : Nat) (w : World) (h : SL w ao (vcl vs)) (hi : ∀ v ∈ vs, v.i64) (hl : vs.length ≤ 9223372036854775807) :
    Calls Tryz.prog 21 #[.slice ao vs.length c] w fun x w' => x = .returned (.string (bB (rowL vs))) ∧ Tch (fun _ => False) w w' := by
  have q := rencode_row vs ao c w h hi hl
  have hle := encR_len vs
  have hsz : (⟨(encR vs).1.toArray⟩ : ByteArray).size = (encR vs).1.length := by show (encR vs).1.toArray.size = _; simp
  have q2 : ∀ w1, Calls Tryz.prog 38 #[.string ⟨(encR vs).1.toArray⟩] w1 fun x w' => x = .returned (.string (bB (rowL vs))) ∧ Tch (fun _ => False) w1 w' := fun w1 => rtext_ok ⟨(encR vs).1.toArray⟩ (by rw [hsz]; omega) w1
  obtain ⟨E, hE⟩ : ∃ E, E = (encR vs).2 := ⟨_, rfl⟩
  obtain ⟨s, hs⟩ : ∃ s : ByteArray, s = ⟨(encR vs).1.toArray⟩ := ⟨_, rfl⟩
  rw [← hE, ← hs] at q
  rw [← hs] at q2
  have HQ2 : Hid _ := q2
  obtain ⟨n, hn⟩ : ∃ n, n = vs.length := ⟨_, rfl⟩
  rw [← hn] at q ⊢
  clear hn hE hs q2 hsz hle hl hi h
  go_enter Tryz.func21, Tryz.ntmps21
  go_wp2_with fail
  refine q.mono ?_
  rintro x w1 ⟨rfl, t1⟩
  go_wp2_with fail
  refine (HQ2.out w1).mono ?_
  rintro x w2 ⟨rfl, t2⟩
  go_wp2_with fail
  go_ret
  exact ⟨rfl, t1.trans' t2⟩
theorem bl_add4 (a b c d : List UInt8) : bl (bB a ++ bB b ++ bB c ++ bB d) = a ++ (b ++ (c ++ d)) := by
  simp only [bl_app, bl_bB, List.append_assoc]
theorem rtabled_ok (t : Tbl) (ao : Option Addr) (c : Nat) (w : World) (h : SL w ao (ccl t.cols)) (hr : rightE t = 0) : Calls Tryz.prog 20 #[tA t.id t.ver t.nm (.slice ao t.cols.length c) t.key] w fun x w' => x = .returned (.string (bB (tabL t))) ∧ Tch (fun _ => False) w w' := by
  have hrt := right_rt hr
  obtain ⟨n, hnn⟩ : ∃ n, n = t.cols.length := ⟨_, rfl⟩
  have i1 := hrt.id
  have i2 := hrt.ver
  have i3 := nm_size hrt.nm
  have i4 := hrt.len
  have i5 := hrt.key
  rw [← hnn] at i4 i5
  have HN : Hid (n = t.cols.length) := hnn
  have HRT : Hid (RT t) := hrt
  have HSL : Hid (∀ W, Tch (fun _ => False) w W → SL W ao (ccl t.cols)) := fun W tw => h.no tw
  have HD1 : Hid (∀ W, Calls Tryz.prog 19 #[.int .i64 t.id] W fun x w' => x = .returned (.string (bB (dg t.id.toNat))) ∧ Tch (fun _ => False) W w') := fun W => rdig_ok t.id (by omega) (by omega) W
  have HD2 : Hid (∀ W, Calls Tryz.prog 19 #[.int .i64 t.ver] W fun x w' => x = .returned (.string (bB (dg t.ver.toNat))) ∧ Tch (fun _ => False) W w') := fun W => rdig_ok t.ver (by omega) (by omega) W
  have HTX : Hid (∀ W, Calls Tryz.prog 38 #[.string t.nm] W fun x w' => x = .returned (.string (bB (textL t.nm))) ∧ Tch (fun _ => False) W w') := fun W => rtext_ok t.nm (by omega) W
  have HNM : Hid (∀ W, Calls Tryz.prog 18 #[.int .i64 (n : Int)] W fun x w' => x = .returned (.string (bB (bytesL [(n : Int)]))) ∧ Tch (fun _ => False) W w') := fun W => rnum_ok n (by omega) (by omega) W
  have HKY : Hid (∀ W, Calls Tryz.prog 18 #[.int .i64 t.key] W fun x w' => x = .returned (.string (bB (bytesL [t.key]))) ∧ Tch (fun _ => False) W w') := fun W => rnum_ok t.key (by omega) (by omega) W
  have HN0 : Hid (∀ b : Bool, ∀ W, Calls Tryz.prog 18 #[.int .i64 (nb b)] W fun x w' => x = .returned (.string (bB (bytesL [nb b]))) ∧ Tch (fun _ => False) W w') := fun b W => rnum_ok (nb b) (nb_rng b).1 (nb_rng b).2 W
  have HBT : Hid (bB (tabL t) = bB (dg t.id.toNat ++ (dg t.ver.toNat ++ (textL t.nm ++ (bytesL [(n : Int)] ++ (colsL t.cols ++ bytesL [t.key])))))) := by show _ = _; rw [HN.out]; rfl
  obtain ⟨D1, hD1⟩ : ∃ D1, D1 = bB (dg t.id.toNat) := ⟨_, rfl⟩
  obtain ⟨D2, hD2⟩ : ∃ D2, D2 = bB (dg t.ver.toNat) := ⟨_, rfl⟩
  obtain ⟨TX, hTX⟩ : ∃ TX, TX = bB (textL t.nm) := ⟨_, rfl⟩
  obtain ⟨NM, hNM⟩ : ∃ NM, NM = bB (bytesL [(n : Int)]) := ⟨_, rfl⟩
  obtain ⟨KY, hKY⟩ : ∃ KY, KY = bB (bytesL [t.key]) := ⟨_, rfl⟩
  obtain ⟨HEAD, hHEAD⟩ : ∃ HEAD, HEAD = dg t.id.toNat ++ (dg t.ver.toNat ++ (textL t.nm ++ bytesL [(n : Int)])) := ⟨_, rfl⟩
  have s1 : D1.size ≤ 10 := by rw [hD1, size_bB]; exact dg_len _
  have s2 : D2.size ≤ 10 := by rw [hD2, size_bB]; exact dg_len _
  have s3 : TX.size ≤ 26 := by rw [hTX, size_bB, textL_bl, List.length_append, bl_size]; have := dg_len t.nm.size; omega
  have s4 : NM.size ≤ 1 := by rw [hNM, size_bB]; exact Nat.le_refl 1
  have s5 : KY.size ≤ 1 := by rw [hKY, size_bB]; exact Nat.le_refl 1
  have HH : Hid (bl (D1 ++ D2 ++ TX ++ NM) = HEAD ∧ HEAD.length ≤ 47) := by
    have e : bl (D1 ++ D2 ++ TX ++ NM) = HEAD := by rw [hD1, hD2, hTX, hNM, hHEAD]; exact bl_add4 _ _ _ _
    refine ⟨e, ?_⟩
    rw [← e, bl_size, size_app, size_app, size_app]; omega
  have HEND : Hid (∀ S, bl S = HEAD ++ colsL t.cols → S ++ KY = bB (tabL t)) := fun S hS => by
    rw [HBT.out]
    apply bB_of
    rw [bl_app, hS, hKY, bl_bB, hHEAD]
    simp only [List.append_assoc]
  rw [← hD1] at HD1
  rw [← hD2] at HD2
  rw [← hTX] at HTX
  rw [← hNM] at HNM
  rw [← hKY] at HKY
  obtain ⟨w0, hw0⟩ : ∃ w0, w0 = w.alloc (.cells #[.int .i64 t.id, .int .i64 t.ver, .string t.nm, .slice ao n c, .int .i64 t.key] 24) := ⟨_, rfl⟩
  have T0 : Tch (fun _ => False) w w0 := by rw [hw0]; exact Tch.alloc _ _ _
  obtain ⟨N, hNn⟩ : ∃ N, N = w.heap.size := ⟨_, rfl⟩
  have HB : Hid (∀ W, Tch (fun _ => False) w0 W → W.cell? ⟨N, 0, none⟩ = some (.int .i64 t.id) ∧ W.cell? ⟨N, 1, none⟩ = some (.int .i64 t.ver) ∧ W.cell? ⟨N, 2, none⟩ = some (.string t.nm) ∧ W.cell? ⟨N, 3, none⟩ = some (.slice ao n c) ∧ W.cell? ⟨N, 4, none⟩ = some (.int .i64 t.key)) := fun W tw => by
    rw [hw0] at tw; rw [hNn]; exact box5 tw
  have HT0 : Hid (Tch (fun _ => False) w w0) := T0
  have HW0 : Hid (w0 = w.alloc (.cells #[.int .i64 t.id, .int .i64 t.ver, .string t.nm, .slice ao n c, .int .i64 t.key] 24)) := hw0
  have HNN : Hid (N = w.heap.size) := hNn
  rw [← hnn]
  have hz : w.heap.size = N := hNn.symm
  obtain ⟨b0, b1, b2, b3, b4⟩ := HB.out w0 (Tch.refl _ _)
  have k0 := cell_regrown b0
  have k1 := cell_regrown b1
  have k2 := cell_regrown b2
  have k3 := cell_regrown b3
  have c1 := fun (d : Nat) (os : Array Obj) => regrown_calls (w := w0) (fun W _ => HD1.out W) d os
  have c2 := fun (d : Nat) (os : Array Obj) => regrown_calls (w := w0) (fun W _ => HD2.out W) d os
  have c3 := fun (d : Nat) (os : Array Obj) => regrown_calls (w := w0) (fun W _ => HTX.out W) d os
  have c4 := fun (d : Nat) (os : Array Obj) => regrown_calls (w := w0) (fun W _ => HNM.out W) d os
  clear h hr hrt i1 i2 i3 i5 hD1 hD2 hTX hNM hKY hHEAD HBT hw0 T0 hNn hnn hz
  go_enter Tryz.func20, Tryz.ntmps20
  go_wp2_with fail
  rw [← HW0.out, ← HNN.out]
  refine wp_region_quiet_below (by kernel_rfl) (by kernel_rfl) ?_
  quiet_step (fail)
  quiet_step (fail)
  quiet_step ((go_at_call 19; exact c1 _ _))
  quiet_step (fail)
  quiet_step (fail)
  quiet_step ((go_at_call 19; exact c2 _ _))
  quiet_step ((rw [if_neg (by omega)]; exact ⟨rfl, rfl⟩))
  quiet_step (fail)
  quiet_step (fail)
  quiet_step ((go_at_call 38; exact c3 _ _))
  quiet_step ((rw [if_neg (by omega)]; exact ⟨rfl, rfl⟩))
  quiet_step (fail)
  quiet_step (fail)
  quiet_step (fail)
  quiet_step ((go_at_call 18; exact c4 _ _))
  quiet_step ((rw [if_neg (by omega)]; exact ⟨rfl, rfl⟩))
  quiet_step (fail)
  refine wpQuiet_nil ?_
  rintro w2 ⟨p, rfl⟩
  have HE : Hid (Tch (fun _ => False) w0 (grow (redrawn w0 p.d) p.os)) := Tch.regrown w0 p.d p.os
  obtain ⟨W2, hW2⟩ : ∃ W2, W2 = grow (redrawn w0 p.d) p.os := ⟨_, rfl⟩
  rw [← hW2] at HE ⊢
  clear hW2 k0 k1 k2 k3 b0 b1 b2 b3 b4 c1 c2 c3 c4 s1 s2 s3 s4 HD1 HD2 HTX HNM
  obtain ⟨S0, hS0⟩ : ∃ S0, S0 = D1 ++ D2 ++ TX ++ NM := ⟨_, rfl⟩
  rw [← hS0] at HH ⊢
  clear hS0
  go_wp2_with fail
  go_loopw [3, 4] (fun s i wr => ∃ (S : ByteArray) (k : Nat), s = .string S ∧ i = .int .i64 k ∧ k ≤ n ∧ Hid (bl S = HEAD ++ colsL (t.cols.take k)) ∧ S.size ≤ 47 + 28 * k ∧ Hid (Tch (fun _ => False) w0 wr)) (fun _ i _ => n - (intOf i).toNat)
  case atStart => exact ⟨S0, 0, rfl, rfl, Nat.zero_le _, by show bl S0 = _; rw [HH.out.1]; simp [colsL], by rw [← bl_size, HH.out.1]; have := HH.out.2; omega, HE⟩
  case round =>
    obtain ⟨S, k, rfl, rfl, hk, HS, hsz, HT⟩ := hrel
    have hT := HT.out
    obtain ⟨b0, b1, b2, b3, b4⟩ := HB.out wr hT
    by_cases hlt : (k : Int) < n
    · have hkc : k < t.cols.length := by have := HN.out; omega
      obtain ⟨g, o, rfl, ha⟩ := (HSL.out wr (HT0.out.trans' hT)).col hkc
      obtain ⟨a0, a1, a2⟩ := ha.col k hkc
      obtain ⟨x, hx⟩ : ∃ x, x = t.cols[k] := ⟨_, rfl⟩
      rw [← hx] at a0 a1 a2
      have hcx := HRT.out.cols x (by rw [hx]; exact List.getElem_mem hkc)
      have hxs := nm_size hcx.1
      have hkd := kd_rng hcx.2
      have HCL : Hid (colsL (t.cols.take (k + 1)) = colsL (t.cols.take k) ++ (textL x.nm ++ (bytesL [x.k] ++ bytesL [nb x.nl]))) := by
        show _ = _
        rw [(List.take_append_getElem hkc).symm, hx]
        unfold colsL
        rw [List.flatMap_append]
        simp [colL, bytesL]
      obtain ⟨TN, hTN⟩ : ∃ TN, TN = bB (textL x.nm) := ⟨_, rfl⟩
      obtain ⟨KN, hKN⟩ : ∃ KN, KN = bB (bytesL [x.k]) := ⟨_, rfl⟩
      obtain ⟨BN, hBN⟩ : ∃ BN, BN = bB (bytesL [nb x.nl]) := ⟨_, rfl⟩
      have q3 := HN0.out x.nl
      have q1 := fun W => rtext_ok x.nm (by omega) W
      have q2 := fun W => rnum_ok x.k (by omega) (by omega) W
      rw [← hTN] at q1
      rw [← hKN] at q2
      rw [← hBN] at q3
      have z1 : TN.size ≤ 26 := by rw [hTN, size_bB, textL_bl, List.length_append, bl_size]; have := dg_len x.nm.size; omega
      have z2 : KN.size ≤ 1 := by rw [hKN, size_bB]; exact Nat.le_refl 1
      have z3 : BN.size ≤ 1 := by rw [hBN, size_bB]; exact Nat.le_refl 1
      have HST : Hid (bl (S ++ TN ++ KN ++ BN) = HEAD ++ colsL (t.cols.take (k + 1)) ∧ (S ++ TN ++ KN ++ BN).size ≤ 47 + 28 * (k + 1)) := by
        refine ⟨?_, by simp only [size_app]; omega⟩
        rw [HCL.out, bl_app, bl_app, bl_app, HS.out, hTN, hKN, hBN, bl_bB, bl_bB, bl_bB]
        simp only [List.append_assoc]
      have k3 := cell_regrown b3
      have m0 := cell_regrown a0
      have m1 := cell_regrown a1
      have c1 := fun (d : Nat) (os : Array Obj) => regrown_calls (w := wr) (fun W _ => q1 W) d os
      have c2 := fun (d : Nat) (os : Array Obj) => regrown_calls (w := wr) (fun W _ => q2 W) d os
      have y0 : (S ++ TN).size ≤ 1000 := by simp only [size_app]; omega
      have y1 : (S ++ TN ++ KN).size ≤ 1000 := by simp only [size_app]; omega
      have y2 : (S ++ TN ++ KN ++ BN).size ≤ 1000 := by simp only [size_app]; omega
      clear hx ha hcx hxs hkd HCL hTN hKN hBN q1 q2 hT b0 b1 b2 b4 HS
      obtain ⟨bn, hbn⟩ : ∃ bn, bn = x.nl := ⟨_, rfl⟩
      rw [← hbn] at a2 q3
      clear hbn
      cases bn
      all_goals
        simp only [nb, if_true, Bool.false_eq_true, if_false] at q3
        have c3 := fun (d : Nat) (os : Array Obj) => regrown_calls (w := wr) (fun W _ => q3 W) d os
        clear q3
        go_wp2_with fail
        refine wp_region_quiet_below (by kernel_rfl) (by kernel_rfl) ?_
        quiet_step (fail)
        quiet_step (fail)
        quiet_step (fail)
        quiet_step (fail)
        quiet_step (fail)
        quiet_step (fail)
        quiet_step (fail)
        quiet_step ((go_at_call 38; exact c1 _ _))
        quiet_step ((rw [if_neg (by omega)]; exact ⟨rfl, rfl⟩))
        quiet_step (fail)
        quiet_step (fail)
        quiet_step (fail)
        quiet_step (fail)
        quiet_step (fail)
        quiet_step (fail)
        quiet_step ((go_at_call 18; exact c2 _ _))
        quiet_step ((rw [if_neg (by omega)]; exact ⟨rfl, rfl⟩))
        quiet_step (fail)
        quiet_step ((go_at_call 18; exact c3 _ _))
        quiet_step ((rw [if_neg (by omega)]; exact ⟨rfl, rfl⟩))
        quiet_step (fail)
        refine wpQuiet_nil ?_
        rintro w3 ⟨p, rfl⟩
        have HE3 : Hid (Tch (fun _ => False) w0 (grow (redrawn wr p.d) p.os)) := HT.out.trans' (Tch.regrown wr p.d p.os)
        obtain ⟨W3, hW3⟩ : ∃ W3, W3 = grow (redrawn wr p.d) p.os := ⟨_, rfl⟩
        rw [← hW3] at HE3 ⊢
        clear hW3 k3 m0 m1 c1 c2 c3 a0 a1 a2 b3
        go_wp2_with fail
        go_roundw
        case rel => exact ⟨_, k + 1, rfl, by go_num, by omega, HST.out.1, HST.out.2, HE3⟩
        case measure => simp [intOf]; omega
    · have hke : k = n := by omega
      have HS2 : Hid (bl S = HEAD ++ colsL t.cols) := by
        show _ = _
        rw [HS.out, List.take_of_length_le (by have := HN.out; omega)]
      have q := HKY.out wr
      have y0 : S.size ≤ 1000 := by omega
      clear hT b0 b1 b2 HS
      go_wp2_with fail
      refine q.mono ?_
      rintro x w4 ⟨rfl, t4⟩
      clear q b3 b4
      go_wp2_with fail
      go_ret
      exact ⟨by rw [← HEND.out S HS2.out]; rfl, (HT0.out.trans' HT.out).trans' t4⟩
end Go.Proofs.YteaagnlhkopgdaaGreatDoor.C
namespace Go.Proofs.YteaagnlhkopgdaaGreatDoor.C
open Go.RowKit Go Go.Sort
theorem colsL_len6 : ∀ (l : List Col), (∀ c ∈ l, nmOk c.nm = true) → (colsL l).length ≤ 28 * l.length
  | [], _ => by simp [colsL]
  | c :: l, h => by
    have e : colsL (c :: l) = colL c ++ colsL l := List.flatMap_cons
    have h1 := colsL_len6 l (fun x hx => h x (by simp [hx]))
    have h2 := nm_size (h c (by simp))
    have h3 := dg_len c.nm.size
    have e2 : (bytesL [c.k, nb c.nl]).length = 2 := rfl
    rw [e, List.length_append, List.length_cons]
    unfold colL
    rw [List.length_append, textL_bl, List.length_append, bl_size, e2]
    omega
theorem tabL_len6 {t : Tbl} (h : RT t) : (tabL t).length ≤ 300 := by
  have h1 := colsL_len6 t.cols (fun c hc => (h.cols c hc).1)
  have h2 := nm_size h.nm
  have h3 := dg_len t.id.toNat
  have h4 := dg_len t.ver.toNat
  have h5 := dg_len t.nm.size
  have h6 := h.len
  have e1 : ∀ n : Int, (bytesL [n]).length = 1 := fun _ => rfl
  unfold tabL
  simp only [List.length_append, textL_bl, bl_size, e1]
  omega
theorem RR.parts {r : Rc} {c : Nat} (h : RR r) (hc : cls r.k = c) : rightC c r ∧ recL r = bytesL [r.k] ++ bodyL c r := by
  refine ⟨by rw [← hc]; exact h.1, ?_⟩
  unfold recL
  rw [hc]; rfl
theorem renc_no (r : Rc) (s : Sk) (F : Nat → Prop) (w : World) (h : RW w F r s) (hl : r.tb.cols.length ≤ 4398046511104) (hR : ¬ RR r) : Calls Tryz.prog 10 #[rV r s] w fun x w' => x = .returned (.tuple #[.string ⟨#[]⟩, .int .i64 181]) ∧ Tch (fun _ => False) w w' := by
  obtain ⟨w0, hw0⟩ : ∃ w0, w0 = w.alloc (.cells #[.int .i64 r.k, .int .i64 r.x, .int .i64 r.l, .int .i64 r.e, .int .i64 r.t, .int .i64 r.tb.id, .int .i64 r.tb.ver, .string r.tb.nm, .slice s.co r.tb.cols.length s.cc, .int .i64 r.tb.key, .slice s.oo r.o.length s.oc, .slice s.no r.n.length s.nc] 28) := ⟨_, rfl⟩
  have t0 : Tch (fun _ => False) w w0 := by rw [hw0]; exact Tch.alloc _ _ _
  have b0 : w0.heap[w.heap.size]? = some (.cells #[.int .i64 r.k, .int .i64 r.x, .int .i64 r.l, .int .i64 r.e, .int .i64 r.t, .int .i64 r.tb.id, .int .i64 r.tb.ver, .string r.tb.nm, .slice s.co r.tb.cols.length s.cc, .int .i64 r.tb.key, .slice s.oo r.o.length s.oc, .slice s.no r.n.length s.nc] 28 (0, 0)) := by rw [hw0]; exact heap_new w _
  have q1 : Calls Tryz.prog 17 #[rV r s] w0 fun x w' => x = .returned (.bool false) ∧ Tch (fun _ => False) w0 w' := eqT_d (rrightM_any r s F w0 (h.no t0) hl) ⟨fun e => (by cases e), fun e => absurd e hR⟩
  rw [hw0] at q1
  have HW0 : Hid (w0 = w.alloc (.cells #[.int .i64 r.k, .int .i64 r.x, .int .i64 r.l, .int .i64 r.e, .int .i64 r.t, .int .i64 r.tb.id, .int .i64 r.tb.ver, .string r.tb.nm, .slice s.co r.tb.cols.length s.cc, .int .i64 r.tb.key, .slice s.oo r.o.length s.oc, .slice s.no r.n.length s.nc] 28)) := hw0
  clear h hl hR hw0 b0
  go_enter Tryz.func10, Tryz.ntmps10
  go_wp2_with fail
  refine q1.mono ?_
  rintro x w1 ⟨rfl, t1⟩
  rw [← HW0.out] at t1
  have T1 := t0.trans' t1
  clear q1 t1 t0
  go_wp2_with fail
  go_ret2
  exact ⟨rfl, T1⟩
end Go.Proofs.YteaagnlhkopgdaaGreatDoor.C
namespace Go.Proofs.YteaagnlhkopgdaaGreatDoor.C
open Go.RowKit Go Go.Sort
theorem renc_1 (r : Rc) (s : Sk) (F : Nat → Prop) (w : World) (h : RW w F r s) (hl : r.tb.cols.length ≤ 4398046511104) (hk : r.k = 1) (hR : RR r) : Calls Tryz.prog 10 #[rV r s] w fun x w' => x = .returned (.tuple #[.string (bB (recL r)), .int .i64 0]) ∧ Tch (fun _ => False) w w' := by
  obtain ⟨hr0, hrl⟩ := hR.parts (c := 1) (by rw [hk]; rfl)
  have hr : rtN r.x ∧ rtP r.l := hr0
  unfold rtN rtP at hr
  obtain ⟨w0, hw0⟩ : ∃ w0, w0 = w.alloc (.cells #[.int .i64 r.k, .int .i64 r.x, .int .i64 r.l, .int .i64 r.e, .int .i64 r.t, .int .i64 r.tb.id, .int .i64 r.tb.ver, .string r.tb.nm, .slice s.co r.tb.cols.length s.cc, .int .i64 r.tb.key, .slice s.oo r.o.length s.oc, .slice s.no r.n.length s.nc] 28) := ⟨_, rfl⟩
  have t0 : Tch (fun _ => False) w w0 := by rw [hw0]; exact Tch.alloc _ _ _
  have b0 : w0.heap[w.heap.size]? = some (.cells #[.int .i64 r.k, .int .i64 r.x, .int .i64 r.l, .int .i64 r.e, .int .i64 r.t, .int .i64 r.tb.id, .int .i64 r.tb.ver, .string r.tb.nm, .slice s.co r.tb.cols.length s.cc, .int .i64 r.tb.key, .slice s.oo r.o.length s.oc, .slice s.no r.n.length s.nc] 28 (0, 0)) := by rw [hw0]; exact heap_new w _
  have q1 : Calls Tryz.prog 17 #[rV r s] w0 fun x w' => x = .returned (.bool true) ∧ Tch (fun _ => False) w0 w' := eqT_d (rrightM_any r s F w0 (h.no t0) hl) ⟨fun _ => hR, fun _ => rfl⟩
  rw [hw0] at q1
  have HW0 : Hid (w0 = w.alloc (.cells #[.int .i64 r.k, .int .i64 r.x, .int .i64 r.l, .int .i64 r.e, .int .i64 r.t, .int .i64 r.tb.id, .int .i64 r.tb.ver, .string r.tb.nm, .slice s.co r.tb.cols.length s.cc, .int .i64 r.tb.key, .slice s.oo r.o.length s.oc, .slice s.no r.n.length s.nc] 28)) := hw0
  have HQ0 : Hid (∀ W, Calls Tryz.prog 18 #[.int .i64 r.k] W fun x w' => x = .returned (.string (bB (bytesL [r.k]))) ∧ Tch (fun _ => False) W w') := fun W => rnum_ok r.k (by omega) (by omega) W
  have HQ1 : Hid (∀ W, Tch (fun _ => False) w W → Calls Tryz.prog 19 #[.int .i64 r.x] W fun x w' => x = .returned (.string (bB (dg r.x.toNat))) ∧ Tch (fun _ => False) W w') := fun W _ => rdig_ok r.x (by omega) (by omega) W
  have HQ2 : Hid (∀ W, Tch (fun _ => False) w W → Calls Tryz.prog 19 #[.int .i64 r.l] W fun x w' => x = .returned (.string (bB (dg r.l.toNat))) ∧ Tch (fun _ => False) W w') := fun W _ => rdig_ok r.l (by omega) (by omega) W
  obtain ⟨S0, hS0⟩ : ∃ S, S = bB (bytesL [r.k]) := ⟨_, rfl⟩
  have z0 : S0.size ≤ 1 := by rw [hS0, size_bB]; exact Nat.le_refl 1
  obtain ⟨S1, hS1⟩ : ∃ S, S = bB (dg r.x.toNat) := ⟨_, rfl⟩
  have z1 : S1.size ≤ 10 := by rw [hS1, size_bB]; exact dg_len _
  obtain ⟨S2, hS2⟩ : ∃ S, S = bB (dg r.l.toNat) := ⟨_, rfl⟩
  have z2 : S2.size ≤ 10 := by rw [hS2, size_bB]; exact dg_len _
  have HB : Hid (S0 ++ S1 ++ S2 = bB (recL r)) := by
    show _ = _
    apply bB_of
    rw [hrl]
    simp only [bl_app, hS0, hS1, hS2, bl_bB]
    simp only [bodyL, List.append_assoc]
  rw [← hS0] at HQ0
  rw [← hS1] at HQ1
  rw [← hS2] at HQ2
  have x1 : (S0 ++ S1).size ≤ 6000 := by simp only [size_app]; omega
  have e1 : (r.k == 1) = true := int_eq' hk
  have e2 : (r.k == 2) = false := int_ne (by omega)
  have e3 : (r.k == 3) = false := int_ne (by omega)
  have e4 : (r.k == 4) = false := int_ne (by omega)
  have e5 : (r.k == 5) = false := int_ne (by omega)
  have e6 : (r.k == 6) = false := int_ne (by omega)
  have e7 : (r.k == 7) = false := int_ne (by omega)
  have e8 : (r.k == 8) = false := int_ne (by omega)
  have e9 : (r.k == 9) = false := int_ne (by omega)
  have HBX : Hid (∀ W, Tch (fun _ => False) w0 W → W.heap[w.heap.size]? = some (.cells #[.int .i64 r.k, .int .i64 r.x, .int .i64 r.l, .int .i64 r.e, .int .i64 r.t, .int .i64 r.tb.id, .int .i64 r.tb.ver, .string r.tb.nm, .slice s.co r.tb.cols.length s.cc, .int .i64 r.tb.key, .slice s.oo r.o.length s.oc, .slice s.no r.n.length s.nc] 28 (0, 0))) := fun W t => (t.block _ (blk_lt b0) (fun h => h)).trans b0
  have HT0 : Hid (Tch (fun _ => False) w w0) := t0
  clear h hl hR hr0 hrl hr hw0 b0 t0 hk hS0 hS1 hS2
  go_enter Tryz.func10, Tryz.ntmps10
  go_wp2_with fail
  refine q1.mono ?_
  rintro x w1 ⟨rfl, t1⟩
  rw [← HW0.out] at t1
  have b1 := HBX.out w1 t1
  have y0 : w1.cell? ⟨w.heap.size, 0, none⟩ = some (.int .i64 r.k) := blk_cell b1 0
  clear q1 b1
  go_wp2_with fail
  refine (HQ0.out w1).mono ?_
  rintro x w2 ⟨rfl, t2⟩
  have T2 := t1.trans' t2
  have U2 := HT0.out.trans' T2
  have b2 := HBX.out w2 T2
  clear y0 t1 t2
  have y0 := blk_cell b2 0
  have y1 := blk_cell b2 1
  have y2 := blk_cell b2 2
  have y3 := blk_cell b2 3
  have y4 := blk_cell b2 4
  have y5 := blk_cell b2 5
  have y6 := blk_cell b2 6
  have y7 := blk_cell b2 7
  have y8 := blk_cell b2 8
  have y9 := blk_cell b2 9
  have y10 := blk_cell b2 10
  have y11 := blk_cell b2 11
  simp only [List.getElem?_toArray, List.getElem?_cons_succ, List.getElem?_cons_zero] at y0 y1 y2 y3 y4 y5 y6 y7 y8 y9 y10 y11
  clear b2
  have k0 := cell_regrown y0
  have k1 := cell_regrown y1
  have k2 := cell_regrown y2
  have k3 := cell_regrown y3
  have k4 := cell_regrown y4
  have k5 := cell_regrown y5
  have k6 := cell_regrown y6
  have k7 := cell_regrown y7
  have k8 := cell_regrown y8
  have k9 := cell_regrown y9
  have k10 := cell_regrown y10
  have k11 := cell_regrown y11
  have c1 := fun (d : Nat) (os : Array Obj) => regrown_calls (w := w2) (fun W t => HQ1.out W (U2.trans' t)) d os
  have c2 := fun (d : Nat) (os : Array Obj) => regrown_calls (w := w2) (fun W t => HQ2.out W (U2.trans' t)) d os
  go_wp2_with fail
  refine wp_region_quiet_below (by kernel_rfl) (by kernel_rfl) ?_
  quiet_step (fail)
  quiet_step (fail)
  quiet_step (fail)
  quiet_step ((go_at_call 19; exact c1 _ _))
  quiet_step ((rw [if_neg (by omega)]; exact ⟨rfl, rfl⟩))
  quiet_step (fail)
  quiet_step (fail)
  quiet_step ((go_at_call 19; exact c2 _ _))
  quiet_step ((rw [if_neg (by omega)]; exact ⟨rfl, rfl⟩))
  quiet_step (fail)
  refine wpQuiet_nil ?_
  rintro w3 ⟨p, rfl⟩
  have HE3 : Hid (Tch (fun _ => False) w (grow (redrawn w2 p.d) p.os)) := U2.trans' (Tch.regrown w2 p.d p.os)
  obtain ⟨W3, hW3⟩ : ∃ W3, W3 = grow (redrawn w2 p.d) p.os := ⟨_, rfl⟩
  rw [← hW3] at HE3 ⊢
  clear hW3 k0 k1 k2 k3 k4 k5 k6 k7 k8 k9 k10 k11 y0 y1 y2 y3 y4 y5 y6 y7 y8 y9 y10 y11 c1 c2
  go_wp2_with fail
  go_ret2
  exact ⟨by rw [← HB.out]; rfl, HE3.out⟩
end Go.Proofs.YteaagnlhkopgdaaGreatDoor.C
namespace Go.Proofs.YteaagnlhkopgdaaGreatDoor.C
open Go.RowKit Go Go.Sort
theorem renc_2 (r : Rc) (s : Sk) (F : Nat → Prop) (w : World) (h : RW w F r s) (hl : r.tb.cols.length ≤ 4398046511104) (hk : r.k = 2) (hR : RR r) : Calls Tryz.prog 10 #[rV r s] w fun x w' => x = .returned (.tuple #[.string (bB (recL r)), .int .i64 0]) ∧ Tch (fun _ => False) w w' := by
  obtain ⟨hr0, hrl⟩ := hR.parts (c := 2) (by rw [hk]; rfl)
  have hr : rightE r.tb = 0 := hr0
  obtain ⟨w0, hw0⟩ : ∃ w0, w0 = w.alloc (.cells #[.int .i64 r.k, .int .i64 r.x, .int .i64 r.l, .int .i64 r.e, .int .i64 r.t, .int .i64 r.tb.id, .int .i64 r.tb.ver, .string r.tb.nm, .slice s.co r.tb.cols.length s.cc, .int .i64 r.tb.key, .slice s.oo r.o.length s.oc, .slice s.no r.n.length s.nc] 28) := ⟨_, rfl⟩
  have t0 : Tch (fun _ => False) w w0 := by rw [hw0]; exact Tch.alloc _ _ _
  have b0 : w0.heap[w.heap.size]? = some (.cells #[.int .i64 r.k, .int .i64 r.x, .int .i64 r.l, .int .i64 r.e, .int .i64 r.t, .int .i64 r.tb.id, .int .i64 r.tb.ver, .string r.tb.nm, .slice s.co r.tb.cols.length s.cc, .int .i64 r.tb.key, .slice s.oo r.o.length s.oc, .slice s.no r.n.length s.nc] 28 (0, 0)) := by rw [hw0]; exact heap_new w _
  have q1 : Calls Tryz.prog 17 #[rV r s] w0 fun x w' => x = .returned (.bool true) ∧ Tch (fun _ => False) w0 w' := eqT_d (rrightM_any r s F w0 (h.no t0) hl) ⟨fun _ => hR, fun _ => rfl⟩
  rw [hw0] at q1
  have HW0 : Hid (w0 = w.alloc (.cells #[.int .i64 r.k, .int .i64 r.x, .int .i64 r.l, .int .i64 r.e, .int .i64 r.t, .int .i64 r.tb.id, .int .i64 r.tb.ver, .string r.tb.nm, .slice s.co r.tb.cols.length s.cc, .int .i64 r.tb.key, .slice s.oo r.o.length s.oc, .slice s.no r.n.length s.nc] 28)) := hw0
  have HQ0 : Hid (∀ W, Calls Tryz.prog 18 #[.int .i64 r.k] W fun x w' => x = .returned (.string (bB (bytesL [r.k]))) ∧ Tch (fun _ => False) W w') := fun W => rnum_ok r.k (by omega) (by omega) W
  have HQ1 : Hid (∀ W, Tch (fun _ => False) w W → Calls Tryz.prog 20 #[tA r.tb.id r.tb.ver r.tb.nm (.slice s.co r.tb.cols.length s.cc) r.tb.key] W fun x w' => x = .returned (.string (bB (tabL r.tb))) ∧ Tch (fun _ => False) W w') := fun W t => rtabled_ok r.tb s.co s.cc W (h.no t).tb.sl hr
  obtain ⟨S0, hS0⟩ : ∃ S, S = bB (bytesL [r.k]) := ⟨_, rfl⟩
  have z0 : S0.size ≤ 1 := by rw [hS0, size_bB]; exact Nat.le_refl 1
  obtain ⟨S1, hS1⟩ : ∃ S, S = bB (tabL r.tb) := ⟨_, rfl⟩
  have z1 : S1.size ≤ 300 := by rw [hS1, size_bB]; exact tabL_len6 (right_rt hr)
  have HB : Hid (S0 ++ S1 = bB (recL r)) := by
    show _ = _
    apply bB_of
    rw [hrl]
    simp only [bl_app, hS0, hS1, bl_bB]
    simp only [bodyL]
  rw [← hS0] at HQ0
  rw [← hS1] at HQ1
  have e1 : (r.k == 1) = false := int_ne (by omega)
  have e2 : (r.k == 2) = true := int_eq' hk
  have e3 : (r.k == 3) = false := int_ne (by omega)
  have e4 : (r.k == 4) = false := int_ne (by omega)
  have e5 : (r.k == 5) = false := int_ne (by omega)
  have e6 : (r.k == 6) = false := int_ne (by omega)
  have e7 : (r.k == 7) = false := int_ne (by omega)
  have e8 : (r.k == 8) = false := int_ne (by omega)
  have e9 : (r.k == 9) = false := int_ne (by omega)
  have HBX : Hid (∀ W, Tch (fun _ => False) w0 W → W.heap[w.heap.size]? = some (.cells #[.int .i64 r.k, .int .i64 r.x, .int .i64 r.l, .int .i64 r.e, .int .i64 r.t, .int .i64 r.tb.id, .int .i64 r.tb.ver, .string r.tb.nm, .slice s.co r.tb.cols.length s.cc, .int .i64 r.tb.key, .slice s.oo r.o.length s.oc, .slice s.no r.n.length s.nc] 28 (0, 0))) := fun W t => (t.block _ (blk_lt b0) (fun h => h)).trans b0
  have HT0 : Hid (Tch (fun _ => False) w w0) := t0
  clear h hl hR hr0 hrl hr hw0 b0 t0 hk hS0 hS1
  go_enter Tryz.func10, Tryz.ntmps10
  go_wp2_with fail
  refine q1.mono ?_
  rintro x w1 ⟨rfl, t1⟩
  rw [← HW0.out] at t1
  have b1 := HBX.out w1 t1
  have y0 : w1.cell? ⟨w.heap.size, 0, none⟩ = some (.int .i64 r.k) := blk_cell b1 0
  clear q1 b1
  go_wp2_with fail
  refine (HQ0.out w1).mono ?_
  rintro x w2 ⟨rfl, t2⟩
  have T2 := t1.trans' t2
  have U2 := HT0.out.trans' T2
  have b2 := HBX.out w2 T2
  clear y0 t1 t2
  have y0 := blk_cell b2 0
  have y1 := blk_cell b2 1
  have y2 := blk_cell b2 2
  have y3 := blk_cell b2 3
  have y4 := blk_cell b2 4
  have y5 := blk_cell b2 5
  have y6 := blk_cell b2 6
  have y7 := blk_cell b2 7
  have y8 := blk_cell b2 8
  have y9 := blk_cell b2 9
  have y10 := blk_cell b2 10
  have y11 := blk_cell b2 11
  simp only [List.getElem?_toArray, List.getElem?_cons_succ, List.getElem?_cons_zero] at y0 y1 y2 y3 y4 y5 y6 y7 y8 y9 y10 y11
  clear b2
  go_wp2_with fail
  refine (HQ1.out w2 U2).mono ?_
  rintro x w3 ⟨rfl, t3⟩
  clear y0 y1 y2 y3 y4 y5 y6 y7 y8 y9 y10 y11
  go_wp2_with fail
  go_ret2
  exact ⟨by rw [← HB.out]; rfl, U2.trans' t3⟩
end Go.Proofs.YteaagnlhkopgdaaGreatDoor.C
