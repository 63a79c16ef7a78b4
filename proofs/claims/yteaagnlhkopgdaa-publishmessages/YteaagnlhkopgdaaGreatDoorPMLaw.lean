import Derived.Test.YteaagnlhkopgdaaGreatDoorLC1
import Derived.Test.YteaagnlhkopgdaaGreatDoorPLift
import Derived.Test.YteaagnlhkopgdaaGreatDoorLL1
import Derived.Deep.Cut
import Derived.Laws.Rows
import Derived.Test.YteaagnlhkopgdaaGreatDoorDYd1
set_option maxHeartbeats 8000000
set_option maxRecDepth 100000
namespace Go.Proofs.YteaagnlhkopgdaaGreatDoor.C
open Go.RowKit Go Go.Sort
theorem lsb_nil (le : TypeId) (W : World) (F : Nat → Prop) (b : Nat) (mk : Nat → List Value) : LSb le W F b mk [] (.slice none 0 0) := ⟨World.ownsRow_nil _ _ _ _, (fun g e => by cases e), fun j hj => absurd hj (Nat.not_lt_zero j)⟩
theorem bk_new (W : World) : BK (W.alloc (.cells #[.slice none 0 0, .slice none 0 0, .slice none 0 0, .slice none 0 0, .slice none 0 0, .slice none 0 0] 44)) W.heap.size (fun i => i = W.heap.size) 0 :=
  ⟨fun _ => False, fun _ => False, [], [], .slice none 0 0, .slice none 0 0, fun _ h => h.elim, fun _ h => h.elim, rfl, fun i e => by rw [World.size_alloc]; omega, alloc_new _ _, lsb_nil _ _ _ _ _, lsb_nil _ _ _ _ _, rfl, rfl, Nat.le_refl _, Nat.le_refl _⟩
def L9 (w : World) (b n : Nat) (W : World) : Prop := ∃ Q, BK W b Q n ∧ (∀ i, Q i → w.heap.size ≤ i) ∧ Tch (fun _ => False) w W
theorem L9.no {w W W' : World} {b n : Nat} (h : L9 w b n W) (t : Tch (fun _ => False) W W') : L9 w b n W' := by
  obtain ⟨Q, h1, h2, h3⟩ := h
  exact ⟨Q, h1.tch t (fun _ _ e => e), h2, h3.trans' t⟩
theorem L9.new {w W : World} (t : Tch (fun _ => False) w W) : L9 w W.heap.size 0 (W.alloc (.cells #[.slice none 0 0, .slice none 0 0, .slice none 0 0, .slice none 0 0, .slice none 0 0, .slice none 0 0] 44)) :=
  ⟨_, bk_new W, fun i e => by have := t.size; omega, t.trans' (Tch.alloc _ _ _)⟩
theorem L9.t {w W : World} {b n : Nat} (h : L9 w b n W) : Tch (fun _ => False) w W := by
  obtain ⟨Q, _, _, h3⟩ := h
  exact h3
theorem L9.dec {w W W' : World} {b n : Nat} {Q : Nat → Prop} {x : Ending} (h2 : ∀ i, Q i → w.heap.size ≤ i) (h3 : Tch (fun _ => False) w W) (h : DcO W b Q n x W') : x = .returned (.bool true) ∧ L9 w b (n + 84) W' := by
  obtain ⟨e, ⟨Q', k1, k2⟩, t⟩ := h
  have z := h3.size
  exact ⟨e, Q', k1, fun i hi => (k2 i hi).elim (h2 i) (fun e => by omega), h3.trans t (fun i hi e => by have := h2 i e; omega)⟩
theorem at_lent {W : World} {g : Nat} {t : TypeId} {xs ys : List Value} (h : W.heap[g]? = some (.cells (xs ++ ys).toArray t (0, 0))) : SL W (some ⟨g, 0, none⟩) xs := fun _ => ⟨g, 0, rfl, fun j u hu => by
  rw [blk_cell h, Nat.zero_add]
  have hj := (List.getElem?_eq_some_iff.1 hu).1
  rw [List.getElem?_toArray, List.getElem?_append_left hj]
  exact hu⟩
abbrev sOwn (r : Rc) (g1 g2 g3 : Nat) : Sk := ⟨some ⟨g1, 0, none⟩, r.o.length + 2, some ⟨g2, 0, none⟩, r.n.length + 2, some ⟨g3, 0, none⟩, r.tb.cols.length + 2⟩
theorem own_rw {w W : World} {F : Nat → Prop} {r : Rc} {s : Sk} {g1 g2 g3 : Nat} (h : RW w F r s) (h1 : W.heap[g1]? = some (.cells (lentR r.o).toArray 52 (0, 0))) (h2 : W.heap[g2]? = some (.cells (lentR r.n).toArray 52 (0, 0))) (h3 : W.heap[g3]? = some (.cells (lentK r.tb.cols).toArray 54 (0, 0))) : RW W (fun _ => False) r (sOwn r g1 g2 g3) :=
  ⟨at_lent h1, at_lent h2, ⟨rfl, at_lent h3, (fun e => by cases e), Nat.le_add_right _ 2, fun _ g o e => ⟨fun h => h, by injection e with e; injection e with e _; rw [← e]; exact blk_lt h3⟩⟩, fun _ _ _ _ h => h, fun _ _ _ _ h => h, h.oi, h.ni, h.ol, h.nl, h.cl⟩
theorem bx_own {W : World} {N : Nat} {r : Rc} {s : Sk} (h : Bx W N r s) (g1 g2 g3 : Nat) : Bx (((W.setCell ⟨N, 10, none⟩ (.slice (some ⟨g1, 0, none⟩) r.o.length (r.o.length + 2))).setCell ⟨N, 11, none⟩ (.slice (some ⟨g2, 0, none⟩) r.n.length (r.n.length + 2))).setCell ⟨N, 8, none⟩ (.slice (some ⟨g3, 0, none⟩) r.tb.cols.length (r.tb.cols.length + 2))) N r (sOwn r g1 g2 g3) :=
  (blk_set (i := 8) (blk_set (i := 11) (blk_set (i := 10) h _) _) _).trans (by simp [bxM])
theorem by_frz (w : World) (s : ByteArray) (k : Nat) (hk : k < s.size) : (Lib.bytesWorld w 5 s).frozen? ⟨w.heap.size, k, none⟩ = false := by
  have h1 : s.size ≤ (Lib.bytesCells w 5 s).size := by
    unfold Lib.bytesCells
    simp
  have h2 := Lib.bytesWorld_at_new w 5 s
  simp only [World.frozen?, h2]
  simp
  omega
def turnS (s : ByteArray) (k : Nat) (y : Int) : ByteArray := ⟨(s.data.toList.set k (UInt8.ofNat (y % 256).toNat)).toArray⟩
theorem turnS_size (s : ByteArray) (k : Nat) (y : Int) : (turnS s k y).size = s.size := by
  show (s.data.toList.set k _).toArray.size = s.data.size
  simp
theorem by_conv (w : World) (s : ByteArray) (k cap : Nat) (y : Int) (hk : k < s.size) : (convert 46 9 (.slice (some ⟨w.heap.size, 0, none⟩) s.size cap)).run Tryz.prog ((Lib.bytesWorld w 5 s).setCell ⟨w.heap.size, k, none⟩ (.int .u8 (y % 256))) = .ok (.string (turnS s k y)) ((Lib.bytesWorld w 5 s).setCell ⟨w.heap.size, k, none⟩ (.int .u8 (y % 256))) := by
  have hl : (s.data.toList.set k (UInt8.ofNat (y % 256).toNat)).length = s.size := by rw [List.length_set, Array.length_toList]; rfl
  have h := run_convert_bytes_back (P := Tryz.prog) ((Lib.bytesWorld w 5 s).setCell ⟨w.heap.size, k, none⟩ (.int .u8 (y % 256))) 46 9 5 ⟨w.heap.size, 0, none⟩ cap (s.data.toList.set k (UInt8.ofNat (y % 256).toNat)) Tryz.underlying46 Tryz.underlying5 Tryz.underlying9 (fun j hj => by
    rw [add_plain, Nat.zero_add]
    have hj2 : j < s.size := by rw [← hl]; exact hj
    have c := Lib.bytesWorld_cell w 5 s
    by_cases e : j = k
    · subst e
      rw [World.cell?_setCell_same (h := by rw [c j hj2])]
      have h1 := Int.emod_nonneg y (show (256 : Int) ≠ 0 by decide)
      have h2 := Int.emod_lt_of_pos y (show (0 : Int) < 256 by decide)
      have h3 : (UInt8.ofNat (y % 256).toNat).toNat = (y % 256).toNat := by rw [UInt8.toNat_ofNat']; omega
      rw [List.getElem_set_self, h3]
      congr 2
      omega
    · rw [World.cell?_setCell_other (h := by intro e2; injection e2 with _ e2; exact e e2.symm), c j hj2, List.getElem_set_ne (fun e2 => e e2.symm), List.getD_eq_getElem?_getD, List.getElem?_eq_getElem (by rw [Array.length_toList]; exact hj2)]
      rfl)
  rw [hl] at h
  exact h
end Go.Proofs.YteaagnlhkopgdaaGreatDoor.C
namespace Go.Proofs.YteaagnlhkopgdaaGreatDoor.C
open Go.RowKit Go Go.Sort
theorem decoded_bk (w : World) (b : Nat) (Q : Nat → Prop) (n : Nat) (S : ByteArray) (h : BK w b Q n) (hg : HE w) (hsz : S.size ≤ 140737488351232) (hn : n ≤ 1000000) :
    Calls Tryz.prog 11 #[.pointer (some ⟨b, 0, none⟩), .string S] w fun x w' => DcO w b Q n x w' := by
  have HK : Hid (BK w b Q n) := h
  have HG : Hid (HE w) := hg
  have HS : Hid (S.size ≤ 140737488351232) := hsz
  have HN : Hid (n ≤ 1000000) := hn
  clear h hg hsz hn
  go_enter Tryz.func11, Tryz.ntmps11
  go_wp2_with fail
  refine (decode_r S w (by have := HS.out; omega) HG.out).mono ?_
  rintro x w1 ⟨⟨r, e, s1, hR, rfl, hN1⟩, t1⟩
  have HR : Hid (Rd S r e) := hR
  have H1 : Hid (RN w1 w.heap.size r s1 ∧ Tch (fun _ => False) w w1) := ⟨hN1, t1⟩
  clear hR hN1 t1
  unfold rV
  go_upto_region 2 with (fail)
  generalize rA r.k r.x r.l r.e r.t r.tb.id r.tb.ver r.tb.nm (Value.slice s1.co r.tb.cols.length s1.cc) r.tb.key (Value.slice s1.oo r.o.length s1.oc) (Value.slice s1.no r.n.length s1.nc) = V1
  obtain ⟨wA, hwA⟩ : ∃ wA, wA = w1.alloc (.cells (bxM r s1) 28) := ⟨_, rfl⟩
  rw [← hwA]
  have HA : Hid (wA = w1.alloc (.cells (bxM r s1) 28)) := hwA
  clear hwA
  obtain ⟨N1, hN1⟩ : ∃ N1, N1 = w1.heap.size := ⟨_, rfl⟩
  rw [← hN1]
  have HN1 : Hid (N1 = w1.heap.size) := hN1
  clear hN1
  have TA : Hid (Tch (fun _ => False) w wA) := H1.out.2.trans' (by rw [HA.out]; exact Tch.alloc _ _ _)
  go_wp2_with fail
  refine (decode_r S wA (by have := HS.out; omega) (HE.tch HG.out TA.out (fun e => e))).mono ?_
  rintro x w2 ⟨⟨r2, e2, s2, hR2, rfl, hN2⟩, t2⟩
  obtain ⟨rfl, rfl⟩ := Rd.uniq HR.out hR2
  have H2 : Hid (RN w2 wA.heap.size r s2 ∧ Tch (fun _ => False) wA w2) := ⟨hN2, t2⟩
  clear hR2 hN2 t2
  unfold rV
  go_upto_region 3 with (fail)
  generalize rA r.k r.x r.l r.e r.t r.tb.id r.tb.ver r.tb.nm (Value.slice s2.co r.tb.cols.length s2.cc) r.tb.key (Value.slice s2.oo r.o.length s2.oc) (Value.slice s2.no r.n.length s2.nc) = V2
  obtain ⟨wB, hwB⟩ : ∃ wB, wB = w2.alloc (.cells (bxM r s2) 28) := ⟨_, rfl⟩
  rw [← hwB]
  have HB : Hid (wB = w2.alloc (.cells (bxM r s2) 28)) := hwB
  clear hwB
  obtain ⟨N2, hN2⟩ : ∃ N2, N2 = w2.heap.size := ⟨_, rfl⟩
  rw [← hN2]
  have HN2 : Hid (N2 = w2.heap.size) := hN2
  clear hN2
  go_wp2_with fail
  refine (ddecode_r S wB HS.out).mono ?_
  rintro x w3 ⟨⟨r3, e3, s3, hR3, rfl, hN3⟩, t3⟩
  obtain ⟨rfl, rfl⟩ := Rd.uniq HR.out hR3
  have H3 : Hid (RW w3 (fun i => i < wB.heap.size) r s3 ∧ Tch (fun _ => False) wB w3) := ⟨hN3, t3⟩
  clear hR3 hN3 t3
  unfold rV
  go_upto_region 4 with (fail)
  generalize rA r.k r.x r.l r.e r.t r.tb.id r.tb.ver r.tb.nm (Value.slice s3.co r.tb.cols.length s3.cc) r.tb.key (Value.slice s3.oo r.o.length s3.oc) (Value.slice s3.no r.n.length s3.nc) = V3
  obtain ⟨wC, hwC⟩ : ∃ wC, wC = w3.alloc (.cells (bxM r s3) 28) := ⟨_, rfl⟩
  rw [← hwC]
  obtain ⟨N3, hN3⟩ : ∃ N3, N3 = w3.heap.size := ⟨_, rfl⟩
  rw [← hN3]
  have HD : Hid (D3 w b Q n r s1 s2 s3 N1 N2 N3 wC) := by
    have h2 := H2.out
    have h3 := H3.out
    rw [HA.out] at h2
    rw [HB.out] at h3
    rw [hwC, hN3, HN1.out, HN2.out]
    exact D3.start HK.out H1.out.1 H1.out.2 h2.1 h2.2 h3.1 h3.2
  have HZ : Hid (Z18 r ∧ (∀ v ∈ r.o, v.i64) ∧ ∀ v ∈ r.n, v.i64) := ⟨Rd.z HR.out, Rd.i64 HR.out⟩
  clear hwC hN3 HA HB HN1 HN2 H1 H2 H3 TA HR HG HK
  obtain ⟨C1, hC1⟩ : ∃ C1, C1 = bxM r s1 := ⟨_, rfl⟩
  obtain ⟨C2, hC2⟩ : ∃ C2, C2 = bxM r s2 := ⟨_, rfl⟩
  obtain ⟨C3, hC3⟩ : ∃ C3, C3 = bxM r s3 := ⟨_, rfl⟩
  have e1 : (Tryz.prog.info? 28).map (·.size) = some C1.size := by rw [hC1]; exact siz_msg
  have e2 : (Tryz.prog.info? 28).map (·.size) = some C2.size := by rw [hC2]; exact siz_msg
  have e3 : (Tryz.prog.info? 28).map (·.size) = some C3.size := by rw [hC3]; exact siz_msg
  have E1 : Hid _ := e1
  have E2 : Hid _ := e2
  have E3 : Hid _ := e3
  have q1 : Hid (∀ W, D3 w b Q n r s1 s2 s3 N1 N2 N3 W → Calls Tryz.prog 23 #[.agg C1, .agg C3] W fun x w' => x = .returned (.bool true) ∧ D3 w b Q n r s1 s2 s3 N1 N2 N3 w') := fun W h => by rw [hC1, hC3]; exact h.one HZ.out
  have q2 : Hid (∀ W, D3 w b Q n r s1 s2 s3 N1 N2 N3 W → Calls Tryz.prog 23 #[.agg C2, .agg C3] W fun x w' => x = .returned (.bool true) ∧ D3 w b Q n r s1 s2 s3 N1 N2 N3 w') := fun W h => by rw [hC2, hC3]; exact h.two HZ.out
  have q3 : Hid (∀ W, D3 w b Q n r s1 s2 s3 N1 N2 N3 W → Calls Tryz.prog 24 #[.pointer (some ⟨b, 0, none⟩), .agg C1] W fun x w' => x = .returned (.tuple #[]) ∧ ∃ Q1, D4 w b Q Q1 n r s1 s2 s3 N1 N2 N3 w') := fun W h => by rw [hC1]; exact h.take HZ.out HN.out
  have q4 : Hid (∀ W Q1, D4 w b Q Q1 n r s1 s2 s3 N1 N2 N3 W → Calls Tryz.prog 23 #[.agg C2, .agg C3] W fun x w' => x = .returned (.bool true) ∧ D4 w b Q Q1 n r s1 s2 s3 N1 N2 N3 w') := fun W Q1 h => by rw [hC2, hC3]; exact h.two HZ.out
  have q5 : Hid (∀ W Q1, D4 w b Q Q1 n r s1 s2 s3 N1 N2 N3 W → Calls Tryz.prog 24 #[.pointer (some ⟨b, 0, none⟩), .agg C2] W fun x w' => x = .returned (.tuple #[]) ∧ (∃ Q2, BK w' b Q2 (n + 84)) ∧ DcO w b Q n (.returned (.bool true)) w') := fun W Q1 h => by rw [hC2]; exact h.take HZ.out HN.out
  have B3 : Hid (∀ W, D3 w b Q n r s1 s2 s3 N1 N2 N3 W → W.heap[N1]? = some (.cells C1 28 (0, 0)) ∧ W.heap[N2]? = some (.cells C2 28 (0, 0)) ∧ W.heap[N3]? = some (.cells C3 28 (0, 0))) := fun W h => by rw [hC1, hC2, hC3]; exact ⟨h.b1, h.b2, h.b3⟩
  have B4 : Hid (∀ W Q1, D4 w b Q Q1 n r s1 s2 s3 N1 N2 N3 W → W.heap[N2]? = some (.cells C2 28 (0, 0)) ∧ W.heap[N3]? = some (.cells C3 28 (0, 0))) := fun W Q1 h => by rw [hC2, hC3]; exact ⟨h.b2, h.b3⟩
  clear hC1 hC2 hC3 e1 e2 e3 HZ
  go_simp
  iterate 1 (first | go_values | go_skip | go_guarded | go_step | go_upon | go_in | go_back)
  refine wpList_load_row rfl 28 (.tmp 5) rfl N1 rfl 28 C1 (0, 0) _ (B3.out _ HD.out).1 Tryz.underlying28 rfl E1.out ?_
  refine wpList_load_row rfl 28 (.tmp 9) rfl N3 rfl 28 C3 (0, 0) _ (B3.out _ HD.out).2.2 Tryz.underlying28 rfl E3.out ?_
  go_wp2_with fail
  refine (q1.out _ HD.out).mono ?_
  rintro x w4 ⟨rfl, h4⟩
  have HD4 : Hid (D3 w b Q n r s1 s2 s3 N1 N2 N3 w4) := h4
  clear h4 HD
  go_upto_region 5 with (fail)
  go_simp
  iterate 1 (first | go_values | go_skip | go_guarded | go_step | go_upon | go_in | go_back)
  refine wpList_load_row rfl 28 (.tmp 7) rfl N2 rfl 28 C2 (0, 0) _ (B3.out _ HD4.out).2.1 Tryz.underlying28 rfl E2.out ?_
  refine wpList_load_row rfl 28 (.tmp 9) rfl N3 rfl 28 C3 (0, 0) _ (B3.out _ HD4.out).2.2 Tryz.underlying28 rfl E3.out ?_
  go_wp2_with fail
  refine (q2.out _ HD4.out).mono ?_
  rintro x w5 ⟨rfl, h5⟩
  have HD5 : Hid (D3 w b Q n r s1 s2 s3 N1 N2 N3 w5) := h5
  clear h5 HD4
  go_upto_region 6 with (fail)
  go_simp
  iterate 4 (first | go_values | go_skip | go_guarded | go_step | go_upon | go_in | go_back)
  refine wpList_load_row rfl 28 (.tmp 5) rfl N1 rfl 28 C1 (0, 0) _ (B3.out _ HD5.out).1 Tryz.underlying28 rfl E1.out ?_
  go_wp2_with fail
  refine (q3.out _ HD5.out).mono ?_
  rintro x w6 ⟨rfl, Q1, h6⟩
  have HD6 : Hid (D4 w b Q Q1 n r s1 s2 s3 N1 N2 N3 w6) := h6
  clear h6 HD5 q1 q2 q3 B3 E1
  go_upto_region 7 with (fail)
  go_simp
  iterate 1 (first | go_values | go_skip | go_guarded | go_step | go_upon | go_in | go_back)
  refine wpList_load_row rfl 28 (.tmp 7) rfl N2 rfl 28 C2 (0, 0) _ (B4.out _ _ HD6.out).1 Tryz.underlying28 rfl E2.out ?_
  refine wpList_load_row rfl 28 (.tmp 9) rfl N3 rfl 28 C3 (0, 0) _ (B4.out _ _ HD6.out).2 Tryz.underlying28 rfl E3.out ?_
  go_wp2_with fail
  refine (q4.out _ _ HD6.out).mono ?_
  rintro x w7 ⟨rfl, h7⟩
  have HD7 : Hid (D4 w b Q Q1 n r s1 s2 s3 N1 N2 N3 w7) := h7
  clear h7 HD6 q4
  go_upto_region 8 with (fail)
  go_simp
  iterate 4 (first | go_values | go_skip | go_guarded | go_step | go_upon | go_in | go_back)
  refine wpList_load_row rfl 28 (.tmp 7) rfl N2 rfl 28 C2 (0, 0) _ (B4.out _ _ HD7.out).1 Tryz.underlying28 rfl E2.out ?_
  go_wp2_with fail
  refine (q5.out _ _ HD7.out).mono ?_
  rintro x w8 ⟨rfl, ⟨Q2, k8⟩, h8⟩
  have HD8 : Hid (DcO w b Q n (.returned (.bool true)) w8) := h8
  have q6 := still_bk w8 b Q2 (n + 84) k8 (by have := HN.out; omega)
  clear h8 HD7 q5 B4 E2 E3 k8
  go_wp2_with fail
  refine q6.mono ?_
  rintro x w9 ⟨rfl, rfl⟩
  clear q6
  go_wp2_with fail
  go_ret
  exact HD8.out
end Go.Proofs.YteaagnlhkopgdaaGreatDoor.C
namespace Go.Proofs.YteaagnlhkopgdaaGreatDoor.C
open Go.RowKit Go Go.Sort
theorem decoded_l {w W : World} {b n : Nat} (T : ByteArray) (h : L9 w b n W) (hg : HE w) (hsz : T.size ≤ 140737488351232) (hn : n ≤ 1000000) :
    Calls Tryz.prog 11 #[.pointer (some ⟨b, 0, none⟩), .string T] W fun x W' => x = .returned (.bool true) ∧ L9 w b (n + 84) W' := by
  obtain ⟨Q, h1, h2, h3⟩ := h
  exact (decoded_bk W b Q n T h1 (HE.tch hg h3 (fun e => e)) hsz hn).mono fun x W' e => L9.dec h2 h3 e
theorem pm_law (r : Rc) (s : Sk) (S : ByteArray) (a y : Int) (w : World) (hg : HE w) (h : RW w (fun _ => False) r s) (hnb : NB18 s) (hz : SZ18 r) (ha : -9223372036854775808 ≤ a ∧ a ≤ 9223372036854775807) (z1 : S.size ≤ 140737488351232) :
    Calls Tryz.prog 3 #[rV r s, .string S, .int .i64 a, .int .i64 y] w fun x w' => x = .returned (.bool true) ∧ Tch (fun _ => False) w w' := by
  obtain ⟨N0, hN0⟩ : ∃ N0, N0 = w.heap.size := ⟨_, rfl⟩
  obtain ⟨w0, hw0⟩ : ∃ w0, w0 = w.alloc (.cells (bxM r s) 28) := ⟨_, rfl⟩
  have t0 : Tch (fun _ => False) w w0 := by rw [hw0]; exact Tch.alloc _ _ _
  have F0 : Hid (∀ W, Tch (fun _ => False) w0 W → Bx W N0 r s ∧ RW W (fun _ => False) r s ∧ HE W ∧ Tch (fun _ => False) w W) := fun W t => by
    have t' := t0.trans' t
    refine ⟨Bx.tch (by rw [hw0, hN0]; exact bx_new w r s) t (fun e => e), h.no t', HE.tch hg t' (fun e => e), t'⟩
  have HG : Hid (HE w) := hg
  have HT0 : Hid (Tch (fun _ => False) w w0) := t0
  have Hz0 : Hid (w0.heap.size = N0 + 1) := by show _ = _; rw [hw0, hN0, World.size_alloc]
  have HW0 : Hid (w0 = w.alloc (.cells (bxM r s) 28)) := hw0
  have HN0 : Hid (N0 = w.heap.size) := hN0
  have HNB : Hid (NB18 s) := hnb
  have HZ : Hid (SZ18 r) := hz
  have HA : Hid (-9223372036854775808 ≤ a ∧ a ≤ 9223372036854775807) := ha
  have HZ1 : Hid (S.size ≤ 140737488351232) := z1
  have HRW : Hid (RW w (fun _ => False) r s) := h
  clear hg h hnb hz ha z1 t0 hw0 hN0
  unfold rV
  by_cases hS : S.size ≤ 2147483647
  · have hS1 : ¬ (2147483647 : Int) < (S.size : Int) := by omega
    go_enter Tryz.func3, Tryz.ntmps3
    go_wp2_with fail
    generalize rA r.k r.x r.l r.e r.t r.tb.id r.tb.ver r.tb.nm (Value.slice s.co r.tb.cols.length s.cc) r.tb.key (Value.slice s.oo r.o.length s.oc) (Value.slice s.no r.n.length s.nc) = V0
    rw [← HW0.out, ← HN0.out]
    refine (known_any w0 (F0.out _ (Tch.refl _ _)).2.2.1).mono ?_
    rintro x w1 ⟨rfl, t1⟩
    have H1 : Hid (Tch (fun _ => False) w0 w1) := t1
    clear t1
    go_upto_region 4 with (fail)
    go_simp
    iterate 1 (first | go_values | go_skip | go_guarded | go_step | go_upon | go_in | go_back)
    refine wpList_load_row rfl 28 (.tmp 4) rfl N0 rfl 28 (bxM r s) (0, 0) _ (F0.out _ H1.out).1 Tryz.underlying28 rfl siz_msg ?_
    go_upto_region 5 with (fail)
    generalize Value.agg (bxM r s) = V33
    obtain ⟨w2, hw2⟩ : ∃ w2, w2 = w1.alloc (.cells (bxM r s) 28) := ⟨_, rfl⟩
    rw [← hw2]
    obtain ⟨N1, hN1⟩ : ∃ N1, N1 = w1.heap.size := ⟨_, rfl⟩
    rw [← hN1]
    have H2 : Hid (Bx w2 N1 r s ∧ Tch (fun _ => False) w0 w2 ∧ w2.heap.size = N1 + 1 ∧ w0.heap.size ≤ N1) := by
      refine ⟨by rw [hw2, hN1]; exact bx_new w1 r s, H1.out.trans' (by rw [hw2]; exact Tch.alloc _ _ _), by rw [hw2, hN1, World.size_alloc], by rw [hN1]; exact H1.out.size⟩
    clear hw2 hN1 H1
    obtain ⟨g1, hg1⟩ : ∃ g1, g1 = w2.heap.size := ⟨_, rfl⟩
    have x10 : w2.cell? ⟨N0, 10, none⟩ = some (.slice s.oo r.o.length s.oc) := by rw [blk_cell (F0.out _ H2.out.2.1).1]; rfl
    have q3 := lentRow_any r.o s.oo s.oc w2 HZ.out.o (F0.out _ H2.out.2.1).2.1.o HNB.out.o
    rw [← hg1] at q3
    have HG1 : Hid (g1 = w2.heap.size) := hg1
    clear hg1
    go_wp2_with fail
    refine q3.mono ?_
    rintro x w3 ⟨rfl, hb3, t3⟩
    clear q3 x10
    obtain ⟨g2, hg2⟩ : ∃ g2, g2 = w3.heap.size := ⟨_, rfl⟩
    have H3 : Hid (Bx w3 N1 r s ∧ Tch (fun _ => False) w0 w3 ∧ w3.heap[g1]? = some (.cells (lentR r.o).toArray 52 (0, 0)) ∧ N1 < g1 ∧ g1 < g2) := ⟨H2.out.1.tch t3 (fun e => e), H2.out.2.1.trans' t3, hb3, by have := HG1.out; have := H2.out.2.2.1; omega, by rw [hg2]; exact blk_lt hb3⟩
    have HL : Hid (w0.heap.size ≤ N1) := H2.out.2.2.2
    clear H2 hb3 t3 HG1
    have x11 : w3.cell? ⟨N0, 11, none⟩ = some (.slice s.no r.n.length s.nc) := by rw [blk_cell (F0.out _ H3.out.2.1).1]; rfl
    have q4 := lentRow_any r.n s.no s.nc w3 HZ.out.n (F0.out _ H3.out.2.1).2.1.n HNB.out.n
    rw [← hg2] at q4
    have HG2 : Hid (g2 = w3.heap.size) := hg2
    clear hg2
    go_wp2_with fail
    refine q4.mono ?_
    rintro x w4 ⟨rfl, hb4, t4⟩
    clear q4 x11
    obtain ⟨g3, hg3⟩ : ∃ g3, g3 = w4.heap.size := ⟨_, rfl⟩
    have H4 : Hid (Bx w4 N1 r s ∧ Tch (fun _ => False) w0 w4 ∧ w4.heap[g1]? = some (.cells (lentR r.o).toArray 52 (0, 0)) ∧ w4.heap[g2]? = some (.cells (lentR r.n).toArray 52 (0, 0)) ∧ N1 < g1 ∧ g1 < g2 ∧ g2 < g3) := ⟨H3.out.1.tch t4 (fun e => e), H3.out.2.1.trans' t4, (t4.block g1 (blk_lt H3.out.2.2.1) (fun e => e)).trans H3.out.2.2.1, hb4, H3.out.2.2.2.1, H3.out.2.2.2.2, by rw [hg3]; exact blk_lt hb4⟩
    clear H3 hb4 t4 HG2
    have x8 : w4.cell? ⟨N0, 8, none⟩ = some (.slice s.co r.tb.cols.length s.cc) := by rw [blk_cell (F0.out _ H4.out.2.1).1]; rfl
    have q5 := lentColumns_any r.tb.cols s.co s.cc w4 HZ.out.c (F0.out _ H4.out.2.1).2.1.tb.sl HNB.out.c
    rw [← hg3] at q5
    have HG3 : Hid (g3 = w4.heap.size) := hg3
    clear hg3
    go_wp2_with fail
    refine q5.mono ?_
    rintro x w5 ⟨rfl, hb5, t5⟩
    clear q5 x8
    have H5 : Hid (Bx w5 N1 r s ∧ Tch (fun _ => False) w0 w5 ∧ w5.heap[g1]? = some (.cells (lentR r.o).toArray 52 (0, 0)) ∧ w5.heap[g2]? = some (.cells (lentR r.n).toArray 52 (0, 0)) ∧ w5.heap[g3]? = some (.cells (lentK r.tb.cols).toArray 54 (0, 0)) ∧ N1 < g1 ∧ g1 < g2 ∧ g2 < g3) := ⟨H4.out.1.tch t5 (fun e => e), H4.out.2.1.trans' t5, (t5.block g1 (blk_lt H4.out.2.2.1) (fun e => e)).trans H4.out.2.2.1, (t5.block g2 (blk_lt H4.out.2.2.2.1) (fun e => e)).trans H4.out.2.2.2.1, hb5, H4.out.2.2.2.2.1, H4.out.2.2.2.2.2.1, H4.out.2.2.2.2.2.2⟩
    clear H4 hb5 t5 HG3
    obtain ⟨n1, hn1⟩ : ∃ n1, n1 = r.o.length := ⟨_, rfl⟩
    obtain ⟨n2, hn2⟩ : ∃ n2, n2 = r.n.length := ⟨_, rfl⟩
    obtain ⟨n3, hn3⟩ : ∃ n3, n3 = r.tb.cols.length := ⟨_, rfl⟩
    have y8 : w5.cell? ⟨N0, 8, none⟩ = some (.slice s.co n3 s.cc) := by rw [hn3, blk_cell (F0.out _ H5.out.2.1).1]; rfl
    have y10 : w5.cell? ⟨N0, 10, none⟩ = some (.slice s.oo n1 s.oc) := by rw [hn1, blk_cell (F0.out _ H5.out.2.1).1]; rfl
    have y11 : w5.cell? ⟨N0, 11, none⟩ = some (.slice s.no n2 s.nc) := by rw [hn2, blk_cell (F0.out _ H5.out.2.1).1]; rfl
    have z8 : w5.cell? ⟨N1, 8, none⟩ = some (.slice s.co n3 s.cc) := by rw [hn3, blk_cell H5.out.1]; rfl
    have z10 : w5.cell? ⟨N1, 10, none⟩ = some (.slice s.oo n1 s.oc) := by rw [hn1, blk_cell H5.out.1]; rfl
    have z11 : w5.cell? ⟨N1, 11, none⟩ = some (.slice s.no n2 s.nc) := by rw [hn2, blk_cell H5.out.1]; rfl
    have f8 := blk_frozen H5.out.1 8
    have f10 := blk_frozen H5.out.1 10
    have f11 := blk_frozen H5.out.1 11
    have ne : N0 ≠ N1 := by have := HL.out; have := Hz0.out; omega
    have l1 : n1 ≤ 4398046511000 := by rw [hn1]; exact HZ.out.o
    have l2 : n2 ≤ 4398046511000 := by rw [hn2]; exact HZ.out.n
    have l3 : n3 ≤ 4398046511000 := by rw [hn3]; exact HZ.out.c
    rw [← hn1, ← hn2, ← hn3]
    have Hn1 : Hid (n1 = r.o.length) := hn1
    have Hn2 : Hid (n2 = r.n.length) := hn2
    have Hn3 : Hid (n3 = r.tb.cols.length) := hn3
    clear hn1 hn2 hn3
    go_upto_region 11 with (fail)
    obtain ⟨w6, hw6⟩ : ∃ w6, w6 = (((w5.setCell ⟨N1, 10, none⟩ (.slice (some ⟨g1, 0, none⟩) n1 (n1 + 2))).setCell ⟨N1, 11, none⟩ (.slice (some ⟨g2, 0, none⟩) n2 (n2 + 2))).setCell ⟨N1, 8, none⟩ (.slice (some ⟨g3, 0, none⟩) n3 (n3 + 2))) := ⟨_, rfl⟩
    rw [← hw6]
    have t6 : Tch (fun i => i = N1) w5 w6 := by rw [hw6]; exact (((Tch.refl (fun i => i = N1) w5).setCellR ⟨N1, 10, none⟩ _ rfl).setCellR ⟨N1, 11, none⟩ _ rfl).setCellR ⟨N1, 8, none⟩ _ rfl
    have H6 : Hid (Bx w6 N1 r (sOwn r g1 g2 g3) ∧ Tch (fun _ => False) w0 w6 ∧ w6.heap[g1]? = some (.cells (lentR r.o).toArray 52 (0, 0)) ∧ w6.heap[g2]? = some (.cells (lentR r.n).toArray 52 (0, 0)) ∧ w6.heap[g3]? = some (.cells (lentK r.tb.cols).toArray 54 (0, 0)) ∧ N1 < g1 ∧ g1 < g2 ∧ g2 < g3) := by
      obtain ⟨k1, k2, k3, k4, k5, k6, k7, k8⟩ := H5.out
      have k9 := HL.out
      refine ⟨?_, k2.trans t6 (fun i hi e => by omega), (t6.block g1 (blk_lt k3) (by omega)).trans k3, (t6.block g2 (blk_lt k4) (by omega)).trans k4, (t6.block g3 (blk_lt k5) (by omega)).trans k5, k6, k7, k8⟩
      rw [hw6, Hn1.out, Hn2.out, Hn3.out]
      exact bx_own k1 g1 g2 g3
    clear t6 hw6 H5 y8 y10 y11 z8 z10 z11 f8 f10 f11 ne
    have q7 := encode_all r (sOwn r g1 g2 g3) (fun _ => False) w6 (F0.out _ H6.out.2.1).2.2.1 (own_rw HRW.out H6.out.2.2.1 H6.out.2.2.2.1 H6.out.2.2.2.2.1)
    obtain ⟨C6, hC6⟩ : ∃ C6, C6 = bxM r (sOwn r g1 g2 g3) := ⟨_, rfl⟩
    obtain ⟨E, hE⟩ : ∃ E, E = encS r := ⟨_, rfl⟩
    obtain ⟨I, hI⟩ : ∃ I, I = encI r := ⟨_, rfl⟩
    have q7 : Calls Tryz.prog 7 #[.agg C6] w6 fun x w' => x = .returned (.tuple #[.string E, .int .i64 I]) ∧ Tch (fun _ => False) w6 w' := by rw [hC6, hE, hI]; exact q7
    have e6 : (Tryz.prog.info? 28).map (·.size) = some C6.size := by rw [hC6]; exact siz_msg
    have b6 : w6.heap[N1]? = some (.cells C6 28 (0, 0)) := by rw [hC6]; exact H6.out.1
    have HEr : Hid (E = encS r) := hE
    have HIr : Hid (I = encI r) := hI
    have HE6 : Hid _ := e6
    have HB6 : Hid _ := b6
    clear hC6 hE hI e6 b6
    go_simp
    iterate 1 (first | go_values | go_skip | go_guarded | go_step | go_upon | go_in | go_back)
    refine wpList_load_row rfl 28 (.tmp 10) rfl N1 rfl 28 C6 (0, 0) _ HB6.out Tryz.underlying28 rfl HE6.out ?_
    go_wp2_with fail
    refine q7.mono ?_
    rintro x w7 ⟨rfl, t7⟩
    have H7 : Hid (Tch (fun _ => False) w0 w7 ∧ w7.heap[g1]? = some (.cells (lentR r.o).toArray 52 (0, 0)) ∧ w7.heap[g2]? = some (.cells (lentR r.n).toArray 52 (0, 0)) ∧ w7.heap[g3]? = some (.cells (lentK r.tb.cols).toArray 54 (0, 0)) ∧ w0.heap.size ≤ g1 ∧ g1 < g2 ∧ g2 < g3) := by
      obtain ⟨k1, k2, k3, k4, k5, k6, k7, k8⟩ := H6.out
      have k9 := HL.out
      exact ⟨k2.trans' t7, (t7.block g1 (blk_lt k3) (fun e => e)).trans k3, (t7.block g2 (blk_lt k4) (fun e => e)).trans k4, (t7.block g3 (blk_lt k5) (fun e => e)).trans k5, by omega, k7, k8⟩
    clear q7 t7 H6 HE6 HB6 HL
    have x10 : w7.cell? ⟨N0, 10, none⟩ = some (.slice s.oo n1 s.oc) := by rw [Hn1.out, blk_cell (F0.out _ H7.out.1).1]; rfl
    have q8 := backRow_any r.o s.oo s.oc g1 w7 HZ.out.o H7.out.2.1 (F0.out _ H7.out.1).2.1.o
    rw [← Hn1.out] at q8
    go_wp2_with fail
    refine q8.mono ?_
    rintro x w8 ⟨rfl, t8⟩
    have H8 : Hid (Tch (fun _ => False) w0 w8 ∧ w8.heap[g2]? = some (.cells (lentR r.n).toArray 52 (0, 0)) ∧ w8.heap[g3]? = some (.cells (lentK r.tb.cols).toArray 54 (0, 0)) ∧ w0.heap.size ≤ g1 ∧ g1 < g2 ∧ g2 < g3) := by
      obtain ⟨k2, k3, k4, k5, k6, k7, k8⟩ := H7.out
      exact ⟨k2.trans t8 (fun i hi e => by omega), (t8.block g2 (blk_lt k4) (by omega)).trans k4, (t8.block g3 (blk_lt k5) (by omega)).trans k5, k6, k7, k8⟩
    clear q8 t8 H7 x10
    have x11 : w8.cell? ⟨N0, 11, none⟩ = some (.slice s.no n2 s.nc) := by rw [Hn2.out, blk_cell (F0.out _ H8.out.1).1]; rfl
    have q9 := backRow_any r.n s.no s.nc g2 w8 HZ.out.n H8.out.2.1 (F0.out _ H8.out.1).2.1.n
    rw [← Hn2.out] at q9
    go_wp2_with fail
    refine q9.mono ?_
    rintro x w9 ⟨rfl, t9⟩
    have H9 : Hid (Tch (fun _ => False) w0 w9 ∧ w9.heap[g3]? = some (.cells (lentK r.tb.cols).toArray 54 (0, 0)) ∧ w0.heap.size ≤ g3) := by
      obtain ⟨k2, k4, k5, k6, k7, k8⟩ := H8.out
      exact ⟨k2.trans t9 (fun i hi e => by omega), (t9.block g3 (blk_lt k5) (by omega)).trans k5, by omega⟩
    clear q9 t9 H8 x11
    have x8 : w9.cell? ⟨N0, 8, none⟩ = some (.slice s.co n3 s.cc) := by rw [Hn3.out, blk_cell (F0.out _ H9.out.1).1]; rfl
    have q10 := backColumns_any r.tb.cols s.co s.cc g3 w9 HZ.out.c H9.out.2.1 (F0.out _ H9.out.1).2.1.tb.sl
    rw [← Hn3.out] at q10
    go_wp2_with fail
    refine q10.mono ?_
    rintro x w10 ⟨rfl, t10⟩
    have H10 : Hid (Tch (fun _ => False) w0 w10) := H9.out.1.trans t10 (fun i hi e => by have := H9.out.2.2; omega)
    clear q10 t10 H9 x8
    go_upto_region 15 with (fail)
    go_simp
    have q11 := renc_all r s (fun _ => False) w10 (F0.out _ H10.out).2.1 (by have := HZ.out.c; omega)
    obtain ⟨C0, hC0⟩ : ∃ C0, C0 = bxM r s := ⟨_, rfl⟩
    have q11 : Calls Tryz.prog 10 #[.agg C0] w10 fun x w' => x = .returned (.tuple #[.string E, .int .i64 I]) ∧ Tch (fun _ => False) w10 w' := by rw [hC0, HEr.out, HIr.out]; exact q11
    have e0 : (Tryz.prog.info? 28).map (·.size) = some C0.size := by rw [hC0]; exact siz_msg
    have b0 : w10.heap[N0]? = some (.cells C0 28 (0, 0)) := by rw [hC0]; exact (F0.out _ H10.out).1
    have HE0 : Hid _ := e0
    have HB0 : Hid _ := b0
    clear hC0 e0 b0
    iterate 1 (first | go_values | go_skip | go_guarded | go_step | go_upon | go_in | go_back)
    refine wpList_load_row rfl 28 (.tmp 4) rfl N0 rfl 28 C0 (0, 0) _ HB0.out Tryz.underlying28 rfl HE0.out ?_
    go_wp2_with fail
    refine q11.mono ?_
    rintro x w11 ⟨rfl, t11⟩
    have H11 : Hid (Tch (fun _ => False) w w11) := (F0.out _ (H10.out.trans' t11)).2.2.2
    have hE4 : E.size ≤ 4000 := by rw [HEr.out]; exact encS_size r
    clear q11 t11 H10 HE0 HB0 F0 HT0 Hz0 HW0 HN0 HNB HZ HRW HEr HIr Hn1 Hn2 Hn3 l1 l2 l3
    obtain ⟨bk, hbk⟩ : ∃ bk, bk = w11.heap.size := ⟨_, rfl⟩
    obtain ⟨w12, hw12⟩ : ∃ w12, w12 = w11.alloc (.cells #[.slice none 0 0, .slice none 0 0, .slice none 0 0, .slice none 0 0, .slice none 0 0, .slice none 0 0] 44) := ⟨_, rfl⟩
    have H12 : Hid (L9 w bk 0 w12) := by rw [hbk, hw12]; exact L9.new H11.out
    have HW12 : Hid (w12 = _) := hw12
    have HBK : Hid (bk = w11.heap.size) := hbk
    clear hw12 hbk
    go_wp2_with fail
    rw [← HW12.out, ← HBK.out]
    refine (decoded_l E H12.out HG.out (by omega) (by omega)).mono ?_
    rintro x w13 ⟨rfl, h13⟩
    have H13 : Hid (L9 w bk (0 + 84) w13) := h13
    clear h13 H12 HW12 HBK H11
    go_wp2_with fail
    refine (decoded_l (E ++ S) H13.out HG.out (by rw [ByteArray.size_append]; omega) (by omega)).mono ?_
    rintro x w14 ⟨rfl, h14⟩
    have H14 : Hid (L9 w bk (0 + 84 + 84) w14) := h14
    clear h14 H13
    go_wp2_with fail
    refine (decoded_l S H14.out HG.out (by omega) (by omega)).mono ?_
    rintro x w15 ⟨rfl, h15⟩
    have H15 : Hid (L9 w bk (0 + 84 + 84 + 84) w15) := h15
    clear h15 H14
    by_cases hE0 : E.size = 0
    · have hE1 : ¬ (0 : Int) < (E.size : Int) := by omega
      clear hE0
      go_wp2_with fail
      go_ret
      exact ⟨rfl, H15.out.t⟩
    · have hE1 : (0 : Int) < (E.size : Int) := by omega
      have hE2 : 0 < E.size := by omega
      have hcv := Lib.run_convert_string_bytes (P := Tryz.prog) w15 9 46 5 E Tryz.underlying9 Tryz.underlying46 Tryz.underlying5
      obtain ⟨g, hg⟩ : ∃ g, g = w15.heap.size := ⟨_, rfl⟩
      obtain ⟨cp, hcp⟩ : ∃ cp, cp = grownCap w15 E.size 0 5 := ⟨_, rfl⟩
      obtain ⟨w16, hw16⟩ : ∃ w16, w16 = Lib.bytesWorld w15 5 E := ⟨_, rfl⟩
      obtain ⟨k, hk⟩ : ∃ k, k = pkN a E.size := ⟨_, rfl⟩
      have hk1 : k < E.size := by rw [hk]; exact pkN_lt a hE2
      have q16 := pick_any a E.size w16 HA.out.1 HA.out.2 hE2 (by omega)
      rw [← hk] at q16
      have c16 : w16.cell? ⟨g, k, none⟩ = some (.int .u8 (E.data.toList.getD k 0).toNat) := by rw [hw16, hg]; exact Lib.bytesWorld_cell _ _ _ _ hk1
      have f16 : w16.frozen? ⟨g, k, none⟩ = false := by rw [hw16, hg]; exact by_frz _ _ _ hk1
      have v16 : (convert 46 9 (.slice (some ⟨g, 0, none⟩) E.size cp)).run Tryz.prog (w16.setCell ⟨g, k, none⟩ (.int .u8 (y % 256))) = .ok (.string (turnS E k y)) (w16.setCell ⟨g, k, none⟩ (.int .u8 (y % 256))) := by rw [hw16, hg]; exact by_conv _ _ _ _ _ hk1
      have H16 : Hid (L9 w bk (0 + 84 + 84 + 84) (w16.setCell ⟨g, k, none⟩ (.int .u8 (y % 256)))) := H15.out.no (ge_new ((by rw [hw16]; exact bytesWorld_tch _ _ _ : Tch (fun i => w15.heap.size ≤ i) w15 w16).setCellR _ _ (by show w15.heap.size ≤ g; omega)))
      rw [← hg, ← hcp, ← hw16] at hcv
      clear H15 hg hcp hw16 hk
      go_wp2_with fail
      refine q16.mono ?_
      rintro x w17 ⟨rfl, rfl⟩
      clear q16
      go_wp2_with fail
      refine (decoded_l (turnS E k y) H16.out HG.out (by rw [turnS_size]; omega) (by omega)).mono ?_
      rintro x w18 ⟨rfl, h18⟩
      have H18 : Hid (L9 w bk (0 + 84 + 84 + 84 + 84) w18) := h18
      clear h18 H16 c16 f16 v16 hcv
      go_wp2_with fail
      refine (decoded_l _ H18.out HG.out (by simp only [ByteArray.size_extract]; omega) (by omega)).mono ?_
      rintro x w19 ⟨rfl, h19⟩
      have H19 : Hid (Tch (fun _ => False) w w19) := h19.t
      clear h19 H18
      go_wp2_with fail
      go_ret
      exact ⟨rfl, H19.out⟩
  · have hS1 : (2147483647 : Int) < (S.size : Int) := by omega
    go_enter Tryz.func3, Tryz.ntmps3
    go_wp2_with fail
    go_ret
    exact ⟨rfl, by rw [← HW0.out]; exact HT0.out⟩
end Go.Proofs.YteaagnlhkopgdaaGreatDoor.C
