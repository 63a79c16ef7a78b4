import Derived.Test.YteaagnlhkopgdaaGreatDoorDYd1
import Derived.Test.YteaagnlhkopgdaaGreatDoorDYd3
import Derived.Test.YteaagnlhkopgdaaGreatDoorDYd5
import Derived.Test.YteaagnlhkopgdaaGreatDoorDYd7
import Derived.Test.YteaagnlhkopgdaaGreatDoorDYd9
import Derived.Test.YteaagnlhkopgdaaGreatDoorDS0
set_option maxHeartbeats 8000000
set_option maxRecDepth 100000
namespace Go.Proofs.YteaagnlhkopgdaaGreatDoor.C
open Go.RowKit Go Go.Sort
theorem ddec_z (S : ByteArray) (w : World) (hsz : S.size ≤ 140737488351232) (k : Int) (hk : ((dByte (bl S, false)).1 : Int) = k) (hk9 : ¬ (1 ≤ k ∧ k ≤ 9)) : Calls Tryz.prog 22 #[.string S] w fun x w' => DyOut S w x w' := by
  have HNS : Hid _ := @dy_no S k 0 hk (cls_no _ hk9)
  obtain ⟨N, hN⟩ : ∃ N, N = w.heap.size := ⟨_, rfl⟩
  obtain ⟨w0, hw0⟩ : ∃ w0, w0 = (w.alloc (.cells #[.int .i64 0, .int .i64 0, .int .i64 0, .int .i64 0, .int .i64 0, .int .i64 0, .int .i64 0, .string ⟨#[]⟩, .slice none 0 0, .int .i64 0, .slice none 0 0, .slice none 0 0] 28)).alloc (.cells #[.string S, .bool false] 99) := ⟨_, rfl⟩
  have t0 : Tch (fun _ => False) w w0 := by rw [hw0]; exact (Tch.alloc _ _ _).allocR _
  have hz0 : w0.heap.size = N + 2 := by rw [hw0, hN, World.size_alloc, World.size_alloc]
  have bR : w0.heap[N]? = some (.cells #[.int .i64 0, .int .i64 0, .int .i64 0, .int .i64 0, .int .i64 0, .int .i64 0, .int .i64 0, .string ⟨#[]⟩, .slice none 0 0, .int .i64 0, .slice none 0 0, .slice none 0 0] 28 (0, 0)) := by
    rw [hw0, hN]; exact ((Tch.alloc (fun _ => False) _ _).block _ (by simp) (fun h => h)).trans (heap_new w _)
  have h0 : DB w0 (N + 1) (bl S, false) := by
    unfold DB
    rw [bB_bl, hw0, hN, ← World.size_alloc]; exact heap_new _ _
  have q0 := dbyte_any (N + 1) (bl S, false) w0 h0
  obtain ⟨P0, hP0⟩ : ∃ P, P = (dByte (bl S, false)).2 := ⟨_, rfl⟩
  have hl0 : P0.1.length ≤ 140737488351232 := by
    have h1 := dByte_len (bl S, false)
    have h2 := bl_size S
    rw [hP0]
    simp only at h1
    omega
  rw [hk, ← hP0] at q0
  rw [← hP0] at HNS
  obtain ⟨r, hr⟩ : ∃ r : Rc, r = rc0 k := ⟨_, rfl⟩
  have HDC : Hid (dC k 0 P0 = (r, P0)) := by
    show _ = _
    rw [hr]
    rfl
  rw [HDC.out] at HNS
  have ho : ∀ v ∈ r.o, v.i64 := fun v hv => by
    rw [hr] at hv
    exact absurd hv List.not_mem_nil
  have hn : ∀ v ∈ r.n, v.i64 := fun v hv => by
    rw [hr] at hv
    exact absurd hv List.not_mem_nil
  have HSY : Hid (encI r = 0 → encS r = S → Says S r) := fun h1 h2 => enc_says h1 h2 ho hn
  have HRR : Hid (r = rc0 k ∧ (∀ v ∈ r.o, v.i64) ∧ ∀ v ∈ r.n, v.i64) := ⟨hr, ho, hn⟩
  have HW0 : Hid (w0 = (w.alloc (.cells #[.int .i64 0, .int .i64 0, .int .i64 0, .int .i64 0, .int .i64 0, .int .i64 0, .int .i64 0, .string ⟨#[]⟩, .slice none 0 0, .int .i64 0, .slice none 0 0, .slice none 0 0] 28)).alloc (.cells #[.string S, .bool false] 99)) := hw0
  have HT0 : Hid (Tch (fun _ => False) w w0 ∧ w0.heap[N]? = some (.cells #[.int .i64 0, .int .i64 0, .int .i64 0, .int .i64 0, .int .i64 0, .int .i64 0, .int .i64 0, .string ⟨#[]⟩, .slice none 0 0, .int .i64 0, .slice none 0 0, .slice none 0 0] 28 (0, 0))) := ⟨t0, bR⟩
  have HNN : Hid (N = w.heap.size) := hN
  rw [hw0, hN] at q0
  have p1 : (k == 1) = false := int_ne (by omega)
  have p2 : (k == 2) = false := int_ne (by omega)
  have p3 : (k == 3) = false := int_ne (by omega)
  have p4 : (k == 4) = false := int_ne (by omega)
  have p5 : (k == 5) = false := int_ne (by omega)
  have p6 : (k == 6) = false := int_ne (by omega)
  have p7 : (k == 7) = false := int_ne (by omega)
  have p8 : (k == 8) = false := int_ne (by omega)
  have p9 : (k == 9) = false := int_ne (by omega)
  clear hk hP0  hr ho hn hw0 t0 bR h0 hN hk9
  go_enter Tryz.func22, Tryz.ntmps22
  go_wp2_with fail
  refine q0.mono ?_
  rintro x w1 ⟨rfl, h1, t1⟩
  rw [← HW0.out, ← HNN.out] at t1
  rw [← HNN.out] at h1 ⊢
  have hz1 := t1.size
  clear q0
  obtain ⟨B, hB⟩ : ∃ B, B = w1.heap.size := ⟨_, rfl⟩
  obtain ⟨u0, hu0⟩ : ∃ u, u = w1.alloc (.cells #[.int .i64 k, .int .i64 0, .int .i64 0, .int .i64 0, .int .i64 0, .int .i64 0, .int .i64 0, .string ⟨#[]⟩, .slice none 0 0, .int .i64 0, .slice none 0 0, .slice none 0 0] 28) := ⟨_, rfl⟩
  have s0 : Tch (fun _ => False) w1 u0 := by rw [hu0]; exact Tch.alloc _ _ _
  have c0 : u0.heap[B]? = some (.cells #[.int .i64 k, .int .i64 0, .int .i64 0, .int .i64 0, .int .i64 0, .int .i64 0, .int .i64 0, .string ⟨#[]⟩, .slice none 0 0, .int .i64 0, .slice none 0 0, .slice none 0 0] 28 (0, 0)) := by rw [hu0, hB]; exact heap_new w1 _
  have d0 : DB u0 (N + 1) P0 := h1.no s0
  have T0 : Tch (fun i => i = N + 1 ∨ B ≤ i) w0 u0 := (t1.mono (fun _ _ h => Or.inl h)).trans' (s0.mono (fun _ _ h => h.elim))
  have hzB : N + 2 ≤ B := by omega
  have hzu : B < u0.heap.size := blk_lt c0
  have HU0 : Hid (u0 = w1.alloc (.cells #[.int .i64 k, .int .i64 0, .int .i64 0, .int .i64 0, .int .i64 0, .int .i64 0, .int .i64 0, .string ⟨#[]⟩, .slice none 0 0, .int .i64 0, .slice none 0 0, .slice none 0 0] 28)) := hu0
  have HBB : Hid (B = w1.heap.size) := hB
  clear hu0 hB h1 t1 s0 hz1
  have HRW : Hid (RW u0 (fun i => i ≤ N) r sk0) := by
    have i1 := HRR.out.2.1
    have i2 := HRR.out.2.2
    show RW _ _ _ _
    rw [HRR.out.1] at i1 i2 ⊢
    exact ⟨sl_nil _ _ rfl, sl_nil _ _ rfl, ck_nil _ _, fun h => absurd rfl h, fun h => absurd rfl h, i1, i2, Nat.zero_le _, Nat.zero_le _, Nat.zero_le _⟩
  have hlc : r.tb.cols.length ≤ 4398046511104 := by rw [HRR.out.1]; exact Nat.zero_le _
  have q9 := renc_all r sk0 _ u0 HRW.out hlc
  have ervr : rV r sk0 = .agg #[.int .i64 k, .int .i64 0, .int .i64 0, .int .i64 0, .int .i64 0, .int .i64 0, .int .i64 0, .string ⟨#[]⟩, .slice none 0 0, .int .i64 0, .slice none 0 0, .slice none 0 0] := by rw [HRR.out.1]; rfl
  have HRV : Hid (rV r sk0 = .agg #[.int .i64 k, .int .i64 0, .int .i64 0, .int .i64 0, .int .i64 0, .int .i64 0, .int .i64 0, .string ⟨#[]⟩, .slice none 0 0, .int .i64 0, .slice none 0 0, .slice none 0 0]) := ervr
  rw [ervr] at q9
  clear ervr
  rw [HU0.out] at q9
  obtain ⟨Y, hY⟩ : ∃ Y, Y = encS r := ⟨_, rfl⟩
  obtain ⟨E, hE⟩ : ∃ E, E = encI r := ⟨_, rfl⟩
  rw [← hY, ← hE] at q9
  rw [← hY, ← hE] at HSY HNS
  clear hY hE hlc
  go_wp2_with fail
  refine q9.mono ?_
  rintro x z ⟨rfl, t9⟩
  rw [← HU0.out] at t9
  rw [← HBB.out]
  have bz : z.heap[B]? = some (.cells #[.int .i64 k, .int .i64 0, .int .i64 0, .int .i64 0, .int .i64 0, .int .i64 0, .int .i64 0, .string ⟨#[]⟩, .slice none 0 0, .int .i64 0, .slice none 0 0, .slice none 0 0] 28 (0, 0)) := (t9.block _ (blk_lt c0) (fun h => h)).trans c0
  have dz : DB z (N + 1) P0 := d0.no t9
  have Tz : Tch (fun i => i = N + 1 ∨ B ≤ i) w0 z := T0.trans' (t9.mono (fun _ _ h => h.elim))
  have rz : z.heap[N]? = some (.cells #[.int .i64 0, .int .i64 0, .int .i64 0, .int .i64 0, .int .i64 0, .int .i64 0, .int .i64 0, .string ⟨#[]⟩, .slice none 0 0, .int .i64 0, .slice none 0 0, .slice none 0 0] 28 (0, 0)) := (Tz.block N (by omega) (by omega)).trans HT0.out.2
  have HWZ : Hid (∀ W, Tch (fun i => i = N) z W → Tch (fun _ => False) w W ∧ RW W (fun i => i < w.heap.size) r sk0) := fun W t => by
    have hw := HNN.out
    have hz9 := HT0.out.1.size
    refine ⟨((HT0.out.1.mono (fun _ _ h => h.elim)).trans Tz (fun i hi h => ?_)).trans t (fun i hi h => ?_), ?_⟩
    · omega
    · omega
    · exact ((HRW.out.no t9).tch t (fun i hi h => Nat.le_of_eq h)).weak9 (fun i hi => by omega)
  have bad9 : z.cell? ⟨N + 1, 1, none⟩ = some (.bool P0.2) := blk_cell dz 1
  obtain ⟨bad, hbad⟩ : ∃ bad, bad = P0.2 := ⟨_, rfl⟩
  rw [← hbad] at bad9
  have HNS2 : Hid (¬ (bad = false ∧ E = 0 ∧ Y = S) → ∀ r, ¬ Says S r) := by rw [hbad]; exact HNS.out
  clear q9  hbad
  have y0 := blk_cell bz 0
  have y1 := blk_cell bz 1
  have y2 := blk_cell bz 2
  have y3 := blk_cell bz 3
  have y4 := blk_cell bz 4
  have y5 := blk_cell bz 5
  have y6 := blk_cell bz 6
  have y7 := blk_cell bz 7
  have y8 := blk_cell bz 8
  have y9 := blk_cell bz 9
  have y10 := blk_cell bz 10
  have y11 := blk_cell bz 11
  simp only [List.getElem?_toArray, List.getElem?_cons_succ, List.getElem?_cons_zero] at y0 y1 y2 y3 y4 y5 y6 y7 y8 y9 y10 y11
  have k0 := blk_cell rz 0
  have k1 := blk_cell rz 1
  have k2 := blk_cell rz 2
  have k3 := blk_cell rz 3
  have k4 := blk_cell rz 4
  have k5 := blk_cell rz 5
  have k6 := blk_cell rz 6
  have k7 := blk_cell rz 7
  have k8 := blk_cell rz 8
  have k9 := blk_cell rz 9
  have k10 := blk_cell rz 10
  have k11 := blk_cell rz 11
  simp only [List.getElem?_toArray, List.getElem?_cons_succ, List.getElem?_cons_zero] at k0 k1 k2 k3 k4 k5 k6 k7 k8 k9 k10 k11
  have j0 := blk_frozen rz 0
  have j1 := blk_frozen rz 1
  have j2 := blk_frozen rz 2
  have j3 := blk_frozen rz 3
  have j4 := blk_frozen rz 4
  have j5 := blk_frozen rz 5
  have j6 := blk_frozen rz 6
  have j7 := blk_frozen rz 7
  have j8 := blk_frozen rz 8
  have j9 := blk_frozen rz 9
  have j10 := blk_frozen rz 10
  have j11 := blk_frozen rz 11
  clear t9 bz dz Tz rz c0 d0 T0 HT0 HU0 HRW HNS HDC
  have hrs : Tryz.f22.results = #[.cell 2 28, .tmp 3] := by kernel_rfl
  cases bad
  · by_cases hE0 : E = 0
    · have e1 := int_eq' hE0
      by_cases hYS : Y = S
      · have e2 := bs_eq hYS
        go_wp2_with fail
        refine bodyPost_ret (v := .tuple #[.agg #[.int .i64 k, .int .i64 0, .int .i64 0, .int .i64 0, .int .i64 0, .int .i64 0, .int .i64 0, .string ⟨#[]⟩, .slice none 0 0, .int .i64 0, .slice none 0 0, .slice none 0 0], .int .i64 0]) (by simp only [results, hrs]; go_simp) rfl ?_
        obtain ⟨a1, a2⟩ := HWZ.out _ (show Tch (fun i => i = N) z _ from (((((((((((Tch.setCell (fun i => i = N) z ⟨N, 0, none⟩ _ rfl).setCellR ⟨N, 1, none⟩ _ rfl).setCellR ⟨N, 2, none⟩ _ rfl).setCellR ⟨N, 3, none⟩ _ rfl).setCellR ⟨N, 4, none⟩ _ rfl).setCellR ⟨N, 5, none⟩ _ rfl).setCellR ⟨N, 6, none⟩ _ rfl).setCellR ⟨N, 7, none⟩ _ rfl).setCellR ⟨N, 8, none⟩ _ rfl).setCellR ⟨N, 9, none⟩ _ rfl).setCellR ⟨N, 10, none⟩ _ rfl).setCellR ⟨N, 11, none⟩ _ rfl)
        exact Or.inl ⟨r, sk0, HSY.out hE0 hYS, by rw [HRV.out], a2, a1⟩
      · have e2 := bs_ne hYS
        go_wp2_with fail
        refine bodyPost_ret (v := .tuple #[rV (rc0 0) sk0, .int .i64 181]) (by simp only [results, hrs]; go_simp; (repeat' apply And.intro) <;> rfl) rfl ?_
        exact Or.inr ⟨HNS2.out (fun e => hYS e.2.2), rfl, (HWZ.out _ (show Tch (fun i => i = N) z _ from (((((((((((Tch.setCell (fun i => i = N) z ⟨N, 0, none⟩ _ rfl).setCellR ⟨N, 1, none⟩ _ rfl).setCellR ⟨N, 2, none⟩ _ rfl).setCellR ⟨N, 3, none⟩ _ rfl).setCellR ⟨N, 4, none⟩ _ rfl).setCellR ⟨N, 5, none⟩ _ rfl).setCellR ⟨N, 6, none⟩ _ rfl).setCellR ⟨N, 7, none⟩ _ rfl).setCellR ⟨N, 8, none⟩ _ rfl).setCellR ⟨N, 9, none⟩ _ rfl).setCellR ⟨N, 10, none⟩ _ rfl).setCellR ⟨N, 11, none⟩ _ rfl)).1⟩
    · have e1 := int_ne hE0
      go_wp2_with fail
      refine bodyPost_ret (v := .tuple #[rV (rc0 0) sk0, .int .i64 181]) (by simp only [results, hrs]; go_simp; (repeat' apply And.intro) <;> rfl) rfl ?_
      exact Or.inr ⟨HNS2.out (fun e => hE0 e.2.1), rfl, (HWZ.out _ (show Tch (fun i => i = N) z _ from (((((((((((Tch.setCell (fun i => i = N) z ⟨N, 0, none⟩ _ rfl).setCellR ⟨N, 1, none⟩ _ rfl).setCellR ⟨N, 2, none⟩ _ rfl).setCellR ⟨N, 3, none⟩ _ rfl).setCellR ⟨N, 4, none⟩ _ rfl).setCellR ⟨N, 5, none⟩ _ rfl).setCellR ⟨N, 6, none⟩ _ rfl).setCellR ⟨N, 7, none⟩ _ rfl).setCellR ⟨N, 8, none⟩ _ rfl).setCellR ⟨N, 9, none⟩ _ rfl).setCellR ⟨N, 10, none⟩ _ rfl).setCellR ⟨N, 11, none⟩ _ rfl)).1⟩
  · skip
    go_wp2_with fail
    refine bodyPost_ret (v := .tuple #[rV (rc0 0) sk0, .int .i64 181]) (by simp only [results, hrs]; go_simp; (repeat' apply And.intro) <;> rfl) rfl ?_
    exact Or.inr ⟨HNS2.out (fun e => by cases e.1), rfl, (HWZ.out _ (show Tch (fun i => i = N) z _ from (((((((((((Tch.setCell (fun i => i = N) z ⟨N, 0, none⟩ _ rfl).setCellR ⟨N, 1, none⟩ _ rfl).setCellR ⟨N, 2, none⟩ _ rfl).setCellR ⟨N, 3, none⟩ _ rfl).setCellR ⟨N, 4, none⟩ _ rfl).setCellR ⟨N, 5, none⟩ _ rfl).setCellR ⟨N, 6, none⟩ _ rfl).setCellR ⟨N, 7, none⟩ _ rfl).setCellR ⟨N, 8, none⟩ _ rfl).setCellR ⟨N, 9, none⟩ _ rfl).setCellR ⟨N, 10, none⟩ _ rfl).setCellR ⟨N, 11, none⟩ _ rfl)).1⟩
end Go.Proofs.YteaagnlhkopgdaaGreatDoor.C
namespace Go.Proofs.YteaagnlhkopgdaaGreatDoor.C
open Go.RowKit Go Go.Sort
theorem ddecode_x (S : ByteArray) (w : World) (hsz : S.size ≤ 140737488351232) : Calls Tryz.prog 22 #[.string S] w fun x w' => DyOut S w x w' := by
  obtain ⟨k, hk⟩ : ∃ k : Int, ((dByte (bl S, false)).1 : Int) = k := ⟨_, rfl⟩
  by_cases h9 : 1 ≤ k ∧ k ≤ 9
  · have h15 : k = 1 ∨ k = 2 ∨ k = 3 ∨ k = 4 ∨ k = 5 ∨ k = 6 ∨ k = 7 ∨ k = 8 ∨ k = 9 := by omega
    rcases h15 with rfl | rfl | rfl | rfl | rfl | rfl | rfl | rfl | rfl
    · exact ddec_1 S w hsz hk
    · exact ddec_2 S w hsz hk
    · exact ddec_3 S w hsz hk
    · exact ddec_4 S w hsz hk
    · exact ddec_5 S w hsz hk
    · exact ddec_6 S w hsz hk
    · exact ddec_7 S w hsz hk
    · exact ddec_8 S w hsz hk
    · exact ddec_9 S w hsz hk
  · exact ddec_z S w hsz k hk h9
end Go.Proofs.YteaagnlhkopgdaaGreatDoor.C
namespace Go.Proofs.YteaagnlhkopgdaaGreatDoor.C
open Go.RowKit Go Go.Sort
def Rd (S : ByteArray) (r : Rc) (e : Int) : Prop := (Says S r ∧ e = 0) ∨ ((∀ r, ¬ Says S r) ∧ r = rc0 0 ∧ e = 181)
theorem Rd.uniq {S : ByteArray} {r r' : Rc} {e e' : Int} (h : Rd S r e) (h' : Rd S r' e') : r = r' ∧ e = e' := by
  rcases h with ⟨h1, rfl⟩ | ⟨h1, rfl, rfl⟩
  · rcases h' with ⟨h2, rfl⟩ | ⟨h2, rfl, rfl⟩
    · exact ⟨h1.uniq h2, rfl⟩
    · exact absurd h1 (h2 _)
  · rcases h' with ⟨h2, rfl⟩ | ⟨h2, rfl, rfl⟩
    · exact absurd h2 (h1 _)
    · exact ⟨rfl, rfl⟩
theorem Rd.i64 {S : ByteArray} {r : Rc} {e : Int} (h : Rd S r e) : (∀ v ∈ r.o, v.i64) ∧ ∀ v ∈ r.n, v.i64 := by
  rcases h with ⟨h1, rfl⟩ | ⟨h1, rfl, rfl⟩
  · exact ⟨h1.o, h1.n⟩
  · exact ⟨fun _ hv => absurd hv List.not_mem_nil, fun _ hv => absurd hv List.not_mem_nil⟩
structure Z18 (r : Rc) : Prop where
  o : r.o.length ≤ 8
  n : r.n.length ≤ 8
  c : r.tb.cols.length ≤ 8
theorem rtRow_len {vs : List Val} (h : rtRow vs) : vs.length ≤ 8 := by
  have h2 := h.2
  unfold encR at h2
  split at h2
  · cases h2
  · omega
theorem rr_z : ∀ (c : Nat) (r : Rc), rightC c r → Z18 (cutC c r)
  | 0, _, h => h.elim
  | 1, _, _ => ⟨Nat.zero_le 8, Nat.zero_le 8, Nat.zero_le 8⟩
  | 2, _, h => ⟨Nat.zero_le 8, Nat.zero_le 8, (right_len h).2⟩
  | 3, _, h => ⟨Nat.zero_le 8, rtRow_len h.2, Nat.zero_le 8⟩
  | 4, _, h => ⟨rtRow_len h.2.1, rtRow_len h.2.2, Nat.zero_le 8⟩
  | 5, _, h => ⟨rtRow_len h.2, Nat.zero_le 8, Nat.zero_le 8⟩
  | 6, _, _ => ⟨Nat.zero_le 8, Nat.zero_le 8, Nat.zero_le 8⟩
  | 7, _, _ => ⟨Nat.zero_le 8, Nat.zero_le 8, Nat.zero_le 8⟩
  | 8, _, _ => ⟨Nat.zero_le 8, Nat.zero_le 8, Nat.zero_le 8⟩
  | _ + 9, _, h => h.elim
theorem Rd.z {S : ByteArray} {r : Rc} {e : Int} (h : Rd S r e) : Z18 r := by
  rcases h with ⟨h, _⟩ | ⟨_, rfl, _⟩
  · rw [h.rr.2]; exact rr_z _ r h.rr.1
  · exact ⟨Nat.zero_le 8, Nat.zero_le 8, Nat.zero_le 8⟩
theorem rn_nil (W : World) (base : Nat) : RN W base (rc0 0) sk0 := ⟨World.ownsRow_nil _ _ _ _, World.ownsRow_nil _ _ _ _, World.ownsRow_nil _ _ _ _, fun g e => by cases e⟩
theorem decode_r (S : ByteArray) (w : World) (hsz : S.size ≤ 281474976710656) (hg : HE w) : Calls Tryz.prog 13 #[.string S] w fun x w' => (∃ r e s, Rd S r e ∧ x = .returned (.tuple #[rV r s, .int .i64 e]) ∧ RN w' w.heap.size r s) ∧ Tch (fun _ => False) w w' := by
  refine (decode_x S w hsz hg).mono ?_
  rintro x w' (⟨r, s, h1, rfl, h2, t⟩ | ⟨h1, rfl, t⟩)
  · exact ⟨⟨r, 0, s, Or.inl ⟨h1, rfl⟩, rfl, h2⟩, t⟩
  · exact ⟨⟨rc0 0, 181, sk0, Or.inr ⟨h1, rfl, rfl⟩, rfl, rn_nil _ _⟩, t⟩
theorem rw_nilF (W : World) (F : Nat → Prop) : RW W F (rc0 0) sk0 := ⟨sl_nil _ _ rfl, sl_nil _ _ rfl, ck_nil _ _, fun h => absurd rfl h, fun h => absurd rfl h, fun _ hv => absurd hv List.not_mem_nil, fun _ hv => absurd hv List.not_mem_nil, Nat.zero_le _, Nat.zero_le _, Nat.zero_le _⟩
theorem ddecode_r (S : ByteArray) (w : World) (hsz : S.size ≤ 140737488351232) : Calls Tryz.prog 22 #[.string S] w fun x w' => (∃ r e s, Rd S r e ∧ x = .returned (.tuple #[rV r s, .int .i64 e]) ∧ RW w' (fun i => i < w.heap.size) r s) ∧ Tch (fun _ => False) w w' := by
  refine (ddecode_x S w hsz).mono ?_
  rintro x w' (⟨r, s, h1, rfl, h2, t⟩ | ⟨h1, rfl, t⟩)
  · exact ⟨⟨r, 0, s, Or.inl ⟨h1, rfl⟩, rfl, h2⟩, t⟩
  · exact ⟨⟨rc0 0, 181, sk0, Or.inr ⟨h1, rfl, rfl⟩, rfl, rw_nilF w' _⟩, t⟩
end Go.Proofs.YteaagnlhkopgdaaGreatDoor.C
namespace Go.Proofs.YteaagnlhkopgdaaGreatDoor.C
open Go.RowKit Go Go.Sort
abbrev bxM (r : Rc) (s : Sk) : Array Value := #[.int .i64 r.k, .int .i64 r.x, .int .i64 r.l, .int .i64 r.e, .int .i64 r.t, .int .i64 r.tb.id, .int .i64 r.tb.ver, .string r.tb.nm, .slice s.co r.tb.cols.length s.cc, .int .i64 r.tb.key, .slice s.oo r.o.length s.oc, .slice s.no r.n.length s.nc]
def Bx (W : World) (N : Nat) (r : Rc) (s : Sk) : Prop := W.heap[N]? = some (.cells (bxM r s) 28 (0, 0))
theorem Bx.tch {S : Nat → Prop} {W W' : World} {N : Nat} {r : Rc} {s : Sk} (h : Bx W N r s) (t : Tch S W W') (hS : ¬ S N) : Bx W' N r s := (t.block N (blk_lt h) hS).trans h
theorem bx_new (W : World) (r : Rc) (s : Sk) : Bx (W.alloc (.cells (bxM r s) 28)) W.heap.size r s := alloc_new _ _
theorem siz_msg : (Tryz.prog.info? 28).map (·.size) = some 12 := by kernel_rfl
theorem RN.lk {W : World} {base : Nat} {r : Rc} {s : Sk} (h : RN W base r s) {g : Nat} (hg : Lk r s g) : base ≤ g ∧ g < W.heap.size := by
  rcases hg with e | e | e
  · exact h.o.lt g e
  · exact h.n.lt g e
  · exact h.tb.lt g e
structure D3 (w : World) (b : Nat) (Q : Nat → Prop) (n : Nat) (r : Rc) (s1 s2 s3 : Sk) (N1 N2 N3 : Nat) (W : World) : Prop where
  a : RN W w.heap.size r s1
  al : ∀ g, Lk r s1 g → g < N1
  x : RN W (N1 + 1) r s2
  xl : ∀ g, Lk r s2 g → g < N2
  c : RW W (fun i => i < N2 + 1) r s3
  b1 : Bx W N1 r s1
  b2 : Bx W N2 r s2
  b3 : Bx W N3 r s3
  k : BK W b Q n
  q : ∀ i, Q i → i < w.heap.size
  l1 : w.heap.size ≤ N1
  l2 : N1 < N2
  l3 : N2 < N3
  l4 : N3 < W.heap.size
  t : Tch (fun _ => False) w W
theorem D3.no {w W W' : World} {b n N1 N2 N3 : Nat} {Q : Nat → Prop} {r : Rc} {s1 s2 s3 : Sk} (h : D3 w b Q n r s1 s2 s3 N1 N2 N3 W) (t : Tch (fun _ => False) W W') : D3 w b Q n r s1 s2 s3 N1 N2 N3 W' :=
  ⟨h.a.tch t (fun _ _ _ e => e), h.al, h.x.tch t (fun _ _ _ e => e), h.xl, h.c.tch t (fun _ _ e => e.elim), h.b1.tch t (fun e => e), h.b2.tch t (fun e => e), h.b3.tch t (fun e => e), h.k.tch t (fun _ _ e => e), h.q, h.l1, h.l2, h.l3, Nat.lt_of_lt_of_le h.l4 t.size, h.t.trans' t⟩
structure D4 (w : World) (b : Nat) (Q Q1 : Nat → Prop) (n : Nat) (r : Rc) (s1 s2 s3 : Sk) (N1 N2 N3 : Nat) (W : World) : Prop where
  al : ∀ g, Lk r s1 g → w.heap.size ≤ g ∧ g < N1
  x : RN W (N1 + 1) r s2
  xl : ∀ g, Lk r s2 g → g < N2
  c : RW W (fun i => i < N2 + 1) r s3
  b2 : Bx W N2 r s2
  b3 : Bx W N3 r s3
  k : BK W b Q1 (n + 42)
  q : ∀ i, Q i → i < w.heap.size
  q1 : ∀ i, Q1 i → Q i ∨ Lk r s1 i ∨ N3 < i
  l1 : w.heap.size ≤ N1
  l2 : N1 < N2
  l3 : N2 < N3
  l4 : N3 < W.heap.size
  t : Tch Q w W
theorem D4.no {w W W' : World} {b n N1 N2 N3 : Nat} {Q Q1 : Nat → Prop} {r : Rc} {s1 s2 s3 : Sk} (h : D4 w b Q Q1 n r s1 s2 s3 N1 N2 N3 W) (t : Tch (fun _ => False) W W') : D4 w b Q Q1 n r s1 s2 s3 N1 N2 N3 W' :=
  ⟨h.al, h.x.tch t (fun _ _ _ e => e), h.xl, h.c.tch t (fun _ _ e => e.elim), h.b2.tch t (fun e => e), h.b3.tch t (fun e => e), h.k.tch t (fun _ _ e => e), h.q, h.q1, h.l1, h.l2, h.l3, Nat.lt_of_lt_of_le h.l4 t.size, h.t.trans t (fun _ _ e => e.elim)⟩
theorem D3.start {w w1 w2 w3 : World} {b n : Nat} {Q : Nat → Prop} {r : Rc} {s1 s2 s3 : Sk} (hk : BK w b Q n) (h1 : RN w1 w.heap.size r s1) (t1 : Tch (fun _ => False) w w1)
    (h2 : RN w2 (w1.alloc (.cells (bxM r s1) 28)).heap.size r s2) (t2 : Tch (fun _ => False) (w1.alloc (.cells (bxM r s1) 28)) w2)
    (h3 : RW w3 (fun i => i < (w2.alloc (.cells (bxM r s2) 28)).heap.size) r s3) (t3 : Tch (fun _ => False) (w2.alloc (.cells (bxM r s2) 28)) w3) :
    D3 w b Q n r s1 s2 s3 w1.heap.size w2.heap.size w3.heap.size (w3.alloc (.cells (bxM r s3) 28)) := by
  have tA : Tch (fun _ => False) w1 (w1.alloc (.cells (bxM r s1) 28)) := Tch.alloc _ _ _
  have tB : Tch (fun _ => False) w2 (w2.alloc (.cells (bxM r s2) 28)) := Tch.alloc _ _ _
  have tC : Tch (fun _ => False) w3 (w3.alloc (.cells (bxM r s3) 28)) := Tch.alloc _ _ _
  have a1 : Tch (fun _ => False) w1 (w3.alloc (.cells (bxM r s3) 28)) := ((((tA.trans' t2).trans' tB).trans' t3).trans' tC)
  have a2 : Tch (fun _ => False) w2 (w3.alloc (.cells (bxM r s3) 28)) := ((tB.trans' t3).trans' tC)
  have eA : (w1.alloc (.cells (bxM r s1) 28)).heap.size = w1.heap.size + 1 := World.size_alloc _ _
  have eB : (w2.alloc (.cells (bxM r s2) 28)).heap.size = w2.heap.size + 1 := World.size_alloc _ _
  have eC : (w3.alloc (.cells (bxM r s3) 28)).heap.size = w3.heap.size + 1 := World.size_alloc _ _
  have z1 := t1.size
  have z2 := t2.size
  have z3 := t3.size
  rw [eA] at h2 z2
  rw [eB] at h3 z3
  refine ⟨h1.tch a1 (fun _ _ _ e => e), fun g e => (h1.lk e).2, h2.tch a2 (fun _ _ _ e => e), fun g e => (h2.lk e).2, h3.tch tC (fun _ _ e => e.elim), (bx_new w1 r s1).tch (((t2.trans' tB).trans' t3).trans' tC) (fun e => e), (bx_new w2 r s2).tch (t3.trans' tC) (fun e => e), bx_new w3 r s3, hk.tch (t1.trans' a1) (fun _ _ e => e), ?_, z1, by omega, by omega, by rw [eC]; omega, t1.trans' a1⟩
  obtain ⟨_, _, _, _, _, _, _, _, _, hq, _⟩ := hk
  exact hq
theorem D3.mine {w W W' : World} {b n N1 N2 N3 : Nat} {Q Q1 : Nat → Prop} {r : Rc} {s1 s2 s3 : Sk} (h : D3 w b Q n r s1 s2 s3 N1 N2 N3 W) (hk : BK W' b Q1 (n + 42)) (hq : ∀ i, Q1 i → Q i ∨ Lk r s1 i ∨ W.heap.size ≤ i) (t : Tch (fun i => Q i ∨ Lk r s1 i) W W') : D4 w b Q Q1 n r s1 s2 s3 N1 N2 N3 W' := by
  have l1 := h.l1
  have l2 := h.l2
  have l3 := h.l3
  have l4 := h.l4
  have hs : ∀ i, (Q i ∨ Lk r s1 i) → i < N1 := fun i e => e.elim (fun e => by have := h.q i e; omega) (fun e => h.al i e)
  refine ⟨fun g e => ⟨(h.a.lk e).1, h.al g e⟩, h.x.tch t (fun i hi _ e => by have := hs i e; omega), h.xl, h.c.tch t (fun i _ e => by have := hs i e; show i < N2 + 1; omega), h.b2.tch t (fun e => by have := hs _ e; omega), h.b3.tch t (fun e => by have := hs _ e; omega), hk, h.q, fun i e => (hq i e).imp id (fun e => e.imp id (fun e => by omega)), l1, l2, l3, Nat.lt_of_lt_of_le l4 t.size, (h.t.mono (fun _ _ e => e.elim)).trans t (fun i hi e => e.elim id (fun e => absurd (h.a.lk e).1 (by omega)))⟩
theorem D4.apart {w W : World} {b n N1 N2 N3 : Nat} {Q Q1 : Nat → Prop} {r : Rc} {s1 s2 s3 : Sk} (h : D4 w b Q Q1 n r s1 s2 s3 N1 N2 N3 W) : ∀ g, Lk r s2 g → ¬ Q1 g := fun g e hq => by
  have l1 := h.l1
  have l2 := h.l2
  have l3 := h.l3
  have a := (h.x.lk e).1
  have c := h.xl g e
  rcases h.q1 g hq with e | e | e
  · have := h.q g e; omega
  · have := (h.al g e).2; omega
  · omega
def DcO (w : World) (b : Nat) (Q : Nat → Prop) (n : Nat) (x : Ending) (w' : World) : Prop := x = .returned (.bool true) ∧ (∃ Q', BK w' b Q' (n + 84) ∧ ∀ i, Q' i → Q i ∨ w.heap.size ≤ i) ∧ Tch Q w w'
theorem D4.fin {w W W' : World} {b n N1 N2 N3 : Nat} {Q Q1 Q2 : Nat → Prop} {r : Rc} {s1 s2 s3 : Sk} (h : D4 w b Q Q1 n r s1 s2 s3 N1 N2 N3 W) (hk : BK W' b Q2 (n + 42 + 42)) (hq : ∀ i, Q2 i → Q1 i ∨ Lk r s2 i ∨ W.heap.size ≤ i) (t : Tch (fun i => Q1 i ∨ Lk r s2 i) W W') : DcO w b Q n (.returned (.bool true)) W' := by
  have l1 := h.l1
  have l2 := h.l2
  have l3 := h.l3
  have l4 := h.l4
  have q1 : ∀ i, Q1 i → Q i ∨ w.heap.size ≤ i := fun i e => (h.q1 i e).imp id (fun e => e.elim (fun e => (h.al i e).1) (fun e => by omega))
  have lk : ∀ i, Lk r s2 i → w.heap.size ≤ i := fun i e => by have := (h.x.lk e).1; omega
  refine ⟨rfl, ⟨Q2, hk, fun i e => ?_⟩, h.t.trans t (fun i hi e => ?_)⟩
  · rcases hq i e with e | e | e
    · exact q1 i e
    · exact Or.inr (lk i e)
    · exact Or.inr (by omega)
  · rcases e with e | e
    · rcases q1 i e with e | e
      · exact e
      · omega
    · have := lk i e; omega
theorem eqT_yes {p : Prop} {w w' : World} {x : Ending} (h : EqT p w x w') (hp : p) : x = .returned (.bool true) ∧ Tch (fun _ => False) w w' := by
  obtain ⟨b, rfl, hb, t⟩ := h
  rw [hb.2 hp]
  exact ⟨rfl, t⟩
section
variable {w W : World} {b n N1 N2 N3 : Nat} {Q Q1 : Nat → Prop} {r : Rc} {s1 s2 s3 : Sk}
theorem D3.one (h : D3 w b Q n r s1 s2 s3 N1 N2 N3 W) (z : Z18 r ∧ (∀ v ∈ r.o, v.i64) ∧ ∀ v ∈ r.n, v.i64) : Calls Tryz.prog 23 #[.agg (bxM r s1), .agg (bxM r s3)] W fun x w' => x = .returned (.bool true) ∧ D3 w b Q n r s1 s2 s3 N1 N2 N3 w' :=
  (rsameM_any r r s1 s3 _ _ W (h.a.rw z.2.1 z.2.2) h.c (by have := z.1.c; omega)).mono fun x w' e => ⟨(eqT_yes e rfl).1, h.no (eqT_yes e rfl).2⟩
theorem D3.two (h : D3 w b Q n r s1 s2 s3 N1 N2 N3 W) (z : Z18 r ∧ (∀ v ∈ r.o, v.i64) ∧ ∀ v ∈ r.n, v.i64) : Calls Tryz.prog 23 #[.agg (bxM r s2), .agg (bxM r s3)] W fun x w' => x = .returned (.bool true) ∧ D3 w b Q n r s1 s2 s3 N1 N2 N3 w' :=
  (rsameM_any r r s2 s3 _ _ W (h.x.rw z.2.1 z.2.2) h.c (by have := z.1.c; omega)).mono fun x w' e => ⟨(eqT_yes e rfl).1, h.no (eqT_yes e rfl).2⟩
theorem D3.take (h : D3 w b Q n r s1 s2 s3 N1 N2 N3 W) (z : Z18 r ∧ (∀ v ∈ r.o, v.i64) ∧ ∀ v ∈ r.n, v.i64) (hn : n ≤ 1000000) : Calls Tryz.prog 24 #[.pointer (some ⟨b, 0, none⟩), .agg (bxM r s1)] W fun x w' => x = .returned (.tuple #[]) ∧ ∃ Q1, D4 w b Q Q1 n r s1 s2 s3 N1 N2 N3 w' := by
  have z1 := z.1.o
  have z2 := z.1.n
  have z3 := z.1.c
  refine (mine_bk W b _ Q n r s1 h.k h.a (fun g e hq => by have := (h.a.lk e).1; have := h.q g hq; omega) (by omega) (by omega) (by omega) (by omega)).mono ?_
  rintro x w' ⟨rfl, ⟨Q1, k, hq⟩, t⟩
  exact ⟨rfl, Q1, h.mine k hq t⟩
theorem D4.two (h : D4 w b Q Q1 n r s1 s2 s3 N1 N2 N3 W) (z : Z18 r ∧ (∀ v ∈ r.o, v.i64) ∧ ∀ v ∈ r.n, v.i64) : Calls Tryz.prog 23 #[.agg (bxM r s2), .agg (bxM r s3)] W fun x w' => x = .returned (.bool true) ∧ D4 w b Q Q1 n r s1 s2 s3 N1 N2 N3 w' :=
  (rsameM_any r r s2 s3 _ _ W (h.x.rw z.2.1 z.2.2) h.c (by have := z.1.c; omega)).mono fun x w' e => ⟨(eqT_yes e rfl).1, h.no (eqT_yes e rfl).2⟩
theorem D4.take (h : D4 w b Q Q1 n r s1 s2 s3 N1 N2 N3 W) (z : Z18 r ∧ (∀ v ∈ r.o, v.i64) ∧ ∀ v ∈ r.n, v.i64) (hn : n ≤ 1000000) : Calls Tryz.prog 24 #[.pointer (some ⟨b, 0, none⟩), .agg (bxM r s2)] W fun x w' => x = .returned (.tuple #[]) ∧ (∃ Q2, BK w' b Q2 (n + 84)) ∧ DcO w b Q n (.returned (.bool true)) w' := by
  have z1 := z.1.o
  have z2 := z.1.n
  have z3 := z.1.c
  refine (mine_bk W b _ Q1 (n + 42) r s2 h.k h.x h.apart (by omega) (by omega) (by omega) (by omega)).mono ?_
  rintro x w' ⟨rfl, ⟨Q2, k, hq⟩, t⟩
  exact ⟨rfl, ⟨Q2, k⟩, h.fin k hq t⟩
end
end Go.Proofs.YteaagnlhkopgdaaGreatDoor.C
