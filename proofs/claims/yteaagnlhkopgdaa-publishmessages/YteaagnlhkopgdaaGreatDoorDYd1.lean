import Derived.Test.YteaagnlhkopgdaaGreatDoorDNe2
import Derived.Test.YteaagnlhkopgdaaGreatDoorDNe7
import Derived.Test.YteaagnlhkopgdaaGreatDoorDX4
import Derived.Test.YteaagnlhkopgdaaGreatDoorRVd2
set_option maxHeartbeats 8000000
set_option maxRecDepth 100000
namespace Go.Proofs.YteaagnlhkopgdaaGreatDoor.C
open Go.RowKit Go Go.Sort
theorem renc_8 (r : Rc) (s : Sk) (F : Nat → Prop) (w : World) (h : RW w F r s) (hl : r.tb.cols.length ≤ 4398046511104) (hk : r.k = 8) (hR : RR r) : Calls Tryz.prog 10 #[rV r s] w fun x w' => x = .returned (.tuple #[.string (bB (recL r)), .int .i64 0]) ∧ Tch (fun _ => False) w w' := by
  obtain ⟨hr0, hrl⟩ := hR.parts (c := 8) (by rw [hk]; rfl)
  have hr : rtP r.l := hr0
  unfold rtP at hr
  obtain ⟨w0, hw0⟩ : ∃ w0, w0 = w.alloc (.cells #[.int .i64 r.k, .int .i64 r.x, .int .i64 r.l, .int .i64 r.e, .int .i64 r.t, .int .i64 r.tb.id, .int .i64 r.tb.ver, .string r.tb.nm, .slice s.co r.tb.cols.length s.cc, .int .i64 r.tb.key, .slice s.oo r.o.length s.oc, .slice s.no r.n.length s.nc] 28) := ⟨_, rfl⟩
  have t0 : Tch (fun _ => False) w w0 := by rw [hw0]; exact Tch.alloc _ _ _
  have b0 : w0.heap[w.heap.size]? = some (.cells #[.int .i64 r.k, .int .i64 r.x, .int .i64 r.l, .int .i64 r.e, .int .i64 r.t, .int .i64 r.tb.id, .int .i64 r.tb.ver, .string r.tb.nm, .slice s.co r.tb.cols.length s.cc, .int .i64 r.tb.key, .slice s.oo r.o.length s.oc, .slice s.no r.n.length s.nc] 28 (0, 0)) := by rw [hw0]; exact heap_new w _
  have q1 : Calls Tryz.prog 17 #[rV r s] w0 fun x w' => x = .returned (.bool true) ∧ Tch (fun _ => False) w0 w' := eqT_d (rrightM_any r s F w0 (h.no t0) hl) ⟨fun _ => hR, fun _ => rfl⟩
  rw [hw0] at q1
  have HW0 : Hid (w0 = w.alloc (.cells #[.int .i64 r.k, .int .i64 r.x, .int .i64 r.l, .int .i64 r.e, .int .i64 r.t, .int .i64 r.tb.id, .int .i64 r.tb.ver, .string r.tb.nm, .slice s.co r.tb.cols.length s.cc, .int .i64 r.tb.key, .slice s.oo r.o.length s.oc, .slice s.no r.n.length s.nc] 28)) := hw0
  have HQ0 : Hid (∀ W, Calls Tryz.prog 18 #[.int .i64 r.k] W fun x w' => x = .returned (.string (bB (bytesL [r.k]))) ∧ Tch (fun _ => False) W w') := fun W => rnum_ok r.k (by omega) (by omega) W
  have HQ1 : Hid (∀ W, Tch (fun _ => False) w W → Calls Tryz.prog 19 #[.int .i64 r.l] W fun x w' => x = .returned (.string (bB (dg r.l.toNat))) ∧ Tch (fun _ => False) W w') := fun W _ => rdig_ok r.l (by omega) (by omega) W
  obtain ⟨S0, hS0⟩ : ∃ S, S = bB (bytesL [r.k]) := ⟨_, rfl⟩
  have z0 : S0.size ≤ 1 := by rw [hS0, size_bB]; exact Nat.le_refl 1
  obtain ⟨S1, hS1⟩ : ∃ S, S = bB (dg r.l.toNat) := ⟨_, rfl⟩
  have z1 : S1.size ≤ 10 := by rw [hS1, size_bB]; exact dg_len _
  have HB : Hid (S0 ++ S1 = bB (recL r)) := by
    show _ = _
    apply bB_of
    rw [hrl]
    simp only [bl_app, hS0, hS1, bl_bB]
    simp only [bodyL]
  rw [← hS0] at HQ0
  rw [← hS1] at HQ1
  have e1 : (r.k == 1) = false := int_ne (by omega)
  have e2 : (r.k == 2) = false := int_ne (by omega)
  have e3 : (r.k == 3) = false := int_ne (by omega)
  have e4 : (r.k == 4) = false := int_ne (by omega)
  have e5 : (r.k == 5) = false := int_ne (by omega)
  have e6 : (r.k == 6) = false := int_ne (by omega)
  have e7 : (r.k == 7) = false := int_ne (by omega)
  have e8 : (r.k == 8) = true := int_eq' hk
  have e9 : (r.k == 9) = false := int_ne (by omega)
  have HBX : Hid (∀ W, Tch (fun _ => False) w0 W → W.heap[w.heap.size]? = some (.cells #[.int .i64 r.k, .int .i64 r.x, .int .i64 r.l, .int .i64 r.e, .int .i64 r.t, .int .i64 r.tb.id, .int .i64 r.tb.ver, .string r.tb.nm, .slice s.co r.tb.cols.length s.cc, .int .i64 r.tb.key, .slice s.oo r.o.length s.oc, .slice s.no r.n.length s.nc] 28 (0, 0))) := fun W t => (t.block _ (blk_lt b0) (fun h => h)).trans b0
  have HT0 : Hid (Tch (fun _ => False) w w0) := t0
  clear h hl hR hr0 hrl hr hw0 b0 t0 hk hS0 hS1
  go_enter Tryz.func10, Tryz.ntmps10
  go_wp2_with fail
  refine q1.mono ?_
  rintro x w1 ⟨rfl, t1⟩
  rw [← HW0.out] at t1
  have b1 := HBX.out w1 t1
  have y0 : w1.cell? ⟨w.heap.size, 0, none⟩ = some (.int .i64 r.k) := blk_cell b1 0
  clear q1 b1
  go_wp2_with fail
  refine (HQ0.out w1).mono ?_
  rintro x w2 ⟨rfl, t2⟩
  have T2 := t1.trans' t2
  have U2 := HT0.out.trans' T2
  have b2 := HBX.out w2 T2
  clear y0 t1 t2
  have y0 := blk_cell b2 0
  have y1 := blk_cell b2 1
  have y2 := blk_cell b2 2
  have y3 := blk_cell b2 3
  have y4 := blk_cell b2 4
  have y5 := blk_cell b2 5
  have y6 := blk_cell b2 6
  have y7 := blk_cell b2 7
  have y8 := blk_cell b2 8
  have y9 := blk_cell b2 9
  have y10 := blk_cell b2 10
  have y11 := blk_cell b2 11
  simp only [List.getElem?_toArray, List.getElem?_cons_succ, List.getElem?_cons_zero] at y0 y1 y2 y3 y4 y5 y6 y7 y8 y9 y10 y11
  clear b2
  go_wp2_with fail
  refine (HQ1.out w2 U2).mono ?_
  rintro x w3 ⟨rfl, t3⟩
  clear y0 y1 y2 y3 y4 y5 y6 y7 y8 y9 y10 y11
  go_wp2_with fail
  go_ret2
  exact ⟨by rw [← HB.out]; rfl, U2.trans' t3⟩
end Go.Proofs.YteaagnlhkopgdaaGreatDoor.C
namespace Go.Proofs.YteaagnlhkopgdaaGreatDoor.C
open Go.RowKit Go Go.Sort
theorem renc_9 (r : Rc) (s : Sk) (F : Nat → Prop) (w : World) (h : RW w F r s) (hl : r.tb.cols.length ≤ 4398046511104) (hk : r.k = 9) (hR : RR r) : Calls Tryz.prog 10 #[rV r s] w fun x w' => x = .returned (.tuple #[.string (bB (recL r)), .int .i64 0]) ∧ Tch (fun _ => False) w w' := by
  obtain ⟨hr0, hrl⟩ := hR.parts (c := 8) (by rw [hk]; rfl)
  have hr : rtP r.l := hr0
  unfold rtP at hr
  obtain ⟨w0, hw0⟩ : ∃ w0, w0 = w.alloc (.cells #[.int .i64 r.k, .int .i64 r.x, .int .i64 r.l, .int .i64 r.e, .int .i64 r.t, .int .i64 r.tb.id, .int .i64 r.tb.ver, .string r.tb.nm, .slice s.co r.tb.cols.length s.cc, .int .i64 r.tb.key, .slice s.oo r.o.length s.oc, .slice s.no r.n.length s.nc] 28) := ⟨_, rfl⟩
  have t0 : Tch (fun _ => False) w w0 := by rw [hw0]; exact Tch.alloc _ _ _
  have b0 : w0.heap[w.heap.size]? = some (.cells #[.int .i64 r.k, .int .i64 r.x, .int .i64 r.l, .int .i64 r.e, .int .i64 r.t, .int .i64 r.tb.id, .int .i64 r.tb.ver, .string r.tb.nm, .slice s.co r.tb.cols.length s.cc, .int .i64 r.tb.key, .slice s.oo r.o.length s.oc, .slice s.no r.n.length s.nc] 28 (0, 0)) := by rw [hw0]; exact heap_new w _
  have q1 : Calls Tryz.prog 17 #[rV r s] w0 fun x w' => x = .returned (.bool true) ∧ Tch (fun _ => False) w0 w' := eqT_d (rrightM_any r s F w0 (h.no t0) hl) ⟨fun _ => hR, fun _ => rfl⟩
  rw [hw0] at q1
  have HW0 : Hid (w0 = w.alloc (.cells #[.int .i64 r.k, .int .i64 r.x, .int .i64 r.l, .int .i64 r.e, .int .i64 r.t, .int .i64 r.tb.id, .int .i64 r.tb.ver, .string r.tb.nm, .slice s.co r.tb.cols.length s.cc, .int .i64 r.tb.key, .slice s.oo r.o.length s.oc, .slice s.no r.n.length s.nc] 28)) := hw0
  have HQ0 : Hid (∀ W, Calls Tryz.prog 18 #[.int .i64 r.k] W fun x w' => x = .returned (.string (bB (bytesL [r.k]))) ∧ Tch (fun _ => False) W w') := fun W => rnum_ok r.k (by omega) (by omega) W
  have HQ1 : Hid (∀ W, Tch (fun _ => False) w W → Calls Tryz.prog 19 #[.int .i64 r.l] W fun x w' => x = .returned (.string (bB (dg r.l.toNat))) ∧ Tch (fun _ => False) W w') := fun W _ => rdig_ok r.l (by omega) (by omega) W
  obtain ⟨S0, hS0⟩ : ∃ S, S = bB (bytesL [r.k]) := ⟨_, rfl⟩
  have z0 : S0.size ≤ 1 := by rw [hS0, size_bB]; exact Nat.le_refl 1
  obtain ⟨S1, hS1⟩ : ∃ S, S = bB (dg r.l.toNat) := ⟨_, rfl⟩
  have z1 : S1.size ≤ 10 := by rw [hS1, size_bB]; exact dg_len _
  have HB : Hid (S0 ++ S1 = bB (recL r)) := by
    show _ = _
    apply bB_of
    rw [hrl]
    simp only [bl_app, hS0, hS1, bl_bB]
    simp only [bodyL]
  rw [← hS0] at HQ0
  rw [← hS1] at HQ1
  have e1 : (r.k == 1) = false := int_ne (by omega)
  have e2 : (r.k == 2) = false := int_ne (by omega)
  have e3 : (r.k == 3) = false := int_ne (by omega)
  have e4 : (r.k == 4) = false := int_ne (by omega)
  have e5 : (r.k == 5) = false := int_ne (by omega)
  have e6 : (r.k == 6) = false := int_ne (by omega)
  have e7 : (r.k == 7) = false := int_ne (by omega)
  have e8 : (r.k == 8) = false := int_ne (by omega)
  have e9 : (r.k == 9) = true := int_eq' hk
  have HBX : Hid (∀ W, Tch (fun _ => False) w0 W → W.heap[w.heap.size]? = some (.cells #[.int .i64 r.k, .int .i64 r.x, .int .i64 r.l, .int .i64 r.e, .int .i64 r.t, .int .i64 r.tb.id, .int .i64 r.tb.ver, .string r.tb.nm, .slice s.co r.tb.cols.length s.cc, .int .i64 r.tb.key, .slice s.oo r.o.length s.oc, .slice s.no r.n.length s.nc] 28 (0, 0))) := fun W t => (t.block _ (blk_lt b0) (fun h => h)).trans b0
  have HT0 : Hid (Tch (fun _ => False) w w0) := t0
  clear h hl hR hr0 hrl hr hw0 b0 t0 hk hS0 hS1
  go_enter Tryz.func10, Tryz.ntmps10
  go_wp2_with fail
  refine q1.mono ?_
  rintro x w1 ⟨rfl, t1⟩
  rw [← HW0.out] at t1
  have b1 := HBX.out w1 t1
  have y0 : w1.cell? ⟨w.heap.size, 0, none⟩ = some (.int .i64 r.k) := blk_cell b1 0
  clear q1 b1
  go_wp2_with fail
  refine (HQ0.out w1).mono ?_
  rintro x w2 ⟨rfl, t2⟩
  have T2 := t1.trans' t2
  have U2 := HT0.out.trans' T2
  have b2 := HBX.out w2 T2
  clear y0 t1 t2
  have y0 := blk_cell b2 0
  have y1 := blk_cell b2 1
  have y2 := blk_cell b2 2
  have y3 := blk_cell b2 3
  have y4 := blk_cell b2 4
  have y5 := blk_cell b2 5
  have y6 := blk_cell b2 6
  have y7 := blk_cell b2 7
  have y8 := blk_cell b2 8
  have y9 := blk_cell b2 9
  have y10 := blk_cell b2 10
  have y11 := blk_cell b2 11
  simp only [List.getElem?_toArray, List.getElem?_cons_succ, List.getElem?_cons_zero] at y0 y1 y2 y3 y4 y5 y6 y7 y8 y9 y10 y11
  clear b2
  go_wp2_with fail
  refine (HQ1.out w2 U2).mono ?_
  rintro x w3 ⟨rfl, t3⟩
  clear y0 y1 y2 y3 y4 y5 y6 y7 y8 y9 y10 y11
  go_wp2_with fail
  go_ret2
  exact ⟨by rw [← HB.out]; rfl, U2.trans' t3⟩
end Go.Proofs.YteaagnlhkopgdaaGreatDoor.C
namespace Go.Proofs.YteaagnlhkopgdaaGreatDoor.C
open Go.RowKit Go Go.Sort
theorem renc_all (r : Rc) (s : Sk) (F : Nat → Prop) (w : World) (h : RW w F r s) (hl : r.tb.cols.length ≤ 4398046511104) : Calls Tryz.prog 10 #[rV r s] w fun x w' => x = .returned (.tuple #[.string (encS r), .int .i64 (encI r)]) ∧ Tch (fun _ => False) w w' := by
  unfold encS encI
  by_cases hR : RR r
  · rw [if_pos hR, if_pos hR]
    have hk : 1 ≤ r.k ∧ r.k ≤ 9 := by
      rcases cls_rng r.k with h0 | ⟨h1, h2, _⟩
      · have := hR.1
        rw [h0] at this
        exact this.elim
      · exact ⟨h1, h2⟩
    have h15 : r.k = 1 ∨ r.k = 2 ∨ r.k = 3 ∨ r.k = 4 ∨ r.k = 5 ∨ r.k = 6 ∨ r.k = 7 ∨ r.k = 8 ∨ r.k = 9 := by omega
    rcases h15 with e | e | e | e | e | e | e | e | e
    · exact renc_1 r s F w h hl e hR
    · exact renc_2 r s F w h hl e hR
    · exact renc_3 r s F w h hl e hR
    · exact renc_4 r s F w h hl e hR
    · exact renc_5 r s F w h hl e hR
    · exact renc_6 r s F w h hl e hR
    · exact renc_7 r s F w h hl e hR
    · exact renc_8 r s F w h hl e hR
    · exact renc_9 r s F w h hl e hR
  · rw [if_neg hR, if_neg hR]; exact renc_no r s F w h hl hR
end Go.Proofs.YteaagnlhkopgdaaGreatDoor.C
namespace Go.Proofs.YteaagnlhkopgdaaGreatDoor.C
open Go.RowKit Go Go.Sort
theorem bB_bl (S : ByteArray) : bB (bl S) = S := bl_eq (by rw [bl_bB])
def DyOut (S : ByteArray) (w : World) (x : Ending) (w' : World) : Prop := (∃ r s, Says S r ∧ x = .returned (.tuple #[rV r s, .int .i64 0]) ∧ RW w' (fun i => i < w.heap.size) r s ∧ Tch (fun _ => False) w w') ∨ ((∀ r, ¬ Says S r) ∧ x = .returned (.tuple #[rV (rc0 0) sk0, .int .i64 181]) ∧ Tch (fun _ => False) w w')
theorem Says.rd {S : ByteArray} {r : Rc} (h : Says S r) : ((dByte (bl S, false)).1 : Int) = r.k ∧ dC r.k (cls r.k) (dByte (bl S, false)).2 = (r, ([], false)) := by
  have hk := h.kr
  have e : bl S = UInt8.ofNat r.k.toNat :: bodyL (cls r.k) r := by rw [h.eq]; exact bl_mk _
  rw [e, dByte_one]
  have e2 : (UInt8.ofNat r.k.toNat).toNat = r.k.toNat := by rw [UInt8.toNat_ofNat']; omega
  refine ⟨by simp only [e2]; omega, dC_r h.rr.1 h.rr.2.symm h.o h.n⟩
theorem dy_no {S : ByteArray} {k : Int} {c : Nat} (hk : ((dByte (bl S, false)).1 : Int) = k) (hc : cls k = c) (h : ¬ ((dC k c (dByte (bl S, false)).2).2.2 = false ∧ encI (dC k c (dByte (bl S, false)).2).1 = 0 ∧ encS (dC k c (dByte (bl S, false)).2).1 = S)) : ∀ r, ¬ Says S r := fun r hr => by
  obtain ⟨e1, e2⟩ := hr.rd
  rw [hk] at e1
  subst e1
  subst hc
  rw [e2] at h
  exact h ⟨rfl, (says_enc hr).1, (says_enc hr).2⟩
theorem RW.weak9 {W : World} {F G : Nat → Prop} {r : Rc} {s : Sk} (h : RW W F r s) (hG : ∀ i, G i → F i) : RW W G r s :=
  ⟨h.o, h.n, ⟨h.tb.eq, h.tb.sl, h.tb.no, h.tb.cap, fun hne g o e => ⟨fun k => (h.tb.nf hne g o e).1 (hG g k), (h.tb.nf hne g o e).2⟩⟩, fun hne g o e k => h.onf hne g o e (hG g k), fun hne g o e k => h.nnf hne g o e (hG g k), h.oi, h.ni, h.ol, h.nl, h.cl⟩
theorem dRow_len (p : Ds) : (dRow p).2.1.length ≤ p.1.length := by
  have h := (dText_len 1700 p).2
  unfold dRow
  split <;> exact h
theorem dRow_len8 (p : Ds) : (dRow p).1.length ≤ 8 := by
  unfold dRow
  cases h : decR (dText 1700 p).1 with
  | none => exact Nat.zero_le _
  | some vs => exact (dec_enc h).2.1
theorem dCols_le : ∀ (n : Nat) (p : Ds) (l : List Col), (dCols n p l).1.length ≤ l.length + n
  | 0, p, l => Nat.le_refl _
  | n + 1, p, l => by
    unfold dCols
    split
    · show l.length ≤ _; omega
    · have := dCols_le n (dCol p).2 (l ++ [(dCol p).1])
      simp only [List.length_append, List.length_singleton] at this
      omega
theorem dTab_cols (p : Ds) : (dTab p).1.cols.length ≤ 255 := by
  have h1 := dCols_le (dByte (dText 16 (dNum (dNum p).2).2).2).1 (dByte (dText 16 (dNum (dNum p).2).2).2).2 []
  have h2 := dByte_lt (dText 16 (dNum (dNum p).2).2).2
  have e : (dTab p).1.cols = (dCols (dByte (dText 16 (dNum (dNum p).2).2).2).1 (dByte (dText 16 (dNum (dNum p).2).2).2).2 []).1 := rfl
  rw [e]
  simp only [List.length_nil] at h1
  omega
end Go.Proofs.YteaagnlhkopgdaaGreatDoor.C
namespace Go.Proofs.YteaagnlhkopgdaaGreatDoor.C
open Go.RowKit Go Go.Sort
theorem ddec_1 (S : ByteArray) (w : World) (hsz : S.size ≤ 140737488351232) (hk : ((dByte (bl S, false)).1 : Int) = 1) : Calls Tryz.prog 22 #[.string S] w fun x w' => DyOut S w x w' := by
  have HNS : Hid _ := @dy_no S 1 1 hk (by rfl)
  obtain ⟨N, hN⟩ : ∃ N, N = w.heap.size := ⟨_, rfl⟩
  obtain ⟨w0, hw0⟩ : ∃ w0, w0 = (w.alloc (.cells #[.int .i64 0, .int .i64 0, .int .i64 0, .int .i64 0, .int .i64 0, .int .i64 0, .int .i64 0, .string ⟨#[]⟩, .slice none 0 0, .int .i64 0, .slice none 0 0, .slice none 0 0] 28)).alloc (.cells #[.string S, .bool false] 99) := ⟨_, rfl⟩
  have t0 : Tch (fun _ => False) w w0 := by rw [hw0]; exact (Tch.alloc _ _ _).allocR _
  have hz0 : w0.heap.size = N + 2 := by rw [hw0, hN, World.size_alloc, World.size_alloc]
  have bR : w0.heap[N]? = some (.cells #[.int .i64 0, .int .i64 0, .int .i64 0, .int .i64 0, .int .i64 0, .int .i64 0, .int .i64 0, .string ⟨#[]⟩, .slice none 0 0, .int .i64 0, .slice none 0 0, .slice none 0 0] 28 (0, 0)) := by
    rw [hw0, hN]; exact ((Tch.alloc (fun _ => False) _ _).block _ (by simp) (fun h => h)).trans (heap_new w _)
  have h0 : DB w0 (N + 1) (bl S, false) := by
    unfold DB
    rw [bB_bl, hw0, hN, ← World.size_alloc]; exact heap_new _ _
  have q0 := dbyte_any (N + 1) (bl S, false) w0 h0
  obtain ⟨P0, hP0⟩ : ∃ P, P = (dByte (bl S, false)).2 := ⟨_, rfl⟩
  have hl0 : P0.1.length ≤ 140737488351232 := by
    have h1 := dByte_len (bl S, false)
    have h2 := bl_size S
    rw [hP0]
    simp only at h1
    omega
  rw [hk, ← hP0] at q0
  rw [← hP0] at HNS
  obtain ⟨A1, hA1⟩ : ∃ A, A = dNum P0 := ⟨_, rfl⟩
  have HA1 : Hid (A1 = dNum P0) := hA1
  have hl1 : A1.2.1.length ≤ 140737488351232 := by have := dNum_len P0; rw [hA1]; omega
  obtain ⟨A2, hA2⟩ : ∃ A, A = dNum A1.2 := ⟨_, rfl⟩
  have HA2 : Hid (A2 = dNum A1.2) := hA2
  have hl2 : A2.2.1.length ≤ 140737488351232 := by have := dNum_len A1.2; rw [hA2]; omega
  obtain ⟨r, hr⟩ : ∃ r : Rc, r = { rc0 1 with x := A1.1, l := A2.1 } := ⟨_, rfl⟩
  have HDC : Hid (dC 1 1 P0 = (r, A2.2)) := by
    show _ = _
    rw [hr, hA2, hA1]
    rfl
  rw [HDC.out] at HNS
  have ho : ∀ v ∈ r.o, v.i64 := fun v hv => by
    rw [hr] at hv
    exact absurd hv List.not_mem_nil
  have hn : ∀ v ∈ r.n, v.i64 := fun v hv => by
    rw [hr] at hv
    exact absurd hv List.not_mem_nil
  have HSY : Hid (encI r = 0 → encS r = S → Says S r) := fun h1 h2 => enc_says h1 h2 ho hn
  have HRR : Hid (r = { rc0 1 with x := A1.1, l := A2.1 } ∧ (∀ v ∈ r.o, v.i64) ∧ ∀ v ∈ r.n, v.i64) := ⟨hr, ho, hn⟩
  have HW0 : Hid (w0 = (w.alloc (.cells #[.int .i64 0, .int .i64 0, .int .i64 0, .int .i64 0, .int .i64 0, .int .i64 0, .int .i64 0, .string ⟨#[]⟩, .slice none 0 0, .int .i64 0, .slice none 0 0, .slice none 0 0] 28)).alloc (.cells #[.string S, .bool false] 99)) := hw0
  have HT0 : Hid (Tch (fun _ => False) w w0 ∧ w0.heap[N]? = some (.cells #[.int .i64 0, .int .i64 0, .int .i64 0, .int .i64 0, .int .i64 0, .int .i64 0, .int .i64 0, .string ⟨#[]⟩, .slice none 0 0, .int .i64 0, .slice none 0 0, .slice none 0 0] 28 (0, 0))) := ⟨t0, bR⟩
  have HNN : Hid (N = w.heap.size) := hN
  rw [hw0, hN] at q0
  clear hk hP0 hA1 hA2 hr ho hn hw0 t0 bR h0 hN 
  go_enter Tryz.func22, Tryz.ntmps22
  go_wp2_with fail
  refine q0.mono ?_
  rintro x w1 ⟨rfl, h1, t1⟩
  rw [← HW0.out, ← HNN.out] at t1
  rw [← HNN.out] at h1 ⊢
  have hz1 := t1.size
  clear q0
  obtain ⟨B, hB⟩ : ∃ B, B = w1.heap.size := ⟨_, rfl⟩
  obtain ⟨u0, hu0⟩ : ∃ u, u = w1.alloc (.cells #[.int .i64 1, .int .i64 0, .int .i64 0, .int .i64 0, .int .i64 0, .int .i64 0, .int .i64 0, .string ⟨#[]⟩, .slice none 0 0, .int .i64 0, .slice none 0 0, .slice none 0 0] 28) := ⟨_, rfl⟩
  have s0 : Tch (fun _ => False) w1 u0 := by rw [hu0]; exact Tch.alloc _ _ _
  have c0 : u0.heap[B]? = some (.cells #[.int .i64 1, .int .i64 0, .int .i64 0, .int .i64 0, .int .i64 0, .int .i64 0, .int .i64 0, .string ⟨#[]⟩, .slice none 0 0, .int .i64 0, .slice none 0 0, .slice none 0 0] 28 (0, 0)) := by rw [hu0, hB]; exact heap_new w1 _
  have d0 : DB u0 (N + 1) P0 := h1.no s0
  have T0 : Tch (fun i => i = N + 1 ∨ B ≤ i) w0 u0 := (t1.mono (fun _ _ h => Or.inl h)).trans' (s0.mono (fun _ _ h => h.elim))
  have hzB : N + 2 ≤ B := by omega
  have hzu : B < u0.heap.size := blk_lt c0
  have HU0 : Hid (u0 = w1.alloc (.cells #[.int .i64 1, .int .i64 0, .int .i64 0, .int .i64 0, .int .i64 0, .int .i64 0, .int .i64 0, .string ⟨#[]⟩, .slice none 0 0, .int .i64 0, .slice none 0 0, .slice none 0 0] 28)) := hu0
  have HBB : Hid (B = w1.heap.size) := hB
  clear hu0 hB h1 t1 s0 hz1
  have q1 := dnum_any (N + 1) P0 u0 d0
  rw [← HA1.out] at q1
  rw [HU0.out] at q1
  go_wp2_with fail
  refine q1.mono ?_
  rintro x v1 ⟨rfl, e1, t1⟩
  rw [← HU0.out] at t1
  rw [← HBB.out]
  have hz1 := t1.size
  have b1 : v1.heap[B]? = some (.cells #[.int .i64 1, .int .i64 0, .int .i64 0, .int .i64 0, .int .i64 0, .int .i64 0, .int .i64 0, .string ⟨#[]⟩, .slice none 0 0, .int .i64 0, .slice none 0 0, .slice none 0 0] 28 (0, 0)) := (t1.block _ (blk_lt c0) (by omega)).trans c0
  obtain ⟨u1, hu1⟩ : ∃ u, u = (v1.setCell ⟨B, 1, none⟩ (.int .i64 (A1.1 : Int))) := ⟨_, rfl⟩
  have g1 : Tch (fun i => i = B) v1 u1 := by rw [hu1]; exact Tch.setCell (fun i => i = B) v1 ⟨B, 1, none⟩ _ rfl
  have c1 : u1.heap[B]? = some (.cells #[.int .i64 1, .int .i64 (A1.1 : Int), .int .i64 0, .int .i64 0, .int .i64 0, .int .i64 0, .int .i64 0, .string ⟨#[]⟩, .slice none 0 0, .int .i64 0, .slice none 0 0, .slice none 0 0] 28 (0, 0)) := by rw [hu1]; exact blk_set b1 _
  have d1 : DB u1 (N + 1) A1.2 := e1.tch g1 (by omega)
  have T1 : Tch (fun i => i = N + 1 ∨ B ≤ i) w0 u1 := (T0.trans' (t1.mono (fun _ _ h => Or.inl h))).trans' (g1.mono (fun _ _ h => Or.inr (by omega)))
  have x1 := g1.size
  have HU1 : Hid (u1 = (v1.setCell ⟨B, 1, none⟩ (.int .i64 (A1.1 : Int)))) := hu1
  have y0 := blk_cell b1 0
  have y1 := blk_cell b1 1
  have y2 := blk_cell b1 2
  have y3 := blk_cell b1 3
  have y4 := blk_cell b1 4
  have y5 := blk_cell b1 5
  have y6 := blk_cell b1 6
  have y7 := blk_cell b1 7
  have y8 := blk_cell b1 8
  have y9 := blk_cell b1 9
  have y10 := blk_cell b1 10
  have y11 := blk_cell b1 11
  simp only [List.getElem?_toArray, List.getElem?_cons_succ, List.getElem?_cons_zero] at y0 y1 y2 y3 y4 y5 y6 y7 y8 y9 y10 y11
  have f1 := blk_frozen b1 1
  clear q1 b1 hu1 e1 t1 g1 c0 d0 T0
  have q2 := dnum_any (N + 1) A1.2 u1 d1
  rw [← HA2.out] at q2
  rw [HU1.out] at q2
  go_wp2_with fail
  refine q2.mono ?_
  rintro x v2 ⟨rfl, e2, t2⟩
  rw [← HU1.out] at t2
  have hz2 := t2.size
  have b2 : v2.heap[B]? = some (.cells #[.int .i64 1, .int .i64 (A1.1 : Int), .int .i64 0, .int .i64 0, .int .i64 0, .int .i64 0, .int .i64 0, .string ⟨#[]⟩, .slice none 0 0, .int .i64 0, .slice none 0 0, .slice none 0 0] 28 (0, 0)) := (t2.block _ (blk_lt c1) (by omega)).trans c1
  obtain ⟨u2, hu2⟩ : ∃ u, u = (v2.setCell ⟨B, 2, none⟩ (.int .i64 (A2.1 : Int))) := ⟨_, rfl⟩
  have g2 : Tch (fun i => i = B) v2 u2 := by rw [hu2]; exact Tch.setCell (fun i => i = B) v2 ⟨B, 2, none⟩ _ rfl
  have c2 : u2.heap[B]? = some (.cells #[.int .i64 1, .int .i64 (A1.1 : Int), .int .i64 (A2.1 : Int), .int .i64 0, .int .i64 0, .int .i64 0, .int .i64 0, .string ⟨#[]⟩, .slice none 0 0, .int .i64 0, .slice none 0 0, .slice none 0 0] 28 (0, 0)) := by rw [hu2]; exact blk_set b2 _
  have d2 : DB u2 (N + 1) A2.2 := e2.tch g2 (by omega)
  have T2 : Tch (fun i => i = N + 1 ∨ B ≤ i) w0 u2 := (T1.trans' (t2.mono (fun _ _ h => Or.inl h))).trans' (g2.mono (fun _ _ h => Or.inr (by omega)))
  have x2 := g2.size
  have HU2 : Hid (u2 = (v2.setCell ⟨B, 2, none⟩ (.int .i64 (A2.1 : Int)))) := hu2
  have y0 := blk_cell b2 0
  have y1 := blk_cell b2 1
  have y2 := blk_cell b2 2
  have y3 := blk_cell b2 3
  have y4 := blk_cell b2 4
  have y5 := blk_cell b2 5
  have y6 := blk_cell b2 6
  have y7 := blk_cell b2 7
  have y8 := blk_cell b2 8
  have y9 := blk_cell b2 9
  have y10 := blk_cell b2 10
  have y11 := blk_cell b2 11
  simp only [List.getElem?_toArray, List.getElem?_cons_succ, List.getElem?_cons_zero] at y0 y1 y2 y3 y4 y5 y6 y7 y8 y9 y10 y11
  have f2 := blk_frozen b2 2
  clear q2 b2 hu2 e2 t2 g2 c1 d1 T1
  have HRW : Hid (RW u2 (fun i => i ≤ N) r sk0) := by
    have i1 := HRR.out.2.1
    have i2 := HRR.out.2.2
    show RW _ _ _ _
    rw [HRR.out.1] at i1 i2 ⊢
    exact ⟨sl_nil _ _ rfl, sl_nil _ _ rfl, ck_nil _ _, fun h => absurd rfl h, fun h => absurd rfl h, i1, i2, Nat.zero_le _, Nat.zero_le _, Nat.zero_le _⟩
  have hlc : r.tb.cols.length ≤ 4398046511104 := by rw [HRR.out.1]; exact Nat.zero_le _
  have q9 := renc_all r sk0 _ u2 HRW.out hlc
  have ervr : rV r sk0 = .agg #[.int .i64 1, .int .i64 (A1.1 : Int), .int .i64 (A2.1 : Int), .int .i64 0, .int .i64 0, .int .i64 0, .int .i64 0, .string ⟨#[]⟩, .slice none 0 0, .int .i64 0, .slice none 0 0, .slice none 0 0] := by rw [HRR.out.1]; rfl
  have HRV : Hid (rV r sk0 = .agg #[.int .i64 1, .int .i64 (A1.1 : Int), .int .i64 (A2.1 : Int), .int .i64 0, .int .i64 0, .int .i64 0, .int .i64 0, .string ⟨#[]⟩, .slice none 0 0, .int .i64 0, .slice none 0 0, .slice none 0 0]) := ervr
  rw [ervr] at q9
  clear ervr
  rw [HU2.out] at q9
  obtain ⟨Y, hY⟩ : ∃ Y, Y = encS r := ⟨_, rfl⟩
  obtain ⟨E, hE⟩ : ∃ E, E = encI r := ⟨_, rfl⟩
  rw [← hY, ← hE] at q9
  rw [← hY, ← hE] at HSY HNS
  clear hY hE hlc
  go_wp2_with fail
  refine q9.mono ?_
  rintro x z ⟨rfl, t9⟩
  rw [← HU2.out] at t9
  have bz : z.heap[B]? = some (.cells #[.int .i64 1, .int .i64 (A1.1 : Int), .int .i64 (A2.1 : Int), .int .i64 0, .int .i64 0, .int .i64 0, .int .i64 0, .string ⟨#[]⟩, .slice none 0 0, .int .i64 0, .slice none 0 0, .slice none 0 0] 28 (0, 0)) := (t9.block _ (blk_lt c2) (fun h => h)).trans c2
  have dz : DB z (N + 1) A2.2 := d2.no t9
  have Tz : Tch (fun i => i = N + 1 ∨ B ≤ i) w0 z := T2.trans' (t9.mono (fun _ _ h => h.elim))
  have rz : z.heap[N]? = some (.cells #[.int .i64 0, .int .i64 0, .int .i64 0, .int .i64 0, .int .i64 0, .int .i64 0, .int .i64 0, .string ⟨#[]⟩, .slice none 0 0, .int .i64 0, .slice none 0 0, .slice none 0 0] 28 (0, 0)) := (Tz.block N (by omega) (by omega)).trans HT0.out.2
  have HWZ : Hid (∀ W, Tch (fun i => i = N) z W → Tch (fun _ => False) w W ∧ RW W (fun i => i < w.heap.size) r sk0) := fun W t => by
    have hw := HNN.out
    have hz9 := HT0.out.1.size
    refine ⟨((HT0.out.1.mono (fun _ _ h => h.elim)).trans Tz (fun i hi h => ?_)).trans t (fun i hi h => ?_), ?_⟩
    · omega
    · omega
    · exact ((HRW.out.no t9).tch t (fun i hi h => Nat.le_of_eq h)).weak9 (fun i hi => by omega)
  have bad9 : z.cell? ⟨N + 1, 1, none⟩ = some (.bool A2.2.2) := blk_cell dz 1
  obtain ⟨bad, hbad⟩ : ∃ bad, bad = A2.2.2 := ⟨_, rfl⟩
  rw [← hbad] at bad9
  have HNS2 : Hid (¬ (bad = false ∧ E = 0 ∧ Y = S) → ∀ r, ¬ Says S r) := by rw [hbad]; exact HNS.out
  clear q9 y0 y1 y2 y3 y4 y5 y6 y7 y8 y9 y10 y11 hbad
  have y0 := blk_cell bz 0
  have y1 := blk_cell bz 1
  have y2 := blk_cell bz 2
  have y3 := blk_cell bz 3
  have y4 := blk_cell bz 4
  have y5 := blk_cell bz 5
  have y6 := blk_cell bz 6
  have y7 := blk_cell bz 7
  have y8 := blk_cell bz 8
  have y9 := blk_cell bz 9
  have y10 := blk_cell bz 10
  have y11 := blk_cell bz 11
  simp only [List.getElem?_toArray, List.getElem?_cons_succ, List.getElem?_cons_zero] at y0 y1 y2 y3 y4 y5 y6 y7 y8 y9 y10 y11
  have k0 := blk_cell rz 0
  have k1 := blk_cell rz 1
  have k2 := blk_cell rz 2
  have k3 := blk_cell rz 3
  have k4 := blk_cell rz 4
  have k5 := blk_cell rz 5
  have k6 := blk_cell rz 6
  have k7 := blk_cell rz 7
  have k8 := blk_cell rz 8
  have k9 := blk_cell rz 9
  have k10 := blk_cell rz 10
  have k11 := blk_cell rz 11
  simp only [List.getElem?_toArray, List.getElem?_cons_succ, List.getElem?_cons_zero] at k0 k1 k2 k3 k4 k5 k6 k7 k8 k9 k10 k11
  have j0 := blk_frozen rz 0
  have j1 := blk_frozen rz 1
  have j2 := blk_frozen rz 2
  have j3 := blk_frozen rz 3
  have j4 := blk_frozen rz 4
  have j5 := blk_frozen rz 5
  have j6 := blk_frozen rz 6
  have j7 := blk_frozen rz 7
  have j8 := blk_frozen rz 8
  have j9 := blk_frozen rz 9
  have j10 := blk_frozen rz 10
  have j11 := blk_frozen rz 11
  clear t9 bz dz Tz rz c2 d2 T2 HT0 HU2 HRW HNS HDC
  have hrs : Tryz.f22.results = #[.cell 2 28, .tmp 3] := by kernel_rfl
  cases bad
  · by_cases hE0 : E = 0
    · have e1 := int_eq' hE0
      by_cases hYS : Y = S
      · have e2 := bs_eq hYS
        go_wp2_with fail
        refine bodyPost_ret (v := .tuple #[.agg #[.int .i64 1, .int .i64 (A1.1 : Int), .int .i64 (A2.1 : Int), .int .i64 0, .int .i64 0, .int .i64 0, .int .i64 0, .string ⟨#[]⟩, .slice none 0 0, .int .i64 0, .slice none 0 0, .slice none 0 0], .int .i64 0]) (by simp only [results, hrs]; go_simp) rfl ?_
        obtain ⟨a1, a2⟩ := HWZ.out _ (show Tch (fun i => i = N) z _ from (((((((((((Tch.setCell (fun i => i = N) z ⟨N, 0, none⟩ _ rfl).setCellR ⟨N, 1, none⟩ _ rfl).setCellR ⟨N, 2, none⟩ _ rfl).setCellR ⟨N, 3, none⟩ _ rfl).setCellR ⟨N, 4, none⟩ _ rfl).setCellR ⟨N, 5, none⟩ _ rfl).setCellR ⟨N, 6, none⟩ _ rfl).setCellR ⟨N, 7, none⟩ _ rfl).setCellR ⟨N, 8, none⟩ _ rfl).setCellR ⟨N, 9, none⟩ _ rfl).setCellR ⟨N, 10, none⟩ _ rfl).setCellR ⟨N, 11, none⟩ _ rfl)
        exact Or.inl ⟨r, sk0, HSY.out hE0 hYS, by rw [HRV.out], a2, a1⟩
      · have e2 := bs_ne hYS
        go_wp2_with fail
        refine bodyPost_ret (v := .tuple #[rV (rc0 0) sk0, .int .i64 181]) (by simp only [results, hrs]; go_simp; (repeat' apply And.intro) <;> rfl) rfl ?_
        exact Or.inr ⟨HNS2.out (fun e => hYS e.2.2), rfl, (HWZ.out _ (show Tch (fun i => i = N) z _ from (((((((((((Tch.setCell (fun i => i = N) z ⟨N, 0, none⟩ _ rfl).setCellR ⟨N, 1, none⟩ _ rfl).setCellR ⟨N, 2, none⟩ _ rfl).setCellR ⟨N, 3, none⟩ _ rfl).setCellR ⟨N, 4, none⟩ _ rfl).setCellR ⟨N, 5, none⟩ _ rfl).setCellR ⟨N, 6, none⟩ _ rfl).setCellR ⟨N, 7, none⟩ _ rfl).setCellR ⟨N, 8, none⟩ _ rfl).setCellR ⟨N, 9, none⟩ _ rfl).setCellR ⟨N, 10, none⟩ _ rfl).setCellR ⟨N, 11, none⟩ _ rfl)).1⟩
    · have e1 := int_ne hE0
      go_wp2_with fail
      refine bodyPost_ret (v := .tuple #[rV (rc0 0) sk0, .int .i64 181]) (by simp only [results, hrs]; go_simp; (repeat' apply And.intro) <;> rfl) rfl ?_
      exact Or.inr ⟨HNS2.out (fun e => hE0 e.2.1), rfl, (HWZ.out _ (show Tch (fun i => i = N) z _ from (((((((((((Tch.setCell (fun i => i = N) z ⟨N, 0, none⟩ _ rfl).setCellR ⟨N, 1, none⟩ _ rfl).setCellR ⟨N, 2, none⟩ _ rfl).setCellR ⟨N, 3, none⟩ _ rfl).setCellR ⟨N, 4, none⟩ _ rfl).setCellR ⟨N, 5, none⟩ _ rfl).setCellR ⟨N, 6, none⟩ _ rfl).setCellR ⟨N, 7, none⟩ _ rfl).setCellR ⟨N, 8, none⟩ _ rfl).setCellR ⟨N, 9, none⟩ _ rfl).setCellR ⟨N, 10, none⟩ _ rfl).setCellR ⟨N, 11, none⟩ _ rfl)).1⟩
  · skip
    go_wp2_with fail
    refine bodyPost_ret (v := .tuple #[rV (rc0 0) sk0, .int .i64 181]) (by simp only [results, hrs]; go_simp; (repeat' apply And.intro) <;> rfl) rfl ?_
    exact Or.inr ⟨HNS2.out (fun e => by cases e.1), rfl, (HWZ.out _ (show Tch (fun i => i = N) z _ from (((((((((((Tch.setCell (fun i => i = N) z ⟨N, 0, none⟩ _ rfl).setCellR ⟨N, 1, none⟩ _ rfl).setCellR ⟨N, 2, none⟩ _ rfl).setCellR ⟨N, 3, none⟩ _ rfl).setCellR ⟨N, 4, none⟩ _ rfl).setCellR ⟨N, 5, none⟩ _ rfl).setCellR ⟨N, 6, none⟩ _ rfl).setCellR ⟨N, 7, none⟩ _ rfl).setCellR ⟨N, 8, none⟩ _ rfl).setCellR ⟨N, 9, none⟩ _ rfl).setCellR ⟨N, 10, none⟩ _ rfl).setCellR ⟨N, 11, none⟩ _ rfl)).1⟩
end Go.Proofs.YteaagnlhkopgdaaGreatDoor.C
