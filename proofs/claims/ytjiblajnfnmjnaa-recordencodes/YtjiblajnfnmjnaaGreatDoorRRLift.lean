import Derived.Test.YtjiblajnfnmjnaaGreatDoorKP1
import Derived.Test.YtjiblajnfnmjnaaGreatDoorRV4
import Derived.Test.YtjiblajnfnmjnaaGreatDoorCPure
import Derived.Test.YtjiblajnfnmjnaaGreatDoorVAgain
import Derived.Lib.LaidTab
import Derived.Stop.LaidErr
set_option maxHeartbeats 8000000
set_option maxRecDepth 100000
namespace Go.Proofs.YtjiblajnfnmjnaaGreatDoor.C
open Go.RowKit Go Go.Sort
theorem own_lenB {W : World} {base sz n : Nat} {t : TypeId} {v : Value} {xs : List Value} (h : W.ownsRow base t sz v n xs) : n ≤ 9223372036854775807 := by
  rcases h.2 with ⟨_, h1⟩ | ⟨g, cap, cur, _, _, _, h1, h2, _⟩
  · omega
  · have : maxLen = 9223372036854775807 := rfl
    omega
theorem RN.rw {W : World} {base : Nat} {r : Rc} {s : Sk} (h : RN W base r s) (ho : ∀ v ∈ r.o, v.i64) (hn : ∀ v ∈ r.n, v.i64) : RW W (fun i => i < base) r s := by
  obtain ⟨co, cc, hck⟩ := own_ck (p := (r.tb, .slice s.co r.tb.cols.length s.cc)) h.tb
  have e := hck.eq
  simp only [Value.slice.injEq] at e
  obtain ⟨e1, _, e2⟩ := e
  subst e1 e2
  refine ⟨own_sl h.o, own_sl h.n, hck, h.tbs.toTL, h.eq, fun _ g o e => ?_, fun _ g o e => ?_, ho, hn, own_lenB h.o, own_lenB h.n, own_lenB h.tb, own_lenB h.tbs.own, fun i hi => own_lenB (h.tbs.col i hi)⟩
  · have := row_ge h.o (k := g) (by rw [e]; rfl); omega
  · have := row_ge h.n (k := g) (by rw [e]; rfl); omega
theorem RN.cut {W : World} {base : Nat} {r : Rc} {s : Sk} (h : RN W base r s) (c : Nat) : RN W base (cutC c r) (cutS c s) := by
  have hc : c = 3 ∨ c = 4 ∨ c = 5 ∨ c = 8 ∨ c = 10 ∨ c = 1 ∨ c = 2 ∨ c = 6 ∨ c = 7 ∨ c = 9 ∨ c = 0 ∨ 10 < c := by omega
  have nv : W.ownsRow base 58 3 (.slice none 0 0) 0 (vcl []) := World.ownsRow_nil _ _ _ _
  have nc : W.ownsRow base 43 3 (.slice none 0 0) 0 (ccl []) := World.ownsRow_nil _ _ _ _
  have q0 : ∀ k, RN W base (rc0 k) sk0 := fun k => ⟨nv, nv, nc, to_nil _ _, rfl, fun g e => by cases e⟩
  rcases hc with rfl | rfl | rfl | rfl | rfl | rfl | rfl | rfl | rfl | rfl | rfl | hc
  · exact ⟨nv, h.n, nc, to_nil _ _, rfl, fun g e => by cases e⟩
  · exact ⟨h.o, h.n, nc, to_nil _ _, rfl, h.on⟩
  · exact ⟨h.o, nv, nc, to_nil _ _, rfl, fun g _ e => by cases e⟩
  · exact ⟨nv, nv, h.tb, to_nil _ _, rfl, fun g e => by cases e⟩
  · exact ⟨nv, nv, nc, h.tbs, h.eq, fun g e => by cases e⟩
  · exact ⟨nv, nv, nc, to_nil _ _, rfl, fun g e => by cases e⟩
  · exact ⟨nv, nv, nc, to_nil _ _, rfl, fun g e => by cases e⟩
  · exact ⟨nv, nv, nc, to_nil _ _, rfl, fun g e => by cases e⟩
  · exact ⟨nv, nv, nc, to_nil _ _, rfl, fun g e => by cases e⟩
  · exact ⟨nv, nv, nc, to_nil _ _, rfl, fun g e => by cases e⟩
  · exact q0 r.k
  · have e1 : cutC c r = rc0 r.k := by unfold cutC; split <;> first | omega | rfl
    have e2 : cutS c s = sk0 := by unfold cutS; split <;> first | omega | rfl
    rw [e1, e2]; exact q0 r.k
theorem RN.tch {S : Nat → Prop} {W W' : World} {base : Nat} {r : Rc} {s : Sk} (h : RN W base r s) (t : Tch S W W') (hS : ∀ i, base ≤ i → i < W.heap.size → ¬ S i) : RN W' base r s :=
  ⟨own_tch h.o t (fun g e => hS g (h.o.lt g e).1 (h.o.lt g e).2), own_tch h.n t (fun g e => hS g (h.n.lt g e).1 (h.n.lt g e).2), own_tch h.tb t (fun g e => hS g (h.tb.lt g e).1 (h.tb.lt g e).2), h.tbs.tch t hS, h.eq, h.on⟩
theorem RN.low {W : World} {base base' : Nat} {r : Rc} {s : Sk} (h : RN W base r s) (hb : base' ≤ base) : RN W base' r s :=
  ⟨own_low h.o hb, own_low h.n hb, own_low h.tb hb, to_low h.tbs hb, h.eq, h.on⟩
def DcOut (r : Rc) (w : World) (x : Ending) (w' : World) : Prop := ∃ s, x = .returned (.tuple #[rV r s, .int .i64 0]) ∧ RN w' w.heap.size r s ∧ Tch (fun _ => False) w w'
theorem recL_byte {r : Rc} (h : 1 ≤ r.k ∧ r.k ≤ 15) : byteR ⟨(recL r).toArray⟩ 0 0 = (r.k.toNat, 1, 0) := by
  have h0 := here_zero (recL r)
  have := thr_byte (b := UInt8.ofNat r.k.toNat) (r := bodyL (cls r.k) r) h0
  rw [this]
  have e : (UInt8.ofNat r.k.toNat).toNat = r.k.toNat := by rw [UInt8.toNat_ofNat']; omega
  rw [e]
theorem recL_take {r : Rc} (hr : rightC (cls r.k) r) (hc : cutC (cls r.k) r = r) (ho : ∀ v ∈ r.o, v.i64) (hn : ∀ v ∈ r.n, v.i64) : (tkC ⟨(recL r).toArray⟩ r.k (cls r.k) (1, 0)).1 = r :=
  thr_rec (Here.one (b := UInt8.ofNat r.k.toNat) (here_zero (recL r))) hr hc ho hn
theorem decode_3 (r : Rc) (S : ByteArray) (w : World) (hS : S = ⟨(recL r).toArray⟩) (hsz : S.size ≤ 281474976710656) (hg : HE w) (hk : cls r.k = 3) (hr : rightC 3 r) (hc : cutC 3 r = r) (ho : ∀ v ∈ r.o, v.i64) (hn : ∀ v ∈ r.n, v.i64) : Calls Tryz.prog 14 #[.string S] w fun x w' => DcOut r w x w' := by
  have hkr : 1 ≤ r.k ∧ r.k ≤ 15 := by
    rcases cls_rng r.k with h1 | h1
    · rw [hk] at h1; cases h1
    · exact ⟨h1.1, h1.2.1⟩
  have hgl : 1 < w.heap.size := cell_lt hg
  have HBY : Hid (byteR S 0 0 = (r.k.toNat, 1, 0)) := by show _ = _; rw [hS]; exact recL_byte hkr
  have HTK : Hid ((tkC S r.k 3 (1, 0)).1 = r) := by
    show _ = _
    have := recL_take (by rw [hk]; exact hr) (by rw [hk]; exact hc) ho hn
    rw [hk, ← hS] at this; exact this
  obtain ⟨w0, hw0⟩ : ∃ w0, w0 = w.alloc (.cells #[.int .i64 0, .int .i64 0, .int .i64 0, .int .i64 0, .slice none 0 0, .slice none 0 0, .string ⟨#[]⟩, .int .i64 0, .int .i64 0, .int .i64 0, .string ⟨#[]⟩, .slice none 0 0, .int .i64 0, .slice none 0 0] 37) := ⟨_, rfl⟩
  have t0 : Tch (fun _ => False) w w0 := by rw [hw0]; exact Tch.alloc _ _ _
  have b0 : w0.heap[w.heap.size]? = some (.cells #[.int .i64 0, .int .i64 0, .int .i64 0, .int .i64 0, .slice none 0 0, .slice none 0 0, .string ⟨#[]⟩, .int .i64 0, .int .i64 0, .int .i64 0, .string ⟨#[]⟩, .slice none 0 0, .int .i64 0, .slice none 0 0] 37 (0, 0)) := by rw [hw0]; exact heap_new w _
  have q1 := newReader_any S w0
  rw [hw0] at q1
  have HW0 : Hid (w0 = w.alloc (.cells #[.int .i64 0, .int .i64 0, .int .i64 0, .int .i64 0, .slice none 0 0, .slice none 0 0, .string ⟨#[]⟩, .int .i64 0, .int .i64 0, .int .i64 0, .string ⟨#[]⟩, .slice none 0 0, .int .i64 0, .slice none 0 0] 37)) := hw0
  have HB : Hid (∀ W, Tch (fun i => w.heap.size < i) w0 W → W.heap[w.heap.size]? = some (.cells #[.int .i64 0, .int .i64 0, .int .i64 0, .int .i64 0, .slice none 0 0, .slice none 0 0, .string ⟨#[]⟩, .int .i64 0, .int .i64 0, .int .i64 0, .string ⟨#[]⟩, .slice none 0 0, .int .i64 0, .slice none 0 0] 37 (0, 0)) ∧ HE W ∧ Tch (fun _ => False) w W) := fun W t =>
    ⟨(t.block _ (blk_lt b0) (by omega)).trans b0, (hg.tch t0 (fun h => h)).tch t (by omega), (t0.mono (fun _ _ h => h.elim)).trans t (fun i hi h => by omega)⟩
  have HENC : Hid (∀ W F s, HE W → RW W F r s → Calls Tryz.prog 13 #[rV r s] W fun x w' => x = .returned (.tuple #[.string S, .int .i64 0]) ∧ Tch (fun _ => False) W w') := fun W F s h1 h2 => by
    rw [hS]
    exact encode_ok r s F W h1 h2 (by rw [hk]; exact hr) (by rw [hk]; exact hc)
  have HRW : Hid (∀ W base s, RN W base r s → RW W (fun i => i < base) r s) := fun W base s h => h.rw ho hn
  have HCUT : Hid (cutC 3 r = r) := hc
  have HRO : Hid (∀ s W, Calls Tryz.prog 37 #[.int .i64 r.k, bV 3 r s] W fun x w' => x = .returned (rV r (cutS 3 s)) ∧ Tch (fun _ => False) W w') := fun s W => by
    have := recordOf_3 r s W
    rw [hc] at this; exact this
  have m1 : ∀ (v : Array Value) (W : World), (method 381 132 (.agg v) "confluence/record.take").run Tryz.prog W = .ok (197, .agg v) W := fun v W => by kernel_rfl
  have hz0 : w0.heap.size = w.heap.size + 1 := by rw [hw0]; simp
  have HBO : Hid (∀ W, Calls Tryz.prog 36 #[rV (rc0 r.k) sk0] W fun x w' => x = .returned (.iface 132 (.agg #[.int .i64 0, .int .i64 0, .slice none 0 0])) ∧ Tch (fun _ => False) W w') := fun W => by
    have q := bodyOf_any (rc0 r.k) sk0 W
    have e : cls (rc0 r.k).k = 3 := hk
    rw [e] at q
    exact q
  have ek : ((r.k.toNat : Nat) : Int) = r.k := by omega
  have HEK : Hid (((r.k.toNat : Nat) : Int) = r.k) := ek
  have ess : (S.toList == S.toList) = true := by simp
  clear hg hk hr hc ho hn hw0 t0 b0 hS ek
  go_enter Tryz.func14, Tryz.ntmps14
  go_wp2_with fail
  refine q1.mono ?_
  rintro x w1 ⟨rfl, h1, t1, z1⟩
  rw [← HW0.out, hz0] at h1
  rw [← HW0.out] at t1 z1
  clear q1
  have T1 : Tch (fun i => w.heap.size < i) w0 w1 := t1.mono (fun _ _ h => h.elim)
  have q2 := rbyte_any (w.heap.size + 1) S 0 0 w1 h1 hsz
  rw [HBY.out] at q2
  simp only [HEK.out] at q2
  go_wp2_with fail
  refine q2.mono ?_
  rintro x w2 ⟨rfl, h2, t2⟩
  clear q2
  have T2 : Tch (fun i => w.heap.size < i) w0 w2 := T1.trans' (t2.mono (fun i _ h => by omega))
  go_wp2_with fail
  refine (HBO.out w2).mono ?_
  rintro x w3 ⟨rfl, t3⟩
  have h3 := RD.no h2 t3
  have T3 : Tch (fun i => w.heap.size < i) w0 w3 := T2.trans' (t3.mono (fun _ _ h => h.elim))
  have q4 := take_3 (w.heap.size + 1) S r.k 1 0 w3 h3 (HB.out w3 T3).2.1 (by omega) hsz
  have hz3 : w0.heap.size + 1 ≤ w3.heap.size := by
    have := t1.size; have := t2.size; have := t3.size; omega
  clear h1 h2 t1 t2 t3 T1 T2 z1
  go_wp2_with fail
  refine q4.mono ?_
  rintro x w4 ⟨⟨s, rfl, hN⟩, -, t4⟩
  rw [HTK.out] at hN ⊢
  clear q4 h3
  have T4 : Tch (fun i => w.heap.size < i) w0 w4 := T3.trans' (t4.mono (fun i _ h => by omega))
  have hz4 := t4.size
  have q5 := HRO.out s w4
  have HN4 : Hid (RN w4 w3.heap.size r s) := hN
  clear hN
  generalize hbv : bV 3 r s = BV at q5 ⊢
  clear hbv
  go_wp2_with fail
  refine q5.mono ?_
  rintro x w5 ⟨rfl, t5⟩
  clear q5
  have T5 : Tch (fun i => w.heap.size < i) w0 w5 := T4.trans' (t5.mono (fun _ _ h => h.elim))
  have HN5 : Hid (RN w5 w3.heap.size r (cutS 3 s)) := by
    have := (HN4.out.tch t5 (fun _ _ _ h => h)).cut 3
    rw [HCUT.out] at this; exact this
  have hz5 := t5.size
  clear HN4
  obtain ⟨s5, hs5⟩ : ∃ s5, s5 = cutS 3 s := ⟨_, rfl⟩
  rw [← hs5] at HN5 ⊢
  clear hs5 t5 t4 T3 T4
  obtain ⟨w6, hw6⟩ : ∃ w6, w6 = w5.alloc (.cells #[.int .i64 r.k, .int .i64 r.x, .int .i64 r.p, .int .i64 r.t, .slice s5.oo r.o.length s5.oc, .slice s5.no r.n.length s5.nc, .string r.nm, .int .i64 r.org, .int .i64 r.tb.id, .int .i64 r.tb.ver, .string r.tb.nm, .slice s5.co r.tb.cols.length s5.cc, .int .i64 r.tb.key, .slice s5.to s5.P.length s5.tc] 37) := ⟨_, rfl⟩
  have t6 : Tch (fun _ => False) w5 w6 := by rw [hw6]; exact Tch.alloc _ _ _
  have b6 : w6.heap[w5.heap.size]? = some (.cells #[.int .i64 r.k, .int .i64 r.x, .int .i64 r.p, .int .i64 r.t, .slice s5.oo r.o.length s5.oc, .slice s5.no r.n.length s5.nc, .string r.nm, .int .i64 r.org, .int .i64 r.tb.id, .int .i64 r.tb.ver, .string r.tb.nm, .slice s5.co r.tb.cols.length s5.cc, .int .i64 r.tb.key, .slice s5.to s5.P.length s5.tc] 37 (0, 0)) := by rw [hw6]; exact heap_new w5 _
  have T6 : Tch (fun i => w.heap.size < i) w0 w6 := T5.trans' (t6.mono (fun _ _ h => h.elim))
  have HN6 : Hid (RN w6 w3.heap.size r s5) := HN5.out.tch t6 (fun _ _ _ h => h)
  have q7 := HENC.out w6 _ s5 (HB.out w6 T6).2.1 (HRW.out w6 _ s5 HN6.out)
  rw [hw6] at q7
  have HW6 : Hid (w6 = w5.alloc (.cells #[.int .i64 r.k, .int .i64 r.x, .int .i64 r.p, .int .i64 r.t, .slice s5.oo r.o.length s5.oc, .slice s5.no r.n.length s5.nc, .string r.nm, .int .i64 r.org, .int .i64 r.tb.id, .int .i64 r.tb.ver, .string r.tb.nm, .slice s5.co r.tb.cols.length s5.cc, .int .i64 r.tb.key, .slice s5.to s5.P.length s5.tc] 37)) := hw6
  have hz6 := t6.size
  clear hw6 t6 T5 HN5 HBO HRO HENC HTK HBY
  go_wp2_with fail
  refine q7.mono ?_
  rintro x w7 ⟨rfl, t7⟩
  rw [← HW6.out] at t7
  have T7 : Tch (fun i => w.heap.size < i) w0 w7 := T6.trans' (t7.mono (fun _ _ h => h.elim))
  have b7 : w7.heap[w5.heap.size]? = some (.cells #[.int .i64 r.k, .int .i64 r.x, .int .i64 r.p, .int .i64 r.t, .slice s5.oo r.o.length s5.oc, .slice s5.no r.n.length s5.nc, .string r.nm, .int .i64 r.org, .int .i64 r.tb.id, .int .i64 r.tb.ver, .string r.tb.nm, .slice s5.co r.tb.cols.length s5.cc, .int .i64 r.tb.key, .slice s5.to s5.P.length s5.tc] 37 (0, 0)) := (t7.block _ (blk_lt b6) (fun h => h)).trans b6
  obtain ⟨n7, -, U7⟩ := HB.out w7 T7
  have HN7 : Hid (RN w7 w3.heap.size r s5) := HN6.out.tch t7 (fun _ _ _ h => h)
  have HF : Hid (∀ W, Tch (fun i => i = w.heap.size) w7 W → RN W w.heap.size r s5 ∧ Tch (fun _ => False) w W) := fun W t =>
    ⟨(HN7.out.tch t (fun i h1 _ h2 => by omega)).low (by omega), U7.trans t (fun i hi h => by omega)⟩
  have y0 := blk_cell b7 0
  have y1 := blk_cell b7 1
  have y2 := blk_cell b7 2
  have y3 := blk_cell b7 3
  have y4 := blk_cell b7 4
  have y5 := blk_cell b7 5
  have y6 := blk_cell b7 6
  have y7 := blk_cell b7 7
  have y8 := blk_cell b7 8
  have y9 := blk_cell b7 9
  have y10 := blk_cell b7 10
  have y11 := blk_cell b7 11
  have y12 := blk_cell b7 12
  have y13 := blk_cell b7 13
  simp only [List.getElem?_toArray, List.getElem?_cons_succ, List.getElem?_cons_zero] at y0 y1 y2 y3 y4 y5 y6 y7 y8 y9 y10 y11 y12 y13
  have z0 := blk_cell n7 0
  have z1 := blk_cell n7 1
  have z2 := blk_cell n7 2
  have z3 := blk_cell n7 3
  have z4 := blk_cell n7 4
  have z5 := blk_cell n7 5
  have z6 := blk_cell n7 6
  have z7 := blk_cell n7 7
  have z8 := blk_cell n7 8
  have z9 := blk_cell n7 9
  have z10 := blk_cell n7 10
  have z11 := blk_cell n7 11
  have z12 := blk_cell n7 12
  have z13 := blk_cell n7 13
  simp only [List.getElem?_toArray, List.getElem?_cons_succ, List.getElem?_cons_zero] at z0 z1 z2 z3 z4 z5 z6 z7 z8 z9 z10 z11 z12 z13
  have f0 := blk_frozen n7 0
  have f1 := blk_frozen n7 1
  have f2 := blk_frozen n7 2
  have f3 := blk_frozen n7 3
  have f4 := blk_frozen n7 4
  have f5 := blk_frozen n7 5
  have f6 := blk_frozen n7 6
  have f7 := blk_frozen n7 7
  have f8 := blk_frozen n7 8
  have f9 := blk_frozen n7 9
  have f10 := blk_frozen n7 10
  have f11 := blk_frozen n7 11
  have f12 := blk_frozen n7 12
  have f13 := blk_frozen n7 13
  clear q7 t7 T6 T7 b6 b7 n7 U7 HN6 HN7 HB HW6 HW0 HRW HCUT HEK hz0 hz3 hz4 hz5 hz6
  go_wp2_with fail
  have hrs : Tryz.f14.results = #[.cell 2 37, .tmp 3] := by kernel_rfl
  refine bodyPost_ret (v := .tuple #[rV r s5, .int .i64 0]) (by simp only [results, hrs]; go_simp) rfl ?_
  obtain ⟨k1, k2⟩ := HF.out _ (show Tch (fun i => i = w.heap.size) w7 _ from (((((((((((((Tch.setCell (fun i => i = w.heap.size) w7 ⟨w.heap.size, 0, none⟩ _ rfl).setCellR ⟨w.heap.size, 1, none⟩ _ rfl).setCellR ⟨w.heap.size, 2, none⟩ _ rfl).setCellR ⟨w.heap.size, 3, none⟩ _ rfl).setCellR ⟨w.heap.size, 4, none⟩ _ rfl).setCellR ⟨w.heap.size, 5, none⟩ _ rfl).setCellR ⟨w.heap.size, 6, none⟩ _ rfl).setCellR ⟨w.heap.size, 7, none⟩ _ rfl).setCellR ⟨w.heap.size, 8, none⟩ _ rfl).setCellR ⟨w.heap.size, 9, none⟩ _ rfl).setCellR ⟨w.heap.size, 10, none⟩ _ rfl).setCellR ⟨w.heap.size, 11, none⟩ _ rfl).setCellR ⟨w.heap.size, 12, none⟩ _ rfl).setCellR ⟨w.heap.size, 13, none⟩ _ rfl)
  exact ⟨s5, rfl, k1, k2⟩
def kRow : List Val := [⟨1, 7, ⟨#[]⟩⟩, ⟨2, 0, ⟨#[97]⟩⟩]
def kR : Rc := { rc0 3 with x := 1, t := 2, n := kRow }
def kB : ByteArray := ⟨#[3, 1, 2, 6, 2, 1, 14, 2, 1, 97]⟩
def kF (v : Val) : ByteArray := if v.k = 1 then itoB v.n else ⟨#[39, 97, 39]⟩
theorem kR_bytes : (⟨(recL kR).toArray⟩ : ByteArray) = kB := by kernel_rfl
theorem kR_right : rightC 3 kR := ⟨by unfold rtN; decide, by unfold rtN; decide, by decide, by kernel_rfl⟩
theorem kR_cut : cutC 3 kR = kR := rfl
theorem kRow_i64 : ∀ v ∈ kRow, v.i64 := fun v hv => by
  rcases List.mem_cons.1 hv with rfl | hv
  · unfold Val.i64; decide
  · rcases List.mem_cons.1 hv with rfl | hv
    · unfold Val.i64; decide
    · simp at hv
theorem kR_print : insB ++ spB ++ joinS [itoB kR.x, tableB, itoB kR.t, brk (kR.n.map kF)] = ⟨#[105, 110, 115, 101, 114, 116, 32, 49, 32, 116, 97, 98, 108, 101, 32, 50, 32, 40, 55, 44, 32, 39, 97, 39, 41]⟩ := by kernel_rfl
theorem kR_join : (joinC (kR.n.map kF)).length ≤ 1000000 := by
  have e : (joinC (kR.n.map kF)).length = 6 := by kernel_rfl
  omega
theorem kR_joinS : (joinS [itoB kR.x, tableB, itoB kR.t, brk (kR.n.map kF)]).size ≤ 10000000 := by
  have e : (joinS [itoB kR.x, tableB, itoB kR.t, brk (kR.n.map kF)]).size = 18 := by kernel_rfl
  omega
theorem k_qtd : qtd ⟨#[97]⟩ = [39, 97, 39] := by kernel_rfl
theorem k_quoted (W : World) : Calls Tryz.prog 156 #[.string ⟨#[97]⟩] W fun x w' => x = .returned (.string ⟨#[39, 97, 39]⟩) ∧ Tch (fun _ => False) W w' := by
  have := quoted_plain ⟨#[97]⟩ W (by decide) (fun k hk => by
    obtain rfl : k = 0 := by have : k < 1 := hk; omega
    rw [show (⟨#[97]⟩ : ByteArray)[0]'hk = 97 from rfl]; decide)
  rw [k_qtd] at this
  exact this
theorem k_prints (w : World) (hw : HWd w) (hv : HP w) : ∀ v ∈ kR.n, ∀ W, Tch (fun _ => False) w W → Calls Tryz.prog 115 #[vA v.k v.n v.s] W fun x w' => x = .returned (.string (kF v)) ∧ Tch (fun _ => False) W w' := fun v h W t => by
  rcases List.mem_cons.1 h with rfl | h
  · exact print_int6 7 (by omega) W (hw.tch t (fun h => h)) (hv.no t)
  · rcases List.mem_cons.1 h with rfl | h
    · exact print_text ⟨#[97]⟩ W (hw.tch t (fun h => h)) (by decide) _ k_quoted
    · simp at h
def kS (A : Nat) : Sk := { sk0 with no := some ⟨A, 0, none⟩, nc := 2 }
theorem kR_rw {W : World} {A : Nat} (h : W.heap[A]? = some (.cells (vcl kRow).toArray 58 (0, 0))) : RW W (fun _ => False) kR (kS A) := by
  have n0 : ∀ v ∈ ([] : List Val), v.i64 := fun v hv => by simp at hv
  have z0 : (0 : Nat) ≤ 9223372036854775807 := Nat.zero_le _
  exact ⟨sl_nil W _ rfl, fun _ => ⟨A, 0, rfl, blk_at h⟩, ck_nil W _, tl_nil W _, rfl, fun h => absurd rfl h, fun _ _ _ _ h => h, n0, kRow_i64, z0, (show (2 : Nat) ≤ 9223372036854775807 by omega), z0, z0, fun i hi => absurd hi (Nat.not_lt_zero i)⟩
theorem known_any (w : World) (hg : HE w) (hvb : HVB w) (hv : HP w) (hw : HWd w) : Calls Tryz.prog 6 #[] w fun x w' => x = .returned (.bool true) ∧ Tch (fun _ => False) w w' := by
  obtain ⟨w0, hw0⟩ : ∃ w0, w0 = (w.alloc (.cells #[.int .i64 1, .int .i64 7, .string ⟨#[]⟩, .int .i64 2, .int .i64 0, .string ⟨#[97]⟩] 58)).alloc (.cells #[.int .i64 3, .int .i64 1, .int .i64 0, .int .i64 2, .slice none 0 0, .slice (some ⟨w.heap.size, 0, none⟩) 2 2, .string ⟨#[]⟩, .int .i64 0, .int .i64 0, .int .i64 0, .string ⟨#[]⟩, .slice none 0 0, .int .i64 0, .slice none 0 0] 37) := ⟨_, rfl⟩
  have t0 : Tch (fun _ => False) w w0 := by rw [hw0]; exact (Tch.alloc _ _ _).allocR _
  have bA : w0.heap[w.heap.size]? = some (.cells (vcl kRow).toArray 58 (0, 0)) := by
    rw [hw0]; exact ((Tch.alloc (fun _ => False) _ _).block _ (by simp) (fun h => h)).trans (heap_new w _)
  have bB : w0.heap[w.heap.size + 1]? = some (.cells #[.int .i64 3, .int .i64 1, .int .i64 0, .int .i64 2, .slice none 0 0, .slice (some ⟨w.heap.size, 0, none⟩) 2 2, .string ⟨#[]⟩, .int .i64 0, .int .i64 0, .int .i64 0, .string ⟨#[]⟩, .slice none 0 0, .int .i64 0, .slice none 0 0] 37 (0, 0)) := by
    rw [hw0, ← World.size_alloc]; exact heap_new _ _
  have HK : Hid (∀ W, Tch (fun _ => False) w0 W → W.heap[w.heap.size + 1]? = some (.cells #[.int .i64 3, .int .i64 1, .int .i64 0, .int .i64 2, .slice none 0 0, .slice (some ⟨w.heap.size, 0, none⟩) 2 2, .string ⟨#[]⟩, .int .i64 0, .int .i64 0, .int .i64 0, .string ⟨#[]⟩, .slice none 0 0, .int .i64 0, .slice none 0 0] 37 (0, 0))) := fun W t => (t.block _ (blk_lt bB) (fun h => h)).trans bB
  have HR : Hid (∀ W, Tch (fun _ => False) w0 W → RW W (fun _ => False) kR (kS w.heap.size) ∧ HE W) := fun W t => ⟨kR_rw ((t.block _ (blk_lt bA) (fun h => h)).trans bA), (hg.tch t0 (fun h => h)).tch t (fun h => h)⟩
  have q1 := encode_ok kR (kS w.heap.size) (fun _ => False) w0 (HR.out w0 (Tch.refl _ _)).2 (HR.out w0 (Tch.refl _ _)).1 kR_right kR_cut
  rw [kR_bytes] at q1
  have q1 : Calls Tryz.prog 13 #[rA 3 1 0 2 (.slice none 0 0) (.slice (some ⟨w.heap.size, 0, none⟩) 2 2) ⟨#[]⟩ 0 0 0 ⟨#[]⟩ (.slice none 0 0) 0 (.slice none 0 0)] w0 fun x w' => x = .returned (.tuple #[.string ⟨#[3, 1, 2, 6, 2, 1, 14, 2, 1, 97]⟩, .int .i64 0]) ∧ Tch (fun _ => False) w0 w' := q1
  have HD : Hid (∀ W, Tch (fun _ => False) w0 W → Calls Tryz.prog 14 #[.string ⟨#[3, 1, 2, 6, 2, 1, 14, 2, 1, 97]⟩] W fun x w' => ∃ a4 c4 a b a11 c11 a13 n13 c13, x = .returned (.tuple #[rA 3 1 0 2 (.slice a4 0 c4) (.slice a 2 b) ⟨#[]⟩ 0 0 0 ⟨#[]⟩ (.slice a11 0 c11) 0 (.slice a13 n13 c13), .int .i64 0]) ∧ Tch (fun _ => False) W w') := fun W t => by
    have q := decode_3 kR kB W kR_bytes.symm (by decide) (HR.out W t).2 rfl kR_right kR_cut (fun v hv => by simp [kR, rc0] at hv) kRow_i64
    refine q.mono ?_
    rintro x w' ⟨s, rfl, -, tw⟩
    exact ⟨s.oo, s.oc, s.no, s.nc, s.co, s.cc, s.to, s.P.length, s.tc, rfl, tw⟩
  have HPR : Hid (∀ W, Tch (fun _ => False) w0 W → Calls Tryz.prog 19 #[rA 3 1 0 2 (.slice none 0 0) (.slice (some ⟨w.heap.size, 0, none⟩) 2 2) ⟨#[]⟩ 0 0 0 ⟨#[]⟩ (.slice none 0 0) 0 (.slice none 0 0)] W fun x w' => x = .returned (.string ⟨#[105, 110, 115, 101, 114, 116, 32, 49, 32, 116, 97, 98, 108, 101, 32, 50, 32, 40, 55, 44, 32, 39, 97, 39, 41]⟩) ∧ Tch (fun _ => False) W w') := fun W t => by
    have q := print_3 kR (kS w.heap.size) (fun _ => False) W kF (HR.out W t).2 (hvb.no (t0.trans' t)) (hv.no (t0.trans' t)) (HR.out W t).1 rfl kR_right kR_cut (k_prints W (hw.tch (t0.trans' t) (fun h => h)) (hv.no (t0.trans' t))) (by decide) kR_join kR_joinS
    rw [kR_print] at q
    exact q
  rw [hw0] at q1
  have HT0 : Hid (Tch (fun _ => False) w w0) := t0
  have HW0 : Hid (w0 = _) := hw0
  clear hg hvb hv hw bA bB t0 hw0 HR
  go_enter Tryz.func6, Tryz.ntmps6
  go_wp2_with fail
  refine q1.mono ?_
  rintro x w1 ⟨rfl, t1⟩
  rw [← HW0.out] at t1
  clear q1
  go_wp2_with fail
  refine (HD.out w1 t1).mono ?_
  rintro x w2 ⟨a4, c4, a, b, a11, c11, a13, n13, c13, rfl, t2⟩
  have T2 := t1.trans' t2
  have b2 := HK.out w2 T2
  obtain ⟨w3, hw3⟩ : ∃ w3, w3 = w2.alloc (.cells #[.int .i64 3, .int .i64 1, .int .i64 0, .int .i64 2, .slice a4 0 c4, .slice a 2 b, .string ⟨#[]⟩, .int .i64 0, .int .i64 0, .int .i64 0, .string ⟨#[]⟩, .slice a11 0 c11, .int .i64 0, .slice a13 n13 c13] 37) := ⟨_, rfl⟩
  have T3 : Tch (fun _ => False) w0 w3 := by rw [hw3]; exact T2.allocR _
  have q4 := HPR.out w3 T3
  have b3 := HK.out w3 T3
  have hlt := blk_lt b2
  have HT3 : Hid (Tch (fun _ => False) w w3) := HT0.out.trans' T3
  rw [hw3] at q4 b3
  have HW3 : Hid (w3 = _) := hw3
  have y0 : (w2.alloc (.cells #[.int .i64 3, .int .i64 1, .int .i64 0, .int .i64 2, .slice a4 0 c4, .slice a 2 b, .string ⟨#[]⟩, .int .i64 0, .int .i64 0, .int .i64 0, .string ⟨#[]⟩, .slice a11 0 c11, .int .i64 0, .slice a13 n13 c13] 37)).cell? ⟨w.heap.size + 1, 0, none⟩ = some (.int .i64 3) := blk_cell b3 0
  have y1 : (w2.alloc (.cells #[.int .i64 3, .int .i64 1, .int .i64 0, .int .i64 2, .slice a4 0 c4, .slice a 2 b, .string ⟨#[]⟩, .int .i64 0, .int .i64 0, .int .i64 0, .string ⟨#[]⟩, .slice a11 0 c11, .int .i64 0, .slice a13 n13 c13] 37)).cell? ⟨w.heap.size + 1, 1, none⟩ = some (.int .i64 1) := blk_cell b3 1
  have y2 : (w2.alloc (.cells #[.int .i64 3, .int .i64 1, .int .i64 0, .int .i64 2, .slice a4 0 c4, .slice a 2 b, .string ⟨#[]⟩, .int .i64 0, .int .i64 0, .int .i64 0, .string ⟨#[]⟩, .slice a11 0 c11, .int .i64 0, .slice a13 n13 c13] 37)).cell? ⟨w.heap.size + 1, 2, none⟩ = some (.int .i64 0) := blk_cell b3 2
  have y3 : (w2.alloc (.cells #[.int .i64 3, .int .i64 1, .int .i64 0, .int .i64 2, .slice a4 0 c4, .slice a 2 b, .string ⟨#[]⟩, .int .i64 0, .int .i64 0, .int .i64 0, .string ⟨#[]⟩, .slice a11 0 c11, .int .i64 0, .slice a13 n13 c13] 37)).cell? ⟨w.heap.size + 1, 3, none⟩ = some (.int .i64 2) := blk_cell b3 3
  have y4 : (w2.alloc (.cells #[.int .i64 3, .int .i64 1, .int .i64 0, .int .i64 2, .slice a4 0 c4, .slice a 2 b, .string ⟨#[]⟩, .int .i64 0, .int .i64 0, .int .i64 0, .string ⟨#[]⟩, .slice a11 0 c11, .int .i64 0, .slice a13 n13 c13] 37)).cell? ⟨w.heap.size + 1, 4, none⟩ = some (.slice none 0 0) := blk_cell b3 4
  have y5 : (w2.alloc (.cells #[.int .i64 3, .int .i64 1, .int .i64 0, .int .i64 2, .slice a4 0 c4, .slice a 2 b, .string ⟨#[]⟩, .int .i64 0, .int .i64 0, .int .i64 0, .string ⟨#[]⟩, .slice a11 0 c11, .int .i64 0, .slice a13 n13 c13] 37)).cell? ⟨w.heap.size + 1, 5, none⟩ = some (.slice (some ⟨w.heap.size, 0, none⟩) 2 2) := blk_cell b3 5
  have y6 : (w2.alloc (.cells #[.int .i64 3, .int .i64 1, .int .i64 0, .int .i64 2, .slice a4 0 c4, .slice a 2 b, .string ⟨#[]⟩, .int .i64 0, .int .i64 0, .int .i64 0, .string ⟨#[]⟩, .slice a11 0 c11, .int .i64 0, .slice a13 n13 c13] 37)).cell? ⟨w.heap.size + 1, 6, none⟩ = some (.string ⟨#[]⟩) := blk_cell b3 6
  have y7 : (w2.alloc (.cells #[.int .i64 3, .int .i64 1, .int .i64 0, .int .i64 2, .slice a4 0 c4, .slice a 2 b, .string ⟨#[]⟩, .int .i64 0, .int .i64 0, .int .i64 0, .string ⟨#[]⟩, .slice a11 0 c11, .int .i64 0, .slice a13 n13 c13] 37)).cell? ⟨w.heap.size + 1, 7, none⟩ = some (.int .i64 0) := blk_cell b3 7
  have y8 : (w2.alloc (.cells #[.int .i64 3, .int .i64 1, .int .i64 0, .int .i64 2, .slice a4 0 c4, .slice a 2 b, .string ⟨#[]⟩, .int .i64 0, .int .i64 0, .int .i64 0, .string ⟨#[]⟩, .slice a11 0 c11, .int .i64 0, .slice a13 n13 c13] 37)).cell? ⟨w.heap.size + 1, 8, none⟩ = some (.int .i64 0) := blk_cell b3 8
  have y9 : (w2.alloc (.cells #[.int .i64 3, .int .i64 1, .int .i64 0, .int .i64 2, .slice a4 0 c4, .slice a 2 b, .string ⟨#[]⟩, .int .i64 0, .int .i64 0, .int .i64 0, .string ⟨#[]⟩, .slice a11 0 c11, .int .i64 0, .slice a13 n13 c13] 37)).cell? ⟨w.heap.size + 1, 9, none⟩ = some (.int .i64 0) := blk_cell b3 9
  have y10 : (w2.alloc (.cells #[.int .i64 3, .int .i64 1, .int .i64 0, .int .i64 2, .slice a4 0 c4, .slice a 2 b, .string ⟨#[]⟩, .int .i64 0, .int .i64 0, .int .i64 0, .string ⟨#[]⟩, .slice a11 0 c11, .int .i64 0, .slice a13 n13 c13] 37)).cell? ⟨w.heap.size + 1, 10, none⟩ = some (.string ⟨#[]⟩) := blk_cell b3 10
  have y11 : (w2.alloc (.cells #[.int .i64 3, .int .i64 1, .int .i64 0, .int .i64 2, .slice a4 0 c4, .slice a 2 b, .string ⟨#[]⟩, .int .i64 0, .int .i64 0, .int .i64 0, .string ⟨#[]⟩, .slice a11 0 c11, .int .i64 0, .slice a13 n13 c13] 37)).cell? ⟨w.heap.size + 1, 11, none⟩ = some (.slice none 0 0) := blk_cell b3 11
  have y12 : (w2.alloc (.cells #[.int .i64 3, .int .i64 1, .int .i64 0, .int .i64 2, .slice a4 0 c4, .slice a 2 b, .string ⟨#[]⟩, .int .i64 0, .int .i64 0, .int .i64 0, .string ⟨#[]⟩, .slice a11 0 c11, .int .i64 0, .slice a13 n13 c13] 37)).cell? ⟨w.heap.size + 1, 12, none⟩ = some (.int .i64 0) := blk_cell b3 12
  have y13 : (w2.alloc (.cells #[.int .i64 3, .int .i64 1, .int .i64 0, .int .i64 2, .slice a4 0 c4, .slice a 2 b, .string ⟨#[]⟩, .int .i64 0, .int .i64 0, .int .i64 0, .string ⟨#[]⟩, .slice a11 0 c11, .int .i64 0, .slice a13 n13 c13] 37)).cell? ⟨w.heap.size + 1, 13, none⟩ = some (.slice none 0 0) := blk_cell b3 13
  clear hw3 T2 T3 t1 t2 b2 b3 HPR HD HK
  go_wp2_with fail
  refine q4.mono ?_
  rintro x w4 ⟨rfl, t4⟩
  rw [← HW3.out] at t4
  go_wp2_with fail
  go_ret
  exact ⟨rfl, HT3.out.trans' t4⟩
end Go.Proofs.YtjiblajnfnmjnaaGreatDoor.C
namespace Go.Proofs.YtjiblajnfnmjnaaGreatDoor.C
open Go.ChangeShapes Go.WideShapes Go.RowKit Go.Deep
set_option maxRecDepth 100000
theorem tr_gP : Tryz.prog.globalNamed "internal/strconv.uint64pow10" = some 4 := by kernel_rfl
theorem tr_vb : Tryz.prog.globalNamed "confluence/record.verbs" = some 0 := by kernel_rfl
theorem tr_vbt : (Tryz.prog.globals[0]?).map (·.type) = some 93 := by kernel_rfl
abbrev laid6 : List (String × DataW Unit) := [("math/bits.deBruijn32tab", Rows.laid_math_bits_deBruijn32tab), ("math/bits.deBruijn64tab", Rows.laid_math_bits_deBruijn64tab), ("internal/strconv.uint64pow10", Rows.laid_internal_strconv_uint64pow10), ("errors.errorType", Rows.laid_errors_errorType), ("confluence/value.words", Rows.laid_confluence_value_words), ("confluence/record.verbs", Rows.laid_confluence_record_verbs)]
theorem cells_of_texts {H : Type} {enc : TypeId × Value → H} {P : Program} {w : World} {base : Nat} {sp : Nat → Bool} {held : Bool} {fuel : Nat} {t e : TypeId} {n : Nat} {cs : List Value} {zs : List (List UInt8)} {p : List MemPlace}
    (ht : P.underlying t = some (.array n e)) (he : P.underlying e = some .string) (hce : P.cellsOf e = 1) (hct : P.cellsOf t = n)
    (h : DataW.trod enc P w base sp held fuel t cs = some (.agg (zs.map fun z => .lit (.string z)), p)) : cs = zs.map fun z => Value.string ⟨z.toArray⟩ := by
  obtain ⟨xs, m, _, hx, hcl, hxl, hel⟩ := DataW.trod_array ht h
  rw [hct] at hcl
  rw [hce] at hel
  simp only [Prod.mk.injEq, DataW.agg.injEq] at hx
  have hzl : zs.length = n := by
    have := congrArg List.length hx.1
    simp at this
    omega
  refine List.ext_getElem (by simp; omega) fun i h1 h2 => ?_
  have hi : i < n := by omega
  have hk := hel i hi
  have hxi : i < xs.length := by omega
  rw [List.getElem?_eq_getElem hxi, Nat.mul_one] at hk
  have hd : (cs.drop i).take 1 = [cs[i]] := by
    rw [List.drop_eq_getElem_cons (by omega)]; rfl
  rw [hd] at hk
  obtain ⟨s, e1, e2, _⟩ := DataW.trod_string he hk
  have e3 : cs[i] = .string s := by simpa using e1
  have e4 : (zs.map fun z => (DataW.lit (.string z) : DataW H))[i]? = (xs.map (·.1))[i]? := by rw [hx.1]
  simp only [List.getElem?_map, List.getElem?_eq_getElem hxi, List.getElem?_eq_getElem (show i < zs.length by omega), Option.map_some, Option.some.injEq] at e4
  rw [e2] at e4
  have e5 : zs[i] = s.data.toList := by simpa using e4
  rw [e3, List.getElem_map, e5]
theorem vb_of {W : World} (h : laidMet Tryz.prog [("confluence/record.verbs", Rows.laid_confluence_record_verbs)] W) : HVB W := by
  obtain ⟨ps, ⟨g, t, cs, f, p, q, hg, ht, hv, hd, _⟩, _⟩ := h
  obtain rfl := Option.some.inj (tr_vb.symm.trans hg)
  obtain rfl := Option.some.inj (tr_vbt.symm.trans ht)
  have hcs := cells_of_texts (zs := [[], [98, 101, 103, 105, 110], [112, 97, 114, 116], [105, 110, 115, 101, 114, 116], [117, 112, 100, 97, 116, 101], [100, 101, 108, 101, 116, 101], [114, 101, 108, 101, 97, 115, 101], [98, 97, 99, 107], [99, 111, 109, 109, 105, 116], [97, 98, 111, 114, 116], [112, 114, 101, 112, 97, 114, 101], [99, 114, 101, 97, 116, 101], [100, 114, 111, 112], [119, 105, 100, 101, 110], [101, 109, 112, 116, 121], [99, 104, 101, 99, 107, 112, 111, 105, 110, 116]]) Tryz.underlying93 Tryz.underlying9 c_str (by kernel_rfl) hd
  intro j u hu
  rw [World.var?_cell tr_vb hv j, ← Array.getElem?_toList, hcs]
  exact hu
theorem wd_of {W : World} (h : laidMet Tryz.prog [("confluence/value.words", Rows.laid_confluence_value_words), ("confluence/record.verbs", Rows.laid_confluence_record_verbs)] W) : HWd W := by
  obtain ⟨ps, ⟨g, t, cs, f, p, q, hg, ht, hv, hd, _⟩, _⟩ := h
  obtain rfl := Option.some.inj (tr_ws.symm.trans hg)
  obtain rfl := Option.some.inj (tr_wt.symm.trans ht)
  obtain ⟨xs, m1, rfl, hx1, hlen, hn3, hel⟩ := DataW.trod_array Tryz.underlying224 hd
  obtain ⟨x0, x1, x2, rfl⟩ := list3 xs hn3
  simp only [Prod.mk.injEq] at hx1
  have k0 := hel 0 (by decide)
  have k1 := hel 1 (by decide)
  have k2 := hel 2 (by decide)
  simp only [c_word] at k0 k1 k2
  obtain ⟨t0, a0, b0, s0, e0, y0⟩ := word_of (show _ = some x0 from k0)
  obtain ⟨t1, a1, b1, s1, e1, y1⟩ := word_of (show _ = some x1 from k1)
  obtain ⟨t2, a2, b2, s2, e2, y2⟩ := word_of (show _ = some x2 from k2)
  have hx2 := hx1.1
  unfold Rows.laid_confluence_value_words at hx2
  simp only [List.map_cons, List.map_nil, y0, y1, y2, DataW.agg.injEq, List.cons.injEq, DataW.lit.injEq, Lit.string.injEq, Lit.int.injEq, true_and, and_true] at hx2
  obtain ⟨⟨q0, rfl, rfl, r0⟩, ⟨q1, rfl, rfl, r1⟩, q2, rfl, rfl, r2⟩ := hx2
  rw [bytes_of q0.symm, bytes_of r0.symm] at e0
  rw [bytes_of q1.symm, bytes_of r1.symm] at e1
  rw [bytes_of q2.symm, bytes_of r2.symm] at e2
  have hl : cs.toList.length = 12 := hlen
  have hcs : cs.toList = wordCells := by
    have h1 : cs.toList = cs.toList.take 4 ++ ((cs.toList.drop 4).take 4 ++ (cs.toList.drop 8).take 4) := by
      rw [List.take_of_length_le (l := cs.toList.drop 8) (by simp at hl ⊢; omega)]
      have h2 : cs.toList.drop 8 = (cs.toList.drop 4).drop 4 := by rw [List.drop_drop]
      rw [h2, List.take_append_drop, List.take_append_drop]
    rw [h1, show cs.toList.take 4 = _ from e0, show (cs.toList.drop 4).take 4 = _ from e1, show (cs.toList.drop 8).take 4 = _ from e2]
    rfl
  intro j u hu
  rw [World.var?_cell tr_ws hv j, ← Array.getElem?_toList, hcs]
  exact hu
theorem of_laid6 {W : World} (h : laidMetH Tryz.prog laid6 W) : HE W ∧ HVB W ∧ HP W ∧ HWd W := by
  have h' : laidMet Tryz.prog [("math/bits.deBruijn32tab", Rows.laid_math_bits_deBruijn32tab), ("math/bits.deBruijn64tab", Rows.laid_math_bits_deBruijn64tab), ("internal/strconv.uint64pow10", Rows.laid_internal_strconv_uint64pow10), ("confluence/value.words", Rows.laid_confluence_value_words), ("confluence/record.verbs", Rows.laid_confluence_record_verbs)] W ∧ handlesMet Tryz.prog [("errors.errorType", Rows.laid_errors_errorType)] W := h
  refine ⟨?_, vb_of (laidMet.tail (laidMet.tail (laidMet.tail (laidMet.tail h'.1)))), ?_, wd_of (laidMet.tail (laidMet.tail (laidMet.tail h'.1)))⟩
  · obtain ⟨name, u, ty, e1, e2, e3, e4, e5⟩ := h'.2 _ (List.mem_singleton.2 rfl)
    have en : name = [101, 114, 114, 111, 114] := (Option.some.inj e1).symm
    subst en
    obtain rfl := Option.some.inj (tr_rt.symm.trans e2)
    have hm : ty ∈ (List.range 281).filter fun t => Tryz.prog.rowNamed t [101, 114, 114, 111, 114] := List.mem_filter.2 ⟨List.mem_range.2 (by rw [← tr_size]; exact e3), e4⟩
    rw [tr_oneRow] at hm
    obtain rfl := List.mem_singleton.1 hm
    have hh : typeHandle Tryz.prog 117 = .pointer (some ⟨7, 117, none⟩) := by kernel_rfl
    rw [hh] at e5
    have := World.var?_cell tr_et e5 0
    unfold HE
    simpa using this
  · have h3 : laidMet Tryz.prog (("internal/strconv.uint64pow10", Lib.tabData .u64 Lib.pow10Tab) :: [("confluence/value.words", Rows.laid_confluence_value_words), ("confluence/record.verbs", Rows.laid_confluence_record_verbs)]) W := laidMet.tail (laidMet.tail h'.1)
    exact Lib.tabIs_of_head tr_gP (by kernel_rfl) Tryz.underlying232 Tryz.underlying172 (by kernel_rfl) (by kernel_rfl) h3
theorem door_met6 (os : Os) (args : Array Value) : laidMetH Tryz.prog laid6 ((World.doorLaid Tryz.prog 400 os).forCall (fun _ _ => 0) ⟨#[], args, []⟩).memory :=
  laidMetH_of_parts3 (fuel := 8) (laidMet_of_run' 8 (by kernel_rfl) (by kernel_rfl)) (by kernel_rfl) (by kernel_rfl)
theorem sl_row {W : World} {ao : Option Addr} {vs : List Val} (h : RowOf W ao vs) : SL W ao (vcl vs) := fun hv => by
  have hne : vs ≠ [] := by rintro rfl; exact hv rfl
  obtain ⟨g, o, e, ha⟩ := h hne
  refine ⟨g, o, e, fun j u hu' => ?_⟩
  have hj : j < vs.length * 3 := by rw [← vcl_len]; exact (List.getElem?_eq_some_iff.1 hu').1
  obtain ⟨q, r, rfl, hr⟩ : ∃ q r, j = q * 3 + r ∧ r < 3 := ⟨j / 3, j % 3, by omega, by omega⟩
  have hq : q < vs.length := by omega
  obtain ⟨h0', h1', h2'⟩ := ha q hq
  obtain ⟨g0, g1, g2⟩ := f3_get (fun v : Val => Value.int .i64 v.k) (fun v => .int .i64 v.n) (fun v => .string v.s) vs q hq
  unfold vcl at hu'
  rcases (by omega : r = 0 ∨ r = 1 ∨ r = 2) with rfl | rfl | rfl
  · rw [Nat.add_zero] at hu' ⊢; rw [g0] at hu'; rw [h0', hu']
  · rw [g1] at hu'; rw [← Nat.add_assoc, h1', hu']
  · rw [g2] at hu'; rw [← Nat.add_assoc, h2', hu']
section
variable {H : Type} {enc : TypeId × Value → H} {P : Program} {w : World} {base : Nat} {spare : Nat → Bool} {held : Bool}
end
end Go.Proofs.YtjiblajnfnmjnaaGreatDoor.C
