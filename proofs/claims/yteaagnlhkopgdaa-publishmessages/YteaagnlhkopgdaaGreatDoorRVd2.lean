import Derived.Test.YteaagnlhkopgdaaGreatDoorRV9
import Derived.Test.YteaagnlhkopgdaaGreatDoorRV4
import Derived.Test.YteaagnlhkopgdaaGreatDoorCCat
set_option maxHeartbeats 8000000
set_option maxRecDepth 100000
namespace Go.Proofs.YteaagnlhkopgdaaGreatDoor.C
open Go.RowKit Go Go.Sort
theorem own_lenB {W : World} {base sz n : Nat} {t : TypeId} {v : Value} {xs : List Value} (h : W.ownsRow base t sz v n xs) : n ≤ 9223372036854775807 := by
  rcases h.2 with ⟨_, h1⟩ | ⟨g, cap, cur, _, _, _, h1, h2, _⟩
  · omega
  · have : maxLen = 9223372036854775807 := rfl
    omega
theorem own_ck9 {W : World} {base : Nat} {p : Tbl × Value} (h : W.ownsRow base 54 3 p.2 p.1.cols.length (ccl p.1.cols)) : ∃ co cc, CK W (fun i => i < base) p co cc := by
  obtain ⟨ao, c, e⟩ := row_slice h
  rw [e] at h
  refine ⟨ao, c, e, own_sl h, fun hn => ?_, ?_, fun hne g o ea => ?_⟩
  · rcases h.2 with ⟨h1, h2⟩ | ⟨g, cap, cur, hv, _⟩
    · injection h1 with _ _ h3
      exact ⟨List.length_eq_zero_iff.1 h2, h3⟩
    · rw [hn] at hv; cases hv
  · rcases h.2 with ⟨h1, h2⟩ | ⟨g, cap, cur, hv, _, _, h1, _⟩
    · omega
    · injection hv with _ _ h3
      omega
  · have hb : (Value.slice ao p.1.cols.length c).ownBlock = some g := by rw [ea]; rfl
    have h1 := row_ge h hb
    have h2 := (h.lt g hb).2
    exact ⟨by omega, h2⟩
theorem RN.rw {W : World} {base : Nat} {r : Rc} {s : Sk} (h : RN W base r s) (ho : ∀ v ∈ r.o, v.i64) (hn : ∀ v ∈ r.n, v.i64) : RW W (fun i => i < base) r s := by
  obtain ⟨co, cc, hck⟩ := own_ck9 (p := (r.tb, .slice s.co r.tb.cols.length s.cc)) h.tb
  have e := hck.eq
  simp only [Value.slice.injEq] at e
  obtain ⟨e1, _, e2⟩ := e
  subst e1 e2
  refine ⟨own_sl h.o, own_sl h.n, hck, fun _ g o e => ?_, fun _ g o e => ?_, ho, hn, own_lenB h.o, own_lenB h.n, own_lenB h.tb⟩
  · have := row_ge h.o (k := g) (by rw [e]; rfl); omega
  · have := row_ge h.n (k := g) (by rw [e]; rfl); omega
theorem RN.cut {W : World} {base : Nat} {r : Rc} {s : Sk} (h : RN W base r s) (c : Nat) : RN W base (cutC c r) (cutS c s) := by
  have hc : c = 2 ∨ c = 3 ∨ c = 4 ∨ c = 5 ∨ c = 1 ∨ c = 6 ∨ c = 7 ∨ c = 8 ∨ c = 0 ∨ 8 < c := by omega
  have nv : W.ownsRow base 52 3 (.slice none 0 0) 0 (vcl []) := World.ownsRow_nil _ _ _ _
  have nc : W.ownsRow base 54 3 (.slice none 0 0) 0 (ccl []) := World.ownsRow_nil _ _ _ _
  have q0 : ∀ k, RN W base (rc0 k) sk0 := fun k => ⟨nv, nv, nc, fun g e => by cases e⟩
  rcases hc with rfl | rfl | rfl | rfl | rfl | rfl | rfl | rfl | rfl | hc
  · exact ⟨nv, nv, h.tb, fun g e => by cases e⟩
  · exact ⟨nv, h.n, nc, fun g e => by cases e⟩
  · exact ⟨h.o, h.n, nc, h.on⟩
  · exact ⟨h.o, nv, nc, fun g _ e => by cases e⟩
  · exact ⟨nv, nv, nc, fun g e => by cases e⟩
  · exact ⟨nv, nv, nc, fun g e => by cases e⟩
  · exact ⟨nv, nv, nc, fun g e => by cases e⟩
  · exact ⟨nv, nv, nc, fun g e => by cases e⟩
  · exact q0 r.k
  · have e1 : cutC c r = rc0 r.k := by unfold cutC; split <;> first | omega | rfl
    have e2 : cutS c s = sk0 := by unfold cutS; split <;> first | omega | rfl
    rw [e1, e2]; exact q0 r.k
theorem RN.tch {S : Nat → Prop} {W W' : World} {base : Nat} {r : Rc} {s : Sk} (h : RN W base r s) (t : Tch S W W') (hS : ∀ i, base ≤ i → i < W.heap.size → ¬ S i) : RN W' base r s :=
  ⟨own_tch h.o t (fun g e => hS g (h.o.lt g e).1 (h.o.lt g e).2), own_tch h.n t (fun g e => hS g (h.n.lt g e).1 (h.n.lt g e).2), own_tch h.tb t (fun g e => hS g (h.tb.lt g e).1 (h.tb.lt g e).2), h.on⟩
theorem RN.low {W : World} {base base' : Nat} {r : Rc} {s : Sk} (h : RN W base r s) (hb : base' ≤ base) : RN W base' r s :=
  ⟨own_low h.o hb, own_low h.n hb, own_low h.tb hb, h.on⟩
theorem recL_byte {r : Rc} (h : 1 ≤ r.k ∧ r.k ≤ 9) : byteR ⟨(recL r).toArray⟩ 0 0 = (r.k.toNat, 1, 0) := by
  have h0 := here_zero (recL r)
  have := thr_byte (b := UInt8.ofNat r.k.toNat) (r := bodyL (cls r.k) r) h0
  rw [this]
  have e : (UInt8.ofNat r.k.toNat).toNat = r.k.toNat := by rw [UInt8.toNat_ofNat']; omega
  rw [e]
theorem recL_take {r : Rc} (hr : rightC (cls r.k) r) (hc : cutC (cls r.k) r = r) (ho : ∀ v ∈ r.o, v.i64) (hn : ∀ v ∈ r.n, v.i64) : (tkC ⟨(recL r).toArray⟩ r.k (cls r.k) (1, 0)).1 = r :=
  thr_rec (Here.one (b := UInt8.ofNat r.k.toNat) (here_zero (recL r))) hr hc ho hn
theorem rdV_i64 (S : ByteArray) (a : Nat) (e : Int) : (rdV S a e).1.1.i64 := by
  have hb := byteR_lt S a e
  unfold rdV Val.i64
  split
  · exact ⟨by simp, by simp⟩
  · split
    · refine ⟨by simp, ?_⟩
      have h := (numR_lt (last := 10) (top := 1) (by omega) (by omega) (by omega) (by omega) S (byteR S a e).2.1 (byteR S a e).2.2).1
      show _ ≤ unf _ ∧ unf _ ≤ _
      unfold unf
      split <;> omega
    · split
      · exact ⟨by simp, by simp⟩
      · split
        · refine ⟨by simp, ?_⟩
          show _ ≤ ((byteR S a e).1 : Int) - 3 ∧ ((byteR S a e).1 : Int) - 3 ≤ _
          omega
        · exact ⟨by simp, by simp⟩
theorem decGo_i64 (S : ByteArray) : ∀ (n a : Nat) (e : Int) (l vs : List Val), (∀ v ∈ l, v.i64) → decGo S n a e l = some vs → ∀ v ∈ vs, v.i64
  | 0, a, e, l, vs, hl, h => by
    unfold decGo at h
    split at h
    · injection h with h; rw [← h]; exact hl
    · cases h
  | n + 1, a, e, l, vs, hl, h => by
    unfold decGo at h
    split at h
    · refine decGo_i64 S n _ _ _ vs (fun v hv => ?_) h
      rcases List.mem_append.1 hv with hv | hv
      · exact hl v hv
      · rw [List.mem_singleton.1 hv]; exact rdV_i64 S a e
    · cases h
theorem tkRow_i64 (S : ByteArray) (p : Nat × Int) : ∀ v ∈ (tkRow S p).1, v.i64 := fun v hv => by
  unfold tkRow at hv
  have hv : v ∈ (decR (textR 1700 S p.1 p.2).1).getD [] := hv
  cases h : decR (textR 1700 S p.1 p.2).1 with
  | none => rw [h] at hv; cases hv
  | some vs =>
    rw [h] at hv
    unfold decR at h
    split at h
    · cases h
    · exact decGo_i64 _ _ _ _ _ vs (fun v hv => by cases hv) h v hv
theorem tkC_k (S : ByteArray) (k : Int) (c : Nat) (p : Nat × Int) : (tkC S k c p).1.k = k := by
  unfold tkC
  split <;> rfl
theorem tkC_cut (S : ByteArray) (k : Int) (c : Nat) (p : Nat × Int) : cutC c (tkC S k c p).1 = (tkC S k c p).1 := by
  unfold tkC
  split <;> first | rfl | (unfold cutC; split <;> first | rfl | omega)
theorem tkC_o (S : ByteArray) (k : Int) (c : Nat) (p : Nat × Int) : ∀ v ∈ (tkC S k c p).1.o, v.i64 := fun v hv => by
  unfold tkC at hv
  split at hv <;> first | exact (by cases hv) | exact tkRow_i64 _ _ v hv
theorem tkC_n (S : ByteArray) (k : Int) (c : Nat) (p : Nat × Int) : ∀ v ∈ (tkC S k c p).1.n, v.i64 := fun v hv => by
  unfold tkC at hv
  split at hv <;> first | exact (by cases hv) | exact tkRow_i64 _ _ v hv
structure Says (S : ByteArray) (r : Rc) : Prop where
  rr : RR r
  eq : S = ⟨(recL r).toArray⟩
  o : ∀ v ∈ r.o, v.i64
  n : ∀ v ∈ r.n, v.i64
theorem Says.kr {S : ByteArray} {r : Rc} (h : Says S r) : 1 ≤ r.k ∧ r.k ≤ 9 := by
  rcases cls_rng r.k with h0 | ⟨h1, h2, _⟩
  · have := h.rr.1
    rw [h0] at this
    exact this.elim
  · exact ⟨h1, h2⟩
theorem Says.tk {S : ByteArray} {r : Rc} (h : Says S r) : byteR S 0 0 = (r.k.toNat, 1, 0) ∧ (tkC S r.k (cls r.k) (1, 0)).1 = r := by
  rw [h.eq]
  exact ⟨recL_byte h.kr, recL_take h.rr.1 h.rr.2.symm h.o h.n⟩
theorem Says.uniq {S : ByteArray} {r r' : Rc} (h : Says S r) (h' : Says S r') : r = r' := by
  obtain ⟨b1, t1⟩ := h.tk
  obtain ⟨b2, t2⟩ := h'.tk
  rw [b1] at b2
  have e : r.k.toNat = r'.k.toNat := congrArg Prod.fst b2
  have ek : r.k = r'.k := by have := h.kr; have := h'.kr; omega
  rw [← ek] at t2
  rw [← t1, ← t2]
theorem enc_says {S : ByteArray} {r : Rc} (h1 : encI r = 0) (h2 : encS r = S) (ho : ∀ v ∈ r.o, v.i64) (hn : ∀ v ∈ r.n, v.i64) : Says S r := by
  unfold encI at h1
  unfold encS at h2
  by_cases hr : RR r
  · rw [if_pos hr] at h2
    exact ⟨hr, h2.symm, ho, hn⟩
  · rw [if_neg hr] at h1
    omega
theorem says_enc {S : ByteArray} {r : Rc} (h : Says S r) : encI r = 0 ∧ encS r = S := by
  unfold encI encS
  rw [if_pos h.rr, if_pos h.rr]
  exact ⟨rfl, h.eq.symm⟩
def DxOut (S : ByteArray) (w : World) (x : Ending) (w' : World) : Prop := (∃ r s, Says S r ∧ x = .returned (.tuple #[rV r s, .int .i64 0]) ∧ RN w' w.heap.size r s ∧ Tch (fun _ => False) w w') ∨ ((∀ r, ¬ Says S r) ∧ x = .returned (.tuple #[rV (rc0 0) sk0, .int .i64 181]) ∧ Tch (fun _ => False) w w')
theorem no_says {S : ByteArray} (h : cls ((byteR S 0 0).1 : Int) = 0) : ∀ r, ¬ Says S r := fun r hr => by
  obtain ⟨b1, _⟩ := hr.tk
  rw [b1] at h
  have hk := hr.kr
  have e : ((r.k.toNat : Nat) : Int) = r.k := by omega
  rw [e] at h
  have := hr.rr.1
  rw [h] at this
  exact this
theorem no_says2 {S : ByteArray} (h : ¬ (encI (tkC S ((byteR S 0 0).1 : Int) (cls ((byteR S 0 0).1 : Int)) (byteR S 0 0).2).1 = 0 ∧ encS (tkC S ((byteR S 0 0).1 : Int) (cls ((byteR S 0 0).1 : Int)) (byteR S 0 0).2).1 = S)) : ∀ r, ¬ Says S r := fun r hr => by
  obtain ⟨b1, t1⟩ := hr.tk
  have hk := hr.kr
  have e : ((r.k.toNat : Nat) : Int) = r.k := by omega
  rw [b1] at h
  simp only [e] at h
  rw [t1] at h
  exact h (says_enc hr)
end Go.Proofs.YteaagnlhkopgdaaGreatDoor.C
namespace Go.Proofs.YteaagnlhkopgdaaGreatDoor.C
open Go.RowKit Go Go.Sort
theorem decode_1 (S : ByteArray) (w : World) (hsz : S.size ≤ 281474976710656) (hg : HE w) (hk : cls ((byteR S 0 0).1 : Int) = 1) : Calls Tryz.prog 13 #[.string S] w fun x w' => DxOut S w x w' := by
  have hgl : 0 < w.heap.size := cell_lt hg
  have HNS : Hid _ := @no_says2 S
  rw [hk] at HNS
  obtain ⟨B, hB⟩ : ∃ B, B = byteR S 0 0 := ⟨_, rfl⟩
  have HBY : Hid (byteR S 0 0 = B) := hB.symm
  rw [← hB] at hk HNS
  obtain ⟨k, hkk⟩ : ∃ k : Int, k = (B.1 : Int) := ⟨_, rfl⟩
  rw [← hkk] at hk HNS
  have HEK : Hid ((B.1 : Int) = k) := hkk.symm
  obtain ⟨r, hr⟩ : ∃ r, r = (tkC S k 1 B.2).1 := ⟨_, rfl⟩
  have hrk : r.k = k := by rw [hr]; exact tkC_k ..
  have hrc : cutC 1 r = r := by rw [hr]; exact tkC_cut ..
  have ho : ∀ v ∈ r.o, v.i64 := by rw [hr]; exact tkC_o _ _ _ _
  have hn : ∀ v ∈ r.n, v.i64 := by rw [hr]; exact tkC_n _ _ _ _
  have HTK : Hid ((tkC S k 1 B.2).1 = r) := hr.symm
  rw [← hr] at HNS
  have HSY : Hid (encI r = 0 → encS r = S → Says S r) := fun h1 h2 => enc_says h1 h2 ho hn
  obtain ⟨w0, hw0⟩ : ∃ w0, w0 = w.alloc (.cells #[.int .i64 0, .int .i64 0, .int .i64 0, .int .i64 0, .int .i64 0, .int .i64 0, .int .i64 0, .string ⟨#[]⟩, .slice none 0 0, .int .i64 0, .slice none 0 0, .slice none 0 0] 28) := ⟨_, rfl⟩
  have t0 : Tch (fun _ => False) w w0 := by rw [hw0]; exact Tch.alloc _ _ _
  have b0 : w0.heap[w.heap.size]? = some (.cells #[.int .i64 0, .int .i64 0, .int .i64 0, .int .i64 0, .int .i64 0, .int .i64 0, .int .i64 0, .string ⟨#[]⟩, .slice none 0 0, .int .i64 0, .slice none 0 0, .slice none 0 0] 28 (0, 0)) := by rw [hw0]; exact heap_new w _
  have q1 := newReader_any S w0
  rw [hw0] at q1
  have HW0 : Hid (w0 = w.alloc (.cells #[.int .i64 0, .int .i64 0, .int .i64 0, .int .i64 0, .int .i64 0, .int .i64 0, .int .i64 0, .string ⟨#[]⟩, .slice none 0 0, .int .i64 0, .slice none 0 0, .slice none 0 0] 28)) := hw0
  have HB : Hid (∀ W, Tch (fun i => w.heap.size < i) w0 W → W.heap[w.heap.size]? = some (.cells #[.int .i64 0, .int .i64 0, .int .i64 0, .int .i64 0, .int .i64 0, .int .i64 0, .int .i64 0, .string ⟨#[]⟩, .slice none 0 0, .int .i64 0, .slice none 0 0, .slice none 0 0] 28 (0, 0)) ∧ HE W ∧ Tch (fun _ => False) w W) := fun W t =>
    ⟨(t.block _ (blk_lt b0) (by omega)).trans b0, (hg.tch t0 (fun h => h)).tch t (by omega), (t0.mono (fun _ _ h => h.elim)).trans t (fun i hi h => by omega)⟩
  have HENC : Hid (∀ W F s, HE W → RW W F r s → Calls Tryz.prog 7 #[rV r s] W fun x w' => x = .returned (.tuple #[.string (encS r), .int .i64 (encI r)]) ∧ Tch (fun _ => False) W w') := fun W F s h1 h2 => encode_all r s F W h1 h2
  have HRW : Hid (∀ W base s, RN W base r s → RW W (fun i => i < base) r s) := fun W base s h => h.rw ho hn
  have HCUT : Hid (cutC 1 r = r) := hrc
  have HRO : Hid (∀ s W, Calls Tryz.prog 105 #[.agg #[.int .i64 r.x, .int .i64 r.l]] W fun x w' => x = .returned (rV r (cutS 1 s)) ∧ Tch (fun _ => False) W w') := fun s W => by
    have := fields_1 r s W (by rw [hrk]; exact cls_k (c := 1) hk (by omega) (by omega))
    rw [hrc] at this; exact this
  have m1 : ∀ (v : Array Value) (W : World), (method 318 71 (.agg v) "confluence/publish.take").run Tryz.prog W = .ok (108, .agg v) W := fun v W => by kernel_rfl
  have m2 : ∀ (v : Array Value) (W : World), (method 318 71 (.agg v) "confluence/publish.fields").run Tryz.prog W = .ok (105, .agg v) W := fun v W => by kernel_rfl
  have hz0 : w0.heap.size = w.heap.size + 1 := by rw [hw0]; simp
  have HBO : Hid (∀ W, Calls Tryz.prog 14 #[rV (rc0 k) sk0] W fun x w' => x = .returned (.iface 71 (.agg #[.int .i64 0, .int .i64 0])) ∧ Tch (fun _ => False) W w') := fun W => by
    have q := messageOf_any (rc0 k) sk0 W
    have e : cls (rc0 k).k = 1 := hk
    rw [e] at q
    exact q
  obtain ⟨Y, hY⟩ : ∃ Y, Y = encS r := ⟨_, rfl⟩
  obtain ⟨E, hE⟩ : ∃ E, E = encI r := ⟨_, rfl⟩
  rw [← hY, ← hE] at HENC HSY HNS
  clear hg hk hkk hr hrc ho hn hw0 t0 b0 hB hrk hY hE
  go_enter Tryz.func13, Tryz.ntmps13
  go_wp2_with fail
  refine q1.mono ?_
  rintro x w1 ⟨rfl, h1, t1, z1⟩
  rw [← HW0.out, hz0] at h1
  rw [← HW0.out] at t1 z1
  clear q1
  have T1 : Tch (fun i => w.heap.size < i) w0 w1 := t1.mono (fun _ _ h => h.elim)
  have q2 := rbyte_any (w.heap.size + 1) S 0 0 w1 h1 hsz
  rw [HBY.out] at q2
  simp only [HEK.out] at q2
  go_wp2_with fail
  refine q2.mono ?_
  rintro x w2 ⟨rfl, h2, t2⟩
  clear q2
  have T2 : Tch (fun i => w.heap.size < i) w0 w2 := T1.trans' (t2.mono (fun i _ h => by omega))
  go_wp2_with fail
  refine (HBO.out w2).mono ?_
  rintro x w3 ⟨rfl, t3⟩
  have h3 := RD.no h2 t3
  have T3 : Tch (fun i => w.heap.size < i) w0 w3 := T2.trans' (t3.mono (fun _ _ h => h.elim))
  have q4 := take_1 (w.heap.size + 1) S k B.2.1 B.2.2 w3 h3 (HB.out w3 T3).2.1 (by omega) hsz
  have hz3 : w0.heap.size + 1 ≤ w3.heap.size := by
    have := t1.size; have := t2.size; have := t3.size; omega
  clear h1 h2 t1 t2 t3 T1 T2 z1
  go_wp2_with fail
  refine q4.mono ?_
  rintro x w4 ⟨⟨s, rfl, hN⟩, -, t4⟩
  rw [show (B.2.1, B.2.2) = B.2 from rfl, HTK.out] at hN ⊢
  clear q4 h3
  have T4 : Tch (fun i => w.heap.size < i) w0 w4 := T3.trans' (t4.mono (fun i _ h => by omega))
  have hz4 := t4.size
  have q5 := HRO.out s w4
  have HN4 : Hid (RN w4 w3.heap.size r s) := hN
  clear hN
  have ebv : bV 1 r s = .iface 71 (.agg #[.int .i64 r.x, .int .i64 r.l]) := rfl
  rw [ebv]
  clear ebv
  go_wp2_with fail
  refine q5.mono ?_
  rintro x w5 ⟨rfl, t5⟩
  clear q5
  have T5 : Tch (fun i => w.heap.size < i) w0 w5 := T4.trans' (t5.mono (fun _ _ h => h.elim))
  have HN5 : Hid (RN w5 w3.heap.size r (cutS 1 s)) := by
    have := (HN4.out.tch t5 (fun _ _ _ h => h)).cut 1
    rw [HCUT.out] at this; exact this
  have hz5 := t5.size
  clear HN4
  obtain ⟨s5, hs5⟩ : ∃ s5, s5 = cutS 1 s := ⟨_, rfl⟩
  rw [← hs5] at HN5 ⊢
  clear hs5 t5 t4 T3 T4
  obtain ⟨w6, hw6⟩ : ∃ w6, w6 = w5.alloc (.cells #[.int .i64 r.k, .int .i64 r.x, .int .i64 r.l, .int .i64 r.e, .int .i64 r.t, .int .i64 r.tb.id, .int .i64 r.tb.ver, .string r.tb.nm, .slice s5.co r.tb.cols.length s5.cc, .int .i64 r.tb.key, .slice s5.oo r.o.length s5.oc, .slice s5.no r.n.length s5.nc] 28) := ⟨_, rfl⟩
  have t6 : Tch (fun _ => False) w5 w6 := by rw [hw6]; exact Tch.alloc _ _ _
  have b6 : w6.heap[w5.heap.size]? = some (.cells #[.int .i64 r.k, .int .i64 r.x, .int .i64 r.l, .int .i64 r.e, .int .i64 r.t, .int .i64 r.tb.id, .int .i64 r.tb.ver, .string r.tb.nm, .slice s5.co r.tb.cols.length s5.cc, .int .i64 r.tb.key, .slice s5.oo r.o.length s5.oc, .slice s5.no r.n.length s5.nc] 28 (0, 0)) := by rw [hw6]; exact heap_new w5 _
  have T6 : Tch (fun i => w.heap.size < i) w0 w6 := T5.trans' (t6.mono (fun _ _ h => h.elim))
  have HN6 : Hid (RN w6 w3.heap.size r s5) := HN5.out.tch t6 (fun _ _ _ h => h)
  have q7 := HENC.out w6 _ s5 (HB.out w6 T6).2.1 (HRW.out w6 _ s5 HN6.out)
  rw [hw6] at q7
  have HW6 : Hid (w6 = w5.alloc (.cells #[.int .i64 r.k, .int .i64 r.x, .int .i64 r.l, .int .i64 r.e, .int .i64 r.t, .int .i64 r.tb.id, .int .i64 r.tb.ver, .string r.tb.nm, .slice s5.co r.tb.cols.length s5.cc, .int .i64 r.tb.key, .slice s5.oo r.o.length s5.oc, .slice s5.no r.n.length s5.nc] 28)) := hw6
  have hz6 := t6.size
  clear hw6 t6 T5 HN5 HBO HRO HENC HTK HBY
  go_wp2_with fail
  refine q7.mono ?_
  rintro x w7 ⟨rfl, t7⟩
  rw [← HW6.out] at t7
  have T7 : Tch (fun i => w.heap.size < i) w0 w7 := T6.trans' (t7.mono (fun _ _ h => h.elim))
  have b7 : w7.heap[w5.heap.size]? = some (.cells #[.int .i64 r.k, .int .i64 r.x, .int .i64 r.l, .int .i64 r.e, .int .i64 r.t, .int .i64 r.tb.id, .int .i64 r.tb.ver, .string r.tb.nm, .slice s5.co r.tb.cols.length s5.cc, .int .i64 r.tb.key, .slice s5.oo r.o.length s5.oc, .slice s5.no r.n.length s5.nc] 28 (0, 0)) := (t7.block _ (blk_lt b6) (fun h => h)).trans b6
  obtain ⟨n7, -, U7⟩ := HB.out w7 T7
  have HN7 : Hid (RN w7 w3.heap.size r s5) := HN6.out.tch t7 (fun _ _ _ h => h)
  have HF : Hid (∀ W, Tch (fun i => i = w.heap.size) w7 W → RN W w.heap.size r s5 ∧ Tch (fun _ => False) w W) := fun W t =>
    ⟨(HN7.out.tch t (fun i h1 _ h2 => by omega)).low (by omega), U7.trans t (fun i hi h => by omega)⟩
  have y0 := blk_cell b7 0
  have y1 := blk_cell b7 1
  have y2 := blk_cell b7 2
  have y3 := blk_cell b7 3
  have y4 := blk_cell b7 4
  have y5 := blk_cell b7 5
  have y6 := blk_cell b7 6
  have y7 := blk_cell b7 7
  have y8 := blk_cell b7 8
  have y9 := blk_cell b7 9
  have y10 := blk_cell b7 10
  have y11 := blk_cell b7 11
  simp only [List.getElem?_toArray, List.getElem?_cons_succ, List.getElem?_cons_zero] at y0 y1 y2 y3 y4 y5 y6 y7 y8 y9 y10 y11
  have z0 := blk_cell n7 0
  have z1 := blk_cell n7 1
  have z2 := blk_cell n7 2
  have z3 := blk_cell n7 3
  have z4 := blk_cell n7 4
  have z5 := blk_cell n7 5
  have z6 := blk_cell n7 6
  have z7 := blk_cell n7 7
  have z8 := blk_cell n7 8
  have z9 := blk_cell n7 9
  have z10 := blk_cell n7 10
  have z11 := blk_cell n7 11
  simp only [List.getElem?_toArray, List.getElem?_cons_succ, List.getElem?_cons_zero] at z0 z1 z2 z3 z4 z5 z6 z7 z8 z9 z10 z11
  have f0 := blk_frozen n7 0
  have f1 := blk_frozen n7 1
  have f2 := blk_frozen n7 2
  have f3 := blk_frozen n7 3
  have f4 := blk_frozen n7 4
  have f5 := blk_frozen n7 5
  have f6 := blk_frozen n7 6
  have f7 := blk_frozen n7 7
  have f8 := blk_frozen n7 8
  have f9 := blk_frozen n7 9
  have f10 := blk_frozen n7 10
  have f11 := blk_frozen n7 11
  clear q7 t7 T6 T7 b6 b7 n7 U7 HN6 HN7 HB HW6 HW0 HRW HCUT HEK hz0 hz3 hz4 hz5 hz6
  have hrs : Tryz.f13.results = #[.cell 2 28, .tmp 3] := by kernel_rfl
  by_cases hE0 : E = 0
  · have e1 := int_eq' hE0
    by_cases hYS : Y = S
    · have e2 := bs_eq hYS
      go_wp2_with fail
      refine bodyPost_ret (v := .tuple #[rV r s5, .int .i64 0]) (by simp only [results, hrs]; go_simp) rfl ?_
      obtain ⟨k1, k2⟩ := HF.out _ (show Tch (fun i => i = w.heap.size) w7 _ from (((((((((((Tch.setCell (fun i => i = w.heap.size) w7 ⟨w.heap.size, 0, none⟩ _ rfl).setCellR ⟨w.heap.size, 1, none⟩ _ rfl).setCellR ⟨w.heap.size, 2, none⟩ _ rfl).setCellR ⟨w.heap.size, 3, none⟩ _ rfl).setCellR ⟨w.heap.size, 4, none⟩ _ rfl).setCellR ⟨w.heap.size, 5, none⟩ _ rfl).setCellR ⟨w.heap.size, 6, none⟩ _ rfl).setCellR ⟨w.heap.size, 7, none⟩ _ rfl).setCellR ⟨w.heap.size, 8, none⟩ _ rfl).setCellR ⟨w.heap.size, 9, none⟩ _ rfl).setCellR ⟨w.heap.size, 10, none⟩ _ rfl).setCellR ⟨w.heap.size, 11, none⟩ _ rfl)
      exact Or.inl ⟨r, s5, HSY.out hE0 hYS, rfl, k1, k2⟩
    · have e2 := bs_ne hYS
      go_wp2_with fail
      refine bodyPost_ret (v := .tuple #[rV (rc0 0) sk0, .int .i64 181]) (by simp only [results, hrs]; go_simp; (repeat' apply And.intro) <;> rfl) rfl ?_
      exact Or.inr ⟨HNS.out (fun e => hYS e.2), rfl, (HF.out _ (show Tch (fun i => i = w.heap.size) w7 _ from (((((((((((Tch.setCell (fun i => i = w.heap.size) w7 ⟨w.heap.size, 0, none⟩ _ rfl).setCellR ⟨w.heap.size, 1, none⟩ _ rfl).setCellR ⟨w.heap.size, 2, none⟩ _ rfl).setCellR ⟨w.heap.size, 3, none⟩ _ rfl).setCellR ⟨w.heap.size, 4, none⟩ _ rfl).setCellR ⟨w.heap.size, 5, none⟩ _ rfl).setCellR ⟨w.heap.size, 6, none⟩ _ rfl).setCellR ⟨w.heap.size, 7, none⟩ _ rfl).setCellR ⟨w.heap.size, 8, none⟩ _ rfl).setCellR ⟨w.heap.size, 9, none⟩ _ rfl).setCellR ⟨w.heap.size, 10, none⟩ _ rfl).setCellR ⟨w.heap.size, 11, none⟩ _ rfl)).2⟩
  · have e1 := int_ne hE0
    go_wp2_with fail
    refine bodyPost_ret (v := .tuple #[rV (rc0 0) sk0, .int .i64 181]) (by simp only [results, hrs]; go_simp; (repeat' apply And.intro) <;> rfl) rfl ?_
    exact Or.inr ⟨HNS.out (fun e => hE0 e.1), rfl, (HF.out _ (show Tch (fun i => i = w.heap.size) w7 _ from (((((((((((Tch.setCell (fun i => i = w.heap.size) w7 ⟨w.heap.size, 0, none⟩ _ rfl).setCellR ⟨w.heap.size, 1, none⟩ _ rfl).setCellR ⟨w.heap.size, 2, none⟩ _ rfl).setCellR ⟨w.heap.size, 3, none⟩ _ rfl).setCellR ⟨w.heap.size, 4, none⟩ _ rfl).setCellR ⟨w.heap.size, 5, none⟩ _ rfl).setCellR ⟨w.heap.size, 6, none⟩ _ rfl).setCellR ⟨w.heap.size, 7, none⟩ _ rfl).setCellR ⟨w.heap.size, 8, none⟩ _ rfl).setCellR ⟨w.heap.size, 9, none⟩ _ rfl).setCellR ⟨w.heap.size, 10, none⟩ _ rfl).setCellR ⟨w.heap.size, 11, none⟩ _ rfl)).2⟩
end Go.Proofs.YteaagnlhkopgdaaGreatDoor.C
namespace Go.Proofs.YteaagnlhkopgdaaGreatDoor.C
open Go.RowKit Go Go.Sort
theorem decode_2 (S : ByteArray) (w : World) (hsz : S.size ≤ 281474976710656) (hg : HE w) (hk : cls ((byteR S 0 0).1 : Int) = 2) : Calls Tryz.prog 13 #[.string S] w fun x w' => DxOut S w x w' := by
  have hgl : 0 < w.heap.size := cell_lt hg
  have HNS : Hid _ := @no_says2 S
  rw [hk] at HNS
  obtain ⟨B, hB⟩ : ∃ B, B = byteR S 0 0 := ⟨_, rfl⟩
  have HBY : Hid (byteR S 0 0 = B) := hB.symm
  rw [← hB] at hk HNS
  obtain ⟨k, hkk⟩ : ∃ k : Int, k = (B.1 : Int) := ⟨_, rfl⟩
  rw [← hkk] at hk HNS
  have HEK : Hid ((B.1 : Int) = k) := hkk.symm
  obtain ⟨r, hr⟩ : ∃ r, r = (tkC S k 2 B.2).1 := ⟨_, rfl⟩
  have hrk : r.k = k := by rw [hr]; exact tkC_k ..
  have hrc : cutC 2 r = r := by rw [hr]; exact tkC_cut ..
  have ho : ∀ v ∈ r.o, v.i64 := by rw [hr]; exact tkC_o _ _ _ _
  have hn : ∀ v ∈ r.n, v.i64 := by rw [hr]; exact tkC_n _ _ _ _
  have HTK : Hid ((tkC S k 2 B.2).1 = r) := hr.symm
  rw [← hr] at HNS
  have HSY : Hid (encI r = 0 → encS r = S → Says S r) := fun h1 h2 => enc_says h1 h2 ho hn
  obtain ⟨w0, hw0⟩ : ∃ w0, w0 = w.alloc (.cells #[.int .i64 0, .int .i64 0, .int .i64 0, .int .i64 0, .int .i64 0, .int .i64 0, .int .i64 0, .string ⟨#[]⟩, .slice none 0 0, .int .i64 0, .slice none 0 0, .slice none 0 0] 28) := ⟨_, rfl⟩
  have t0 : Tch (fun _ => False) w w0 := by rw [hw0]; exact Tch.alloc _ _ _
  have b0 : w0.heap[w.heap.size]? = some (.cells #[.int .i64 0, .int .i64 0, .int .i64 0, .int .i64 0, .int .i64 0, .int .i64 0, .int .i64 0, .string ⟨#[]⟩, .slice none 0 0, .int .i64 0, .slice none 0 0, .slice none 0 0] 28 (0, 0)) := by rw [hw0]; exact heap_new w _
  have q1 := newReader_any S w0
  rw [hw0] at q1
  have HW0 : Hid (w0 = w.alloc (.cells #[.int .i64 0, .int .i64 0, .int .i64 0, .int .i64 0, .int .i64 0, .int .i64 0, .int .i64 0, .string ⟨#[]⟩, .slice none 0 0, .int .i64 0, .slice none 0 0, .slice none 0 0] 28)) := hw0
  have HB : Hid (∀ W, Tch (fun i => w.heap.size < i) w0 W → W.heap[w.heap.size]? = some (.cells #[.int .i64 0, .int .i64 0, .int .i64 0, .int .i64 0, .int .i64 0, .int .i64 0, .int .i64 0, .string ⟨#[]⟩, .slice none 0 0, .int .i64 0, .slice none 0 0, .slice none 0 0] 28 (0, 0)) ∧ HE W ∧ Tch (fun _ => False) w W) := fun W t =>
    ⟨(t.block _ (blk_lt b0) (by omega)).trans b0, (hg.tch t0 (fun h => h)).tch t (by omega), (t0.mono (fun _ _ h => h.elim)).trans t (fun i hi h => by omega)⟩
  have HENC : Hid (∀ W F s, HE W → RW W F r s → Calls Tryz.prog 7 #[rV r s] W fun x w' => x = .returned (.tuple #[.string (encS r), .int .i64 (encI r)]) ∧ Tch (fun _ => False) W w') := fun W F s h1 h2 => encode_all r s F W h1 h2
  have HRW : Hid (∀ W base s, RN W base r s → RW W (fun i => i < base) r s) := fun W base s h => h.rw ho hn
  have HCUT : Hid (cutC 2 r = r) := hrc
  have HRO : Hid (∀ s W, Calls Tryz.prog 116 #[.agg #[.int .i64 r.tb.id, .int .i64 r.tb.ver, .string r.tb.nm, .slice s.co r.tb.cols.length s.cc, .int .i64 r.tb.key]] W fun x w' => x = .returned (rV r (cutS 2 s)) ∧ Tch (fun _ => False) W w') := fun s W => by
    have := fields_2 r s W (by rw [hrk]; exact cls_k (c := 2) hk (by omega) (by omega))
    rw [hrc] at this; exact this
  have m1 : ∀ (v : Array Value) (W : World), (method 318 73 (.agg v) "confluence/publish.take").run Tryz.prog W = .ok (119, .agg v) W := fun v W => by kernel_rfl
  have m2 : ∀ (v : Array Value) (W : World), (method 318 73 (.agg v) "confluence/publish.fields").run Tryz.prog W = .ok (116, .agg v) W := fun v W => by kernel_rfl
  have hz0 : w0.heap.size = w.heap.size + 1 := by rw [hw0]; simp
  have HBO : Hid (∀ W, Calls Tryz.prog 14 #[rV (rc0 k) sk0] W fun x w' => x = .returned (.iface 73 (.agg #[.int .i64 0, .int .i64 0, .string ⟨#[]⟩, .slice none 0 0, .int .i64 0])) ∧ Tch (fun _ => False) W w') := fun W => by
    have q := messageOf_any (rc0 k) sk0 W
    have e : cls (rc0 k).k = 2 := hk
    rw [e] at q
    exact q
  obtain ⟨Y, hY⟩ : ∃ Y, Y = encS r := ⟨_, rfl⟩
  obtain ⟨E, hE⟩ : ∃ E, E = encI r := ⟨_, rfl⟩
  rw [← hY, ← hE] at HENC HSY HNS
  clear hg hk hkk hr hrc ho hn hw0 t0 b0 hB hrk hY hE
  go_enter Tryz.func13, Tryz.ntmps13
  go_wp2_with fail
  refine q1.mono ?_
  rintro x w1 ⟨rfl, h1, t1, z1⟩
  rw [← HW0.out, hz0] at h1
  rw [← HW0.out] at t1 z1
  clear q1
  have T1 : Tch (fun i => w.heap.size < i) w0 w1 := t1.mono (fun _ _ h => h.elim)
  have q2 := rbyte_any (w.heap.size + 1) S 0 0 w1 h1 hsz
  rw [HBY.out] at q2
  simp only [HEK.out] at q2
  go_wp2_with fail
  refine q2.mono ?_
  rintro x w2 ⟨rfl, h2, t2⟩
  clear q2
  have T2 : Tch (fun i => w.heap.size < i) w0 w2 := T1.trans' (t2.mono (fun i _ h => by omega))
  go_wp2_with fail
  refine (HBO.out w2).mono ?_
  rintro x w3 ⟨rfl, t3⟩
  have h3 := RD.no h2 t3
  have T3 : Tch (fun i => w.heap.size < i) w0 w3 := T2.trans' (t3.mono (fun _ _ h => h.elim))
  have q4 := take_2 (w.heap.size + 1) S k B.2.1 B.2.2 w3 h3 (HB.out w3 T3).2.1 (by omega) hsz
  have hz3 : w0.heap.size + 1 ≤ w3.heap.size := by
    have := t1.size; have := t2.size; have := t3.size; omega
  clear h1 h2 t1 t2 t3 T1 T2 z1
  go_wp2_with fail
  refine q4.mono ?_
  rintro x w4 ⟨⟨s, rfl, hN⟩, -, t4⟩
  rw [show (B.2.1, B.2.2) = B.2 from rfl, HTK.out] at hN ⊢
  clear q4 h3
  have T4 : Tch (fun i => w.heap.size < i) w0 w4 := T3.trans' (t4.mono (fun i _ h => by omega))
  have hz4 := t4.size
  have q5 := HRO.out s w4
  have HN4 : Hid (RN w4 w3.heap.size r s) := hN
  clear hN
  have ebv : bV 2 r s = .iface 73 (.agg #[.int .i64 r.tb.id, .int .i64 r.tb.ver, .string r.tb.nm, .slice s.co r.tb.cols.length s.cc, .int .i64 r.tb.key]) := rfl
  rw [ebv]
  clear ebv
  go_wp2_with fail
  refine q5.mono ?_
  rintro x w5 ⟨rfl, t5⟩
  clear q5
  have T5 : Tch (fun i => w.heap.size < i) w0 w5 := T4.trans' (t5.mono (fun _ _ h => h.elim))
  have HN5 : Hid (RN w5 w3.heap.size r (cutS 2 s)) := by
    have := (HN4.out.tch t5 (fun _ _ _ h => h)).cut 2
    rw [HCUT.out] at this; exact this
  have hz5 := t5.size
  clear HN4
  obtain ⟨s5, hs5⟩ : ∃ s5, s5 = cutS 2 s := ⟨_, rfl⟩
  rw [← hs5] at HN5 ⊢
  clear hs5 t5 t4 T3 T4
  obtain ⟨w6, hw6⟩ : ∃ w6, w6 = w5.alloc (.cells #[.int .i64 r.k, .int .i64 r.x, .int .i64 r.l, .int .i64 r.e, .int .i64 r.t, .int .i64 r.tb.id, .int .i64 r.tb.ver, .string r.tb.nm, .slice s5.co r.tb.cols.length s5.cc, .int .i64 r.tb.key, .slice s5.oo r.o.length s5.oc, .slice s5.no r.n.length s5.nc] 28) := ⟨_, rfl⟩
  have t6 : Tch (fun _ => False) w5 w6 := by rw [hw6]; exact Tch.alloc _ _ _
  have b6 : w6.heap[w5.heap.size]? = some (.cells #[.int .i64 r.k, .int .i64 r.x, .int .i64 r.l, .int .i64 r.e, .int .i64 r.t, .int .i64 r.tb.id, .int .i64 r.tb.ver, .string r.tb.nm, .slice s5.co r.tb.cols.length s5.cc, .int .i64 r.tb.key, .slice s5.oo r.o.length s5.oc, .slice s5.no r.n.length s5.nc] 28 (0, 0)) := by rw [hw6]; exact heap_new w5 _
  have T6 : Tch (fun i => w.heap.size < i) w0 w6 := T5.trans' (t6.mono (fun _ _ h => h.elim))
  have HN6 : Hid (RN w6 w3.heap.size r s5) := HN5.out.tch t6 (fun _ _ _ h => h)
  have q7 := HENC.out w6 _ s5 (HB.out w6 T6).2.1 (HRW.out w6 _ s5 HN6.out)
  rw [hw6] at q7
  have HW6 : Hid (w6 = w5.alloc (.cells #[.int .i64 r.k, .int .i64 r.x, .int .i64 r.l, .int .i64 r.e, .int .i64 r.t, .int .i64 r.tb.id, .int .i64 r.tb.ver, .string r.tb.nm, .slice s5.co r.tb.cols.length s5.cc, .int .i64 r.tb.key, .slice s5.oo r.o.length s5.oc, .slice s5.no r.n.length s5.nc] 28)) := hw6
  have hz6 := t6.size
  clear hw6 t6 T5 HN5 HBO HRO HENC HTK HBY
  go_wp2_with fail
  refine q7.mono ?_
  rintro x w7 ⟨rfl, t7⟩
  rw [← HW6.out] at t7
  have T7 : Tch (fun i => w.heap.size < i) w0 w7 := T6.trans' (t7.mono (fun _ _ h => h.elim))
  have b7 : w7.heap[w5.heap.size]? = some (.cells #[.int .i64 r.k, .int .i64 r.x, .int .i64 r.l, .int .i64 r.e, .int .i64 r.t, .int .i64 r.tb.id, .int .i64 r.tb.ver, .string r.tb.nm, .slice s5.co r.tb.cols.length s5.cc, .int .i64 r.tb.key, .slice s5.oo r.o.length s5.oc, .slice s5.no r.n.length s5.nc] 28 (0, 0)) := (t7.block _ (blk_lt b6) (fun h => h)).trans b6
  obtain ⟨n7, -, U7⟩ := HB.out w7 T7
  have HN7 : Hid (RN w7 w3.heap.size r s5) := HN6.out.tch t7 (fun _ _ _ h => h)
  have HF : Hid (∀ W, Tch (fun i => i = w.heap.size) w7 W → RN W w.heap.size r s5 ∧ Tch (fun _ => False) w W) := fun W t =>
    ⟨(HN7.out.tch t (fun i h1 _ h2 => by omega)).low (by omega), U7.trans t (fun i hi h => by omega)⟩
  have y0 := blk_cell b7 0
  have y1 := blk_cell b7 1
  have y2 := blk_cell b7 2
  have y3 := blk_cell b7 3
  have y4 := blk_cell b7 4
  have y5 := blk_cell b7 5
  have y6 := blk_cell b7 6
  have y7 := blk_cell b7 7
  have y8 := blk_cell b7 8
  have y9 := blk_cell b7 9
  have y10 := blk_cell b7 10
  have y11 := blk_cell b7 11
  simp only [List.getElem?_toArray, List.getElem?_cons_succ, List.getElem?_cons_zero] at y0 y1 y2 y3 y4 y5 y6 y7 y8 y9 y10 y11
  have z0 := blk_cell n7 0
  have z1 := blk_cell n7 1
  have z2 := blk_cell n7 2
  have z3 := blk_cell n7 3
  have z4 := blk_cell n7 4
  have z5 := blk_cell n7 5
  have z6 := blk_cell n7 6
  have z7 := blk_cell n7 7
  have z8 := blk_cell n7 8
  have z9 := blk_cell n7 9
  have z10 := blk_cell n7 10
  have z11 := blk_cell n7 11
  simp only [List.getElem?_toArray, List.getElem?_cons_succ, List.getElem?_cons_zero] at z0 z1 z2 z3 z4 z5 z6 z7 z8 z9 z10 z11
  have f0 := blk_frozen n7 0
  have f1 := blk_frozen n7 1
  have f2 := blk_frozen n7 2
  have f3 := blk_frozen n7 3
  have f4 := blk_frozen n7 4
  have f5 := blk_frozen n7 5
  have f6 := blk_frozen n7 6
  have f7 := blk_frozen n7 7
  have f8 := blk_frozen n7 8
  have f9 := blk_frozen n7 9
  have f10 := blk_frozen n7 10
  have f11 := blk_frozen n7 11
  clear q7 t7 T6 T7 b6 b7 n7 U7 HN6 HN7 HB HW6 HW0 HRW HCUT HEK hz0 hz3 hz4 hz5 hz6
  have hrs : Tryz.f13.results = #[.cell 2 28, .tmp 3] := by kernel_rfl
  by_cases hE0 : E = 0
  · have e1 := int_eq' hE0
    by_cases hYS : Y = S
    · have e2 := bs_eq hYS
      go_wp2_with fail
      refine bodyPost_ret (v := .tuple #[rV r s5, .int .i64 0]) (by simp only [results, hrs]; go_simp) rfl ?_
      obtain ⟨k1, k2⟩ := HF.out _ (show Tch (fun i => i = w.heap.size) w7 _ from (((((((((((Tch.setCell (fun i => i = w.heap.size) w7 ⟨w.heap.size, 0, none⟩ _ rfl).setCellR ⟨w.heap.size, 1, none⟩ _ rfl).setCellR ⟨w.heap.size, 2, none⟩ _ rfl).setCellR ⟨w.heap.size, 3, none⟩ _ rfl).setCellR ⟨w.heap.size, 4, none⟩ _ rfl).setCellR ⟨w.heap.size, 5, none⟩ _ rfl).setCellR ⟨w.heap.size, 6, none⟩ _ rfl).setCellR ⟨w.heap.size, 7, none⟩ _ rfl).setCellR ⟨w.heap.size, 8, none⟩ _ rfl).setCellR ⟨w.heap.size, 9, none⟩ _ rfl).setCellR ⟨w.heap.size, 10, none⟩ _ rfl).setCellR ⟨w.heap.size, 11, none⟩ _ rfl)
      exact Or.inl ⟨r, s5, HSY.out hE0 hYS, rfl, k1, k2⟩
    · have e2 := bs_ne hYS
      go_wp2_with fail
      refine bodyPost_ret (v := .tuple #[rV (rc0 0) sk0, .int .i64 181]) (by simp only [results, hrs]; go_simp; (repeat' apply And.intro) <;> rfl) rfl ?_
      exact Or.inr ⟨HNS.out (fun e => hYS e.2), rfl, (HF.out _ (show Tch (fun i => i = w.heap.size) w7 _ from (((((((((((Tch.setCell (fun i => i = w.heap.size) w7 ⟨w.heap.size, 0, none⟩ _ rfl).setCellR ⟨w.heap.size, 1, none⟩ _ rfl).setCellR ⟨w.heap.size, 2, none⟩ _ rfl).setCellR ⟨w.heap.size, 3, none⟩ _ rfl).setCellR ⟨w.heap.size, 4, none⟩ _ rfl).setCellR ⟨w.heap.size, 5, none⟩ _ rfl).setCellR ⟨w.heap.size, 6, none⟩ _ rfl).setCellR ⟨w.heap.size, 7, none⟩ _ rfl).setCellR ⟨w.heap.size, 8, none⟩ _ rfl).setCellR ⟨w.heap.size, 9, none⟩ _ rfl).setCellR ⟨w.heap.size, 10, none⟩ _ rfl).setCellR ⟨w.heap.size, 11, none⟩ _ rfl)).2⟩
  · have e1 := int_ne hE0
    go_wp2_with fail
    refine bodyPost_ret (v := .tuple #[rV (rc0 0) sk0, .int .i64 181]) (by simp only [results, hrs]; go_simp; (repeat' apply And.intro) <;> rfl) rfl ?_
    exact Or.inr ⟨HNS.out (fun e => hE0 e.1), rfl, (HF.out _ (show Tch (fun i => i = w.heap.size) w7 _ from (((((((((((Tch.setCell (fun i => i = w.heap.size) w7 ⟨w.heap.size, 0, none⟩ _ rfl).setCellR ⟨w.heap.size, 1, none⟩ _ rfl).setCellR ⟨w.heap.size, 2, none⟩ _ rfl).setCellR ⟨w.heap.size, 3, none⟩ _ rfl).setCellR ⟨w.heap.size, 4, none⟩ _ rfl).setCellR ⟨w.heap.size, 5, none⟩ _ rfl).setCellR ⟨w.heap.size, 6, none⟩ _ rfl).setCellR ⟨w.heap.size, 7, none⟩ _ rfl).setCellR ⟨w.heap.size, 8, none⟩ _ rfl).setCellR ⟨w.heap.size, 9, none⟩ _ rfl).setCellR ⟨w.heap.size, 10, none⟩ _ rfl).setCellR ⟨w.heap.size, 11, none⟩ _ rfl)).2⟩
end Go.Proofs.YteaagnlhkopgdaaGreatDoor.C
