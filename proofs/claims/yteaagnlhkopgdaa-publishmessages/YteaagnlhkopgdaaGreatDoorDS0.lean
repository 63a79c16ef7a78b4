import Derived.Test.YteaagnlhkopgdaaGreatDoorLB4
import Derived.Deep.Cut
import Derived.Test.YteaagnlhkopgdaaGreatDoorCRow
import Derived.Test.YteaagnlhkopgdaaGreatDoorRVl3
import Derived.Test.YteaagnlhkopgdaaGreatDoorCCopy
set_option maxHeartbeats 4000000
set_option maxRecDepth 100000
namespace Go.Proofs.YteaagnlhkopgdaaGreatDoor.C
open Go.RowKit Go
set_option maxRecDepth 100000
def Lk (r : Rc) (s : Sk) (i : Nat) : Prop := (Value.slice s.oo r.o.length s.oc).ownBlock = some i ∨ (Value.slice s.no r.n.length s.nc).ownBlock = some i ∨ (Value.slice s.co r.tb.cols.length s.cc).ownBlock = some i
theorem own_ty {w : World} {b1 b2 s1 s2 n1 n2 : Nat} {t1 t2 : TypeId} {v1 v2 : Value} {x1 x2 : List Value} (h1 : w.ownsRow b1 t1 s1 v1 n1 x1) (h2 : w.ownsRow b2 t2 s2 v2 n2 x2) {g : Nat} (e1 : v1.ownBlock = some g) (e2 : v2.ownBlock = some g) : t1 = t2 := by
  rcases h1.2 with ⟨rfl, _⟩ | ⟨g1, c1, u1, rfl, _, k1, _⟩
  · cases e1
  · rcases h2.2 with ⟨rfl, _⟩ | ⟨g2, c2, u2, rfl, _, k2, _⟩
    · cases e2
    · have a1 : g1 = g := by injection e1
      have a2 : g2 = g := by injection e2
      subst a1 a2
      rw [k1] at k2
      injection k2 with k2
      injection k2
theorem own_b0 {w : World} {b1 s1 n1 : Nat} {t1 : TypeId} {v1 : Value} {x1 : List Value} (h1 : w.ownsRow b1 t1 s1 v1 n1 x1) : w.ownsRow 0 t1 s1 v1 n1 x1 := by
  refine ⟨h1.1, ?_⟩
  rcases h1.2 with h | ⟨g, c, u, e, _, k⟩
  · exact Or.inl h
  · exact Or.inr ⟨g, c, u, e, Nat.zero_le _, k⟩
def MnOut (w : World) (b : Nat) (Q : Nat → Prop) (r : Rc) (s : Sk) (n : Nat) (x : Ending) (w' : World) : Prop := x = .returned (.tuple #[]) ∧ (∃ Q', BK w' b Q' (n + 42) ∧ ∀ i, Q' i → Q i ∨ Lk r s i ∨ w.heap.size ≤ i) ∧ Tch (fun i => Q i ∨ Lk r s i) w w'
theorem mine_bk (w : World) (b base : Nat) (Q : Nat → Prop) (n : Nat) (r : Rc) (s : Sk) (h : BK w b Q n) (hN : RN w base r s) (hg : ∀ g, Lk r s g → ¬ Q g) (hn : n ≤ 10000000) (ho : r.o.length ≤ 1000000000000) (hnn : r.n.length ≤ 1000000000000) (hc : r.tb.cols.length ≤ 1000000000000) :
    Calls Tryz.prog 24 #[.pointer (some ⟨b, 0, none⟩), rV r s] w fun x w' => MnOut w b Q r s n x w' := by
  obtain ⟨vo, hvo⟩ : ∃ vo, vo = Value.slice s.oo r.o.length s.oc := ⟨_, rfl⟩
  obtain ⟨vn, hvn⟩ : ∃ vn, vn = Value.slice s.no r.n.length s.nc := ⟨_, rfl⟩
  obtain ⟨vc, hvc⟩ : ∃ vc, vc = Value.slice s.co r.tb.cols.length s.cc := ⟨_, rfl⟩
  have o0 := own_b0 hN.o
  have n0 := own_b0 hN.n
  have c0 := own_b0 hN.tb
  have on := hN.on
  unfold MnOut rV
  unfold Lk at hg ⊢
  rw [← hvo] at o0 on hg ⊢
  rw [← hvn] at n0 on hg ⊢
  rw [← hvc] at c0 hg ⊢
  clear hN hvo hvn hvc
  obtain ⟨N, hN⟩ : ∃ N, N = w.heap.size := ⟨_, rfl⟩
  obtain ⟨bx, hbx⟩ : ∃ bx, bx = #[Value.int .i64 r.k, .int .i64 r.x, .int .i64 r.l, .int .i64 r.e, .int .i64 r.t, .int .i64 r.tb.id, .int .i64 r.tb.ver, .string r.tb.nm, vc, .int .i64 r.tb.key, vo, vn] := ⟨_, rfl⟩
  obtain ⟨w0, hw0⟩ : ∃ w0, w0 = w.alloc (.cells bx 28) := ⟨_, rfl⟩
  have t0 : Tch (fun _ => False) w w0 := by rw [hw0]; exact Tch.alloc _ _ _
  have hz0 : w0.heap.size = N + 1 := by rw [hw0, hN, World.size_alloc]
  have hX : w0.heap[N]? = some (.cells bx 28 (0, 0)) := by rw [hw0, hN]; exact alloc_new _ _
  have hQ : ∀ i, Q i → i < N := by obtain ⟨_, _, _, _, _, _, _, _, _, hq, _⟩ := h; rw [hN]; exact hq
  have lo : ∀ g, vo.ownBlock = some g → g < N := fun g e => by rw [hN]; exact (o0.lt g e).2
  have ln : ∀ g, vn.ownBlock = some g → g < N := fun g e => by rw [hN]; exact (n0.lt g e).2
  have lc : ∀ g, vc.ownBlock = some g → g < N := fun g e => by rw [hN]; exact (c0.lt g e).2
  have oc : ∀ g, vo.ownBlock = some g → vc.ownBlock ≠ some g := fun g e1 e2 => absurd (own_ty o0 c0 e1 e2) (by decide)
  have nc : ∀ g, vn.ownBlock = some g → vc.ownBlock ≠ some g := fun g e1 e2 => absurd (own_ty n0 c0 e1 e2) (by decide)
  have q1 := row_bk w0 b Q n vo _ _ (h.tch t0 (fun _ _ e => e)) (own_tch o0 t0 (fun _ _ e => e)) ho (fun g e => hg g (Or.inl e)) (by omega)
  have HX : Hid _ := hX
  have HT0 : Hid _ := t0
  have HQ : Hid _ := hQ
  have HG : Hid _ := hg
  have HNo : Hid _ := own_tch n0 t0 (fun _ _ e => e)
  have HCo : Hid _ := own_tch c0 t0 (fun _ _ e => e)
  have HW0 : Hid (w0 = _) := hw0
  have HN : Hid (N = w.heap.size) := hN
  have Hz : Hid (w0.heap.size = N + 1) := hz0
  have Hon : Hid _ := on
  have Hoc : Hid _ := oc
  have Hnc : Hid _ := nc
  have Hlo : Hid _ := lo
  have Hln : Hid _ := ln
  have Hlc : Hid _ := lc
  have x10 : w0.cell? ⟨N, 10, none⟩ = some vo := by rw [blk_cell hX, hbx]; rfl
  have HBX : Hid _ := hbx
  clear h on o0 n0 c0 hg t0 hX hQ lo ln lc oc nc hz0 hw0 hN
  go_enter Tryz.func24, Tryz.ntmps24
  go_upto_region 1 with (fail)
  rw [← HBX.out, ← HW0.out, ← HN.out]
  go_wp2_with fail
  refine q1.mono ?_
  rintro x w1 ⟨rfl, ⟨Q1, hB1, hQ1⟩, t1⟩
  clear q1 x10
  have hX1 := (t1.block N (blk_lt HX.out) (fun e => e.elim (fun e => by have := HQ.out N e; omega) (fun e => by have := Hlo.out N e; omega))).trans HX.out
  have x11 : w1.cell? ⟨N, 11, none⟩ = some vn := by rw [blk_cell hX1, HBX.out]; rfl
  have hN1 := own_tch HNo.out t1 (fun g e h => h.elim (HG.out g (Or.inr (Or.inl e))) (fun h => Hon.out g h e))
  have hC1 := own_tch HCo.out t1 (fun g e h => h.elim (HG.out g (Or.inr (Or.inr e))) (fun h => Hoc.out g h e))
  have q2 := row_bk w1 b Q1 (n + 14) vn _ _ hB1 hN1 hnn (fun g e h => by
    rcases hQ1 g h with h | h | h
    · exact HG.out g (Or.inr (Or.inl e)) h
    · exact Hon.out g h e
    · have := Hln.out g e; have := Hz.out; omega) (by omega)
  have HX1 : Hid _ := hX1
  have HC1 : Hid _ := hC1
  have HQ1 : Hid _ := hQ1
  have HT1 : Hid _ := t1
  clear hX1 hC1 hQ1 t1 hN1 hB1
  go_wp2_with fail
  refine q2.mono ?_
  rintro x w2 ⟨rfl, ⟨Q2, hB2, hQ2⟩, t2⟩
  clear q2 x11
  have hX2 := (t2.block N (blk_lt HX1.out) (fun e => by
    rcases e with e | e
    · rcases HQ1.out N e with e | e | e
      · have := HQ.out N e; omega
      · have := Hlo.out N e; omega
      · have := Hz.out; omega
    · have := Hln.out N e; omega)).trans HX1.out
  have x5 : w2.cell? ⟨N, 5, none⟩ = some (.int .i64 r.tb.id) := by rw [blk_cell hX2, HBX.out]; rfl
  have x6 : w2.cell? ⟨N, 6, none⟩ = some (.int .i64 r.tb.ver) := by rw [blk_cell hX2, HBX.out]; rfl
  have x7 : w2.cell? ⟨N, 7, none⟩ = some (.string r.tb.nm) := by rw [blk_cell hX2, HBX.out]; rfl
  have x8 : w2.cell? ⟨N, 8, none⟩ = some vc := by rw [blk_cell hX2, HBX.out]; rfl
  have x9 : w2.cell? ⟨N, 9, none⟩ = some (.int .i64 r.tb.key) := by rw [blk_cell hX2, HBX.out]; rfl
  have ncQ1 : ∀ g, vc.ownBlock = some g → ¬ Q1 g := fun g e h => by
    rcases HQ1.out g h with h | h | h
    · exact HG.out g (Or.inr (Or.inr e)) h
    · exact Hoc.out g h e
    · have := Hlc.out g e; have := Hz.out; omega
  have hC2 := own_tch HC1.out t2 (fun g e h => h.elim (ncQ1 g e) (fun h => Hnc.out g h e))
  have q3 := table_bk w2 b Q2 (n + 14 + 14) vc _ _ r.tb.id r.tb.ver r.tb.nm r.tb.key hB2 hC2 hc (fun g e h => by
    rcases hQ2 g h with h | h | h
    · exact ncQ1 g e h
    · exact Hnc.out g h e
    · have := Hlc.out g e; have := Hz.out; have := HT1.out.size; omega) (by omega)
  have HQ2 : Hid _ := hQ2
  have HT2 : Hid _ := t2
  clear hX2 hC2 hQ2 t2 hB2 ncQ1
  go_wp2_with fail
  refine q3.mono ?_
  rintro x w3 ⟨rfl, ⟨Q3, hB3, hQ3⟩, t3⟩
  clear q3
  go_wp2_with fail
  go_end0
  have k1 : ∀ i, i < N → Q1 i → Q i ∨ vo.ownBlock = some i := fun i hi h => by
    rcases HQ1.out i h with h | h | h
    · exact Or.inl h
    · exact Or.inr h
    · have := Hz.out; omega
  have k2 : ∀ i, i < N → Q2 i → Q i ∨ vo.ownBlock = some i ∨ vn.ownBlock = some i := fun i hi h => by
    rcases HQ2.out i h with h | h | h
    · exact (k1 i hi h).imp id Or.inl
    · exact Or.inr (Or.inr h)
    · have := Hz.out; have := HT1.out.size; omega
  refine ⟨rfl, ⟨Q3, hB3, fun i h => ?_⟩, ?_⟩
  · by_cases hi : i < N
    · rcases hQ3 i h with h | h | h
      · exact (k2 i hi h).imp id (fun h => Or.inl (h.imp id Or.inl))
      · exact Or.inr (Or.inl (Or.inr (Or.inr h)))
      · have := Hz.out; have := HT1.out.size; have := HT2.out.size; omega
    · exact Or.inr (Or.inr (by have := HN.out; omega))
  · have a0 : Tch (fun i => Q i ∨ vo.ownBlock = some i ∨ vn.ownBlock = some i ∨ vc.ownBlock = some i) w w0 := HT0.out.mono (fun _ _ e => e.elim)
    have hN' := HN.out
    refine ((a0.trans HT1.out (fun i hi h => h.imp id Or.inl)).trans HT2.out (fun i hi h => ?_)).trans t3 (fun i hi h => ?_)
    · rcases h with h | h
      · exact (k1 i (by omega) h).imp id Or.inl
      · exact Or.inr (Or.inr (Or.inl h))
    · rcases h with h | h
      · exact (k2 i (by omega) h).imp id (fun h => h.imp id Or.inl)
      · exact Or.inr (Or.inr (Or.inr h))
end Go.Proofs.YteaagnlhkopgdaaGreatDoor.C
namespace Go.Proofs.YteaagnlhkopgdaaGreatDoor.C
open Go.Lib
abbrev Ds := List UInt8 × Bool
def dRaw (n : Int) (p : Ds) : List UInt8 × Ds := if p.2 = true ∨ n < 0 ∨ (p.1.length : Int) < n then ([], (p.1, true)) else (p.1.take n.toNat, (p.1.drop n.toNat, false))
def dByte (p : Ds) : Nat × Ds := match p with
  | (b :: r, false) => (b.toNat, (r, false))
  | (l, _) => (0, (l, true))
theorem dByte_r (b : UInt8) (r : List UInt8) : dByte (b :: r, false) = (b.toNat, (r, false)) := rfl
def dDg : Nat → Nat → Nat → Ds → Nat × Ds
  | 0, _, _, p => (0, (p.1, true))
  | f + 1, i, n, p => if (dByte p).2.2 = true then (0, (dByte p).2) else if (dByte p).1 < 128 then (n + (dByte p).1 % 128 * 128 ^ i, (dByte p).2) else dDg f (i + 1) (n + (dByte p).1 % 128 * 128 ^ i) (dByte p).2
def dNum (p : Ds) : Nat × Ds := dDg 5 0 0 p
def dMost (m : Nat) (q : Nat × Ds) : Ds := if m < q.1 then (q.2.1, true) else q.2
def dText (m : Nat) (p : Ds) : ByteArray × Ds := (⟨(dRaw (dNum p).1 (dMost m (dNum p))).1.toArray⟩, (dRaw (dNum p).1 (dMost m (dNum p))).2)
def dRow (p : Ds) : List Val × Ds := match decR (dText 1700 p).1 with
  | some vs => (vs, (dText 1700 p).2)
  | none => ([], ((dText 1700 p).2.1, true))
def dCol (p : Ds) : Col × Ds := (⟨(dText 16 p).1, (dByte (dText 16 p).2).1, decide ((dByte (dByte (dText 16 p).2).2).1 = 1)⟩, (dByte (dByte (dText 16 p).2).2).2)
def dCols : Nat → Ds → List Col → List Col × Ds
  | 0, p, l => (l, p)
  | n + 1, p, l => if p.2 = true then (l, p) else dCols n (dCol p).2 (l ++ [(dCol p).1])
def dTab (p : Ds) : Tbl × Ds :=
  let i := dNum p
  let v := dNum i.2
  let t := dText 16 v.2
  let n := dByte t.2
  let c := dCols n.1 n.2 []
  let k := dByte c.2
  (⟨i.1, v.1, t.1, c.1, k.1⟩, k.2)
theorem dRaw_r (l r : List UInt8) : dRaw l.length (l ++ r, false) = (l, (r, false)) := by
  unfold dRaw
  rw [if_neg (by simp; omega)]
  simp
theorem dDg_r : ∀ (g f i n q : Nat) (r : List UInt8), q < 128 ^ f → f ≤ g → 0 < f → dDg f i n (dgf g q ++ r, false) = (n + q * 128 ^ i, (r, false))
  | 0, f, i, n, q, r, _, h2, h3 => by omega
  | g + 1, 0, i, n, q, r, _, _, h3 => by omega
  | g + 1, f + 1, i, n, q, r, h1, h2, _ => by
    by_cases hq : q < 128
    · have e : (UInt8.ofNat q).toNat = q := by rw [UInt8.toNat_ofNat']; omega
      rw [dgf_last hq]
      unfold dDg
      simp only [List.singleton_append, dByte, e]
      rw [if_neg (by simp), if_pos hq, Nat.mod_eq_of_lt hq]
    · have e : (UInt8.ofNat (q % 128 + 128)).toNat = q % 128 + 128 := by rw [UInt8.toNat_ofNat']; omega
      rw [dgf_more hq]
      unfold dDg
      simp only [List.cons_append, dByte, e]
      rw [if_neg (by simp), if_neg (by omega)]
      have hf : 0 < f := by
        rcases Nat.eq_zero_or_pos f with hf | hf
        · subst hf; simp at h1; omega
        · exact hf
      have hd : q / 128 < 128 ^ f := by
        rw [Nat.div_lt_iff_lt_mul (by omega)]
        rw [Nat.pow_succ] at h1
        exact h1
      rw [dDg_r g f (i + 1) _ (q / 128) r hd (by omega) hf]
      have e2 : (q % 128 + 128) % 128 = q % 128 := by omega
      rw [e2, Nat.pow_succ]
      refine Prod.ext ?_ rfl
      show n + q % 128 * 128 ^ i + q / 128 * (128 ^ i * 128) = n + q * 128 ^ i
      have e3 : q = q % 128 + q / 128 * 128 := by omega
      obtain ⟨P, hP⟩ : ∃ P, P = 128 ^ i := ⟨_, rfl⟩
      rw [← hP]
      have e4 : q * P = q % 128 * P + q / 128 * (P * 128) := by
        conv => lhs; rw [e3]
        rw [Nat.add_mul, Nat.mul_assoc, Nat.mul_comm 128 P]
      rw [e4, Nat.add_assoc]
theorem dNum_r (q : Nat) (r : List UInt8) (h : q < 34359738368) : dNum (dg q ++ r, false) = (q, (r, false)) := by
  unfold dNum dg
  rw [dDg_r 10 5 0 0 q r (by simpa using h) (by omega) (by omega)]
  simp
theorem dText_r (m : Nat) (s : ByteArray) (r : List UInt8) (hm : s.size ≤ m) (h : s.size < 34359738368) : dText m (textL s ++ r, false) = (s, (r, false)) := by
  unfold dText textL
  rw [List.append_assoc, dNum_r _ _ h]
  have e : s.data.toList.length = s.size := by simp
  have := dRaw_r s.data.toList r
  rw [e] at this
  have e2 : dMost m (s.size, (s.data.toList ++ r, false)) = (s.data.toList ++ r, false) := by unfold dMost; rw [if_neg (by simp only; omega)]
  simp only [e2, this]
theorem dRow_r (vs : List Val) (r : List UInt8) (h0 : (encR vs).2 = 0) (hi : ∀ v ∈ vs, v.i64) : dRow (rowL vs ++ r, false) = (vs, (r, false)) := by
  have hl := encR_len vs
  have hsz : (⟨(encR vs).1.toArray⟩ : ByteArray).size = (encR vs).1.length := by show (encR vs).1.toArray.size = _; simp
  have e := thr_row (vs := vs) (l := (encR vs).1) (Prod.ext rfl h0) hi
  unfold dRow rowL
  rw [dText_r 1700 _ _ (by rw [hsz]; omega) (by rw [hsz]; omega)]
  simp only [e.1]
theorem dCol_r (c : Col) (r : List UInt8) (h1 : nmOk c.nm = true) (h2 : kdOk c.k = true) : dCol (colL c ++ r, false) = (c, (r, false)) := by
  have hs := nm_size h1
  have k1 := byte1 (kd_rng h2).1 (kd_rng h2).2
  unfold dCol colL
  rw [List.append_assoc, dText_r 16 _ _ (by omega) (by omega)]
  have e : bytesL [c.k, nb c.nl] ++ r = UInt8.ofNat c.k.toNat :: UInt8.ofNat (nb c.nl).toNat :: r := rfl
  simp only [e, dByte_r]
  refine Prod.ext (Col.ext' ⟨rfl, k1, ?_⟩) rfl
  show decide ((UInt8.ofNat (nb c.nl).toNat).toNat = 1) = c.nl
  cases c.nl <;> rfl
theorem dCols_r : ∀ (l : List Col) (m : List Col) (r : List UInt8), (∀ c ∈ l, nmOk c.nm = true ∧ kdOk c.k = true) → dCols l.length (colsL l ++ r, false) m = (m ++ l, (r, false))
  | [], m, r, _ => by simp [dCols, colsL]
  | c :: l, m, r, hc => by
    have e : colsL (c :: l) = colL c ++ colsL l := List.flatMap_cons
    have h1 := dCol_r c (colsL l ++ r) (hc c (by simp)).1 (hc c (by simp)).2
    show dCols (l.length + 1) _ m = _
    unfold dCols
    rw [e, List.append_assoc, h1]
    simp only
    rw [if_neg (by simp), dCols_r l _ r (fun x hx => hc x (by simp [hx]))]
    simp
theorem dTab_r (t : Tbl) (r : List UInt8) (ht : RT t) : dTab (tabL t ++ r, false) = (t, (r, false)) := by
  have i1 := ht.id
  have i2 := ht.ver
  have i3 := nm_size ht.nm
  have i4 := ht.len
  have i5 := ht.key
  have e4 : (UInt8.ofNat ((t.cols.length : Int)).toNat).toNat = t.cols.length := by
    have := byte1 (n := (t.cols.length : Int)) (by omega) (by omega); omega
  have ea : tabL t ++ r = dg t.id.toNat ++ (dg t.ver.toNat ++ (textL t.nm ++ (UInt8.ofNat ((t.cols.length : Int)).toNat :: (colsL t.cols ++ (UInt8.ofNat t.key.toNat :: r))))) := by
    unfold tabL
    simp only [List.append_assoc]
    rfl
  rw [ea]
  unfold dTab
  simp only [dNum_r _ _ (show t.id.toNat < 34359738368 by omega), dNum_r _ _ (show t.ver.toNat < 34359738368 by omega), dText_r 16 t.nm _ i3 (show t.nm.size < 34359738368 by omega), dByte_r, e4, dCols_r t.cols [] _ ht.cols]
  refine Prod.ext ?_ rfl
  obtain ⟨id, ver, nm, cols, key⟩ := t
  simp only at i1 i2 i5 ⊢
  have k1 : ((id.toNat : Nat) : Int) = id := by omega
  have k2 : ((ver.toNat : Nat) : Int) = ver := by omega
  have k3 : ((UInt8.ofNat key.toNat).toNat : Int) = key := byte1 (by omega) (by simp only at i4; omega)
  rw [k1, k2, k3]; simp
def dC (k : Int) (c : Nat) (p : Ds) : Rc × Ds := match c with
  | 1 => let r1 := dNum p; let r2 := dNum r1.2; ({ rc0 k with x := r1.1, l := r2.1 }, r2.2)
  | 2 => let r1 := dTab p; ({ rc0 k with tb := r1.1 }, r1.2)
  | 3 => let r1 := dNum p; let r2 := dRow r1.2; ({ rc0 k with t := r1.1, n := r2.1 }, r2.2)
  | 4 => let r1 := dNum p; let r2 := dRow r1.2; let r3 := dRow r2.2; ({ rc0 k with t := r1.1, o := r2.1, n := r3.1 }, r3.2)
  | 5 => let r1 := dNum p; let r2 := dRow r1.2; ({ rc0 k with t := r1.1, o := r2.1 }, r2.2)
  | 6 => let r1 := dNum p; ({ rc0 k with t := r1.1 }, r1.2)
  | 7 => let r1 := dNum p; let r2 := dNum r1.2; let r3 := dNum r2.2; ({ rc0 k with x := r1.1, l := r2.1, e := r3.1 }, r3.2)
  | 8 => let r1 := dNum p; ({ rc0 k with l := r1.1 }, r1.2)
  | _ => (rc0 k, p)
theorem dC_r {r : Rc} (hr : rightC (cls r.k) r) (hc : cutC (cls r.k) r = r) (ho : ∀ v ∈ r.o, v.i64) (hn : ∀ v ∈ r.n, v.i64) : dC r.k (cls r.k) (bodyL (cls r.k) r, false) = (r, ([], false)) := by
  have hE : ∀ l, l ++ [] = l := fun l : List UInt8 => List.append_nil l
  rcases cls_rng r.k with h0 | ⟨_, _, h1, h2⟩
  · rw [h0] at hr; exact hr.elim
  · obtain ⟨c, hcc⟩ : ∃ c, c = cls r.k := ⟨_, rfl⟩
    rw [← hcc] at hr hc h1 h2 ⊢
    clear hcc
    have hc0 : c = 1 ∨ c = 2 ∨ c = 3 ∨ c = 4 ∨ c = 5 ∨ c = 6 ∨ c = 7 ∨ c = 8 := by omega
    rcases hc0 with rfl | rfl | rfl | rfl | rfl | rfl | rfl | rfl
    · have hr : rtN r.x ∧ rtP r.l := hr
      unfold rtN rtP at hr
      have g1 := dNum_r r.x.toNat (dg r.l.toNat) (by omega)
      have g2 := dNum_r r.l.toNat [] (by omega)
      rw [hE] at g2
      show dC r.k 1 (dg r.x.toNat ++ dg r.l.toNat, false) = _
      refine Prod.ext ?_ ?_
      · conv => rhs; rw [← hc]
        simp only [dC, cutC, g1, g2, to_nat (show 0 ≤ r.x by omega), to_nat (show 0 ≤ r.l by omega)]
      · simp only [dC, g1, g2]
    · have hr : rightE r.tb = 0 := hr
      have hs := right_rt hr
      have g1 := dTab_r r.tb [] hs
      rw [hE] at g1
      show dC r.k 2 (tabL r.tb, false) = _
      refine Prod.ext ?_ ?_
      · conv => rhs; rw [← hc]
        simp only [dC, cutC, g1]
      · simp only [dC, g1]
    · have hr : rtN r.t ∧ rtRow r.n := hr
      unfold rtN rtRow at hr
      have g1 := dNum_r r.t.toNat (rowL r.n) (by omega)
      have g2 := dRow_r r.n [] hr.2.2 hn
      rw [hE] at g2
      show dC r.k 3 (dg r.t.toNat ++ rowL r.n, false) = _
      refine Prod.ext ?_ ?_
      · conv => rhs; rw [← hc]
        simp only [dC, cutC, g1, g2, to_nat (show 0 ≤ r.t by omega)]
      · simp only [dC, g1, g2]
    · have hr : rtN r.t ∧ rtRow r.o ∧ rtRow r.n := hr
      unfold rtN rtRow at hr
      have g1 := dNum_r r.t.toNat (rowL r.o ++ rowL r.n) (by omega)
      have g2 := dRow_r r.o (rowL r.n) hr.2.1.2 ho
      have g3 := dRow_r r.n [] hr.2.2.2 hn
      rw [hE] at g3
      show dC r.k 4 (dg r.t.toNat ++ (rowL r.o ++ rowL r.n), false) = _
      refine Prod.ext ?_ ?_
      · conv => rhs; rw [← hc]
        simp only [dC, cutC, g1, g2, g3, to_nat (show 0 ≤ r.t by omega)]
      · simp only [dC, g1, g2, g3]
    · have hr : rtN r.t ∧ rtRow r.o := hr
      unfold rtN rtRow at hr
      have g1 := dNum_r r.t.toNat (rowL r.o) (by omega)
      have g2 := dRow_r r.o [] hr.2.2 ho
      rw [hE] at g2
      show dC r.k 5 (dg r.t.toNat ++ rowL r.o, false) = _
      refine Prod.ext ?_ ?_
      · conv => rhs; rw [← hc]
        simp only [dC, cutC, g1, g2, to_nat (show 0 ≤ r.t by omega)]
      · simp only [dC, g1, g2]
    · have hr : rtN r.t := hr
      unfold rtN at hr
      have g1 := dNum_r r.t.toNat [] (by omega)
      rw [hE] at g1
      show dC r.k 6 (dg r.t.toNat, false) = _
      refine Prod.ext ?_ ?_
      · conv => rhs; rw [← hc]
        simp only [dC, cutC, g1, to_nat (show 0 ≤ r.t by omega)]
      · simp only [dC, g1]
    · have hr : (rtN r.x ∧ rtP r.l) ∧ rtP r.e ∧ r.l < r.e := hr
      unfold rtN rtP at hr
      have g1 := dNum_r r.x.toNat (dg r.l.toNat ++ dg r.e.toNat) (by omega)
      have g2 := dNum_r r.l.toNat (dg r.e.toNat) (by omega)
      have g3 := dNum_r r.e.toNat [] (by omega)
      rw [hE] at g3
      show dC r.k 7 (dg r.x.toNat ++ (dg r.l.toNat ++ dg r.e.toNat), false) = _
      refine Prod.ext ?_ ?_
      · conv => rhs; rw [← hc]
        simp only [dC, cutC, g1, g2, g3, to_nat (show 0 ≤ r.x by omega), to_nat (show 0 ≤ r.l by omega), to_nat (show 0 ≤ r.e by omega)]
      · simp only [dC, g1, g2, g3]
    · have hr : rtP r.l := hr
      unfold rtP at hr
      have g1 := dNum_r r.l.toNat [] (by omega)
      rw [hE] at g1
      show dC r.k 8 (dg r.l.toNat, false) = _
      refine Prod.ext ?_ ?_
      · conv => rhs; rw [← hc]
        simp only [dC, cutC, g1, to_nat (show 0 ≤ r.l by omega)]
      · simp only [dC, g1]
end Go.Proofs.YteaagnlhkopgdaaGreatDoor.C
namespace Go.Proofs.YteaagnlhkopgdaaGreatDoor.C
open Go.Lib
def bl (s : ByteArray) : List UInt8 := s.data.toList
theorem bl_app (a b : ByteArray) : bl (a ++ b) = bl a ++ bl b := by unfold bl; rw [ByteArray.data_append]; simp
theorem bl_eq {a b : ByteArray} (h : bl a = bl b) : a = b := by
  apply ByteArray.ext
  exact Array.toList_inj.1 h
theorem bl_size (a : ByteArray) : (bl a).length = a.size := by unfold bl; rw [Array.length_toList]; rfl
theorem bl_mk (l : List UInt8) : bl ⟨l.toArray⟩ = l := by simp [bl]
def bB (l : List UInt8) : ByteArray := ⟨l.toArray⟩
theorem bB_of {b : ByteArray} {l : List UInt8} (h : bl b = l) : b = bB l := bl_eq (by rw [h]; exact (bl_mk l).symm)
theorem bl_bB (l : List UInt8) : bl (bB l) = l := bl_mk l
theorem size_bB (l : List UInt8) : (bB l).size = l.length := by rw [← bl_size, bl_bB]
theorem size_app (a b : ByteArray) : (a ++ b).size = a.size + b.size := by rw [← bl_size, bl_app, List.length_append, bl_size, bl_size]
theorem textL_bl (s : ByteArray) : textL s = dg s.size ++ bl s := rfl
structure Dg (n : Nat) (S : ByteArray) (m : Nat) : Prop where
  sz : S.size ≤ 9
  eq : bl S ++ dgf (10 - S.size) m = dg n
  lt : m < 128 ^ (10 - S.size)
theorem Dg.start {n : Nat} (h : n ≤ 9223372036854775807) : Dg n ⟨#[]⟩ n := by
  refine ⟨Nat.zero_le _, rfl, ?_⟩
  show n < 128 ^ 10
  have : (128 : Nat) ^ 10 = 1180591620717411303424 := by decide
  omega
theorem Dg.more {n m : Nat} {S : ByteArray} (h : Dg n S m) (hm : ¬ m < 128) : Dg n (S ++ ⟨#[UInt8.ofNat (m % 128 + 128)]⟩) (m / 128) := by
  have hs := h.sz
  have hl := h.lt
  obtain ⟨f, hf⟩ : ∃ f, 10 - S.size = f + 1 := ⟨9 - S.size, by omega⟩
  have hf0 : f ≠ 0 := by
    rintro rfl
    rw [hf] at hl
    omega
  have e1 : (S ++ ⟨#[UInt8.ofNat (m % 128 + 128)]⟩ : ByteArray).size = S.size + 1 := size_app _ _
  refine ⟨by rw [e1]; omega, ?_, ?_⟩
  · rw [e1, show 10 - (S.size + 1) = f by omega, bl_app, ← h.eq, hf, dgf_more hm]
    simp [bl]
  · rw [e1, show 10 - (S.size + 1) = f by omega]
    rw [hf, Nat.pow_succ] at hl
    exact Nat.div_lt_of_lt_mul (by omega)
theorem Dg.done {n m : Nat} {S : ByteArray} (h : Dg n S m) (hm : m < 128) : bl (S ++ ⟨#[UInt8.ofNat m]⟩) = dg n := by
  have hs := h.sz
  obtain ⟨f, hf⟩ : ∃ f, 10 - S.size = f + 1 := ⟨9 - S.size, by omega⟩
  rw [bl_app, ← h.eq, hf, dgf_last hm]
  rfl
def dgI (n : Int) : List UInt8 := if 0 ≤ n then dg n.toNat else [UInt8.ofNat (n % 256).toNat]
theorem dgI_pos {n : Int} (h : 0 ≤ n) : dgI n = dg n.toNat := if_pos h
theorem dg_len (n : Nat) : (dg n).length ≤ 10 := dgf_len 10 n
theorem dgI_len (n : Int) : (dgI n).length ≤ 10 := by
  unfold dgI
  split
  · exact dg_len _
  · show (1 : Nat) ≤ 10; omega
end Go.Proofs.YteaagnlhkopgdaaGreatDoor.C
namespace Go.Proofs.YteaagnlhkopgdaaGreatDoor.C
open Go.RowKit Go Go.Sort
theorem rsameT_col (i v : Int) (m : ByteArray) (key : Int) (ca cb : List Col) (ao bo : Option Addr) (ac bc : Nat) (w : World) (hA : SL w ao (ccl ca)) (hB : SL w bo (ccl cb)) (hl : ca.length ≤ 4398046511104) (e5 : ca.length = cb.length) :
    Calls Tryz.prog 44 #[tA i v m (.slice ao ca.length ac) key, tA i v m (.slice bo cb.length bc) key] w fun x w' => EqT (ca = cb) w x w' := by
  obtain ⟨n, hn⟩ : ∃ n, n = ca.length := ⟨_, rfl⟩
  have hn2 : n = cb.length := by omega
  obtain ⟨N, hN⟩ : ∃ N, N = w.heap.size := ⟨_, rfl⟩
  obtain ⟨w0, hw0⟩ : ∃ w0, w0 = (w.alloc (.cells #[.int .i64 i, .int .i64 v, .string m, .slice ao n ac, .int .i64 key] 24)).alloc (.cells #[.int .i64 i, .int .i64 v, .string m, .slice bo n bc, .int .i64 key] 24) := ⟨_, rfl⟩
  have t0 : Tch (fun _ => False) w w0 := by rw [hw0]; exact (Tch.alloc _ _ _).allocR _
  have hX : w0.heap[N]? = some (.cells #[.int .i64 i, .int .i64 v, .string m, .slice ao n ac, .int .i64 key] 24 (0, 0)) := by
    rw [hw0, hN]; exact (Tch.alloc (fun _ => False) _ _).block _ (by simp) (fun h => h) |>.trans (alloc_new _ _)
  have hY : w0.heap[N + 1]? = some (.cells #[.int .i64 i, .int .i64 v, .string m, .slice bo n bc, .int .i64 key] 24 (0, 0)) := by
    rw [hw0, hN, ← World.size_alloc]; exact alloc_new _ _
  have HB : Hid (∀ W, Tch (fun _ => False) w0 W → W.cell? ⟨N, 3, none⟩ = some (.slice ao n ac) ∧ W.cell? ⟨N + 1, 3, none⟩ = some (.slice bo n bc) ∧ SL W ao (ccl ca) ∧ SL W bo (ccl cb)) := fun W tW => by
    have h1 : W.heap[N]? = _ := (tW.block N (blk_lt hX) (fun h => h)).trans hX
    have h2 : W.heap[N + 1]? = _ := (tW.block (N + 1) (blk_lt hY) (fun h => h)).trans hY
    exact ⟨by rw [blk_cell h1]; rfl, by rw [blk_cell h2]; rfl, hA.no (t0.trans' tW), hB.no (t0.trans' tW)⟩
  have HT0 : Hid (Tch (fun _ => False) w w0) := t0
  have Hw0 : Hid _ := hw0
  have HN : Hid (N = w.heap.size) := hN
  have Hn : Hid (n = ca.length ∧ n = cb.length) := ⟨hn, hn2⟩
  have hn8 : n ≤ 4398046511104 := by omega
  rw [← hn, ← hn2]
  clear hA hB hw0 hN hX hY t0 hn hn2 e5 hl
  go_enter Tryz.func44, Tryz.ntmps44
  go_wp2_with fail
  have hw0 := Hw0.out
  rw [← hw0]
  rw [← HN.out]
  clear hw0
  go_loopw [5] (fun i wr => ∃ k : Nat, i = .int .i64 k ∧ k ≤ n ∧ Hid (∀ j (h1 : j < ca.length) (h2 : j < cb.length), j < k → ca[j] = cb[j]) ∧ Hid (Tch (fun _ => False) w0 wr)) (fun i _ => n - (intOf i).toNat)
  case atStart => exact ⟨0, rfl, by omega, fun j _ _ h => by omega, Tch.refl _ _⟩
  case round =>
    obtain ⟨k, rfl, hk, HE, HT⟩ := hrel
    obtain ⟨wV, hwV⟩ : ∃ wV, wV = wr := ⟨_, rfl⟩
    subst hwV
    obtain ⟨b3, b4, s1, s2⟩ := HB.out wV HT.out
    by_cases hlt : (k : Int) < n
    · have hka : k < ca.length := by have := Hn.out.1; omega
      have hkb : k < cb.length := by have := Hn.out.2; omega
      obtain ⟨ga, oa, rfl, ha⟩ := s1.col hka
      obtain ⟨gb, ob, rfl, hb⟩ := s2.col hkb
      obtain ⟨c0, c1, c2⟩ := ha.col k hka
      obtain ⟨d0, d1, d2⟩ := hb.col k hkb
      obtain ⟨x, hx⟩ : ∃ x, x = ca[k] := ⟨_, rfl⟩
      obtain ⟨y, hy⟩ : ∃ y, y = cb[k] := ⟨_, rfl⟩
      rw [← hx] at c0 c1 c2
      rw [← hy] at d0 d1 d2
      obtain ⟨dd, hdd, hnd⟩ := ne_col x y
      have HD : Hid (dd = true ↔ x ≠ y) := hdd
      have HU : Hid (x = ca[k] ∧ y = cb[k]) := ⟨hx, hy⟩
      have HTQ : Hid (∀ nq, Tch (fun _ => False) w0 (wV.drewN nq)) := fun nq => HT.out.drewN _
      clear hdd ha hb hx hy s1 s2
      cases dd with
      | true =>
        go_wp2_with fail
        go_quiet (fail)
        clear c0 c1 c2 d0 d1 d2 hnd b3 b4
        have HTq := HTQ.out nq
        go_wp2_with fail
        go_ret
        refine eqT_no (fun e => ?_) (HT0.out.trans' HTq)
        exact absurd (by rw [HU.out.1, HU.out.2]; subst e; rfl) (HD.out.1 (by trivial))
      | false =>
        have HE2 : Hid (∀ j (h1 : j < ca.length) (h2 : j < cb.length), j < k + 1 → ca[j] = cb[j]) := fun j h1 h2 hj => by
          rcases Nat.lt_or_ge j k with h | h
          · exact HE.out j h1 h2 h
          · obtain rfl : j = k := by omega
            rw [← HU.out.1, ← HU.out.2]
            exact Classical.byContradiction fun hne => by have := HD.out.2 hne; simp at this
        go_wp2_with fail
        go_quiet (fail)
        clear c0 c1 c2 d0 d1 d2 hnd b3 b4
        have HTq := HTQ.out nq
        go_wp2_with fail
        go_roundw
        case rel => exact ⟨k + 1, by go_num, by omega, HE2, HTq⟩
        case measure => simp [intOf]; omega
    · clear s1 s2
      go_wp2_with fail
      go_ret
      refine ⟨true, rfl, ⟨fun _ => List.ext_getElem (Hn.out.1.symm.trans Hn.out.2) (fun j h1 h2 => HE.out j h1 h2 (by have := Hn.out.1; omega)), fun _ => rfl⟩, HT0.out.trans' HT.out⟩
theorem rsameT_any (a b : Tbl) (ao bo : Option Addr) (ac bc : Nat) (w : World) (hA : SL w ao (ccl a.cols)) (hB : SL w bo (ccl b.cols)) (hl : a.cols.length ≤ 4398046511104) :
    Calls Tryz.prog 44 #[tA a.id a.ver a.nm (.slice ao a.cols.length ac) a.key, tA b.id b.ver b.nm (.slice bo b.cols.length bc) b.key] w fun x w' => EqT (a = b) w x w' := by
  by_cases e1 : a.id = b.id
  · have e1' := int_eq' e1
    by_cases e2 : a.ver = b.ver
    · have e2' := int_eq' e2
      by_cases e3 : a.nm = b.nm
      · have e3' := bs_eq e3
        by_cases e4 : a.key = b.key
        · have e4' := int_eq' e4
          by_cases e5 : a.cols.length = b.cols.length
          · have q := rsameT_col a.id a.ver a.nm a.key a.cols b.cols ao bo ac bc w hA hB hl e5
            rw [e1, e2, e3, e4] at q ⊢
            refine q.mono ?_
            rintro x w' ⟨d, h1, h2, h3⟩
            exact ⟨d, h1, h2.trans ⟨fun h => Tbl.ext' ⟨e1, e2, e3, h, e4⟩, fun h => by rw [h]⟩, h3⟩
          · have e5' : ((a.cols.length : Int) != b.cols.length) = true := by simp; omega
            clear hA hB
            go_enter Tryz.func44, Tryz.ntmps44
            go_wp2_with fail
            go_ret
            exact eqT_no (fun e => e5 (by rw [e])) ((Tch.alloc _ _ _).allocR _)
        · have e4' := int_ne e4
          clear hA hB
          go_enter Tryz.func44, Tryz.ntmps44
          go_wp2_with fail
          go_ret
          exact eqT_no (fun e => e4 (by rw [e])) ((Tch.alloc _ _ _).allocR _)
      · have e3' := bs_ne e3
        clear hA hB
        go_enter Tryz.func44, Tryz.ntmps44
        go_wp2_with fail
        go_ret
        exact eqT_no (fun e => e3 (by rw [e])) ((Tch.alloc _ _ _).allocR _)
    · have e2' := int_ne e2
      clear hA hB
      go_enter Tryz.func44, Tryz.ntmps44
      go_wp2_with fail
      go_ret
      exact eqT_no (fun e => e2 (by rw [e])) ((Tch.alloc _ _ _).allocR _)
  · have e1' := int_ne e1
    clear hA hB
    go_enter Tryz.func44, Tryz.ntmps44
    go_wp2_with fail
    go_ret
    exact eqT_no (fun e => e1 (by rw [e])) ((Tch.alloc _ _ _).allocR _)
end Go.Proofs.YteaagnlhkopgdaaGreatDoor.C
