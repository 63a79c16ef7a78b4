import Derived.Test.YtmnhkgibplnnnaaUR2
/- alike, of the same changes. -/
namespace Go.Proofs.Ytmnhkgibplnnnaa
open Go.RowKit Go

structure Vl where
  k : Int
  n : Int
  s : ByteArray
def vc (v : Vl) : List Value := [.int .i64 v.k, .int .i64 v.n, .string v.s]
def vcl (l : List Vl) : List Value := l.flatMap vc
theorem vcl_get (l : List Vl) : ∀ i v, l[i]? = some v → ∀ j u, (vc v)[j]? = some u → (vcl l)[i * 3 + j]? = some u := by
  induction l with
  | nil => intro i v h; simp at h
  | cons a l ih =>
    intro i v h j u hu
    have hj : j < 3 := (List.getElem?_eq_some_iff.1 hu).1
    cases i with
    | zero =>
      obtain rfl : a = v := by simpa using h
      show (vc a ++ vcl l)[0 * 3 + j]? = _
      rw [Nat.zero_mul, Nat.zero_add, List.getElem?_append_left (by show j < 3; exact hj)]; exact hu
    | succ i =>
      show (vc a ++ vcl l)[(i + 1) * 3 + j]? = _
      rw [List.getElem?_append_right (by show 3 ≤ _; omega)]
      rw [show (i + 1) * 3 + j - (vc a).length = i * 3 + j by show (i + 1) * 3 + j - 3 = _; omega]
      exact ih i v (by simpa using h) j u hu
theorem RdR.nth {w : World} {ao : Option Addr} {n c : Nat} {l : List Vl} (h : RdR w ao n c (vcl l)) {i : Nat} {v : Vl} (hi : l[i]? = some v) : ∃ g o, ao = some ⟨g, o, none⟩ ∧ w.cell? ⟨g, o + i * 3, none⟩ = some (.int .i64 v.k) ∧ w.cell? ⟨g, o + i * 3 + 1, none⟩ = some (.int .i64 v.n) ∧ w.cell? ⟨g, o + i * 3 + 2, none⟩ = some (.string v.s) := by
  rcases h.at' with ⟨_, e, _⟩ | ⟨⟨g, o, sp⟩, e, hc⟩
  · have hl := h.len
    have := vcl_get l i v hi 0 _ rfl
    have h2 := (List.getElem?_eq_some_iff.1 this).1
    omega
  · have h0 : 0 < l.length := by have := (List.getElem?_eq_some_iff.1 hi).1; omega
    have hsp : sp = none := by simpa [Addr.add] using World.cell?_spot (hc _ _ (vcl_get l 0 _ (List.getElem?_eq_getElem h0) 0 _ rfl))
    subst hsp
    simp only [add_plain] at hc
    refine ⟨g, o, e, ?_, ?_, ?_⟩
    · have := hc _ _ (vcl_get l i v hi 0 _ rfl); rw [Nat.add_zero] at this; exact this
    · have := hc _ _ (vcl_get l i v hi 1 _ rfl); rw [← Nat.add_assoc] at this; exact this
    · have := hc _ _ (vcl_get l i v hi 2 _ rfl); rw [← Nat.add_assoc] at this; exact this
theorem veq (v : Vl) (w : World) : (Op.equalIn 10000 76 (.agg #[.int .i64 v.k, .int .i64 v.n, .string v.s]) (.agg #[.int .i64 v.k, .int .i64 v.n, .string v.s])).run Try.prog w = .ok true w := by
  have u3 := Try.underlying3
  have u9 := Try.underlying9
  have hS : Try.prog.underlying 76 = some (.struct (Try.prog.fieldsOf 76)) := by kernel_rfl
  have hp : Try.prog.stoodInHeld 76 = false := by kernel_rfl
  rw [show (10000 : Nat) = 9999 + 1 from rfl, run_equalIn_agg w 9999 76 _ _ hS hp]
  simp only [Program.fieldsOf, Try.underlying76]
  go_simp
theorem vne (v : Vl) (w : World) : (binOp .neq 76 (.agg #[.int .i64 v.k, .int .i64 v.n, .string v.s]) (.agg #[.int .i64 v.k, .int .i64 v.n, .string v.s])).run Try.prog w = .ok (.bool false) w := by
  rw [run_neq_struct, veq]; rfl
set_option maxHeartbeats 8000000 in
set_option maxRecDepth 1000000 in
theorem alike_same (a b : Rc) (vo vn : List Vl) (w : World) (s : Sm a b) (ho : a.ol = vo.length) (hn : a.nl = vn.length) (o1 : RdR w a.oa a.ol a.oc (vcl vo)) (o2 : RdR w b.oa a.ol b.oc (vcl vo)) (n1 : RdR w a.na a.nl a.nc (vcl vn)) (n2 : RdR w b.na a.nl b.nc (vcl vn)) (hco : a.ol ≤ a.oc ∧ a.ol ≤ b.oc ∧ a.oc ≤ 9223372036854775807 ∧ b.oc ≤ 9223372036854775807) (hcn : a.nl ≤ a.nc ∧ a.nl ≤ b.nc ∧ a.nc ≤ 9223372036854775807 ∧ b.nc ≤ 9223372036854775807) :
    Calls Try.prog 15 #[rcV a, rcV b] w fun e w' => e = .returned (.bool true) ∧ Tch (fun _ => False) w w' := by
  obtain ⟨w0, hw0⟩ : ∃ w0, w0 = (w.alloc (.cells #[.int .i64 a.l, .int .i64 a.x, .int .i64 a.k, .int .i64 a.t, .slice a.oa a.ol a.oc, .slice a.na a.nl a.nc] 27)).alloc (.cells #[.int .i64 b.l, .int .i64 b.x, .int .i64 b.k, .int .i64 b.t, .slice b.oa b.ol b.oc, .slice b.na b.nl b.nc] 27) := ⟨_, rfl⟩
  have t0 : Tch (fun _ => False) w w0 := by rw [hw0]; exact (Tch.alloc _ _ _).allocR _
  have b1 : w0.heap[w.heap.size]? = some (.cells #[.int .i64 a.l, .int .i64 a.x, .int .i64 a.k, .int .i64 a.t, .slice a.oa a.ol a.oc, .slice a.na a.nl a.nc] 27 (0, 0)) := by
    rw [hw0, (Tch.alloc (fun _ => False) _ _).block _ (by simp) (fun h => h)]; exact alloc_new _ _
  have b2 : w0.heap[w.heap.size + 1]? = some (.cells #[.int .i64 b.l, .int .i64 b.x, .int .i64 b.k, .int .i64 b.t, .slice b.oa b.ol b.oc, .slice b.na b.nl b.nc] 27 (0, 0)) := by
    rw [hw0, ← World.size_alloc]; exact alloc_new _ _
  obtain ⟨la, xa, ka, ta, oa, ol, oc, na, nl, nc⟩ := a
  obtain ⟨lb, xb, kb, tb, ob, olb, ocb, nb, nlb, ncb⟩ := b
  obtain ⟨rfl, rfl, rfl, rfl, rfl, rfl⟩ : lb = la ∧ xb = xa ∧ kb = ka ∧ tb = ta ∧ olb = ol ∧ nlb = nl := ⟨s.l, s.x, s.k, s.t, s.o, s.n⟩
  simp only at ho hn o1 o2 n1 n2 hco hcn
  have HK : Hid (∀ W, Tch (fun _ => False) w0 W → W.heap[w.heap.size]? = some (.cells #[.int .i64 lb, .int .i64 xb, .int .i64 kb, .int .i64 tb, .slice oa olb oc, .slice na nlb nc] 27 (0, 0)) ∧ W.heap[w.heap.size + 1]? = some (.cells #[.int .i64 lb, .int .i64 xb, .int .i64 kb, .int .i64 tb, .slice ob olb ocb, .slice nb nlb ncb] 27 (0, 0))) := fun W t => ⟨(t.block _ (blk_lt b1) (fun h => h)).trans b1, (t.block _ (blk_lt b2) (fun h => h)).trans b2⟩
  have HR : Hid (∀ W, Tch (fun _ => False) w0 W → RdR W oa olb oc (vcl vo) ∧ RdR W ob olb ocb (vcl vo) ∧ RdR W na nlb nc (vcl vn) ∧ RdR W nb nlb ncb (vcl vn)) := fun W t => ⟨(o1.no t0).no t, (o2.no t0).no t, (n1.no t0).no t, (n2.no t0).no t⟩
  have HO : Hid (olb = vo.length ∧ nlb = vn.length) := ⟨ho, hn⟩
  have ol1 : olb ≤ 1000000000000 := o1.sm
  have nl1 : nlb ≤ 1000000000000 := n1.sm
  obtain ⟨q1, q2, q3, q4⟩ := hco
  obtain ⟨p1, p2, p3, p4⟩ := hcn
  have HT0 : Hid (Tch (fun _ => False) w w0) := t0
  have HW : Hid (w0 = _) := hw0
  obtain ⟨a0, a1, a2, a3, a4, a5⟩ := get6 b1
  obtain ⟨c0, c1, c2, c3, c4, c5⟩ := get6 b2
  clear s ho hn o1 o2 n1 n2 hw0 t0 b1 b2
  unfold rcV
  simp only
  go_enter Try.func15, Try.ntmps15
  go_upto_region 1 with (fail)
  rw [← HW.out]
  go_wp2_with fail
  go_loopg [5] olb (fun kx s5 wr => ∃ i : Nat, s5 = .int .i64 i ∧ olb - i ≤ kx ∧ i ≤ olb ∧ Hid (Tch (fun _ => False) w0 wr))
  case atStart => exact ⟨0, rfl, by omega, by omega, (Tch.refl _ _ : Tch (fun _ => False) w0 w0)⟩
  case round =>
    obtain ⟨i, rfl, hk, hin, T⟩ := hrel
    obtain ⟨b1, b2⟩ := HK.out wr T.out
    have d4 : wr.cell? ⟨w.heap.size, 4, none⟩ = some (.slice oa olb oc) := blk_cell b1 4
    have e4 : wr.cell? ⟨w.heap.size + 1, 4, none⟩ = some (.slice ob olb ocb) := blk_cell b2 4
    clear b1 b2 a0 a1 a2 a3 a4 a5 c0 c1 c2 c3 c4 c5
    by_cases hi : i < olb
    · have hi' : (i : Int) < (olb : Int) := by omega
      obtain ⟨v, hv⟩ : ∃ v, vo[i]? = some v := ⟨_, List.getElem?_eq_getElem (by have := HO.out.1; omega)⟩
      obtain ⟨r1, r2, -, -⟩ := HR.out wr T.out
      obtain ⟨g1, o1, h1, x0, x1, x2⟩ := r1.nth hv
      obtain ⟨g2, o2, h2, y0, y1, y2⟩ := r2.nth hv
      subst h1 h2
      have hne := vne v
      clear r1 r2 hv
      go_wp2_with fail
      go_quiet (fail)
      have TQ : Hid (Tch (fun _ => False) w0 (wr.drewN nq)) := T.out.drewN nq
      clear d4 e4 x0 x1 x2 y0 y1 y2 hne
      go_wp2
      go_roundg (olb - (i + 1))
      case measure => omega
      case rel => exact ⟨i + 1, rfl, by omega, by omega, TQ⟩
    · have hi' : ¬ (i : Int) < (olb : Int) := by omega
      rename World => w1
      go_wp2_with fail
      go_loopg [6] nlb (fun kx s6 wr => ∃ i : Nat, s6 = .int .i64 i ∧ nlb - i ≤ kx ∧ i ≤ nlb ∧ Hid (Tch (fun _ => False) w0 wr))
      case atStart => exact ⟨0, rfl, by omega, by omega, T⟩
      case round =>
        obtain ⟨i2, rfl, hk2, hin2, T2⟩ := hrel
        obtain ⟨b1, b2⟩ := HK.out wr T2.out
        have d5 : wr.cell? ⟨w.heap.size, 5, none⟩ = some (.slice na nlb nc) := blk_cell b1 5
        have e5 : wr.cell? ⟨w.heap.size + 1, 5, none⟩ = some (.slice nb nlb ncb) := blk_cell b2 5
        clear b1 b2 d4 e4
        by_cases hi2 : i2 < nlb
        · have hi2' : (i2 : Int) < (nlb : Int) := by omega
          obtain ⟨v, hv⟩ : ∃ v, vn[i2]? = some v := ⟨_, List.getElem?_eq_getElem (by have := HO.out.2; omega)⟩
          obtain ⟨-, -, r1, r2⟩ := HR.out wr T2.out
          obtain ⟨g1, o1, h1, x0, x1, x2⟩ := r1.nth hv
          obtain ⟨g2, o2, h2, y0, y1, y2⟩ := r2.nth hv
          subst h1 h2
          have hne := vne v
          clear r1 r2 hv
          go_wp2_with fail
          go_quiet (fail)
          have TQ : Hid (Tch (fun _ => False) w0 (wr.drewN nq)) := T2.out.drewN nq
          clear d5 e5 x0 x1 x2 y0 y1 y2 hne
          go_wp2
          go_roundg (nlb - (i2 + 1))
          case measure => omega
          case rel => exact ⟨i2 + 1, rfl, by omega, by omega, TQ⟩
        · have hi2' : ¬ (i2 : Int) < (nlb : Int) := by omega
          go_wp2
          go_ret
          exact ⟨rfl, HT0.out.trans' T2.out⟩
end Go.Proofs.Ytmnhkgibplnnnaa
