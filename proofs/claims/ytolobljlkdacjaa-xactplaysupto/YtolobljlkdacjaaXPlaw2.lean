import Derived.Test.YtolobljlkdacjaaXPl0
/- XactPlays: the law, where the first number may not be. -/
namespace Go.Proofs.Ytolobljlkdacjaa
open Go.RowKit Go

set_option maxHeartbeats 2000000 in
set_option maxRecDepth 100000 in
theorem plays_law2 (one two : Int) (ao : Option Addr) (len cap : Nat) (w : World) (b1 : -9223372036854775808 ≤ one) (b2 : one ≤ 9223372036854775807) (b3 : -9223372036854775808 ≤ two) (b4 : two ≤ 9223372036854775807) (hlen : len ≤ 1048576) (ops : Nat → Opv) (hops : ∀ k, k < len → ∃ g off, ao = some ⟨g, off, none⟩ ∧ OpAt w g (off + k * 7) (ops k) ∧ (ops k).ok w) (hr : one < 1 ∨ 2147483648 < one) :
    Calls Try.prog 3 #[.int .i64 one, .int .i64 two, .slice ao len cap] w fun x w' => x = .returned (.bool true) ∧ Tch (fun _ => False) w w' := by
  have hpk := pkN_lt two (n := 8) (by omega)
  have qp := fun W => pick_any two 8 W b3 b4 (by omega) (by omega)
  obtain ⟨pk, hpk'⟩ : ∃ pk, pk = pkN two 8 := ⟨_, rfl⟩
  rw [← hpk'] at hpk qp
  have Hqb : Hid _ := fun W o => begins_ok (2147483640 + pk) W o 20 (by omega) (by omega)
  have Hops : Hid _ := hops
  have _u : -9223372036854775808 ≤ one ∧ one ≤ 9223372036854775807 := ⟨b1, b2⟩
  clear _u
  have q1 := begins_no one w hr
  clear b1 b2 b3 b4 hr hpk' hops
  go_enter Try.func3, Try.ntmps3
  go_wp2_with fail
  refine q1.mono ?_
  rintro x w1 ⟨rfl, hsn, t1⟩
  clear q1
  go_wp2_with fail
  refine (qp w1).mono ?_
  rintro x wy ⟨rfl, hwy⟩
  obtain rfl := hwy.symm
  have q2 : Calls Try.prog 4 #[.int .i64 (2147483640 + (pk : Int))] w1 fun x w' => ∃ sb o', x = .returned (.tuple #[.pointer (some ⟨sb, 0, none⟩), .bool true]) ∧ Sd w' o' 20 sb ⟨2147483640 + pk, [], []⟩ [] 0 ∧ Ev (KS 20) w1 (fun _ => 0) w' o' := Hqb.out w1 (fun _ => 0)
  clear qp
  go_wp2_with fail
  refine q2.mono ?_
  rintro x wx ⟨sb, ox, rfl, hx, ex⟩
  clear q2
  have sn0 : wx.cell? ⟨w.heap.size, 0, none⟩ = some (.pointer none) := by
    have := ex.tch.block w.heap.size (blk_lt hsn) (fun h => by unfold KS at h; omega)
    rw [blk_cell (this.trans hsn)]; rfl
  obtain ⟨mbB, rbB, FB, GB, d0, d1, mB, rB⟩ := hx.ptrs
  have q4 : Calls Try.prog 4 #[.int .i64 1] wx fun x w' => ∃ sb o', x = .returned (.tuple #[.pointer (some ⟨sb, 0, none⟩), .bool true]) ∧ Sd w' o' 0 sb ⟨1, [], []⟩ [] 0 ∧ Ev (KS 0) wx ox w' o' := begins_ok 1 wx ox 0 (by omega) (by omega)
  have HX : Hid (Sd wx ox 20 sb ⟨2147483640 + pk, [], []⟩ [] 0 ∧ Ev (KS 20) w1 (fun _ => 0) wx ox ∧ Tch (fun _ => False) w w1) := ⟨hx, ex, t1⟩
  clear hx ex t1 hsn mB rB Hqb
  go_wp2_with fail
  refine q4.mono ?_
  rintro x w2 ⟨sa, o2, rfl, h1, e2⟩
  clear q4 sn0 d0 d1
  obtain ⟨mbA, rbA, FA, GA, c0, c1, mA, rA⟩ := h1.ptrs
  have q3 := rnext_x rbA _ w2 GA rA
  simp only [] at q3
  have HS : Hid (Sd w2 o2 0 sa ⟨1, [], []⟩ [] 0 ∧ Sd w2 o2 20 sb ⟨2147483640 + pk, [], []⟩ [] 0 ∧ (∀ i, i < w.heap.size → o2 i = 0) ∧ Tch (fun _ => False) w w2) := by
    obtain ⟨hx, ex, t1⟩ := HX.out
    have e : Ev (fun k => KS 0 k ∨ KS 20 k) w1 (fun _ => 0) w2 o2 := (ex.mono (fun k hk => Or.inr hk)).trans (e2.mono (fun k hk => Or.inl hk))
    exact ⟨h1, hx.ev e2 (fun j _ _ h => by unfold KS at h; omega), fun i hi => e.old i (Nat.lt_of_lt_of_le hi t1.size) (fun h => by rcases h with h | h <;> (unfold KS at h; omega)), t1.trans (e.tch.mono (fun i _ h => by rcases h with h | h <;> (unfold KS at h; omega))) (fun _ _ h => h)⟩
  clear h1 e2 mA rA HX
  go_wp2_with fail
  refine q3.mono ?_
  rintro x wy ⟨rfl, hwy⟩
  obtain rfl := hwy.symm
  clear q3 c0 c1
  go_wp2_with fail
  obtain ⟨w3, hw3⟩ : ∃ w3, w3 = w2.alloc (.cells #[.int .i64 1, .int .i64 0, .int .i64 0, .bool false, .int .i64 0, .int .i64 0, .slice none 0 0, .int .i64 2, .int .i64 1, .int .i64 0, .bool false, .int .i64 0, .int .i64 0, .slice none 0 0, .int .i64 8, .int .i64 2, .int .i64 0, .bool false, .int .i64 0, .int .i64 0, .slice none 0 0, .int .i64 13, .int .i64 0, .int .i64 0, .bool false, .int .i64 0, .int .i64 0, .slice none 0 0, .int .i64 10, .int .i64 1, .int .i64 0, .bool false, .int .i64 0, .int .i64 0, .slice none 0 0] 38) := ⟨_, rfl⟩
  obtain ⟨fb, hfb⟩ : ∃ fb, fb = w2.heap.size := ⟨_, rfl⟩
  have HP3 : Hid (PL w sa sb fb 1 0 w3) := by
    obtain ⟨s1, s2, hold, hT2⟩ := HS.out
    have t3 : Tch (fun _ => False) w2 w3 := by rw [hw3]; exact Tch.alloc _ _ _
    have e3 := Ev.quiet (o := o2) 40 t3
    refine ⟨⟨_, _, _, [], [], (s1.ev e3 (fun j _ _ => by omega)).mono (by omega), (s2.ev e3 (fun j _ _ => by omega)).mono (by omega), by simp, by simp, fun i hi => ?_, by rw [hfb]; exact if_neg (by omega)⟩, hT2.trans' t3, by rw [hw3, hfb]; exact alloc_new _ _⟩
    rw [e3.old i (Nat.lt_of_lt_of_le hi hT2.size) (by rw [hold i hi]; omega), hold i hi]
  rw [← hw3, ← hfb]
  clear hw3 hfb HS
  have hb5 : 5 + len ≤ 1048581 := by omega
  go_loopw [8, 13] (fun okv x wr => ∃ k : Nat, x = .int .i64 k ∧ k ≤ 5 + len ∧ okv = .bool true ∧ Hid (PL w sa sb fb 1 k wr)) (fun _ x _ => 5 + len - (intOf x).toNat)
  case atStart => exact ⟨0, rfl, by omega, rfl, HP3⟩
  case round =>
    obtain ⟨k, rfl, hk, rfl, HK⟩ := hrel
    by_cases hlt : (k : Int) < 5 + (len : Int)
    · by_cases h5 : (k : Int) < 5
      · obtain ⟨q, hqd⟩ : ∃ q, q = fop 1 k := ⟨_, rfl⟩
        have hq : q.ok wr := by rw [hqd]; exact fop_ok 1 (by omega) (by omega) k wr
        have hat : OpAt wr fb (k * 7) q := by rw [hqd]; exact fcl_at HK.out.fb' k (by omega)
        clear hqd
        obtain ⟨qkd, hqkd⟩ : ∃ x, x = q.kd := ⟨_, rfl⟩
        obtain ⟨qN, hqN⟩ : ∃ x, x = q.N := ⟨_, rfl⟩
        obtain ⟨qM, hqM⟩ : ∃ x, x = q.M := ⟨_, rfl⟩
        obtain ⟨qtw, hqtw⟩ : ∃ x, x = q.tw := ⟨_, rfl⟩
        obtain ⟨qmn, hqmn⟩ : ∃ x, x = q.mn := ⟨_, rfl⟩
        obtain ⟨qmx, hqmx⟩ : ∃ x, x = q.mx := ⟨_, rfl⟩
        obtain ⟨qlo, hqlo⟩ : ∃ x, x = q.lo := ⟨_, rfl⟩
        obtain ⟨qlc, hqlc⟩ : ∃ x, x = q.lc := ⟨_, rfl⟩
        obtain ⟨qln, hqln⟩ : ∃ x, x = q.l.length := ⟨_, rfl⟩
        have tz := Tch.alloc (fun _ => False) wr (.cells #[.int .i64 0, .int .i64 0, .int .i64 0, .bool false, .int .i64 0, .int .i64 0, .slice none 0 0] 38)
        have z0 : (wr.alloc (.cells #[.int .i64 0, .int .i64 0, .int .i64 0, .bool false, .int .i64 0, .int .i64 0, .slice none 0 0] 38)).cell? ⟨fb, k * 7, none⟩ = some (.int .i64 qkd) := by
          have hj := hat 0 _ rfl
          rw [Nat.add_zero] at hj
          rw [tz.cell (cell_lt hj) (fun h => h), hqkd]
          exact hj
        have z1 : (wr.alloc (.cells #[.int .i64 0, .int .i64 0, .int .i64 0, .bool false, .int .i64 0, .int .i64 0, .slice none 0 0] 38)).cell? ⟨fb, k * 7 + 1, none⟩ = some (.int .i64 qN) := by
          have hj := hat 1 _ rfl
          rw [tz.cell (cell_lt hj) (fun h => h), hqN]
          exact hj
        have z2 : (wr.alloc (.cells #[.int .i64 0, .int .i64 0, .int .i64 0, .bool false, .int .i64 0, .int .i64 0, .slice none 0 0] 38)).cell? ⟨fb, k * 7 + 2, none⟩ = some (.int .i64 qM) := by
          have hj := hat 2 _ rfl
          rw [tz.cell (cell_lt hj) (fun h => h), hqM]
          exact hj
        have z3 : (wr.alloc (.cells #[.int .i64 0, .int .i64 0, .int .i64 0, .bool false, .int .i64 0, .int .i64 0, .slice none 0 0] 38)).cell? ⟨fb, k * 7 + 3, none⟩ = some (.bool qtw) := by
          have hj := hat 3 _ rfl
          rw [tz.cell (cell_lt hj) (fun h => h), hqtw]
          exact hj
        have z4 : (wr.alloc (.cells #[.int .i64 0, .int .i64 0, .int .i64 0, .bool false, .int .i64 0, .int .i64 0, .slice none 0 0] 38)).cell? ⟨fb, k * 7 + 4, none⟩ = some (.int .i64 qmn) := by
          have hj := hat 4 _ rfl
          rw [tz.cell (cell_lt hj) (fun h => h), hqmn]
          exact hj
        have z5 : (wr.alloc (.cells #[.int .i64 0, .int .i64 0, .int .i64 0, .bool false, .int .i64 0, .int .i64 0, .slice none 0 0] 38)).cell? ⟨fb, k * 7 + 5, none⟩ = some (.int .i64 qmx) := by
          have hj := hat 5 _ rfl
          rw [tz.cell (cell_lt hj) (fun h => h), hqmx]
          exact hj
        have z6 : (wr.alloc (.cells #[.int .i64 0, .int .i64 0, .int .i64 0, .bool false, .int .i64 0, .int .i64 0, .slice none 0 0] 38)).cell? ⟨fb, k * 7 + 6, none⟩ = some (.slice qlo qln qlc) := by
          have hj := hat 6 _ rfl
          rw [tz.cell (cell_lt hj) (fun h => h), hqlo, hqlc, hqln]
          exact hj
        obtain ⟨wb, hwb⟩ : ∃ wb, wb = wr.alloc (.cells #[.int .i64 qkd, .int .i64 qN, .int .i64 qM, .bool qtw, .int .i64 qmn, .int .i64 qmx, .slice qlo qln qlc] 38) := ⟨_, rfl⟩
        have tb : Tch (fun _ => False) wr wb := by rw [hwb]; exact Tch.alloc _ _ _
        have pb := HK.out.no tb
        have hqb := hq.no tb
        have qA : Calls Try.prog 7 #[.pointer (some ⟨sa, 0, none⟩), .agg #[.int .i64 qkd, .int .i64 qN, .int .i64 qM, .bool qtw, .int .i64 qmn, .int .i64 qmx, .slice qlo qln qlc]] wb fun x w' => x = .returned (.bool true) ∧ PL w sa sb fb 1 (k + 1) w' := by
          have := pb.stepA (by omega) q hqb
          rw [← hqkd, ← hqN, ← hqM, ← hqtw, ← hqmn, ← hqmx, ← hqlo, ← hqlc, ← hqln] at this
          exact this
        have qB : Calls Try.prog 7 #[.pointer (some ⟨sb, 0, none⟩), .agg #[.int .i64 qkd, .int .i64 qN, .int .i64 qM, .bool qtw, .int .i64 qmn, .int .i64 qmx, .slice qlo qln qlc]] wb fun x w' => x = .returned (.bool true) ∧ PL w sa sb fb 1 (k + 1) w' := by
          have := pb.stepB (by omega) q hqb
          rw [← hqkd, ← hqN, ← hqM, ← hqtw, ← hqmn, ← hqmx, ← hqlo, ← hqlc, ← hqln] at this
          exact this
        have Hwb : Hid _ := hwb
        clear hqkd hqN hqM hqtw hqmn hqmx hqlo hqlc hqln tz tb pb hqb hq hat hwb
        cases qtw with
        | true =>
          clear qA
          go_wp2_with fail
          have hwb := Hwb.out
          rw [← hwb]
          clear hwb Hwb z0 z1 z2 z3 z4 z5 z6
          refine qB.mono ?_
          rintro x w5 ⟨rfl, p5⟩
          have s1 := p5.stillA (by omega)
          have s2 := p5.stillB (by omega)
          have HP : Hid _ := p5
          clear qB p5
          go_wp2_with fail
          refine s1.mono ?_
          rintro x wy ⟨rfl, hwy⟩
          obtain rfl := hwy.symm
          clear s1
          go_wp2_with fail
          refine s2.mono ?_
          rintro x wy ⟨rfl, hwy⟩
          obtain rfl := hwy.symm
          clear s2
          go_wp2_with fail
          go_roundw
          case rel => exact ⟨k + 1, by go_num, by omega, rfl, HP⟩
          case measure => simp [intOf]; omega
        | false =>
          clear qB
          go_wp2_with fail
          have hwb := Hwb.out
          rw [← hwb]
          clear hwb Hwb z0 z1 z2 z3 z4 z5 z6
          refine qA.mono ?_
          rintro x w5 ⟨rfl, p5⟩
          have s1 := p5.stillA (by omega)
          have s2 := p5.stillB (by omega)
          have HP : Hid _ := p5
          clear qA p5
          go_wp2_with fail
          refine s1.mono ?_
          rintro x wy ⟨rfl, hwy⟩
          obtain rfl := hwy.symm
          clear s1
          go_wp2_with fail
          refine s2.mono ?_
          rintro x wy ⟨rfl, hwy⟩
          obtain rfl := hwy.symm
          clear s2
          go_wp2_with fail
          go_roundw
          case rel => exact ⟨k + 1, by go_num, by omega, rfl, HP⟩
          case measure => simp [intOf]; omega
      · obtain ⟨j, hj⟩ : ∃ j : Nat, (k : Int) - 5 = j := ⟨k - 5, by omega⟩
        have hjl : j < len := by omega
        have hjl' : (j : Int) < len := by omega
        obtain ⟨g, off, rfl, hat0, hq0⟩ := Hops.out j hjl
        obtain ⟨q, hqd⟩ : ∃ q, q = ops j := ⟨_, rfl⟩
        rw [← hqd] at hat0 hq0
        have hq : q.ok wr := hq0.no HK.out.tc
        have hat : OpAt wr g (off + j * 7) q := hat0.no HK.out.tc
        clear hqd hat0 hq0
        obtain ⟨qkd, hqkd⟩ : ∃ x, x = q.kd := ⟨_, rfl⟩
        obtain ⟨qN, hqN⟩ : ∃ x, x = q.N := ⟨_, rfl⟩
        obtain ⟨qM, hqM⟩ : ∃ x, x = q.M := ⟨_, rfl⟩
        obtain ⟨qtw, hqtw⟩ : ∃ x, x = q.tw := ⟨_, rfl⟩
        obtain ⟨qmn, hqmn⟩ : ∃ x, x = q.mn := ⟨_, rfl⟩
        obtain ⟨qmx, hqmx⟩ : ∃ x, x = q.mx := ⟨_, rfl⟩
        obtain ⟨qlo, hqlo⟩ : ∃ x, x = q.lo := ⟨_, rfl⟩
        obtain ⟨qlc, hqlc⟩ : ∃ x, x = q.lc := ⟨_, rfl⟩
        obtain ⟨qln, hqln⟩ : ∃ x, x = q.l.length := ⟨_, rfl⟩
        have tz := Tch.alloc (fun _ => False) wr (.cells #[.int .i64 0, .int .i64 0, .int .i64 0, .bool false, .int .i64 0, .int .i64 0, .slice none 0 0] 38)
        have z0 : (wr.alloc (.cells #[.int .i64 0, .int .i64 0, .int .i64 0, .bool false, .int .i64 0, .int .i64 0, .slice none 0 0] 38)).cell? ⟨g, off + j * 7, none⟩ = some (.int .i64 qkd) := by
          have hj := hat 0 _ rfl
          rw [Nat.add_zero] at hj
          rw [tz.cell (cell_lt hj) (fun h => h), hqkd]
          exact hj
        have z1 : (wr.alloc (.cells #[.int .i64 0, .int .i64 0, .int .i64 0, .bool false, .int .i64 0, .int .i64 0, .slice none 0 0] 38)).cell? ⟨g, off + j * 7 + 1, none⟩ = some (.int .i64 qN) := by
          have hj := hat 1 _ rfl
          rw [tz.cell (cell_lt hj) (fun h => h), hqN]
          exact hj
        have z2 : (wr.alloc (.cells #[.int .i64 0, .int .i64 0, .int .i64 0, .bool false, .int .i64 0, .int .i64 0, .slice none 0 0] 38)).cell? ⟨g, off + j * 7 + 2, none⟩ = some (.int .i64 qM) := by
          have hj := hat 2 _ rfl
          rw [tz.cell (cell_lt hj) (fun h => h), hqM]
          exact hj
        have z3 : (wr.alloc (.cells #[.int .i64 0, .int .i64 0, .int .i64 0, .bool false, .int .i64 0, .int .i64 0, .slice none 0 0] 38)).cell? ⟨g, off + j * 7 + 3, none⟩ = some (.bool qtw) := by
          have hj := hat 3 _ rfl
          rw [tz.cell (cell_lt hj) (fun h => h), hqtw]
          exact hj
        have z4 : (wr.alloc (.cells #[.int .i64 0, .int .i64 0, .int .i64 0, .bool false, .int .i64 0, .int .i64 0, .slice none 0 0] 38)).cell? ⟨g, off + j * 7 + 4, none⟩ = some (.int .i64 qmn) := by
          have hj := hat 4 _ rfl
          rw [tz.cell (cell_lt hj) (fun h => h), hqmn]
          exact hj
        have z5 : (wr.alloc (.cells #[.int .i64 0, .int .i64 0, .int .i64 0, .bool false, .int .i64 0, .int .i64 0, .slice none 0 0] 38)).cell? ⟨g, off + j * 7 + 5, none⟩ = some (.int .i64 qmx) := by
          have hj := hat 5 _ rfl
          rw [tz.cell (cell_lt hj) (fun h => h), hqmx]
          exact hj
        have z6 : (wr.alloc (.cells #[.int .i64 0, .int .i64 0, .int .i64 0, .bool false, .int .i64 0, .int .i64 0, .slice none 0 0] 38)).cell? ⟨g, off + j * 7 + 6, none⟩ = some (.slice qlo qln qlc) := by
          have hj := hat 6 _ rfl
          rw [tz.cell (cell_lt hj) (fun h => h), hqlo, hqlc, hqln]
          exact hj
        obtain ⟨wb, hwb⟩ : ∃ wb, wb = wr.alloc (.cells #[.int .i64 qkd, .int .i64 qN, .int .i64 qM, .bool qtw, .int .i64 qmn, .int .i64 qmx, .slice qlo qln qlc] 38) := ⟨_, rfl⟩
        have tb : Tch (fun _ => False) wr wb := by rw [hwb]; exact Tch.alloc _ _ _
        have pb := HK.out.no tb
        have hqb := hq.no tb
        have qA : Calls Try.prog 7 #[.pointer (some ⟨sa, 0, none⟩), .agg #[.int .i64 qkd, .int .i64 qN, .int .i64 qM, .bool qtw, .int .i64 qmn, .int .i64 qmx, .slice qlo qln qlc]] wb fun x w' => x = .returned (.bool true) ∧ PL w sa sb fb 1 (k + 1) w' := by
          have := pb.stepA (by omega) q hqb
          rw [← hqkd, ← hqN, ← hqM, ← hqtw, ← hqmn, ← hqmx, ← hqlo, ← hqlc, ← hqln] at this
          exact this
        have qB : Calls Try.prog 7 #[.pointer (some ⟨sb, 0, none⟩), .agg #[.int .i64 qkd, .int .i64 qN, .int .i64 qM, .bool qtw, .int .i64 qmn, .int .i64 qmx, .slice qlo qln qlc]] wb fun x w' => x = .returned (.bool true) ∧ PL w sa sb fb 1 (k + 1) w' := by
          have := pb.stepB (by omega) q hqb
          rw [← hqkd, ← hqN, ← hqM, ← hqtw, ← hqmn, ← hqmx, ← hqlo, ← hqlc, ← hqln] at this
          exact this
        have Hwb : Hid _ := hwb
        clear hqkd hqN hqM hqtw hqmn hqmx hqlo hqlc hqln tz tb pb hqb hq hat hwb
        cases qtw with
        | true =>
          clear qA
          go_wp2_with fail
          have hwb := Hwb.out
          rw [← hwb]
          clear hwb Hwb z0 z1 z2 z3 z4 z5 z6
          refine qB.mono ?_
          rintro x w5 ⟨rfl, p5⟩
          have s1 := p5.stillA (by omega)
          have s2 := p5.stillB (by omega)
          have HP : Hid _ := p5
          clear qB p5
          go_wp2_with fail
          refine s1.mono ?_
          rintro x wy ⟨rfl, hwy⟩
          obtain rfl := hwy.symm
          clear s1
          go_wp2_with fail
          refine s2.mono ?_
          rintro x wy ⟨rfl, hwy⟩
          obtain rfl := hwy.symm
          clear s2
          go_wp2_with fail
          go_roundw
          case rel => exact ⟨k + 1, by go_num, by omega, rfl, HP⟩
          case measure => simp [intOf]; omega
        | false =>
          clear qB
          go_wp2_with fail
          have hwb := Hwb.out
          rw [← hwb]
          clear hwb Hwb z0 z1 z2 z3 z4 z5 z6
          refine qA.mono ?_
          rintro x w5 ⟨rfl, p5⟩
          have s1 := p5.stillA (by omega)
          have s2 := p5.stillB (by omega)
          have HP : Hid _ := p5
          clear qA p5
          go_wp2_with fail
          refine s1.mono ?_
          rintro x wy ⟨rfl, hwy⟩
          obtain rfl := hwy.symm
          clear s1
          go_wp2_with fail
          refine s2.mono ?_
          rintro x wy ⟨rfl, hwy⟩
          obtain rfl := hwy.symm
          clear s2
          go_wp2_with fail
          go_roundw
          case rel => exact ⟨k + 1, by go_num, by omega, rfl, HP⟩
          case measure => simp [intOf]; omega
    · have p := HK.out
      obtain ⟨o9, ma, mb9, ksa, ksb, g1, g2, -, -, -, -⟩ := p.st
      obtain ⟨mbA, rbA, FA, GA, c0, c1, mA, rA⟩ := g1.ptrs
      obtain ⟨mbB, rbB, FB, GB, d0, d1, mB, rB⟩ := g2.ptrs
      obtain ⟨wE, hwE⟩ : ∃ wE, wE = wr := ⟨_, rfl⟩
      have hwf : Wf ma := by obtain ⟨_, _, _, h, _⟩ := mA; exact h.wf
      obtain ⟨nxA, hnxA⟩ : ∃ x, x = ma.nx := ⟨_, rfl⟩
      obtain ⟨nxB, hnxB⟩ : ∃ x, x = mb9.nx := ⟨_, rfl⟩
      have hnb : nxA ≤ 2147483648 := by rw [hnxA]; exact hwf.n2
      have HCs : Hid (∀ W, Tch (fun _ => False) wE W → W.cell? ⟨sa, 0, none⟩ = some (.pointer (some ⟨mbA, 0, none⟩)) ∧ W.cell? ⟨sa, 1, none⟩ = some (.pointer (some ⟨rbA, 0, none⟩)) ∧ W.cell? ⟨sb, 0, none⟩ = some (.pointer (some ⟨mbB, 0, none⟩)) ∧ W.cell? ⟨sb, 1, none⟩ = some (.pointer (some ⟨rbB, 0, none⟩))) := fun W t => by
        rw [hwE] at t
        exact ⟨by rw [t.cell (cell_lt c0) (fun h => h)]; exact c0, by rw [t.cell (cell_lt c1) (fun h => h)]; exact c1, by rw [t.cell (cell_lt d0) (fun h => h)]; exact d0, by rw [t.cell (cell_lt d1) (fun h => h)]; exact d1⟩
      have HnA : Hid (∀ W, Tch (fun _ => False) wE W → Calls Try.prog 6 #[.pointer (some ⟨rbA, 0, none⟩)] W fun x w' => x = .returned (.int .i64 nxA) ∧ w' = W) := fun W t => by rw [hwE] at t; rw [hnxA]; exact rnext_x rbA ma W GA (rA.no t)
      have HnB : Hid (∀ W, Tch (fun _ => False) wE W → Calls Try.prog 6 #[.pointer (some ⟨rbB, 0, none⟩)] W fun x w' => x = .returned (.int .i64 nxB) ∧ w' = W) := fun W t => by rw [hwE] at t; rw [hnxB]; exact rnext_x rbB mb9 W GB (rB.no t)
      have HcA : Hid (∀ W, Tch (fun _ => False) wE W → Calls Try.prog 11 #[.pointer (some ⟨mbA, 0, none⟩)] W fun x w' => x = .returned (.int .i64 nxA) ∧ w' = W) := fun W t => by rw [hwE] at t; rw [hnxA]; exact next_f mbA ma W FA (mA.tch t (fun _ _ h => h.elim))
      have HcB : Hid (∀ W, Tch (fun _ => False) wE W → Calls Try.prog 11 #[.pointer (some ⟨mbB, 0, none⟩)] W fun x w' => x = .returned (.int .i64 nxB) ∧ w' = W) := fun W t => by rw [hwE] at t; rw [hnxB]; exact next_f mbB mb9 W FB (mB.tch t (fun _ _ h => h.elim))
      have HsA : Hid (∀ (z : Nat) W, z ≤ 3000000000 → Tch (fun _ => False) wE W → Calls Try.prog 9 #[.pointer (some ⟨mbA, 0, none⟩), .int .i64 z] W fun x w' => x = .returned (.int .i64 (ma.state z)) ∧ Tch (fun _ => False) wE w') := fun z W hz t => by
        have t' := t
        rw [hwE] at t'
        exact (state_f mbA ma W FA (mA.tch t' (fun _ _ h => h.elim)) z (by omega) (by omega)).mono (fun x w' ⟨e, h⟩ => ⟨e, t.trans' h⟩)
      have HrA : Hid (∀ (z : Nat) W, Tch (fun _ => False) wE W → Calls Try.prog 10 #[.pointer (some ⟨rbA, 0, none⟩), .int .i64 z] W fun x w' => x = .returned (.int .i64 (ma.state z)) ∧ Tch (fun _ => False) wE w') := fun z W t => by
        have t' := t
        rw [hwE] at t'
        exact (rstate_x rbA ma W GA (rA.no t') z).mono (fun x w' ⟨e, h⟩ => ⟨e, t.trans' h⟩)
      have HTE : Hid (Tch (fun _ => False) w wE) := by rw [hwE]; exact p.tc
      have HE0 : Hid (Tch (fun _ => False) wE wr) := by rw [hwE]; exact Tch.refl _ _
      clear p g1 g2 c0 c1 d0 d1 mA rA mB rB hwf hnxA hnxB hwE
      go_wp2_with fail
      go_loopw [17] (fun v wr => ∃ z : Nat, v = .int .i64 z ∧ 1 ≤ z ∧ z ≤ 301 ∧ Hid (Tch (fun _ => False) wE wr)) (fun v _ => 301 - (intOf v).toNat)
      case atStart => exact ⟨1, rfl, by omega, by omega, HE0⟩
      case round =>
        obtain ⟨z, rfl, hz1, hz2, HZ⟩ := hrel
        obtain ⟨e0, e1, e2, e3⟩ := HCs.out wr HZ.out
        have qn := HnA.out wr HZ.out
        by_cases hz3 : (z : Int) < nxA
        · by_cases hz4 : (z : Int) < 301
          · obtain ⟨st, hst⟩ : ∃ st, st = ma.state z := ⟨_, rfl⟩
            obtain ⟨C, hC⟩ : ∃ C : List Value → World → Prop, C = fun s W => match s with
              | [] => Tch (fun _ => False) wE W
              | [y] => y = .int .i64 st ∧ Tch (fun _ => False) wE W
              | [y, v] => y = .int .i64 st ∧ v = .int .i64 st ∧ Tch (fun _ => False) wE W
              | _ => False := ⟨_, rfl⟩
            have hK : ∀ s W, C s W → W.cell? ⟨sa, 0, none⟩ = some (.pointer (some ⟨mbA, 0, none⟩)) ∧ W.cell? ⟨sa, 1, none⟩ = some (.pointer (some ⟨rbA, 0, none⟩)) := fun s W hW => by
              rw [hC] at hW
              match s, hW with
              | [], hW => exact ⟨(HCs.out W hW).1, (HCs.out W hW).2.1⟩
              | [_], hW => exact ⟨(HCs.out W hW.2).1, (HCs.out W hW.2).2.1⟩
              | [_, _], hW => exact ⟨(HCs.out W hW.2.2).1, (HCs.out W hW.2.2).2.1⟩
            have t1 : ∀ W, C [] W → Calls Try.prog 9 #[.pointer (some ⟨mbA, 0, none⟩), .int .i64 z] W fun x W' => ∃ y, x = .returned y ∧ C [y] W' := fun W hW => by
              rw [hC] at hW ⊢
              exact (HsA.out z W (by omega) hW).mono (fun x W' ⟨e, h1⟩ => ⟨_, e, by rw [hst], h1⟩)
            have t2 : ∀ y W, C [y] W → Calls Try.prog 10 #[.pointer (some ⟨rbA, 0, none⟩), .int .i64 z] W fun x W' => ∃ v, x = .returned v ∧ C [y, v] W' := fun y W hW => by
              rw [hC] at hW ⊢
              exact (HrA.out z W hW.2).mono (fun x W' ⟨e, h1⟩ => ⟨_, e, hW.1, by rw [hst], h1⟩)
            have h0' : C [] wr.drew := by rw [hC]; exact Tch.drew HZ.out
            have u1 : Hid (∀ y W, C [y] W → y = .int .i64 st) := fun y W hW => by rw [hC] at hW; exact hW.1
            have u2 : Hid (∀ y v W, C [y, v] W → v = .int .i64 st) := fun y v W hW => by rw [hC] at hW; exact hW.2.1
            have HE : Hid (∀ y v W, C [y, v] W → Tch (fun _ => False) wE W) := fun y v W hW => by rw [hC] at hW; exact hW.2.2
            clear hC hst
            go_wp2_with fail
            refine qn.mono ?_
            rintro x wy ⟨rfl, hwy⟩
            obtain rfl := hwy.symm
            clear qn
            go_wp2_with fail
            refine wp_region_ordv [5, 11] C 12 [0, 1, 2, 3, 4, 6, 7, 8, 9, 10, 5, 11] (by kernel_rfl) (by kernel_rfl) h0' ?_
            clear h0'
            refine ordv_read rfl (by go_simp) (by rfl) ?_
            apply Exists.intro
            refine ⟨fun s' W hW b K Q hK' => ?_, fun K hK' => ?_⟩
            · obtain ⟨q0, q1⟩ := hK _ W hW
              go_simp
              exact hK' W hW
            go_simp
            refine hK' _ ?_
            clear hK' K
            refine ordv_read rfl (by go_simp) (by rfl) ?_
            apply Exists.intro
            refine ⟨fun s' W hW b K Q hK' => ?_, fun K hK' => ?_⟩
            · obtain ⟨q0, q1⟩ := hK _ W hW
              go_simp
              exact hK' W hW
            go_simp
            refine hK' _ ?_
            clear hK' K
            refine ordv_read rfl (by go_simp) (by rfl) ?_
            apply Exists.intro
            refine ⟨fun s' W hW b K Q hK' => ?_, fun K hK' => ?_⟩
            · obtain ⟨q0, q1⟩ := hK _ W hW
              go_simp
              exact hK' W hW
            go_simp
            refine hK' _ ?_
            clear hK' K
            refine ordv_read rfl (by go_simp) (by rfl) ?_
            apply Exists.intro
            refine ⟨fun s' W hW b K Q hK' => ?_, fun K hK' => ?_⟩
            · obtain ⟨q0, q1⟩ := hK _ W hW
              go_simp
              exact hK' W hW
            go_simp
            refine hK' _ ?_
            clear hK' K
            refine ordv_read rfl (by go_simp) (by rfl) ?_
            apply Exists.intro
            refine ⟨fun s' W hW b K Q hK' => ?_, fun K hK' => ?_⟩
            · obtain ⟨q0, q1⟩ := hK _ W hW
              go_simp
              exact hK' W hW
            go_simp
            refine hK' _ ?_
            clear hK' K
            refine ordv_read rfl (by go_simp) (by rfl) ?_
            apply Exists.intro
            refine ⟨fun s' W hW b K Q hK' => ?_, fun K hK' => ?_⟩
            · obtain ⟨q0, q1⟩ := hK _ W hW
              go_simp
              exact hK' W hW
            go_simp
            refine hK' _ ?_
            clear hK' K
            refine ordv_read rfl (by go_simp) (by rfl) ?_
            apply Exists.intro
            refine ⟨fun s' W hW b K Q hK' => ?_, fun K hK' => ?_⟩
            · obtain ⟨q0, q1⟩ := hK _ W hW
              go_simp
              exact hK' W hW
            go_simp
            refine hK' _ ?_
            clear hK' K
            refine ordv_read rfl (by go_simp) (by rfl) ?_
            apply Exists.intro
            refine ⟨fun s' W hW b K Q hK' => ?_, fun K hK' => ?_⟩
            · obtain ⟨q0, q1⟩ := hK _ W hW
              go_simp
              exact hK' W hW
            go_simp
            refine hK' _ ?_
            clear hK' K
            refine ordv_read rfl (by go_simp) (by rfl) ?_
            apply Exists.intro
            refine ⟨fun s' W hW b K Q hK' => ?_, fun K hK' => ?_⟩
            · obtain ⟨q0, q1⟩ := hK _ W hW
              go_simp
              exact hK' W hW
            go_simp
            refine hK' _ ?_
            clear hK' K
            refine ordv_read rfl (by go_simp) (by rfl) ?_
            apply Exists.intro
            refine ⟨fun s' W hW b K Q hK' => ?_, fun K hK' => ?_⟩
            · obtain ⟨q0, q1⟩ := hK _ W hW
              go_simp
              exact hK' W hW
            go_simp
            refine hK' _ ?_
            clear hK' K
            refine ordv_turn rfl (by go_simp) (by rfl) (fun W hW b K Q hK' => ?_) (fun u hu K hK' => ?_)
            · go_simp
              go_at_call 9
              refine (t1 W hW).mono ?_
              rintro x w' ⟨y, rfl, h1⟩
              exact hK' y w' h1
            obtain rfl : u = .int .i64 st := by
              obtain ⟨W', hW'⟩ := hu
              exact u1.out u W' hW'
            clear hu t1
            go_simp
            refine hK' _ ?_
            clear hK' K
            refine ordv_turn rfl (by go_simp) (by rfl) (fun W hW b K Q hK' => ?_) (fun u hu K hK' => ?_)
            · go_simp
              go_at_call 10
              refine (t2 _ W hW).mono ?_
              rintro x w' ⟨y, rfl, h1⟩
              exact hK' y w' h1
            obtain rfl : u = .int .i64 st := by
              obtain ⟨W', hW'⟩ := hu
              exact u2.out _ u W' hW'
            clear hu t2 u1 u2
            go_simp
            refine hK' _ ?_
            clear hK' K
            refine ordv_nil ?_
            intro w6 hw6
            have HZ6 : Hid _ := HE.out _ _ w6 hw6
            clear hK hw6 HE
            go_wp2_with fail
            go_roundw
            case rel => exact ⟨z + 1, by go_num, by omega, by omega, HZ6⟩
            case measure => simp [intOf]; omega
          · go_wp2_with fail
            refine qn.mono ?_
            rintro x wy ⟨rfl, hwy⟩
            obtain rfl := hwy.symm
            clear qn
            have f1 : ∀ q, Calls Try.prog 11 #[.pointer (some ⟨mbA, 0, none⟩)] (wr.drewN q) fun e w'' => e = .returned (.int .i64 nxA) ∧ ∃ m, w'' = wr.drewN m := fun q => Calls.quiet_of_same (HcA.out _ (HZ.out.drewN q))
            have f2 : ∀ q, Calls Try.prog 6 #[.pointer (some ⟨rbA, 0, none⟩)] (wr.drewN q) fun e w'' => e = .returned (.int .i64 nxA) ∧ ∃ m, w'' = wr.drewN m := fun q => Calls.quiet_of_same (HnA.out _ (HZ.out.drewN q))
            have f3 : ∀ q, Calls Try.prog 11 #[.pointer (some ⟨mbB, 0, none⟩)] (wr.drewN q) fun e w'' => e = .returned (.int .i64 nxB) ∧ ∃ m, w'' = wr.drewN m := fun q => Calls.quiet_of_same (HcB.out _ (HZ.out.drewN q))
            have f4 : ∀ q, Calls Try.prog 6 #[.pointer (some ⟨rbB, 0, none⟩)] (wr.drewN q) fun e w'' => e = .returned (.int .i64 nxB) ∧ ∃ m, w'' = wr.drewN m := fun q => Calls.quiet_of_same (HnB.out _ (HZ.out.drewN q))
            go_wp2_with fail
            refine wp_region_quiet_lit (by kernel_rfl) (by kernel_rfl) ?_
            go_big_quiet_step (fail)
            go_big_quiet_step (fail)
            go_big_quiet_step (fail)
            go_big_quiet_step (fail)
            go_big_quiet_step ((go_at_call 11; exact f1 _))
            go_big_quiet_step (fail)
            go_big_quiet_step (fail)
            go_big_quiet_step (fail)
            go_big_quiet_step (fail)
            go_big_quiet_step ((go_at_call 6; exact f2 _))
            go_big_quiet_step (fail)
            go_big_quiet_step (fail)
            go_big_quiet_step (fail)
            go_big_quiet_step (fail)
            go_big_quiet_step (fail)
            go_big_quiet_step (fail)
            go_big_quiet_step ((go_at_call 11; exact f3 _))
            go_big_quiet_step (fail)
            go_big_quiet_step (fail)
            go_big_quiet_step (fail)
            go_big_quiet_step (fail)
            go_big_quiet_step ((go_at_call 6; exact f4 _))
            go_big_quiet_step (fail)
            go_big_quiet_step (fail)
            go_big_quiet_step (fail)
            refine wpQuiet_nil ?_
            rintro w7 ⟨nq, rfl⟩
            have HF : Hid _ := HTE.out.trans' (HZ.out.drewN nq)
            go_wp2_with fail
            go_ret
            exact ⟨rfl, HF.out⟩
        · go_wp2_with fail
          refine qn.mono ?_
          rintro x wy ⟨rfl, hwy⟩
          obtain rfl := hwy.symm
          clear qn
          have f1 : ∀ q, Calls Try.prog 11 #[.pointer (some ⟨mbA, 0, none⟩)] (wr.drewN q) fun e w'' => e = .returned (.int .i64 nxA) ∧ ∃ m, w'' = wr.drewN m := fun q => Calls.quiet_of_same (HcA.out _ (HZ.out.drewN q))
          have f2 : ∀ q, Calls Try.prog 6 #[.pointer (some ⟨rbA, 0, none⟩)] (wr.drewN q) fun e w'' => e = .returned (.int .i64 nxA) ∧ ∃ m, w'' = wr.drewN m := fun q => Calls.quiet_of_same (HnA.out _ (HZ.out.drewN q))
          have f3 : ∀ q, Calls Try.prog 11 #[.pointer (some ⟨mbB, 0, none⟩)] (wr.drewN q) fun e w'' => e = .returned (.int .i64 nxB) ∧ ∃ m, w'' = wr.drewN m := fun q => Calls.quiet_of_same (HcB.out _ (HZ.out.drewN q))
          have f4 : ∀ q, Calls Try.prog 6 #[.pointer (some ⟨rbB, 0, none⟩)] (wr.drewN q) fun e w'' => e = .returned (.int .i64 nxB) ∧ ∃ m, w'' = wr.drewN m := fun q => Calls.quiet_of_same (HnB.out _ (HZ.out.drewN q))
          go_wp2_with fail
          refine wp_region_quiet_lit (by kernel_rfl) (by kernel_rfl) ?_
          go_big_quiet_step (fail)
          go_big_quiet_step (fail)
          go_big_quiet_step (fail)
          go_big_quiet_step (fail)
          go_big_quiet_step ((go_at_call 11; exact f1 _))
          go_big_quiet_step (fail)
          go_big_quiet_step (fail)
          go_big_quiet_step (fail)
          go_big_quiet_step (fail)
          go_big_quiet_step ((go_at_call 6; exact f2 _))
          go_big_quiet_step (fail)
          go_big_quiet_step (fail)
          go_big_quiet_step (fail)
          go_big_quiet_step (fail)
          go_big_quiet_step (fail)
          go_big_quiet_step (fail)
          go_big_quiet_step ((go_at_call 11; exact f3 _))
          go_big_quiet_step (fail)
          go_big_quiet_step (fail)
          go_big_quiet_step (fail)
          go_big_quiet_step (fail)
          go_big_quiet_step ((go_at_call 6; exact f4 _))
          go_big_quiet_step (fail)
          go_big_quiet_step (fail)
          go_big_quiet_step (fail)
          refine wpQuiet_nil ?_
          rintro w7 ⟨nq, rfl⟩
          have HF : Hid _ := HTE.out.trans' (HZ.out.drewN nq)
          go_wp2_with fail
          go_ret
          exact ⟨rfl, HF.out⟩
end Go.Proofs.Ytolobljlkdacjaa
