/- Sees. -/
import Derived.Test.YtkokmgoplldcfaaXSnap
import Derived.LaidEqlPtr
namespace Go.Proofs.Ytkokmgoplldcfaa
open Go.RowKit Go Go.Sort

theorem field_num (po : Option Addr) (io : Int) (w : World) : (Instr.field 72 (.agg #[.pointer po, .int .i64 io]) 0).run Try.prog w = .ok (.pointer po) w := by kernel_rfl
theorem info_tx : (Try.prog.info? 77).map (fun i => (i.zero, i.size, i.bytes)) = some (some (.agg #[.int .i64 0, .int .i64 0, .slice none 0 0]), 3, 40) := by kernel_rfl
theorem eql_tx_same (a : Addr) (w : World) : (binOp .eql 68 (.pointer (some a)) (.pointer (some a))).run Try.prog w = .ok (.bool true) w := by
  obtain ⟨i0, hi, _⟩ := info_parts info_tx
  exact run_eql_ptr_same w a Try.underlying68 hi
theorem eql_tx_other {a b : Addr} {ca cb : Array Value} {ta tb : TypeId} (w : World) (hne : a ≠ b) (ha : w.heap[a.block]? = some (.cells ca ta (0, 0))) (hb : w.heap[b.block]? = some (.cells cb tb (0, 0))) : (binOp .eql 68 (.pointer (some a)) (.pointer (some b))).run Try.prog w = .ok (.bool false) w := by
  obtain ⟨i0, hi, _, hs, _⟩ := info_parts info_tx
  exact run_eql_ptr_other w Try.underlying68 hi (by rw [hs]; decide) hne ha hb
theorem eql_tx_nil (a : Addr) (w : World) : (binOp .eql 68 (.pointer (some a)) (.pointer none)).run Try.prog w = .ok (.bool false) w := by
  have h : ∀ d : Nat, (Op.equalIn (d + 1) 68 (.pointer (some a)) (.pointer none)).run Try.prog w = .ok false w := fun d => by
    simp [Op.equalIn, run_underlying Try.underlying68]
  simp only [binOp]
  simp [Op.equal, Op.maxDepth, h 9999]

def sameTx (o : Option (Tx × Int)) (t : Tx) : Bool := match o with
  | none => false
  | some (u, _) => decide (u.x = t.x)
def Mg.sees (m : Mg) (mn mx : Int) (l : List Int) (own x : Int) : Bool := match fnd m.tx x with
  | none => decide (1 ≤ x) && decide (x < mn)
  | some (t, i) => if sameTx (fnd m.tx own) t then decide (stE (some (t, i)) ≠ 4) else decide (stE (some (t, i)) = 3) && (decide ((t.x : Int) < mx) && !decide ((t.x : Int) ∈ l))

theorem sees_none (b : Nat) (m : Mg) (σ : Nat → Option Nat) (mb : Nat) (bl : Nat → Nat) (w : World) (h : MG w b m σ mb bl) (mn mx : Int) (l : List Int) (v : Value) (own x : Int) (h1 : -9223372036854775808 ≤ x) (h2 : x ≤ 9223372036854775807) (hf : fnd m.tx x = none) :
    Calls Try.prog 15 #[.pointer (some ⟨b, 0, none⟩), .agg #[.int .i64 mn, .int .i64 mx, v], .int .i64 own, .int .i64 x] w fun y w' => y = .returned (.bool (m.sees mn mx l own x)) ∧ Tch (fun _ => False) w w' := by
  obtain ⟨w0, hw0⟩ : ∃ w0, w0 = w.alloc (.cells #[.int .i64 mn, .int .i64 mx, v] 38) := ⟨_, rfl⟩
  have t0 : Tch (fun _ => False) w w0 := by rw [hw0]; exact Tch.alloc _ _ _
  have hY0 : w0.heap[w.heap.size]? = some (.cells #[.int .i64 mn, .int .i64 mx, v] 38 (0, 0)) := by rw [hw0]; exact alloc_new _ _
  have c0 := (h.no t0).c0
  have q := find_any b m σ mb bl x w0 (h.no t0) h1 h2
  rw [lk_none hf] at q
  have qs := fun W => known_any none W
  simp only [numV, Option.isSome_none] at q qs
  have HS : Hid (m.sees mn mx l own x = (decide (1 ≤ x) && decide (x < mn))) := by show _ = _; simp [Mg.sees, hf]
  have HY0 : Hid _ := hY0
  have Ht0 : Hid _ := t0
  rw [hw0] at c0
  clear h hf h1 h2 hY0 t0
  go_enter Try.func15, Try.ntmps15
  go_wp2_with fail
  rw [← hw0]
  refine q.mono ?_
  rintro y w1 ⟨rfl, t1⟩
  clear q hw0 c0
  have HT1 : Hid (Tch (fun _ => False) w0 w1) := t1
  clear t1
  go_wp2_with fail
  refine (qs _).mono ?_
  rintro y w2 ⟨rfl, t2⟩
  clear qs
  have T2 := (HT1.out.trans' (Tch.alloc _ _ _)).trans' t2
  have d0 : w2.cell? ⟨w.heap.size, 0, none⟩ = some (.int .i64 mn) := by rw [T2.cell (p := ⟨w.heap.size, 0, none⟩) (blk_lt HY0.out) (fun h => h), blk_cell HY0.out]; rfl
  have HT2 : Hid (Tch (fun _ => False) w w2) := Ht0.out.trans' T2
  clear t2 T2
  by_cases hx : 1 ≤ x
  · go_wp2
    go_ret
    exact ⟨by rw [HS.out]; simp [hx], HT2.out⟩
  · go_wp2
    go_ret
    exact ⟨by rw [HS.out, show decide (1 ≤ x) = false from decide_eq_false (by omega)]; rfl, HT2.out⟩

set_option maxHeartbeats 2000000 in
set_option maxRecDepth 100000 in
theorem sees_some (b : Nat) (m : Mg) (σ : Nat → Option Nat) (mb : Nat) (bl : Nat → Nat) (w : World) (h : MG w b m σ mb bl) (mn mx : Int) (l : List Int) (ao : Option Addr) (c : Nat) (hl : l.length ≤ 9223372036854775807) (hI : IR w ao l) (own x : Int) (h1 : -9223372036854775808 ≤ x) (h2 : x ≤ 9223372036854775807) (h3 : -9223372036854775808 ≤ own) (h4 : own ≤ 9223372036854775807) {t : Tx} {i : Int} (hf : fnd m.tx x = some (t, i)) :
    Calls Try.prog 15 #[.pointer (some ⟨b, 0, none⟩), .agg #[.int .i64 mn, .int .i64 mx, .slice ao l.length c], .int .i64 own, .int .i64 x] w fun y w' => y = .returned (.bool (m.sees mn mx l own x)) ∧ Tch (fun _ => False) w w' := by
  obtain ⟨w0, hw0⟩ : ∃ w0, w0 = w.alloc (.cells #[.int .i64 mn, .int .i64 mx, .slice ao l.length c] 38) := ⟨_, rfl⟩
  have t0 : Tch (fun _ => False) w w0 := by rw [hw0]; exact Tch.alloc _ _ _
  have hY0 : w0.heap[w.heap.size]? = some (.cells #[.int .i64 mn, .int .i64 mx, .slice ao l.length c] 38 (0, 0)) := by rw [hw0]; exact alloc_new _ _
  have c0 := (h.no t0).c0
  have q := find_any b m σ mb bl x w0 (h.no t0) h1 h2
  obtain ⟨hx, hi, h64, hst, hlk, htm⟩ := h.at hf
  rw [hlk] at q
  have qs := fun W => known_any (some (bl t.x, i)) W
  have qo := fun W (hW : Tch (fun _ => False) w W) => find_any b m σ mb bl own W (h.no hW) h3 h4
  have qst := fun W (hW : Tch (fun _ => False) w W) => state_some σ (bl t.x) t i W (hx.tch hW (fun _ _ h => h.elim) (fun _ _ h => h)) hi h64
  have qc := fun W (hW : Tch (fun _ => False) w W) => contains_any l ao c t.x W (hI.no hW) hl
  obtain ⟨n, hn⟩ : ∃ n, n = l.length := ⟨_, rfl⟩
  rw [← hn] at qc hY0 hw0 ⊢
  obtain ⟨po, io, hpo, hsm⟩ : ∃ po io, numV (lkB bl m.tx own) = .agg #[.pointer po, .int .i64 io] ∧ ∀ W, Tch (fun _ => False) w W → (binOp .eql 68 (.pointer (some ⟨bl t.x, 0, none⟩)) (.pointer po)).run Try.prog W = .ok (.bool (sameTx (fnd m.tx own) t)) W := by
    cases ho : fnd m.tx own with
    | none => exact ⟨none, 0, by simp [lkB, ho, numV], fun W _ => eql_tx_nil _ _⟩
    | some a =>
      obtain ⟨u, j⟩ := a
      refine ⟨some ⟨bl u.x, 0, none⟩, j, by simp [lkB, ho, numV], fun W tW => ?_⟩
      by_cases hu : u.x = t.x
      · rw [hu]
        have e : sameTx (some (u, j)) t = true := by simp [sameTx, hu]
        rw [e]
        exact eql_tx_same _ _
      · have e : sameTx (some (u, j)) t = false := by simp [sameTx, hu]
        rw [e]
        obtain ⟨_, a1, _⟩ := ((h.xs t htm).tch tW (fun _ _ h => h.elim) (fun _ _ h => h)).blk
        obtain ⟨_, a2, _⟩ := ((h.xs u (fnd_mem ho).1).tch tW (fun _ _ h => h.elim) (fun _ _ h => h)).blk
        refine eql_tx_other W (fun e => ?_) a1 a2
        injection e with e
        exact hu (h.inj t htm u (fnd_mem ho).1 e).symm
  obtain ⟨sm, hsm0⟩ : ∃ sm, sm = sameTx (fnd m.tx own) t := ⟨_, rfl⟩
  rw [← hsm0] at hsm
  rw [hpo] at qo
  obtain ⟨e, he⟩ : ∃ e, e = stE (some (t, i)) := ⟨_, rfl⟩
  have HS : Hid (m.sees mn mx l own x = if sm then decide (e ≠ 4) else decide (e = 3) && (decide ((t.x : Int) < mx) && !decide ((t.x : Int) ∈ l))) := by show _ = _; simp only [Mg.sees, hf, he, hsm0]
  rw [← he] at qst
  obtain ⟨tb, htb⟩ : ∃ tb, tb = bl t.x := ⟨_, rfl⟩
  rw [← htb] at q qs qst hsm hx
  simp only [numV, Option.isSome_some] at q qs qst
  obtain ⟨tx, htx⟩ : ∃ tx, tx = t.x := ⟨_, rfl⟩
  rw [← htx] at HS qc
  obtain ⟨cc, hcc⟩ : ∃ cc, cc = decide ((tx : Int) ∈ l) := ⟨_, rfl⟩
  rw [← hcc] at HS qc
  have HY0 : Hid _ := hY0
  have Ht0 : Hid _ := t0
  have Hx : Hid (XB w σ tb t) := hx
  have Htx : Hid (tx = t.x) := htx
  have Hqo : Hid _ := qo
  have Hqst : Hid _ := qst
  have Hqc : Hid _ := qc
  have Hm : Hid (MG w b m σ mb bl) := h
  have Hsm : Hid _ := hsm
  rw [hw0] at c0
  clear h hf h1 h2 h3 h4 hY0 t0 hx hi h64 hst hlk htm hI hl hn hpo he htb htx hcc qo qst qc hsm hsm0
  go_enter Try.func15, Try.ntmps15
  go_wp2_with fail
  rw [← hw0]
  refine q.mono ?_
  rintro y w1 ⟨rfl, t1⟩
  clear q hw0 c0
  have HT1 : Hid (Tch (fun _ => False) w0 w1) := t1
  clear t1
  go_wp2_with fail
  obtain ⟨w2, hw2⟩ : ∃ w2, w2 = w1.alloc (.cells #[.pointer (some ⟨tb, 0, none⟩), .int .i64 i] 72) := ⟨_, rfl⟩
  have hb : w2.heap[w1.heap.size]? = some (.cells #[.pointer (some ⟨tb, 0, none⟩), .int .i64 i] 72 (0, 0)) := by rw [hw2]; exact alloc_new _ _
  have HT2 : Hid (Tch (fun _ => False) w0 w2) := by show Tch _ _ _; rw [hw2]; exact HT1.out.trans' (Tch.alloc _ _ _)
  rw [← hw2]
  clear hw2
  refine (qs _).mono ?_
  rintro y w3 ⟨rfl, t3⟩
  clear qs
  obtain ⟨n1, hn1⟩ : ∃ n1, n1 = w1.heap.size := ⟨_, rfl⟩
  obtain ⟨n0, hn0⟩ : ∃ n0, n0 = w.heap.size := ⟨_, rfl⟩
  have F : ∀ W, Tch (fun _ => False) w3 W → (W.cell? ⟨n1, 0, none⟩ = some (.pointer (some ⟨tb, 0, none⟩)) ∧ W.cell? ⟨n1, 1, none⟩ = some (.int .i64 i)) ∧ (W.cell? ⟨n0, 0, none⟩ = some (.int .i64 mn) ∧ W.cell? ⟨n0, 1, none⟩ = some (.int .i64 mx) ∧ W.cell? ⟨n0, 2, none⟩ = some (.slice ao n c)) ∧ W.cell? ⟨b, 0, none⟩ = some (.map (some mb)) ∧ W.cell? ⟨tb, 0, none⟩ = some (.int .i64 tx) ∧ Tch (fun _ => False) w W := fun W tW => by
    have T := t3.trans' tW
    have T0 := HT2.out.trans' T
    have T00 := Ht0.out.trans' T0
    have b1 := hb
    have b0 := HY0.out
    rw [← hn1] at b1
    rw [← hn0] at b0
    have a1 := (T.block n1 (blk_lt b1) (fun h => h)).trans b1
    have a0 := (T0.block n0 (blk_lt b0) (fun h => h)).trans b0
    obtain ⟨v, e0, _⟩ := (Hx.out.tch T00 (fun _ _ h => h.elim) (fun _ _ h => h)).c
    refine ⟨⟨by rw [blk_cell a1]; rfl, by rw [blk_cell a1]; rfl⟩, ⟨by rw [blk_cell a0]; rfl, by rw [blk_cell a0]; rfl, by rw [blk_cell a0]; rfl⟩, (Hm.out.no T00).c0, ?_, T00⟩
    rw [Htx.out]; exact e0
  rw [← hn1, ← hn0]
  have HF : Hid _ := F
  obtain ⟨⟨a0, a1⟩, ⟨s0, s1, s2⟩, m0, x0, T3⟩ := F w3 (Tch.refl _ _)
  have k0 := cell_regrown a0; have k1 := cell_regrown m0
  have hcall : ∀ d os, Calls Try.prog 32 #[.map (some mb), .int .i64 own] (grow (redrawn w3 d) os) fun e w'' => e = .returned (.agg #[.pointer po, .int .i64 io]) ∧ ∃ p : Regrown, w'' = grow (redrawn w3 p.d) p.os := fun d os => Calls.tch_regrown_of (Hqo.out _ (T3.trans' (tch_regrown w3 ⟨d, os⟩)))
  have heq : ∀ (a : Regrown), (binOp .eql 68 (.pointer (some ⟨tb, 0, none⟩)) (.pointer po)).run Try.prog (grow (redrawn w3 a.d) a.os) = .ok (.bool sm) (grow (redrawn w3 a.d) a.os) := fun a => Hsm.out _ (T3.trans' (tch_regrown w3 a))
  have hfl := field_num po io
  clear F t3 hb hn1 hn0 T3 a1 s0 s1 s2 x0
  go_wp2_with fail
  refine wp_region_quiet_below (by kernel_rfl) (by kernel_rfl) ?_
  repeat (quiet_step ((go_at_call 32; exact hcall _ _)))
  refine wpQuiet_nil ?_
  rintro w4 ⟨pp, rfl⟩
  have tG := tch_regrown w3 pp
  obtain ⟨W, hW⟩ : ∃ W, W = grow (redrawn w3 pp.d) pp.os := ⟨_, rfl⟩
  rw [← hW] at tG ⊢
  clear hW k0 k1 hcall a0 m0 heq hfl
  obtain ⟨⟨a0, a1⟩, ⟨s0, s1, s2⟩, m0, x0, T4⟩ := HF.out W tG
  have HT4 : Hid (Tch (fun _ => False) w W) := T4
  cases sm with
  | true =>
    have Q := Hqst.out W T4
    clear s0 s1 s2 m0 x0 T4 tG
    go_wp2_with fail
    refine Q.mono ?_
    rintro y w5 ⟨rfl, t5⟩
    clear Q a0 a1
    have HT5 : Hid (Tch (fun _ => False) w w5) := HT4.out.trans' t5
    clear t5
    by_cases he4 : e = 4
    · subst he4
      go_wp2
      go_ret
      exact ⟨by rw [HS.out]; rfl, HT5.out⟩
    · have he1 : ((e : Int) == 4) = false := by simp; omega
      have heI : ¬ (e : Int) = 4 := by omega
      go_wp2
      go_ret
      exact ⟨by rw [HS.out]; simp [he4]; omega, HT5.out⟩
  | false =>
    have HS' : Hid (m.sees mn mx l own x = (decide (e = 3) && (decide ((tx : Int) < mx) && !cc))) := by show _ = _; rw [HS.out]; rfl
    have k0 := cell_regrown a0; have k1 := cell_regrown a1; have k2 := cell_regrown s1; have k3 := cell_regrown s2; have k4 := cell_regrown x0
    have hcall : ∀ d os, Calls Try.prog 38 #[.agg #[.pointer (some ⟨tb, 0, none⟩), .int .i64 i]] (grow (redrawn W d) os) fun e' w'' => e' = .returned (.int .i64 e) ∧ ∃ p : Regrown, w'' = grow (redrawn W p.d) p.os := fun d os => Calls.tch_regrown_of (Hqst.out _ (T4.trans' (tch_regrown W ⟨d, os⟩)))
    have hcon : ∀ d os, Calls Try.prog 39 #[.slice ao n c, .int .i64 tx] (grow (redrawn W d) os) fun e' w'' => e' = .returned (.bool cc) ∧ ∃ p : Regrown, w'' = grow (redrawn W p.d) p.os := fun d os => Calls.tch_regrown_of ((Hqc.out _ (T4.trans' (tch_regrown W ⟨d, os⟩))).mono (fun _ _ ⟨h1, h2⟩ => ⟨h1, by rw [h2]; exact Tch.refl _ _⟩))
    clear a0 a1 s0 s1 s2 m0 x0 T4 tG HS
    by_cases he3 : e = 3
    · subst he3
      have hcall' : ∀ d os, Calls Try.prog 38 #[.agg #[.pointer (some ⟨tb, 0, none⟩), .int .i64 i]] (grow (redrawn W d) os) fun e' w'' => e' = .returned (.int .i64 3) ∧ ∃ p : Regrown, w'' = grow (redrawn W p.d) p.os := hcall
      clear hcall
      by_cases hmx : (tx : Int) < mx
      · go_wp2_with fail
        refine wp_region_quiet_below (by kernel_rfl) (by kernel_rfl) ?_
        go_big_quiet_step (fail)
        go_big_quiet_step ((go_at_call 38; exact hcall' _ _))
        repeat (go_big_quiet_step (fail))
        go_big_quiet_step ((go_at_call 39; exact hcon _ _))
        repeat (go_big_quiet_step (fail))
        refine wpQuiet_nil ?_
        rintro w5 ⟨pp, rfl⟩
        have HT5 : Hid (Tch (fun _ => False) w (grow (redrawn W pp.d) pp.os)) := HT4.out.trans' (tch_regrown W pp)
        clear k0 k1 k2 k3 k4 hcall' hcon
        go_wp2
        go_ret
        exact ⟨by rw [HS'.out]; simp [hmx], HT5.out⟩
      · go_wp2_with fail
        have hmx2 : ¬ (tx : Int) < mx := by omega
        have hmx3 : decide ((tx : Int) < mx) = false := decide_eq_false hmx2
        refine wp_region_quiet_below (by kernel_rfl) (by kernel_rfl) ?_
        go_big_quiet_step (fail)
        go_big_quiet_step ((go_at_call 38; exact hcall' _ _))
        repeat (go_big_quiet_step (fail))
        refine wpQuiet_nil ?_
        rintro w5 ⟨pp, rfl⟩
        have HT5 : Hid (Tch (fun _ => False) w (grow (redrawn W pp.d) pp.os)) := HT4.out.trans' (tch_regrown W pp)
        clear k0 k1 k2 k3 k4 hcall' hcon
        go_wp2
        go_ret
        exact ⟨by rw [HS'.out, decide_eq_false (p := (tx : Int) < mx) (by omega)]; rfl, HT5.out⟩
    · have he1 : ((e : Int) == 3) = false := by simp; omega
      have heI : ¬ (e : Int) = 3 := by omega
      go_wp2_with fail
      refine wp_region_quiet_below (by kernel_rfl) (by kernel_rfl) ?_
      go_big_quiet_step (fail)
      go_big_quiet_step ((go_at_call 38; exact hcall _ _))
      repeat (go_big_quiet_step (fail))
      refine wpQuiet_nil ?_
      rintro w5 ⟨pp, rfl⟩
      have HT5 : Hid (Tch (fun _ => False) w (grow (redrawn W pp.d) pp.os)) := HT4.out.trans' (tch_regrown W pp)
      clear k0 k1 k2 k3 k4 hcall hcon
      go_wp2
      go_ret
      exact ⟨by rw [HS'.out]; simp [he3], HT5.out⟩
end Go.Proofs.Ytkokmgoplldcfaa
