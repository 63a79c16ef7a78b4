/- Forget. -/
import Derived.Test.YtkokmgoplldcfaaXForg2
namespace Go.Proofs.Ytkokmgoplldcfaa
open Go.RowKit Go Go.Sort Go.Maps

set_option maxHeartbeats 1000000 in
theorem forgets_any (b : Nat) (m : Mg) (w : World) (F : Nat → Prop) (σ : Nat → Option Nat) (mb : Nat) (bl : Nat → Nat) (h : MG w b m σ mb bl) (hF : ∀ i, F i → σ i = none ∧ i < w.heap.size) (below : Int) :
    Calls Try.prog 42 #[.map (some mb), .int .i64 below] w fun x w' => x = .returned (.int .i64 (m.many below)) ∧ MF w' b (m.forget below) F ∧ Kept F w w' := by
  obtain ⟨nn, D, hnn, hD, hkD⟩ := h.mp
  obtain ⟨es, rfl, hap, hint⟩ := own_entries hD
  have hme := many_eq h hap hint hkD below
  obtain ⟨w0, hw0⟩ : ∃ w0, w0 = w.alloc (.cells #[.int .i64 below] 3) := ⟨_, rfl⟩
  have t0 : Tch (fun _ => False) w w0 := by rw [hw0]; exact Tch.alloc _ _ _
  have hB0 : w0.heap[w.heap.size]? = some (.cells #[.int .i64 below] 3 (0, 0)) := by rw [hw0]; exact alloc_new _ _
  have hD0 := ownsMap_tch hD t0 (fun h => h)
  have h0 := h.no t0
  have hmw : mb < w.heap.size := h.ml
  have q := df_any (pdF m below) (.pointer (some ⟨w.heap.size, 0, none⟩)) mb nn (.map es) w0 hD0 (fun W key val kl yd yp hgw hkey hv hat => by
    obtain ⟨left, hat⟩ := hat
    obtain ⟨k, rfl, rfl, hwf⟩ := Maps.keyOf_int_inv Try.underlying3 hkey
    have hin : (Lit.int .i64 k, yd) ∈ es := (List.mem_filter.1 ((at_iff (hap.filter _)).1 hat)).1
    obtain ⟨a, e1, e2⟩ := (h.entry hap hkD k yd).1 hin
    obtain ⟨t, i, hf⟩ : ∃ t i, fnd m.tx k = some (t, i) := by
      cases hf : fnd m.tx k with
      | none => simp [lkB, hf] at e1
      | some ti => exact ⟨ti.1, ti.2, rfl⟩
    have ea : a = (bl t.x, i) := by
      simp only [lkB, hf, Option.map_some, Option.some.injEq] at e1
      exact e1.symm
    have ev := numElem_inv hv e2
    rw [ev, ea]
    obtain ⟨hx, _, h64, _, _, htm⟩ := h0.at hf
    have tW : Tch (fun j => j = mb) w0 W := ⟨hgw.os, hgw.tape, hgw.output, hgw.size, fun j hj hn => hgw.block j hj (fun e => hn (by injection e))⟩
    have hxW := hx.tch tW (fun j _ e he => by
      rw [e, h.lm] at he
      injection he with he
      exact h.nb t htm he.symm) (fun _ _ h => h)
    have hbb : W.cell? ⟨w.heap.size, 0, none⟩ = some (.int .i64 below) := by
      rw [tW.cell (p := ⟨w.heap.size, 0, none⟩) (blk_lt hB0) (by show ¬ w.heap.size = mb; omega), blk_cell hB0]; rfl
    refine (forget1_any σ (bl t.x) t i _ w.heap.size below W hxW h64 hbb).mono ?_
    rintro e W' ⟨rfl, tt⟩
    refine ⟨?_, tt.grown⟩
    simp only [pdF, hf])
  have hl0 : ∀ ty, (Builtin.len_ #[64] ty #[.map (some mb)]).run Try.prog w0 = .ok (.int .i64 es.length) w0 := fun ty => hD0.len Try.underlying64 ty
  have hFl : (es.filter (fun p => !pdF m below p.1 p.2)).length + m.many below = es.length := by
    rw [← hme]
    have key : ∀ (l : List (Lit × DataW Unit)) (f : Lit × DataW Unit → Bool), (l.filter (fun p => !f p)).length + (l.filter f).length = l.length := by
      intro l f
      induction l with
      | nil => rfl
      | cons a r ih =>
        simp only [List.filter_cons]
        cases f a <;> simp <;> omega
    exact key es (fun p => pdF m below p.1 p.2)
  have hsz : es.length ≤ 2147483648 := by
    have h1 := hD.size_le
    have h2 := h.wf.n2
    simp only [Maps.size] at h1
    omega
  have HM : Hid (∀ w1, w1.ownsMap Try.prog 3 numElem mb nn (Lib.deleteFuncD (pdF m below) (.map es)) → w0.grownBy w1 (some mb) → (MF w1 b (m.forget below) F ∧ Kept F w w1) ∧ ∀ ty, (Builtin.len_ #[64] ty #[.map (some mb)]).run Try.prog w1 = .ok (.int .i64 (es.filter (fun p => !pdF m below p.1 p.2)).length) w1) := fun w1 hD1 hg1 => by
    have t1 : Tch (fun j => j = mb) w0 w1 := Tch.of_grown hg1 (fun g hg => by injection hg with hg; exact hg.symm)
    have T : Tch (fun j => j = mb) w w1 := (t0.mono (fun _ _ h => h.elim)).trans' t1
    refine ⟨?_, fun ty => hD1.len Try.underlying64 ty⟩
    have hmb : mb ≠ b := h.mne
    obtain ⟨ov, hB, hon, hlab⟩ := h.blk
    have hM1 : MG w1 b (m.forget below) σ mb bl := by
      refine ⟨h.wf.forget below, ⟨ov, (T.block b h.bl' (fun e => hmb e.symm)).trans hB, own_tch hon T (fun g hg e => ?_), hlab⟩, h.lb, h.lm, ⟨nn, _, hnn, hD1, fun k zd => ?_⟩, ?_, ?_, ?_, fun j hj => Nat.lt_of_lt_of_le (h.lt j hj) T.size⟩
      · obtain ⟨cur, hc⟩ := own_blk hon hg
        obtain ⟨es', clock, hh, _⟩ := hD
        rw [e, hh] at hc; cases hc
      · show (DataW.map (es.filter fun p => !pdF m below p.1 p.2)).atKey _ zd = _
        have hlk : lkB bl (m.forget below).tx k = match fnd m.tx k with
            | some (t, i) => if goneT t below then none else some (bl t.x, i)
            | none => none := by
          simp only [lkB, Mg.forget, fnd_filter h.wf]
          cases fnd m.tx k with
          | none => rfl
          | some ti =>
            obtain ⟨t, i⟩ := ti
            simp only
            cases goneT t below <;> simp
        rw [hlk]
        cases hf : fnd m.tx k with
        | none =>
          refine at_none (fun y hy => ?_) zd
          obtain ⟨a, e1, _⟩ := (h.entry hap hkD k y).1 (List.mem_filter.1 hy).1
          simp [lkB, hf] at e1
        | some ti =>
          obtain ⟨t, i⟩ := ti
          have hlk1 : lkB bl m.tx k = some (bl t.x, i) := by simp [lkB, hf]
          have hin := (h.entry hap hkD k _).2 ⟨_, hlk1, rfl⟩
          simp only
          cases hg : goneT t below with
          | true =>
            refine at_none (fun y hy => ?_) zd
            have h9 := (List.mem_filter.1 hy).2
            simp only [pdF, hf, hg] at h9
            cases h9
          | false =>
            exact (at_iff (hap.filter _)).2 (List.mem_filter.2 ⟨hin, by simp only [pdF, hf, hg]; rfl⟩) zd
      · intro t ht
        have htm := (List.mem_filter.1 ht).1
        exact (h.xs t htm).tch T (fun j _ e he => by
          rw [e, h.lm] at he
          injection he with he
          exact h.nb t htm he.symm) (fun _ _ h => h)
      · intro t ht u hu
        exact h.inj t (List.mem_filter.1 ht).1 u (List.mem_filter.1 hu).1
      · intro t ht
        exact h.nb t (List.mem_filter.1 ht).1
    exact MF.stp hF hM1 ⟨T.mono (fun j _ e => by rw [e, h.lm]; exact fun e => by cases e), fun _ _ => rfl⟩
  obtain ⟨el, hel⟩ : ∃ el, el = es.length := ⟨_, rfl⟩
  obtain ⟨fl, hfl⟩ : ∃ fl, fl = (es.filter (fun p => !pdF m below p.1 p.2)).length := ⟨_, rfl⟩
  obtain ⟨mm, hmm⟩ : ∃ mm, mm = m.many below := ⟨_, rfl⟩
  rw [← hel] at hl0 hFl hsz
  rw [← hfl] at hFl HM
  rw [← hmm] at hFl ⊢
  rw [hw0] at hl0
  clear h hF hnn hD hkD hap hint hme t0 hB0 hD0 h0 hmw hel hfl hmm
  go_enter Try.func42, Try.ntmps42
  go_wp2_with fail
  rw [← hw0]
  refine q.mono ?_
  rintro x w1 ⟨rfl, hD1, hg1⟩
  obtain ⟨hM1, hl1⟩ := HM.out w1 hD1 hg1
  have HM1 : Hid _ := hM1
  clear q hM1 hD1 hg1 hl0 hw0
  have e9 : (el : Int) - fl = mm := by omega
  have HE : Hid _ := e9
  clear e9
  go_wp2_with fail
  go_ret
  exact ⟨by rw [← HE.out]; rfl, HM1.out⟩
theorem forget_f (b : Nat) (m : Mg) (w : World) (F : Nat → Prop) (h : MF w b m F) (below : Int) :
    Calls Try.prog 21 #[.pointer (some ⟨b, 0, none⟩), .int .i64 below] w fun x w' => x = .returned (.int .i64 (m.many below)) ∧ MF w' b (m.forget below) F ∧ Kept F w w' := by
  obtain ⟨σ, mb, bl, h, hF⟩ := h
  have c0 := h.c0
  have q := forgets_any b m w F σ mb bl h hF below
  clear h hF
  go_enter Try.func21, Try.ntmps21
  go_wp2_with fail
  refine q.mono ?_
  rintro x w1 ⟨rfl, hM, hK⟩
  have HM : Hid _ := hM
  have HK : Hid _ := hK
  clear q hM hK c0
  go_wp2
  go_ret
  exact ⟨rfl, HM.out, HK.out⟩
end Go.Proofs.Ytkokmgoplldcfaa
