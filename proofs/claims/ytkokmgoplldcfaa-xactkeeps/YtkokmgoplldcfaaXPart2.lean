/- Part. -/
import Derived.Test.YtkokmgoplldcfaaXPart
namespace Go.Proofs.Ytkokmgoplldcfaa
open Go.RowKit Go Go.Sort

theorem drewN_size (w : World) (n : Nat) : (w.drewN n).heap.size = w.heap.size := rfl
/-- One transaction has changed. -/
theorem MG.chg {w w' : World} {b : Nat} {m m' : Mg} {σ σ' : Nat → Option Nat} {mb : Nat} {bl : Nat → Nat} (h : MG w b m σ mb bl) {t : Tx} (ht : t ∈ m.tx) (f : Tx → Tx) (hx : ∀ u, (f u).x = u.x) (hm' : m'.tx = upd m.tx t.x f) (hwf : Wf m')
    (s1 : ∀ i, i < w.heap.size → σ' i = σ i) (s2 : ∀ i, σ' i ≠ none → i < w'.heap.size) {S : Nat → Prop} (T : Tch S w w') (hS : ∀ i, i < w.heap.size → S i → σ i = some b ∨ σ i = some (bl t.x))
    (hB : ∃ ov, w'.heap[b]? = some (.cells #[.map (some mb), .int .i64 m'.nx, ov] 66 (0, 0)) ∧ w'.ownsRow 0 3 1 ov m'.on.length (icl m'.on) ∧ ∀ g, ov.ownBlock = some g → σ' g = some b)
    (hD : ∃ n D, n ≤ m'.nx ∧ w'.ownsMap Try.prog 3 numElem mb n D ∧ ∀ k zd, D.atKey (.int .i64 k) zd = atE (lkB bl m'.tx k) zd)
    (hX : XB w' σ' (bl t.x) (f t)) : MG w' b m' σ' mb bl ∧ Stp w σ w' σ' := by
  have hm : ∀ u ∈ m'.tx, ∃ u0 ∈ m.tx, u.x = u0.x ∧ ((u = u0 ∧ u0.x ≠ t.x) ∨ (u0 = t ∧ u = f t)) := fun u hu => by
    rw [hm'] at hu
    obtain ⟨u0, hu0, e⟩ := mem_upd hu
    refine ⟨u0, hu0, ?_⟩
    by_cases hxx : u0.x = t.x
    · rw [if_pos hxx] at e
      have := h.wf.uniq u0 hu0 t ht hxx
      subst this
      exact ⟨by rw [e, hx], Or.inr ⟨rfl, e⟩⟩
    · rw [if_neg hxx] at e
      exact ⟨by rw [e], Or.inl ⟨e, hxx⟩⟩
  refine ⟨⟨hwf, hB, by rw [s1 b h.bl']; exact h.lb, by rw [s1 mb h.ml]; exact h.lm, hD, ?_, ?_, ?_, s2⟩, ⟨?_, s1⟩⟩
  · intro u hu
    obtain ⟨u0, hu0, e, ⟨rfl, hn⟩ | ⟨rfl, rfl⟩⟩ := hm u hu
    · refine (h.xs u hu0).tch T (fun i hi hs e => ?_) (fun i hi e => by rw [s1 i hi]; exact e)
      rcases hS i hi hs with h1 | h1
      · rw [h1] at e; injection e with e; exact h.nb u hu0 e.symm
      · rw [h1] at e; injection e with e; exact hn (h.inj t ht u hu0 e).symm
    · rw [e]; exact hX
  · intro u hu v hv e
    obtain ⟨u0, hu0, e1, _⟩ := hm u hu
    obtain ⟨v0, hv0, e2, _⟩ := hm v hv
    rw [e1, e2] at e ⊢
    exact h.inj u0 hu0 v0 hv0 e
  · intro u hu
    obtain ⟨u0, hu0, e1, _⟩ := hm u hu
    rw [e1]; exact h.nb u0 hu0
  · exact T.mono (fun i hi hs e => by rcases hS i hi hs with h1 | h1 <;> rw [h1] at e <;> cases e)

section
variable (b : Nat) (m : Mg) (σ : Nat → Option Nat) (mb : Nat) (bl : Nat → Nat) (w : World) (h : MG w b m σ mb bl) (k : Int) (h1 : -9223372036854775808 ≤ k) (h2 : k ≤ 9223372036854775807)
include h h1 h2
theorem part_none (hf : fnd m.tx k = none) : Calls Try.prog 10 #[.pointer (some ⟨b, 0, none⟩), .int .i64 k] w fun x w' => x = .returned (.tuple #[.int .i64 0, .int .i64 70]) ∧ Tch (fun _ => False) w w' := by
  have c0 := h.c0
  have q := find_any b m σ mb bl k w h h1 h2
  rw [lk_none hf] at q
  have qs := fun W => known_any none W
  simp only [numV, Option.isSome_none] at q qs
  clear h hf h1 h2
  go_enter Try.func10, Try.ntmps10
  go_wp2_with fail
  refine q.mono ?_
  rintro x w1 ⟨rfl, t1⟩
  clear q
  have T : Hid (Tch (fun _ => False) w w1) := t1
  clear t1 c0
  go_wp2_with fail
  refine (qs _).mono ?_
  rintro x w2 ⟨rfl, t2⟩
  clear qs
  have T2 : Hid (Tch (fun _ => False) w w2) := (T.out.trans' (Tch.alloc _ _ _)).trans' t2
  clear t2
  go_wp2
  go_ret2
  exact ⟨rfl, T2.out⟩

/-- What Part tells. -/
def partE (m : Mg) (t : Tx) (i : Int) : Nat := if may t i = false then 71 else if t.ps.length = 64 then 72 else if 2147483647 < m.nx then 73 else 0

set_option maxHeartbeats 1000000 in
theorem part_some {t : Tx} {i : Int} (hf : fnd m.tx k = some (t, i)) : Calls Try.prog 10 #[.pointer (some ⟨b, 0, none⟩), .int .i64 k] w fun x w' =>
    (partE m t i ≠ 0 → x = .returned (.tuple #[.int .i64 0, .int .i64 (partE m t i)]) ∧ Tch (fun _ => False) w w') ∧
    (partE m t i = 0 → x = .returned (.tuple #[.int .i64 m.nx, .int .i64 0]) ∧ ∃ σ', MG w' b (m.part t i) σ' mb bl ∧ Stp w σ w' σ') := by
  have c0 := h.c0
  have q := find_any b m σ mb bl k w h h1 h2
  obtain ⟨hx, hi, h64, hst, hlk, htm⟩ := h.at hf
  rw [hlk] at q
  have qs := fun W => known_any (some (bl t.x, i)) W
  have qm := fun W (hW : Tch (fun _ => False) w W) => mayGoOn_any σ (bl t.x) t i W (hx.tch hW (fun _ _ h => h.elim) (fun _ _ h => h)) hi h64 hst.2
  have qn := fun W (hW : Tch (fun _ => False) w W) => noneLeft_any b m σ mb bl W (h.no hW)
  have Hx : Hid (XB w σ (bl t.x) t) := hx
  have Hh : Hid (MG w b m σ mb bl) := h
  have Hi : Hid (-1 ≤ i ∧ i < t.ps.length) := by
    rcases hi with rfl | ⟨j, rfl, hj⟩
    · exact ⟨by omega, by omega⟩
    · exact ⟨by omega, by omega⟩
  have Htm : Hid (t ∈ m.tx) := htm
  obtain ⟨tb, htb⟩ : ∃ tb, tb = bl t.x := ⟨_, rfl⟩
  rw [← htb] at q qs Hx qm
  have Htb : Hid (tb = bl t.x) := htb
  simp only [numV, Option.isSome_some] at q qs qm
  obtain ⟨n, hn⟩ : ∃ n, n = t.ps.length := ⟨_, rfl⟩
  have Hn : Hid (n = t.ps.length) := hn
  rw [← hn] at h64
  obtain ⟨E, hE⟩ : ∃ E, E = partE m t i := ⟨_, rfl⟩
  rw [← hE]
  have HE : Hid (E = if may t i = false then 71 else if n = 64 then 72 else if 2147483647 < m.nx then 73 else 0) := by show _ = _; rw [hE, hn]; rfl
  have Hqm : Hid _ := qm
  have Hqn : Hid _ := qn
  clear hE hn htb h hf h1 h2 hx hi hst hlk htm qm qn
  go_enter Try.func10, Try.ntmps10
  go_wp2_with fail
  refine q.mono ?_
  rintro x w1 ⟨rfl, t1⟩
  clear q
  have T : Hid (Tch (fun _ => False) w w1) := t1
  clear t1 c0
  go_wp2_with fail
  obtain ⟨N, hN⟩ : ∃ N, N = w1.heap.size := ⟨_, rfl⟩
  obtain ⟨w0, hw0⟩ : ∃ w0, w0 = w1.alloc (.cells #[.pointer (some ⟨tb, 0, none⟩), .int .i64 i] 72) := ⟨_, rfl⟩
  have hb : w0.heap[N]? = some (.cells #[.pointer (some ⟨tb, 0, none⟩), .int .i64 i] 72 (0, 0)) := by rw [hw0, hN]; exact alloc_new _ _
  have t0 : Tch (fun _ => False) w w0 := by rw [hw0]; exact T.out.trans' (Tch.alloc _ _ _)
  have HNw : Hid (w.heap.size ≤ N) := by show _ ≤ _; rw [hN]; exact T.out.size
  rw [← hw0, ← hN]
  have Hb : Hid _ := hb
  have Ht0 : Hid _ := t0
  clear hw0 hN hb t0 T
  refine (qs _).mono ?_
  rintro x w2 ⟨rfl, t2⟩
  clear qs
  have HT2 : Hid (Tch (fun _ => False) w0 w2) := t2
  have d0 : w2.cell? ⟨N, 0, none⟩ = some (.pointer (some ⟨tb, 0, none⟩)) := by rw [t2.cell (p := ⟨N, 0, none⟩) (blk_lt Hb.out) (fun h => h), blk_cell Hb.out]; rfl
  have d1 : w2.cell? ⟨N, 1, none⟩ = some (.int .i64 i) := by rw [t2.cell (p := ⟨N, 1, none⟩) (blk_lt Hb.out) (fun h => h), blk_cell Hb.out]; rfl
  have Q := Hqm.out w2 (Ht0.out.trans' t2)
  clear t2
  go_wp2_with fail
  refine Q.mono ?_
  rintro x w3 ⟨rfl, t3⟩
  clear Q d0 d1
  have HT3 : Hid (Tch (fun _ => False) w0 w3) := HT2.out.trans' t3
  clear t3 HT2
  cases hmy : may t i with
  | false =>
    have HE1 : Hid (E = 71) := by show _ = _; rw [HE.out, if_pos hmy]
    have HTw : Hid (Tch (fun _ => False) w w3) := Ht0.out.trans' HT3.out
    go_wp2
    go_ret2
    exact ⟨fun _ => ⟨by rw [HE1.out]; rfl, HTw.out⟩, fun e => by rw [HE1.out] at e; cases e⟩
  | true =>
    have HE1 : Hid (E = if n = 64 then 72 else if 2147483647 < m.nx then 73 else 0) := by show _ = _; rw [HE.out, if_neg (by rw [hmy]; simp)]
    have hX3 := Hx.out.tch (Ht0.out.trans' HT3.out) (fun _ _ h => h.elim) (fun _ _ h => h)
    obtain ⟨pv, _, _, c2, hP⟩ := hX3.c
    obtain ⟨po, pc, rfl⟩ := row_slice hP
    rw [← Hn.out] at c2
    have d0 : w3.cell? ⟨N, 0, none⟩ = some (.pointer (some ⟨tb, 0, none⟩)) := by rw [HT3.out.cell (p := ⟨N, 0, none⟩) (blk_lt Hb.out) (fun h => h), blk_cell Hb.out]; rfl
    have d1 : w3.cell? ⟨N, 1, none⟩ = some (.int .i64 i) := by rw [HT3.out.cell (p := ⟨N, 1, none⟩) (blk_lt Hb.out) (fun h => h), blk_cell Hb.out]; rfl
    have HTw : Hid (Tch (fun _ => False) w w3) := Ht0.out.trans' HT3.out
    have HmV : Hid (may t i = true) := hmy
    clear hX3 hP hmy
    by_cases hn64 : n = 64
    · have HE2 : Hid (E = 72) := by show _ = _; rw [HE1.out, if_pos hn64]
      subst hn64
      go_wp2
      go_ret2
      exact ⟨fun _ => ⟨by rw [HE2.out]; rfl, HTw.out⟩, fun e => by rw [HE2.out] at e; cases e⟩
    · have hn1 : ((n : Int) == 64) = false := by simp; omega
      have hnI : ¬ (n : Int) = 64 := by omega
      have HE2 : Hid (E = if 2147483647 < m.nx then 73 else 0) := by show _ = _; rw [HE1.out, if_neg hn64]
      have Q := Hqn.out w3 HTw.out
      go_wp2_with fail
      refine Q.mono ?_
      rintro x w4 ⟨rfl, hw4⟩
      obtain rfl := hw4.symm
      clear Q hw4
      by_cases hnx : 2147483647 < m.nx
      · have HE3 : Hid (E = 73) := by show _ = _; rw [HE2.out, if_pos hnx]
        rw [decide_eq_true hnx]
        go_wp2
        go_ret2
        exact ⟨fun _ => ⟨by rw [HE3.out]; rfl, HTw.out⟩, fun e => by rw [HE3.out] at e; cases e⟩
      · have HE3 : Hid (E = 0) := by show _ = _; rw [HE2.out, if_neg hnx]
        rw [decide_eq_false hnx]
        have hM3 := Hh.out.no HTw.out
        have Q := give_any b m σ mb bl w3 hM3
        obtain ⟨ov, hB, hon, hlab⟩ := hM3.blk
        obtain ⟨nn, D, hnn, hD, hkD⟩ := hM3.mp
        obtain ⟨v0, hXb, hXr, hXl⟩ := (hM3.xs t Htm.out).blk
        rw [← Htb.out] at hXb hXl
        have hbt : b ≠ tb := fun e => hM3.nb t Htm.out (by rw [← Htb.out, e])
        obtain ⟨w5, hw5⟩ : ∃ w5, w5 = w3.setCell ⟨b, 1, none⟩ (.int .i64 (m.nx + 1 : Nat)) := ⟨_, rfl⟩
        rw [← hw5] at Q
        have t5 : Tch (fun j => j = b) w3 w5 := by rw [hw5]; exact Tch.setCell _ _ _ _ rfl
        have hs5 : w5.heap.size = w3.heap.size := by rw [hw5]; simp [World.setCell]
        have hB5 : w5.heap[b]? = some (.cells #[.map (some mb), .int .i64 (m.nx + 1 : Nat), ov] 66 (0, 0)) := by rw [hw5]; exact blk_set hB _
        have hNl : N < w3.heap.size := Nat.lt_of_lt_of_le (blk_lt Hb.out) HT3.out.size
        have hNb : N ≠ b := by have := Hh.out.bl'; have := HNw.out; omega
        have e0 : w5.cell? ⟨b, 0, none⟩ = some (.map (some mb)) := by rw [blk_cell hB5]; rfl
        have e1 : w5.cell? ⟨N, 0, none⟩ = some (.pointer (some ⟨tb, 0, none⟩)) := by rw [t5.cell (p := ⟨N, 0, none⟩) hNl hNb]; exact d0
        have e2 : w5.cell? ⟨N, 1, none⟩ = some (.int .i64 i) := by rw [t5.cell (p := ⟨N, 1, none⟩) hNl hNb]; exact d1
        have hXb5 := (t5.block tb (blk_lt hXb) (fun e => hbt e.symm)).trans hXb
        have hXr5 := own_tch hXr t5 (fun g hg e => by
          have h1 := hXl g hg
          rw [e, hM3.lb] at h1
          injection h1 with h1
          exact hbt h1)
        have hn2 := hM3.wf.n2
        have hwith := fun (q : Nat) => within_begin mb nn tb t.ps.length D m.nx i (.int .i64 t.x) (.int .i64 t.st) v0 (pcl t.ps) (w5.drewN q) (ownsMap_tch (ownsMap_tch hD t5 hM3.mne) ((Tch.refl (fun _ => False) w5).drewN q) (fun h => h)) (by omega) (by omega) (by omega) (by have h9 := ((Tch.refl (fun _ => False) w5).drewN q).block tb (blk_lt hXb5) (fun h => h); rw [h9]; exact hXb5) (own_tch hXr5 ((Tch.refl (fun _ => False) w5).drewN q) (fun _ _ h => h)) (by have := Hn.out; omega)
        have HB5 : Hid _ := hB5
        have Hon : Hid _ := hon
        have Hlab : Hid _ := hlab
        have HM3 : Hid (MG w3 b m σ mb bl) := hM3
        have Ht5 : Hid _ := t5
        have HkD : Hid _ := hkD
        have Hl0 : Hid (nn ≤ m.nx ∧ b ≠ tb ∧ w5.heap.size = w3.heap.size) := ⟨hnn, hbt, hs5⟩
        have HXl : Hid _ := hXl
        have HD : Hid (w3.ownsMap Try.prog 3 numElem mb nn D) := hD
        have Hwith : Hid _ := hwith
        clear hB hon hlab hD hkD hXb hXr hXl hbt t5 hs5 hB5 hNl hNb hXb5 hXr5 hM3 hw5 hn2 hnn hwith c2
        go_wp2_with fail
        refine Q.mono ?_
        rintro x w6 ⟨rfl, hw6⟩
        obtain rfl := hw6.symm
        clear Q hw6 d0 d1
        go_wp2_with fail
        refine wp_region_drew_tail 6 (by kernel_rfl) (by kernel_rfl) ?_
        repeat (quiet_step (fail))
        refine wpQuiet_nil ?_
        rintro w7 ⟨q, rfl⟩
        clear e0 e1 e2
        go_wp2_with fail
        refine (Hwith.out q).mono ?_
        rintro x w8 ⟨rfl, v', hD8, hX8, hP8, hv8, t8⟩
        have HFin : Hid (∃ σ', MG w8 b (m.part t i) σ' mb bl ∧ Stp w σ w8 σ') := by
          have tq : Tch (fun _ => False) w5 (w5.drewN q) := (Tch.refl _ _).drewN q
          have hM3 := HM3.out
          obtain ⟨hnn, hbt, hs5⟩ := Hl0.out
          have hsq : (w5.drewN q).heap.size = w5.heap.size := by
            exact drewN_size w5 q
          have tA := (Ht5.out.mono (T := fun j => j = b ∨ j = mb ∨ j = tb ∨ v0.ownBlock = some j) (fun j _ e => Or.inl e)).trans tq (fun j _ e => e.elim)
          have tB := tA.trans t8 (fun j _ e => Or.inr e)
          have htb := Htb.out
          have hS : ∀ j, (j = b ∨ j = mb ∨ j = tb ∨ v0.ownBlock = some j) → σ j = some b ∨ σ j = some (bl t.x) := fun j hj => by
            rcases hj with e | e | e | e
            · rw [e]; exact Or.inl hM3.lb
            · rw [e]; exact Or.inl hM3.lm
            · rw [e, htb]; exact Or.inr (hM3.xs t Htm.out).lab
            · rw [← htb]; exact Or.inr (HXl.out j e)
          obtain ⟨σ', hσ'⟩ : ∃ σ' : Nat → Option Nat, σ' = fun j => if j < w3.heap.size then σ j else if v'.ownBlock = some j then some tb else none := ⟨_, rfl⟩
          have s1 : ∀ j, j < w3.heap.size → σ' j = σ j := fun j hj => by rw [hσ']; exact if_pos hj
          have s3 : ∀ j, w3.heap.size ≤ j → σ' j = if v'.ownBlock = some j then some tb else none := fun j hj => by rw [hσ']; exact if_neg (by omega)
          clear hσ'
          have hbl := hM3.bl'
          have htl := (hM3.xs t Htm.out).lt
          rw [← htb] at htl
          have hXlab := (hM3.xs t Htm.out).lab
          rw [← htb] at hXlab
          have hon := Hon.out
          have hB8 := (t8.block b (by rw [hsq, hs5]; exact hbl) (fun e => ?_)).trans ((tq.block b (blk_lt HB5.out) (fun h => h)).trans HB5.out)
          · have h1 := hM3.chg (m' := m.part t i) (σ' := σ') Htm.out (addP ⟨m.nx, i, 0⟩) (fun _ => rfl) rfl (hM3.wf.part Htm.out Hi.out (by omega) (by have := Hn.out; omega)) s1 (fun j hj => ?_) tB (fun j _ hj => hS j hj) ⟨ov, hB8, ?_, fun g hg => ?_⟩ ⟨nn + 1, _, by show nn + 1 ≤ m.nx + 1; omega, hD8, fun k' zd => ?_⟩ ?_
            · exact ⟨σ', h1.1, (Stp.of_no HTw.out).trans h1.2⟩
            · by_cases hj3 : j < w3.heap.size
              · exact Nat.lt_of_lt_of_le hj3 tB.size
              · rw [s3 j (by omega)] at hj
                split at hj
                · rename_i hg
                  obtain ⟨cur, hc⟩ := own_blk hP8 hg
                  exact blk_lt hc
                · exact absurd rfl hj
            · refine own_tch hon tB (fun g hg e => ?_)
              have hgb := Hlab.out g hg
              rcases e with e | e | e | e
              · obtain ⟨cur, hc⟩ := own_blk hon hg
                obtain ⟨ov2, hb2, _⟩ := hM3.blk
                rw [e, hb2] at hc; cases hc
              · obtain ⟨cur, hc⟩ := own_blk hon hg
                obtain ⟨es, clock, hh, _⟩ := HD.out
                rw [e, hh] at hc; cases hc
              · rw [e, hXlab] at hgb
                injection hgb with hgb
                exact hbt hgb.symm
              · have := HXl.out g e
                rw [hgb] at this
                injection this with this
                exact hbt this
            · have hgb := Hlab.out g hg
              rw [s1 g (hM3.lt g (by rw [hgb]; exact fun e => by cases e))]; exact hgb
            · simp only [lkB]
              by_cases hk' : k' = m.nx
              · rw [hk', fnd_part_new hM3.wf Htm.out, Maps.atKey_put_same HD.out.isMap (key_int _)]
                simp [atE, addP, htb]
              · rw [fnd_part_old i hk', Maps.atKey_put_other (fun e => hk' (by injection e)), HkD.out]
                cases hf : fnd m.tx k' with
                | none => simp [lkB, hf, atE]
                | some a =>
                  simp only [lkB, hf, Option.map_some]
                  have e9 : (if a.1.x = t.x then addP ⟨m.nx, i, 0⟩ a.1 else a.1).x = a.1.x := by split <;> rfl
                  rw [e9]
            · rw [← htb]
              refine ⟨by rw [s1 tb htl]; exact hXlab, ⟨v', hX8, ?_, fun g hg => ?_⟩⟩
              · simp only [addP, pcl_snoc, List.length_append, List.length_cons, List.length_nil]
                exact hP8
              · rcases hv8 with e | ⟨g', e, hge⟩
                · rw [e] at hg
                  have h9 := HXl.out g hg
                  rw [s1 g (hM3.lt g (by rw [h9]; exact fun e => by cases e))]; exact h9
                · have hgg := hg
                  rw [e] at hg
                  injection hg with hg
                  rw [s3 g (by rw [hsq, hs5] at hge; omega), if_pos hgg]
          · rcases e with e | e | e
            · exact hM3.mne e.symm
            · exact hbt e
            · have h9 := HXl.out b e
              rw [hM3.lb] at h9
              injection h9 with h9
              exact hbt h9
        clear hD8 hX8 hP8 hv8 t8
        go_wp2
        go_ret2
        exact ⟨fun e => absurd HE3.out e, fun _ => ⟨rfl, HFin.out⟩⟩
end
end Go.Proofs.Ytkokmgoplldcfaa
