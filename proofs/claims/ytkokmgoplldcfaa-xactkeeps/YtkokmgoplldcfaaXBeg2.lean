/- begin, Begin. -/
import Derived.Test.YtkokmgoplldcfaaXBeg
namespace Go.Proofs.Ytkokmgoplldcfaa
open Go.RowKit Go Go.Sort

theorem begin_any (mb n : Nat) (D : DataW Unit) (k : Int) (w : World) (hD : w.ownsMap Try.prog 3 numElem mb n D) (hn : n ≤ 2147483648) (h1 : -9223372036854775808 ≤ k) (h2 : k ≤ 9223372036854775807) :
    Calls Try.prog 29 #[.map (some mb), .int .i64 k] w fun x w' => x = .returned (.tuple #[]) ∧ w'.ownsMap Try.prog 3 numElem mb (n + 1) (D.put (.int .i64 k) (encN (w.heap.size, -1))) ∧ w'.heap[w.heap.size]? = some (.cells #[.int .i64 k, .int .i64 1, .slice none 0 0] 77 (0, 0)) ∧ Tch (fun i => i = mb) w w' := by
  obtain ⟨w0, hw0⟩ : ∃ w0, w0 = w.alloc (.cells #[.int .i64 k, .int .i64 1, .slice none 0 0] 77) := ⟨_, rfl⟩
  have t0 : Tch (fun _ => False) w w0 := by rw [hw0]; exact Tch.alloc _ _ _
  have hb : w0.heap[w.heap.size]? = some (.cells #[.int .i64 k, .int .i64 1, .slice none 0 0] 77 (0, 0)) := by rw [hw0]; exact alloc_new _ _
  have hl := hD.lt
  obtain ⟨w1, hrun, hD1, hg1⟩ := (ownsMap_tch hD t0 (fun h => h)).update law_int Try.underlying64 (by unfold maxLen; omega) (Maps.keyOf_int_mk Try.underlying3 (int_wf h1 h2)) (numElem_some w.heap.size (-1))
  have HD1 : Hid _ := hD1
  have t1 : Tch (fun i => i = mb) w0 w1 := Tch.of_grown hg1 (fun g hg => by cases hg; rfl)
  have HB : Hid (w1.heap[w.heap.size]? = some (.cells #[.int .i64 k, .int .i64 1, .slice none 0 0] 77 (0, 0))) := by
    show _ = _
    rw [t1.block _ (blk_lt hb) (by omega)]; exact hb
  have HT : Hid (Tch (fun i => i = mb) w w1) := (t0.mono (fun _ _ h => h.elim)).trans' t1
  rw [hw0] at hrun
  simp only [numV] at hrun
  clear hD hD1 hg1 t1 hb t0 hl hw0
  go_enter Try.func29, Try.ntmps29
  go_wp2
  go_end0
  exact ⟨rfl, HD1.out, HB.out, HT.out⟩

def Mg.begin (m : Mg) : Mg := ⟨m.nx + 1, m.on ++ [m.nx], m.tx ++ [⟨m.nx, 1, []⟩]⟩
theorem Wf.begin {m : Mg} (h : Wf m) (hn : m.nx ≤ 2147483647) : Wf m.begin := by
  have n1 := h.n1
  refine ⟨by show 1 ≤ m.nx + 1; omega, by show m.nx + 1 ≤ _; omega, ?_, ?_, ?_, ?_, ?_, ?_, ?_, ?_, ?_⟩
  all_goals simp only [Mg.begin]
  · intro t ht
    rcases List.mem_append.1 ht with ht | ht
    · have := h.lo t ht; omega
    · obtain rfl := List.mem_singleton.1 ht; exact ⟨n1, by simp⟩
  · intro t ht p hp
    rcases List.mem_append.1 ht with ht | ht
    · have := h.pl t ht p hp; omega
    · obtain rfl := List.mem_singleton.1 ht; cases hp
  · intro t ht
    rcases List.mem_append.1 ht with ht | ht
    · exact h.st t ht
    · obtain rfl := List.mem_singleton.1 ht; exact ⟨by simp, by simp⟩
  · intro t ht
    rcases List.mem_append.1 ht with ht | ht
    · exact h.ln t ht
    · obtain rfl := List.mem_singleton.1 ht; simp
  · intro t ht i p hp
    rcases List.mem_append.1 ht with ht | ht
    · exact h.ar t ht i p hp
    · obtain rfl := List.mem_singleton.1 ht; simp at hp
  · rw [List.pairwise_append]
    refine ⟨h.up, by simp, fun t ht u hu => ?_⟩
    obtain rfl := List.mem_singleton.1 hu
    exact (h.lo t ht).2
  · rw [List.pairwise_append]
    refine ⟨h.ap, by simp, fun t ht u hu p hp => ?_⟩
    obtain rfl := List.mem_singleton.1 hu
    have := (h.pl t ht p hp).2
    exact ⟨by simp only; omega, fun q hq => by cases hq⟩
  · intro t ht
    rcases List.mem_append.1 ht with ht | ht
    · exact h.pu t ht
    · obtain rfl := List.mem_singleton.1 ht; exact List.Pairwise.nil
  · rw [List.filter_append, List.map_append, ← h.on]; simp
theorem fnd_begin {m : Mg} (h : Wf m) (k : Int) : fnd m.begin.tx k = if k = m.nx then some (⟨m.nx, 1, []⟩, -1) else fnd m.tx k := by
  simp only [Mg.begin]
  rw [fnd_snoc]
  by_cases hk : k = m.nx
  · rw [if_pos hk]
    have : fnd m.tx k = none := fnd_no (fun t ht => ⟨by have := (h.lo t ht).2; omega, fun p hp => by have := (h.pl t ht p hp).2; omega⟩)
    rw [this]
    simp [fnd, hk]
  · rw [if_neg hk]
    cases hf : fnd m.tx k with
    | some a => rfl
    | none => simp only [fnd, idx]; rw [if_neg (fun e => hk e.symm)]

theorem key_int (k : Int) : Go.WideAt.IsKeyLit (Lit.int .i64 k) := trivial
theorem MG.begin {w w' : World} {b : Nat} {m : Mg} {σ : Nat → Option Nat} {mb : Nat} {bl : Nat → Nat} (h : MG w b m σ mb bl) (hn : m.nx ≤ 2147483647) {ov v' : Value} {nn : Nat} {D : DataW Unit}
    (hov : ∀ g, ov.ownBlock = some g → σ g = some b) (hD : ∀ k zd, D.atKey (.int .i64 k) zd = atE (lkB bl m.tx k) zd) (hm : Maps.IsMap D) (hnn : nn ≤ m.nx)
    (T : Tch (fun i => i = b ∨ i = mb ∨ ov.ownBlock = some i) w w')
    (hB : w'.heap[b]? = some (.cells #[.map (some mb), .int .i64 (m.nx + 1 : Nat), v'] 66 (0, 0))) (hv : w'.ownsRow 0 3 1 v' (m.on.length + 1) (icl m.on ++ [.int .i64 m.nx]))
    (hvb : ∀ g, v'.ownBlock = some g → ov.ownBlock = some g ∨ w.heap.size < g) (hD' : w'.ownsMap Try.prog 3 numElem mb (nn + 1) (D.put (.int .i64 m.nx) (encN (w.heap.size, -1))))
    (hX : w'.heap[w.heap.size]? = some (.cells #[.int .i64 m.nx, .int .i64 1, .slice none 0 0] 77 (0, 0))) : ∃ σ' bl', MG w' b m.begin σ' mb bl' ∧ Stp w σ w' σ' := by
  have hbl := h.bl'
  have hml := h.ml
  have hSσ : ∀ i, (i = b ∨ i = mb ∨ ov.ownBlock = some i) → σ i = some b := fun i hi => by
    rcases hi with rfl | rfl | hi
    · exact h.lb
    · exact h.lm
    · exact hov i hi
  obtain ⟨σ', hσ'⟩ : ∃ σ' : Nat → Option Nat, σ' = fun i => if i < w.heap.size then σ i else if i = w.heap.size then some w.heap.size else if v'.ownBlock = some i then some b else none := ⟨_, rfl⟩
  have s1 : ∀ i, i < w.heap.size → σ' i = σ i := fun i hi => by rw [hσ']; exact if_pos hi
  have s2 : σ' w.heap.size = some w.heap.size := by rw [hσ']; simp
  have s3 : ∀ i, w.heap.size < i → σ' i = if v'.ownBlock = some i then some b else none := fun i hi => by rw [hσ']; simp only; rw [if_neg (by omega), if_neg (by omega)]
  clear hσ'
  obtain ⟨bl', hbl'⟩ : ∃ bl' : Nat → Nat, bl' = fun x => if x = m.nx then w.heap.size else bl x := ⟨_, rfl⟩
  have b1 : bl' m.nx = w.heap.size := by rw [hbl']; simp
  have b2 : ∀ t ∈ m.tx, bl' t.x = bl t.x := fun t ht => by rw [hbl']; simp only; rw [if_neg (by have := (h.wf.lo t ht).2; omega)]
  clear hbl'
  have hsl := blk_lt hX
  refine ⟨σ', bl', ⟨h.wf.begin hn, ⟨v', hB, ?_, ?_⟩, ?_, ?_, ⟨nn + 1, _, by show nn + 1 ≤ m.nx + 1; omega, hD', ?_⟩, ?_, ?_, ?_, ?_⟩, ⟨?_, s1⟩⟩
  · simp only [Mg.begin, icl_snoc, List.length_append, List.length_cons, List.length_nil]
    exact hv
  · intro g hg
    rcases hvb g hg with hg' | hg'
    · have h1 := hov g hg'
      rw [s1 g (h.lt g (by rw [h1]; exact fun e => by cases e)), h1]
    · rw [s3 g hg', if_pos hg]
  · rw [s1 b hbl]; exact h.lb
  · rw [s1 mb hml]; exact h.lm
  · intro k zd
    simp only [lkB]
    rw [fnd_begin h.wf]
    by_cases hk : k = m.nx
    · rw [if_pos hk, hk]
      rw [Maps.atKey_put_same hm (key_int _)]
      simp [atE, b1]
    · rw [if_neg hk, Maps.atKey_put_other (fun e => hk (by injection e)), hD]
      cases hf : fnd m.tx k with
      | none => simp [lkB, hf, atE]
      | some a => simp only [lkB, hf, Option.map_some, b2 a.1 (fnd_mem hf).1]
  · intro t ht
    rcases List.mem_append.1 ht with ht | ht
    · rw [b2 t ht]
      refine (h.xs t ht).tch T (fun i hi hs e => ?_) (fun i hi e => by rw [s1 i hi]; exact e)
      rw [hSσ i hs] at e
      injection e with e
      exact h.nb t ht e.symm
    · obtain rfl := List.mem_singleton.1 ht
      show XB w' σ' (bl' m.nx) _
      rw [b1]
      exact ⟨s2, ⟨_, hX, ⟨rfl, Or.inl ⟨rfl, rfl⟩⟩, fun g hg => by cases hg⟩⟩
  · intro t ht u hu
    rcases List.mem_append.1 ht with ht | ht <;> rcases List.mem_append.1 hu with hu | hu
    · rw [b2 t ht, b2 u hu]; exact h.inj t ht u hu
    · obtain rfl := List.mem_singleton.1 hu
      intro e
      have e' : bl' t.x = bl' m.nx := e
      rw [b2 t ht, b1] at e'
      have := (h.xs t ht).lt
      omega
    · obtain rfl := List.mem_singleton.1 ht
      intro e
      have e' : bl' m.nx = bl' u.x := e
      rw [b2 u hu, b1] at e'
      have := (h.xs u hu).lt
      omega
    · obtain rfl := List.mem_singleton.1 ht
      obtain rfl := List.mem_singleton.1 hu
      intro _; rfl
  · intro t ht
    rcases List.mem_append.1 ht with ht | ht
    · rw [b2 t ht]; exact h.nb t ht
    · obtain rfl := List.mem_singleton.1 ht
      show bl' m.nx ≠ b
      rw [b1]; omega
  · intro i hi
    rcases Nat.lt_trichotomy i w.heap.size with h1 | h1 | h1
    · rw [s1 i h1] at hi
      exact Nat.lt_of_lt_of_le h1 T.size
    · rw [h1]; exact hsl
    · rw [s3 i h1] at hi
      split at hi
      · rename_i hg
        obtain ⟨cur, hc⟩ := own_blk hv hg
        exact blk_lt hc
      · exact absurd rfl hi
  · exact T.mono (fun i hi hs e => by rw [hSσ i hs] at e; cases e)
set_option maxHeartbeats 1000000 in
set_option maxRecDepth 100000 in
theorem begin_ok (b : Nat) (m : Mg) (σ : Nat → Option Nat) (mb : Nat) (bl : Nat → Nat) (w : World) (h : MG w b m σ mb bl) (hn : m.nx ≤ 2147483647) :
    Calls Try.prog 7 #[.pointer (some ⟨b, 0, none⟩)] w fun x w' => x = .returned (.tuple #[.int .i64 m.nx, .int .i64 0]) ∧ ∃ σ' bl', MG w' b m.begin σ' mb bl' ∧ Stp w σ w' σ' := by
  obtain ⟨i0, hi, hz0, hz1, hz2⟩ := info_parts info_int
  have qn := noneLeft_any b m σ mb bl w h
  rw [decide_eq_false (by omega)] at qn
  have qg := give_any b m σ mb bl w h
  obtain ⟨ov, hb, hon, hlab⟩ := h.blk
  obtain ⟨nn, D, hnn, hD, hkD⟩ := h.mp
  have hbl := h.bl'
  have hml := h.ml
  have hne := h.mne
  have hol := on_le h.wf
  obtain ⟨w1, hw1⟩ : ∃ w1, w1 = w.setCell ⟨b, 1, none⟩ (.int .i64 (m.nx + 1 : Nat)) := ⟨_, rfl⟩
  rw [← hw1] at qg
  have t1 : Tch (fun i => i = b) w w1 := by rw [hw1]; exact Tch.setCell _ _ _ _ rfl
  have hs1 : w1.heap.size = w.heap.size := by rw [hw1]; simp [World.setCell]
  have hb1 : w1.heap[b]? = some (.cells #[.map (some mb), .int .i64 (m.nx + 1 : Nat), ov] 66 (0, 0)) := by rw [hw1]; exact blk_set hb _
  have hovb : ∀ g, ov.ownBlock = some g → g ≠ b := fun g hg e => by
    obtain ⟨cur, hc⟩ := own_blk hon hg
    rw [e, hb] at hc
    cases hc
  have hovm : ∀ g, ov.ownBlock = some g → g ≠ mb := fun g hg e => by
    obtain ⟨cur, hc⟩ := own_blk hon hg
    obtain ⟨es, clock, hh, _⟩ := hD
    rw [e, hh] at hc
    cases hc
  have hovl : ∀ g, ov.ownBlock = some g → g < w.heap.size := fun g hg => by
    obtain ⟨cur, hc⟩ := own_blk hon hg
    exact blk_lt hc
  have hD1 := ownsMap_tch hD t1 hne
  have hon1 := own_tch hon t1 hovb
  have qb := begin_any mb nn D m.nx w1 hD1 (by have := h.wf.n2; omega) (by omega) (by omega)
  have c0 : w1.cell? ⟨b, 0, none⟩ = some (.map (some mb)) := by rw [blk_cell hb1]; rfl
  obtain ⟨nx, hnx⟩ : ∃ nx, nx = m.nx := ⟨_, rfl⟩
  obtain ⟨ln, hln⟩ : ∃ ln, ln = m.on.length := ⟨_, rfl⟩
  rw [← hln] at hon1 hol
  have Hln : Hid (ln = m.on.length) := hln
  rw [← hnx] at qg qb hn hb1 ⊢
  have Hnx : Hid (nx = m.nx) := hnx
  have Hh : Hid (MG w b m σ mb bl) := h
  have Hb1 : Hid _ := hb1
  have Hon1 : Hid _ := hon1
  have Ht1 : Hid _ := t1
  have Hs1 : Hid _ := hs1
  have HkD : Hid _ := hkD
  have Hov : Hid ((∀ g, ov.ownBlock = some g → g ≠ b) ∧ (∀ g, ov.ownBlock = some g → g ≠ mb) ∧ (∀ g, ov.ownBlock = some g → g < w.heap.size) ∧ ∀ g, ov.ownBlock = some g → σ g = some b) := ⟨hovb, hovm, hovl, hlab⟩
  have HD : Hid (w.ownsMap Try.prog 3 numElem mb nn D) := hD
  have Hm : Hid (mb ≠ b ∧ b < w.heap.size ∧ mb < w.heap.size ∧ nn ≤ m.nx) := ⟨hne, hbl, hml, hnn⟩
  clear h hb hon hlab hD hkD hbl hml hne hovb hovm hovl hD1 hb1 hon1 t1 hs1 hnn hw1 hnx hln
  go_enter Try.func7, Try.ntmps7
  go_wp2_with fail
  refine qn.mono ?_
  rintro x w' ⟨rfl, hw'⟩
  obtain rfl := hw'.symm
  clear qn
  go_wp2_with fail
  refine qg.mono ?_
  rintro x w' ⟨rfl, hw'⟩
  obtain rfl := hw'.symm
  clear qg
  go_wp2_with fail
  refine qb.mono ?_
  rintro x w2 ⟨rfl, hD2, hb2, t2⟩
  clear qb c0
  have hbm : b ≠ mb := fun e => Hm.out.1 e.symm
  have hB2 : w2.heap[b]? = some (.cells #[.map (some mb), .int .i64 (nx + 1 : Nat), ov] 66 (0, 0)) := by rw [t2.block b (by rw [Hs1.out]; exact Hm.out.2.1) hbm]; exact Hb1.out
  have hon2 := own_tch Hon1.out t2 Hov.out.2.1
  have c2 : w2.cell? ⟨b, 2, none⟩ = some ov := by rw [blk_cell hB2]; rfl
  obtain ⟨oo, oc, rfl⟩ := row_slice hon2
  obtain ⟨w3, hw3⟩ : ∃ w3, w3 = w2.alloc (.cells #[.int .i64 nx] 3) := ⟨_, rfl⟩
  have t3 : Tch (fun _ => False) w2 w3 := by rw [hw3]; exact Tch.alloc _ _ _
  have Hon3 : Hid (w3.ownsRow 0 3 1 (.slice oo ln oc) ln (icl m.on)) := own_tch hon2 t3 (fun _ _ h => h)
  have Hcl : Hid (∀ j u, ([.int .i64 nx] : List Value)[j]? = some u → w3.cell? ((⟨w2.heap.size, 0, none⟩ : Addr).add j) = some u) := fun j u hu => by
    have hb3 : w3.heap[w2.heap.size]? = some (.cells #[.int .i64 nx] 3 (0, 0)) := by rw [hw3]; exact alloc_new _ _
    rw [add_plain, blk_cell hb3]
    cases j with
    | zero => simpa using hu
    | succ j => simp at hu
  have HB3 : Hid (w3.heap[b]? = some (.cells #[.map (some mb), .int .i64 (nx + 1 : Nat), .slice oo ln oc] 66 (0, 0))) := by show _ = _; rw [t3.block b (blk_lt hB2) (fun h => h)]; exact hB2
  have Hw3 : Hid _ := hw3
  have Ht3 : Hid _ := t3
  have Ht2 : Hid _ := t2
  have HD2 : Hid _ := hD2
  have Hb2 : Hid _ := hb2
  clear hw3 t3 hon2 hB2 t2 hD2 hb2
  go_wp2_with (at_builtin; have hw3 := Hw3.out; rw [← hw3]; clear hw3; refine wpList_append_keeps _ rfl _ _ 29 rfl 0 3 i0 (.int .i64 0) 1 8 Try.underlying29 hi hz0 hz1 hz2 rfl (by decide) (.slice oo ln oc) ln (icl m.on) rfl Hon3.out ⟨w2.heap.size, 0, none⟩ 1 1 [.int .i64 nx] rfl rfl Hcl.out (fun u hu => by simp at hu; subst hu; rfl) (by unfold maxLen; omega) (by omega) (Nat.zero_le _) ?_; intro v4 w4 hown4 hgr4 hat4 _; obtain ⟨o4, c4, hv4⟩ := row_slice hown4; subst hv4; have HO4 : Hid (w4.ownsRow 0 3 1 (.slice o4 (ln + 1) c4) (ln + 1) (icl m.on ++ [.int .i64 nx])) := hown4; have HG4 : Hid _ := hgr4; have HA4 : Hid _ := hat4; have HB4 : Hid (w4.heap[b]? = some (.cells #[.map (some mb), .int .i64 (nx + 1 : Nat), .slice oo ln oc] 66 (0, 0))) := (by show _ = _; rw [(grown_at (Tch.refl (fun _ => False) w3) hgr4).block b (blk_lt HB3.out) (fun e => Hov.out.1 b e rfl)]; exact HB3.out); have d2 : w4.cell? ⟨b, 2, none⟩ = some (.slice oo ln oc) := (by rw [blk_cell HB4.out]; rfl); have f2 := blk_frozen HB4.out 2; clear hown4 hgr4 hat4 c2)
  have HFin : Hid (∃ σ' bl', MG (w4.setCell ⟨b, 2, none⟩ (.slice o4 (ln + 1) c4)) b m.begin σ' mb bl' ∧ Stp w σ (w4.setCell ⟨b, 2, none⟩ (.slice o4 (ln + 1) c4)) σ') := by
    obtain ⟨hne, hbw, hmw, hnn⟩ := Hm.out
    obtain ⟨ov1, ov2, ov3, ov4⟩ := Hov.out
    have hs1 := Hs1.out
    have tA : Tch (fun i => i = b ∨ i = mb ∨ (Value.slice oo ln oc).ownBlock = some i) w w1 := Ht1.out.mono (fun i _ e => Or.inl e)
    have tB : Tch (fun i => i = b ∨ i = mb ∨ (Value.slice oo ln oc).ownBlock = some i) w w2 := tA.trans Ht2.out (fun i _ e => Or.inr (Or.inl e))
    have tC : Tch (fun i => i = b ∨ i = mb ∨ (Value.slice oo ln oc).ownBlock = some i) w w3 := tB.trans Ht3.out (fun i _ e => e.elim)
    have tD : Tch (fun i => i = b ∨ i = mb ∨ (Value.slice oo ln oc).ownBlock = some i) w w4 := tC.trans (grown_at (Tch.refl (fun _ => False) w3) HG4.out) (fun i _ e => Or.inr (Or.inr e))
    have tE : Tch (fun i => i = b) w4 (w4.setCell ⟨b, 2, none⟩ (.slice o4 (ln + 1) c4)) := Tch.setCell _ _ _ _ rfl
    have tF := tD.trans tE (fun i _ e => Or.inl e)
    have hon4 := HO4.out
    have hsz2 : w.heap.size < w2.heap.size := by rw [← hs1]; exact blk_lt Hb2.out
    have hs3 : w2.heap.size < w3.heap.size := by rw [Hw3.out]; simp
    have hvb : ∀ g, (Value.slice o4 (ln + 1) c4).ownBlock = some g → (Value.slice oo ln oc).ownBlock = some g ∨ w.heap.size < g := fun g hg => by
      rcases HA4.out with e | e
      · rw [e] at hg; exact Or.inl hg
      · rw [e] at hg
        injection hg with hg
        omega
    have hgb : ∀ g, (Value.slice o4 (ln + 1) c4).ownBlock = some g → g ≠ b := fun g hg e => by
      rcases hvb g hg with h1 | h1
      · exact ov1 g h1 e
      · omega
    have hX := Hb2.out
    rw [hs1] at hX
    have nX : ∀ i, ¬ (w.heap.size = i ∧ i < w.heap.size) := fun i h => by omega
    have hX3 := (Ht3.out.block w.heap.size hsz2 (fun h => h)).trans hX
    have hX4 := ((grown_at (Tch.refl (fun _ => False) w3) HG4.out).block w.heap.size (by omega) (fun e => by have := ov3 _ e; omega)).trans hX3
    have hX5 := (tE.block w.heap.size (blk_lt hX4) (by omega)).trans hX4
    have hD2 := HD2.out
    rw [hs1] at hD2
    have hD3 := ownsMap_tch hD2 Ht3.out (fun h => h)
    have hD4 := ownsMap_tch hD3 (grown_at (Tch.refl (fun _ => False) w3) HG4.out) (fun e => ov2 _ e rfl)
    have hD5 := ownsMap_tch hD4 tE hne
    have hnx := Hnx.out
    have hln := Hln.out
    subst hnx
    subst hln
    exact Hh.out.begin hn (ov := .slice oo m.on.length oc) ov4 HkD.out HD.out.isMap hnn tF (blk_set HB4.out _) (own_tch hon4 tE hgb) hvb hD5 hX5
  go_ret2
  exact ⟨rfl, HFin.out⟩
theorem begin_no (b : Nat) (m : Mg) (σ : Nat → Option Nat) (mb : Nat) (bl : Nat → Nat) (w : World) (h : MG w b m σ mb bl) (hn : 2147483647 < m.nx) :
    Calls Try.prog 7 #[.pointer (some ⟨b, 0, none⟩)] w fun x w' => x = .returned (.tuple #[.int .i64 0, .int .i64 73]) ∧ w' = w := by
  have qn := noneLeft_any b m σ mb bl w h
  rw [decide_eq_true (by omega)] at qn
  clear h hn
  go_enter Try.func7, Try.ntmps7
  go_wp2_with fail
  refine qn.mono ?_
  rintro x w' ⟨rfl, hw'⟩
  obtain rfl := hw'.symm
  clear qn
  go_wp2
  go_ret2
  exact ⟨rfl, rfl⟩
end Go.Proofs.Ytkokmgoplldcfaa
