import Derived.Test.YtjambfbibeihiaaGreatBkA
/- The book: takeNames. -/
namespace Go.Proofs.YtjambfbibeihiaaGreat
set_option maxRecDepth 100000
open Go.RowKit Go.ChangeMaps Go.Sort

theorem info_strs : (Tryz.prog.info? 36).map (fun i => (i.zero, i.size, i.bytes)) = some (some (.slice none 0 0), 1, 24) := by kernel_rfl

/-- In the midst of taking a list: j of the twenty are in. -/
structure TN (e : TypeId) (ee : TypeId) (c : Nat) (pat : Nat → List Value) (kl kn n : Nat) (w : World) (ω : Nat → Nat) (j : Nat) (nv lv : Value) (wr : World) (ωj : Nat → Nat) : Prop where
  row : ∃ vs, LO wr ωj c e 1 nv (kn + j) vs ∧ (∀ i v, i < kn → vs[i]? = some v → MV wr ωj 5 1099511627776 (pat (i / 20 * 20)) v) ∧ ∀ i v, kn ≤ i → vs[i]? = some v → MV wr ωj kl (n + j) (pat kn) v
  lst : LO wr ωj kl ee (pat kn).length lv (n + j) (rep (pat kn) (n + j))
  ev : Ev (fun i => i = kl ∨ i = 6 ∨ i = c) w ω wr ωj

theorem TN.start {e ee : TypeId} {c : Nat} {pat : Nat → List Value} {kl kn n : Nat} {w w1 : World} {ω : Nat → Nat} {nv lv : Value} (h : NR w ω c e pat nv kn) (hl : w1.ownsRow 0 ee (pat kn).length lv n (rep (pat kn) n)) (ho : ∀ g, lv.ownBlock = some g → ω g = kl ∧ g < w.heap.size) (t : Tch (fun i => lv.ownBlock = some i) w w1) (hk : 9 ≤ kl) (hc : 7 ≤ c ∧ c ≤ 8) :
    TN e ee c pat kl kn n w ω 0 nv lv w1 (ext ω w.heap.size kl) := by
  obtain ⟨vs, h1, h2⟩ := h
  have hne : ∀ i, i < w.heap.size → ω i ≤ 8 → ¬ lv.ownBlock = some i := fun i hi h8 e => by have := (ho i e).1; omega
  refine ⟨⟨vs, ⟨rowN_tch h1.1 t (fun g hg => hne g (h1.1.lt g hg).2 (by rw [h1.2 g hg]; omega)), fun g hg => ?_⟩, fun i v _ hv => (h2 i v hv).tch t (fun j hj e => ⟨hne j hj (by omega), by rw [ext_lt hj]; exact e⟩), fun i v hi hv => ?_⟩, ⟨hl, fun g hg => ?_⟩, ?_⟩
  · rw [ext_lt (h1.1.lt g hg).2]; exact h1.2 g hg
  · have := (List.getElem?_eq_some_iff.1 hv).1
    have h3 := h1.1.1
    omega
  · rw [ext_lt (ho g hg).2]; exact (ho g hg).1
  · exact Ev.ofTch kl (Or.inl rfl) (t.mono (fun i _ e => Or.inl (ho i e).1))
/-- The row of lists has grown by one. -/
theorem TN.row' {e ee : TypeId} {c : Nat} {pat : Nat → List Value} {kl kn n j : Nat} {w wr w2 : World} {ω ωj : Nat → Nat} {nv nv2 lv : Value} {bb : Nat} (h : TN e ee c pat kl kn n w ω j nv lv wr ωj) (hbb : ωj bb = 6) (hk : 9 ≤ kl) (hc : 7 ≤ c ∧ c ≤ 8) {vs : List Value} (hvs : LO wr ωj c e 1 nv (kn + j) vs)
    (hold : ∀ i v, i < kn → vs[i]? = some v → MV wr ωj 5 1099511627776 (pat (i / 20 * 20)) v) (hnew : ∀ i v, kn ≤ i → vs[i]? = some v → MV wr ωj kl (n + j) (pat kn) v)
    (hr : w2.ownsRow 0 e 1 nv2 (kn + j + 1) (vs ++ [lv])) (hn2 : nv2.ownBlock = nv.ownBlock ∨ ∀ g, nv2.ownBlock = some g → wr.heap.size ≤ g) (t : Tch (fun i => i = bb ∨ nv.ownBlock = some i) wr w2) :
    (∃ vs, LO w2 (ext ωj wr.heap.size c) c e 1 nv2 (kn + j + 1) vs ∧ (∀ i v, i < kn → vs[i]? = some v → MV w2 (ext ωj wr.heap.size c) 5 1099511627776 (pat (i / 20 * 20)) v) ∧ ∀ i v, kn ≤ i → vs[i]? = some v → MV w2 (ext ωj wr.heap.size c) kl (n + j) (pat kn) v) ∧ LO w2 (ext ωj wr.heap.size c) kl ee (pat kn).length lv (n + j) (rep (pat kn) (n + j)) ∧ Ev (fun i => i = kl ∨ i = 6 ∨ i = c) w ω w2 (ext ωj wr.heap.size c) := by
  have hS : ∀ i, i < wr.heap.size → (i = bb ∨ nv.ownBlock = some i) → ωj i = 6 ∨ ωj i = c := fun i _ h => h.elim (fun e => Or.inl (e ▸ hbb)) (fun e => Or.inr (hvs.2 i e))
  have he : Ev (fun i => i = kl ∨ i = 6 ∨ i = c) wr ωj w2 (ext ωj wr.heap.size c) := Ev.ofTch c (Or.inr (Or.inr rfl)) (t.mono (fun i hi h => (hS i hi h).elim (fun e => Or.inr (Or.inl e)) (fun e => Or.inr (Or.inr e))))
  have hfar : ∀ i, i < wr.heap.size → ωj i ≠ 6 → ωj i ≠ c → ¬ (i = bb ∨ nv.ownBlock = some i) := fun i hi h6 h7 h => (hS i hi h).elim h6 h7
  have hL : LO w2 (ext ωj wr.heap.size c) kl ee (pat kn).length lv (n + j) (rep (pat kn) (n + j)) := by
    refine ⟨rowN_tch h.lst.1 t (fun g hg => hfar g (h.lst.1.lt g hg).2 (by rw [h.lst.2 g hg]; omega) (by rw [h.lst.2 g hg]; omega)), fun g hg => ?_⟩
    rw [ext_lt (h.lst.1.lt g hg).2]; exact h.lst.2 g hg
  refine ⟨⟨vs ++ [lv], ⟨hr, fun g hg => ?_⟩, fun i v hi hv => ?_, fun i v hi hv => ?_⟩, hL, h.ev.trans he⟩
  · rcases hn2 with e1 | e1
    · rw [e1] at hg
      rw [ext_lt (hvs.1.lt g hg).2]; exact hvs.2 g hg
    · exact ext_ge (e1 g hg)
  · have hl : vs.length = kn + j := by simpa using hvs.1.1
    rw [List.getElem?_append_left (by omega)] at hv
    exact (hold i v hi hv).tch t (fun q hq e => ⟨hfar q hq (by omega) (by omega), by rw [ext_lt hq]; exact e⟩)
  · have hl : vs.length = kn + j := by simpa using hvs.1.1
    rcases Nat.lt_or_ge i (kn + j) with h1 | h1
    · rw [List.getElem?_append_left (by omega)] at hv
      exact (hnew i v hi hv).tch t (fun q hq e => ⟨hfar q hq (by omega) (by omega), by rw [ext_lt hq]; exact e⟩)
    · rw [List.getElem?_append_right (by omega)] at hv
      have h2 : i - vs.length = 0 := by
        have := (List.getElem?_eq_some_iff.1 hv).1
        simp at this
        omega
      rw [h2] at hv
      simp at hv
      subst hv
      exact hL.view
/-- The list has grown by one. -/
theorem TN.next {e ee : TypeId} {c : Nat} {pat : Nat → List Value} {kl kn n j : Nat} {w w2 w3 : World} {ω ω2 : Nat → Nat} {nv2 lv lv3 : Value} (hk : 9 ≤ kl) (hc : 7 ≤ c ∧ c ≤ 8)
    (hrow : ∃ vs, LO w2 ω2 c e 1 nv2 (kn + j + 1) vs ∧ (∀ i v, i < kn → vs[i]? = some v → MV w2 ω2 5 1099511627776 (pat (i / 20 * 20)) v) ∧ ∀ i v, kn ≤ i → vs[i]? = some v → MV w2 ω2 kl (n + j) (pat kn) v) (hL : LO w2 ω2 kl ee (pat kn).length lv (n + j) (rep (pat kn) (n + j))) (he : Ev (fun i => i = kl ∨ i = 6 ∨ i = c) w ω w2 ω2)
    (hr : w3.ownsRow 0 ee (pat kn).length lv3 (n + j + 1) (rep (pat kn) (n + j) ++ pat kn)) (hn : lv3.ownBlock = lv.ownBlock ∨ ∀ g, lv3.ownBlock = some g → w2.heap.size ≤ g) (t : Tch (fun i => lv.ownBlock = some i) w2 w3)
    (hkp : ∀ b q, b < w2.heap.size → (lv.ownBlock = some b → q < (n + j) * (pat kn).length) → w3.cell? ⟨b, q, none⟩ = w2.cell? ⟨b, q, none⟩) :
    TN e ee c pat kl kn n w ω (j + 1) nv2 lv3 w3 (ext ω2 w2.heap.size kl) := by
  obtain ⟨vs, h1, h2, h3⟩ := hrow
  have hne : ∀ i, i < w2.heap.size → ω2 i ≠ kl → ¬ lv.ownBlock = some i := fun i hi h8 e => h8 (hL.2 i e)
  refine ⟨⟨vs, ⟨rowN_tch h1.1 t (fun g hg => hne g (h1.1.lt g hg).2 (by rw [h1.2 g hg]; omega)), fun g hg => ?_⟩, fun i v hi hv => (h2 i v hi hv).tch t (fun q hq e => ⟨hne q hq (by omega), by rw [ext_lt hq]; exact e⟩), fun i v hi hv => ?_⟩, ⟨?_, fun g hg => ?_⟩, ?_⟩
  · rw [ext_lt (h1.1.lt g hg).2]; exact h1.2 g hg
  · exact ((h3 i v hi hv).keeps hkp (Nat.le_refl _) t.size (fun q hq => ext_lt hq)).up (by omega)
  · rw [show n + (j + 1) = n + j + 1 by omega, rep_succ]; exact hr
  · rcases hn with e1 | e1
    · rw [e1] at hg
      rw [ext_lt (hL.1.lt g hg).2]; exact hL.2 g hg
    · exact ext_ge (e1 g hg)
  · exact he.trans (Ev.ofTch kl (Or.inl rfl) (t.mono (fun i _ e => Or.inl (hL.2 i e))))
/-- All twenty are in: the list is the book's. -/
theorem TN.done {e ee : TypeId} {c : Nat} {pat : Nat → List Value} {kl kn n : Nat} {w wr : World} {ω ωj : Nat → Nat} {nv lv : Value} (h : TN e ee c pat kl kn n w ω 20 nv lv wr ωj) (hk : 9 ≤ kl) (hc : 7 ≤ c ∧ c ≤ 8) (hm : kn % 20 = 0) (hn : n + 20 ≤ 1099511627776) :
    NR wr (fun i => if ωj i = kl then 5 else ωj i) c e pat nv (kn + 20) ∧ Ev (fun i => i = kl ∨ i = 5 ∨ i = 6 ∨ i = c) w ω wr (fun i => if ωj i = kl then 5 else ωj i) := by
  obtain ⟨vs, h1, h2, h3⟩ := h.row
  refine ⟨⟨vs, ⟨h1.1, fun g hg => ?_⟩, fun i v hv => ?_⟩, h.ev.tch.mono (fun i _ h => h.elim Or.inl (fun h => h.elim (fun h => Or.inr (Or.inr (Or.inl h))) (fun h => Or.inr (Or.inr (Or.inr h))))), fun i hi => ?_, fun i h4 h5 => ?_⟩
  · show (if ωj g = kl then 5 else ωj g) = c
    rw [h1.2 g hg, if_neg (by omega)]
  · rcases Nat.lt_or_ge i kn with h4 | h4
    · exact (h2 i v h4 hv).tch (Tch.refl (fun _ => False) wr) (fun q hq e => ⟨fun h => h, by show (if ωj q = kl then 5 else ωj q) = 5; rw [e]; split <;> rfl⟩)
    · have hl : vs.length = kn + 20 := by simpa using h1.1.1
      have := (List.getElem?_eq_some_iff.1 hv).1
      have e1 : i / 20 * 20 = kn := by omega
      rw [e1]
      exact ((h3 i v h4 hv).up hn).tch (Tch.refl (fun _ => False) wr) (fun q hq e => ⟨fun h => h, by show (if ωj q = kl then 5 else ωj q) = 5; rw [if_pos e]⟩)
  · show (if ωj i = kl then 5 else ωj i) = ω i ∨ _
    by_cases e : ωj i = kl
    · right
      rw [if_pos e]
      refine ⟨?_, Or.inr (Or.inl rfl)⟩
      rcases h.ev.old i hi with e2 | e2
      · rw [← e2]; exact Or.inl e
      · exact e2.1.elim Or.inl (fun h => h.elim (fun h => Or.inr (Or.inr (Or.inl h))) (fun h => Or.inr (Or.inr (Or.inr h))))
    · rw [if_neg e]
      rcases h.ev.old i hi with e2 | e2
      · exact Or.inl e2
      · right
        exact ⟨e2.1.elim Or.inl (fun h => h.elim (fun h => Or.inr (Or.inr (Or.inl h))) (fun h => Or.inr (Or.inr (Or.inr h)))), e2.2.elim Or.inl (fun h => h.elim (fun h => Or.inr (Or.inr (Or.inl h))) (fun h => Or.inr (Or.inr (Or.inr h))))⟩
  · show (fun i => i = kl ∨ i = 5 ∨ i = 6 ∨ i = c) (if ωj i = kl then 5 else ωj i)
    by_cases e : ωj i = kl
    · rw [if_pos e]; exact Or.inr (Or.inl rfl)
    · rw [if_neg e]
      exact (h.ev.new i h4 h5).elim Or.inl (fun h => h.elim (fun h => Or.inr (Or.inr (Or.inl h))) (fun h => Or.inr (Or.inr (Or.inr h))))
/-- What else the book has stays. -/
theorem NR.rest {K : Nat → Prop} {w wr : World} {ω ωj : Nat → Nat} {kl c : Nat} {e : TypeId} {pat : Nat → List Value} {fv : Value} {kf : Nat} (h : NR w ω c e pat fv kf) (ev : Ev K w ω wr ωj) (hk : ¬ K c ∧ ¬ K 5) (hkl : 9 ≤ kl) (hc : c ≤ 8) : NR wr (fun i => if ωj i = kl then 5 else ωj i) c e pat fv kf := by
  refine h.tch ev.tch (fun i hi hω => ?_)
  have hK : ¬ K (ω i) := by
    rcases hω with e | e
    · rw [e]; exact hk.1
    · rw [e]; exact hk.2
  refine ⟨hK, ?_⟩
  have he : ωj i = ω i := (ev.old i hi).elim id (fun e => absurd e.1 hK)
  show (if ωj i = kl then 5 else ωj i) = ω i
  rw [he, if_neg (by omega)]
theorem rep_set1 (u : Value) (xs : List Value) {k : Nat} (h : k < xs.length) : (rep [u] k ++ xs.drop k).set k u = rep [u] (k + 1) ++ xs.drop (k + 1) := by
  have hl : (rep [u] k).length = k := by rw [rep_len]; simp
  rw [List.set_append_right _ _ (by omega), hl, Nat.sub_self, List.drop_eq_getElem_cons h, List.set_cons_zero, rep_succ, List.append_assoc]
  rfl

set_option maxHeartbeats 4000000 in
theorem takeN (bb kl n kn kf : Nat) (l hN wN hF wF : Value) (xs : List Value) (ω : Nat → Nat) (w : World) (hB : BK w ω bb kn kf hN wN hF wF) (hl : LO w ω kl 9 1 l n xs) (hk : 9 ≤ kl) (hm : kn % 20 = 0) (hkn : kn + 20 ≤ 1099511627776) (hn : n + 20 ≤ 1099511627776) :
    Calls Tryz.prog 79 #[.pointer (some ⟨bb, 0, none⟩), l] w fun x w' => x = .returned (.tuple #[]) ∧ ∃ ω', BK w' ω' bb (kn + 20) kf hN wN hF wF ∧ Ev (fun i => i = kl ∨ i = 5 ∨ i = 6 ∨ i = 7) w ω w' ω' := by
  obtain ⟨nv, fv, hb, hNR, hFR⟩ := hB.row
  have hbb := hB.own
  obtain ⟨lo, lc, hlv⟩ := rowN_of hl.1
  subst hlv
  have hNR' := hNR
  obtain ⟨vs, hvs, _⟩ := hNR'
  obtain ⟨no, nc, hnv⟩ := rowN_of hvs.1
  subst hnv
  have hbl := blk_lt hb
  have c0 : w.cell? ⟨bb, 0, none⟩ = some (.slice no kn nc) := by rw [blk_cell hb]; rfl
  have hmk := mark_any kn w
  have hlen : xs.length = n := by simpa using hl.1.1
  have hnI : (n : Int) ≤ 9223372036854775807 := by omega
  obtain ⟨mk, hmk'⟩ : ∃ mk, mk = markB kn := ⟨_, rfl⟩
  rw [← hmk'] at hmk
  have HN : Hid (NR w ω 7 36 patN (.slice no kn nc) kn) := by assumption
  have HF : Hid (NR w ω 8 32 patF fv kf) := hFR
  have HL : Hid (LO w ω kl 9 1 (.slice lo n lc) n xs) := hl
  have HP : Hid (patN kn = [.string mk]) := by rw [hmk']; rfl
  obtain ⟨i0, hi0, hz0, hz1, hz2⟩ := info_parts info_strs
  obtain ⟨i1, hi1, hy0, hy1, hy2⟩ := info_parts info_str
  clear hB hFR hmk' hvs
  go_enter Tryz.func79, Tryz.ntmps79
  go_wp2_with fail
  refine hmk.mono ?_
  rintro x w1 ⟨rfl, t1⟩
  have hl1 : w1.ownsRow 0 9 1 (.slice lo n lc) n xs := rowN_tch HL.out.1 t1 (fun _ _ h => h)
  clear hmk c0
  go_wp2_with fail
  go_loopw [5] (fun i wr => ∃ k : Nat, i = .int .i64 k ∧ k ≤ n ∧ wr.ownsRow 0 9 1 (.slice lo n lc) n (rep [.string mk] k ++ xs.drop k) ∧ Tch (fun i => (Value.slice lo n lc).ownBlock = some i) w wr) (fun i _ => n - (intOf i).toNat)
  case atStart => exact ⟨0, rfl, by omega, by simpa [rep] using hl1, t1.mono (fun _ _ h => h.elim)⟩
  case round =>
    obtain ⟨k, rfl, hkk, hown, hT⟩ := hrel
    by_cases hlt : (k : Int) < n
    · obtain ⟨g, cp', e1, _, hgl⟩ := hown.form (by omega)
      simp only [Value.slice.injEq, true_and] at e1
      obtain ⟨rfl, _⟩ := e1
      have r0 := hown.cellAt k (by omega)
      have r1 := hown.frozenAt k
      have hkl' : k < xs.length := by omega
      rw [List.getElem?_append_right (by rw [rep_len]; simp), rep_len, List.length_singleton, Nat.mul_one, Nat.sub_self, List.getElem?_drop, Nat.add_zero, List.getElem?_eq_getElem hkl'] at r0
      have hst := (hown.stored k (.string mk)).1
      rw [rep_set1 _ _ hkl'] at hst
      have HST : Hid _ := hst
      clear hst
      go_wp2
      go_roundw
      case rel => exact ⟨k + 1, by go_num, by omega, HST.out, hT.setCellR ⟨g, k, none⟩ _ rfl⟩
      case measure => simp [intOf]; omega
    · obtain rfl : n = k := by omega
      have hown' : wr.ownsRow 0 9 (patN kn).length (.slice lo n lc) n (rep (patN kn) n) := by
        rw [HP.out]
        rw [List.drop_of_length_le (by omega), List.append_nil] at hown
        exact hown
      have hTN := TN.start HN.out hown' (fun g hg => ⟨HL.out.2 g hg, (HL.out.1.lt g hg).2⟩) hT hk (by omega)
      have hbw : wr.heap[bb]? = some (.cells #[.slice no kn nc, fv, hN, wN, hF, wF] 38 (0, 0)) := (hT.block bb hbl (fun e => by have := HL.out.2 bb e; omega)).trans hb
      have hbo : ext ω w.heap.size kl bb = 6 := by rw [ext_lt hbl]; exact hbb
      clear hown hown' hl1 t1 hT hl
      go_wp2_with fail
      go_loopw [1, 6] (fun lv i wr => ∃ j : Nat, i = .int .i64 j ∧ j ≤ 20 ∧ ∃ nv ωj, wr.heap[bb]? = some (.cells #[nv, fv, hN, wN, hF, wF] 38 (0, 0)) ∧ ωj bb = 6 ∧ TN 36 9 7 patN kl kn n w ω j nv lv wr ωj) (fun _ i _ => 20 - (intOf i).toNat)
      case atStart => exact ⟨0, rfl, by omega, _, _, hbw, hbo, hTN⟩
      case round =>
        obtain ⟨j, rfl, hj, nv, ωj, hb, hbo, hTN⟩ := hrel
        by_cases hlt : (j : Int) < 20
        · obtain ⟨vs, hvs, hold, hnew⟩ := hTN.row
          obtain ⟨no', nc', hnv⟩ := rowN_of hvs.1
          subst hnv
          obtain ⟨lo', lc', hlv⟩ := rowN_of hTN.lst.1
          subst hlv
          have hbl' := blk_lt hb
          have c0 : wr.cell? ⟨bb, 0, none⟩ = some (.slice no' (kn + j) nc') := by rw [blk_cell hb]; rfl
          have HRW := fun w2 nv2 => TN.row' (w2 := w2) (nv2 := nv2) hTN hbo hk (by omega) hvs hold hnew
          have HT : Hid (TN 36 9 7 patN kl kn n w ω j (.slice no' (kn + j) nc') (.slice lo' (n + j) lc') wr ωj) := hTN
          clear hTN hbw
          go_wp2_with (first
            | (at_builtin; refine wpList_append_own_at _ rfl (.tmp 31) (.tmp 33) 34 rfl 0 36 i0 (.slice none 0 0) 1 24 Tryz.underlying34 hi0 hz0 hz1 hz2 rfl (by decide) (.slice no' (kn + j) nc') (kn + j) vs rfl (hvs.1.alloc _) ⟨wr.heap.size, 0, none⟩ 1 1 [.slice lo' (n + j) lc'] rfl rfl (Go.Proofs.YtjambfbibeihiaaGreat.cell_one_new _ _ _) (fun x hx => by simp at hx; rw [hx]; rfl) (by unfold maxLen; omega) (by omega) (Nat.zero_le _) ?_; intro v2 w2 hown2 hgrow2 _ hloc2
               obtain ⟨no2, nc2, hv2⟩ := rowN_of hown2
               subst hv2
               have t2 : Tch (fun i => (Value.slice no' (kn + j) nc').ownBlock = some i) wr w2 := (Tch.alloc _ _ _).trans' (Tch.of_grown hgrow2 (fun g e => e))
               have hnb : ¬ (Value.slice no' (kn + j) nc').ownBlock = some bb := fun e => by have := hvs.2 bb e; omega
               have hb2 := (t2.block bb hbl' hnb).trans hb
               have c2 : w2.cell? ⟨bb, 0, none⟩ = some (.slice no' (kn + j) nc') := by rw [blk_cell hb2]; rfl
               have f2 := blk_frozen hb2 0
               have hloc : (Value.slice no2 (kn + j + 1) nc2).ownBlock = (Value.slice no' (kn + j) nc').ownBlock ∨ ∀ g, (Value.slice no2 (kn + j + 1) nc2).ownBlock = some g → wr.heap.size ≤ g := hloc2.imp id (fun e g hg => by rw [e] at hg; simp only [World.size_alloc, Option.some.injEq] at hg; omega)
               have hnb2 : ∀ g, (Value.slice no2 (kn + j + 1) nc2).ownBlock = some g → ¬ g = bb := fun g hg e => by
                 rcases hloc with h | h
                 · rw [h] at hg; exact hnb (e ▸ hg)
                 · have := h g hg; omega
               have hr3 := rowN_tch hown2 (Tch.setCell (fun i => i = bb) w2 ⟨bb, 0, none⟩ (.slice no2 (kn + j + 1) nc2) rfl) hnb2
               have t3 : Tch (fun i => i = bb ∨ (Value.slice no' (kn + j) nc').ownBlock = some i) wr (w2.setCell ⟨bb, 0, none⟩ (.slice no2 (kn + j + 1) nc2)) := (t2.mono (fun _ _ h => Or.inr h)).setCellR _ _ (Or.inl rfl)
               have H3 : Hid _ := HRW _ _ hr3 hloc t3
               have hb3 : (w2.setCell ⟨bb, 0, none⟩ (.slice no2 (kn + j + 1) nc2)).heap[bb]? = some (.cells #[.slice no2 (kn + j + 1) nc2, fv, hN, wN, hF, wF] 38 (0, 0)) := blk_set hb2 _
               have hz3 := t3.size
               have hL3 : (w2.setCell ⟨bb, 0, none⟩ (.slice no2 (kn + j + 1) nc2)).ownsRow 0 9 1 (.slice lo' (n + j) lc') (n + j) (rep [.string mk] (n + j)) := by
                 have := H3.out.2.1.1
                 rw [HP.out] at this
                 exact this
               have hszc : (w2.setCell ⟨bb, 0, none⟩ (.slice no2 (kn + j + 1) nc2)).heap.size = w2.heap.size := by simp
               have HNW := Go.Proofs.YtjambfbibeihiaaGreat.cell_one_new (w2.setCell ⟨bb, 0, none⟩ (.slice no2 (kn + j + 1) nc2)) (.string mk) 9
               rw [hszc] at HNW
               clear hown2 hgrow2 hloc2 HRW hr3 c0 hb hb2 t2 hold hnew)
            | (at_builtin; refine wpList_append_keeps _ rfl (.tmp 37) (.tmp 39) 36 rfl 0 9 i1 (.string ⟨#[]⟩) 1 16 Tryz.underlying36 hi1 hy0 hy1 hy2 rfl (by decide) (.slice lo' (n + j) lc') (n + j) (rep [.string mk] (n + j)) rfl (hL3.alloc _) ⟨w2.heap.size, 0, none⟩ 1 1 [.string mk] rfl rfl HNW (fun x hx => by simp at hx; rw [hx]; rfl) (by unfold maxLen; omega) (by omega) (Nat.zero_le _) ?_; intro lv4 w4 hown4 hgrow4 hloc4 hkp4
               obtain ⟨lo4, lc4, hv4⟩ := rowN_of hown4
               subst hv4
               have t4 : Tch (fun i => (Value.slice lo' (n + j) lc').ownBlock = some i) (w2.setCell ⟨bb, 0, none⟩ (.slice no2 (kn + j + 1) nc2)) w4 := (Tch.alloc _ _ _).trans' (Tch.of_grown hgrow4 (fun g e => e))
               have hT4 := TN.next (w3 := w4) (lv3 := .slice lo4 (n + j + 1) lc4) hk (by omega) H3.out.1 H3.out.2.1 H3.out.2.2 (by rw [HP.out]; exact hown4) (hloc4.imp id (fun e g hg => by rw [e] at hg; simp only [World.size_alloc, Option.some.injEq] at hg; omega)) t4 (fun b q hb' hq => by
                 rw [hkp4 b q (by simp only [World.size_alloc]; omega) (fun e => by have := hq e; rw [HP.out] at this; simpa using this)]
                 exact World.cell?_of_block (heap_alloc_old _ _ hb'))
               have hb4 := (t4.block bb (by omega) (fun e => by have := H3.out.2.1.2 bb e; rw [ext_lt hbl'] at this; omega)).trans hb3
               have HT4 : Hid _ := hT4
               have HB4 : Hid _ := hb4
               clear hown4 hgrow4 hloc4 hkp4 hT4 hb4 hb3 hL3 t4)
            | fail)
          go_roundw
          case rel => exact ⟨j + 1, by go_num, by omega, _, _, HB4.out, by rw [ext_lt (by omega), ext_lt hbl']; exact hbo, HT4.out⟩
          case measure => simp [intOf]; omega
        · obtain rfl : j = 20 := by omega
          obtain ⟨hN', hE⟩ := hTN.done hk (by omega) hm hn
          have hF' := HF.out.rest (kl := kl) hTN.ev ⟨by omega, by omega⟩ hk (by omega)
          go_wp2
          go_end0
          refine ⟨rfl, _, ⟨⟨_, _, hb, hN', hF'⟩, ?_⟩, hE⟩
          show (if ωj bb = kl then 5 else ωj bb) = 6
          rw [hbo, if_neg (by omega)]
end Go.Proofs.YtjambfbibeihiaaGreat
