import Derived.Test.YtjambfbibeihiaaGreatFace
/- keeps; Crash of a list. -/
namespace Go.Proofs.YtjambfbibeihiaaGreat
set_option maxRecDepth 100000
open Go.RowKit Go.ChangeMaps

/-- The cells of a list of what is to be kept. -/
def KLs (w : World) (ao : Option Addr) (n : Nat) (nm : Nat → ByteArray) (by' : Nat → Int) : Prop := ∀ i, i < n → ∃ b off, ao = some ⟨b, off, none⟩ ∧ (w.cell? ⟨b, off + i * 2, none⟩ = some (.string (nm i)) ∧ w.cell? ⟨b, off + i * 2 + 1, none⟩ = some (.int .i64 (by' i))) ∧ -9223372036854775808 ≤ by' i ∧ by' i ≤ 9223372036854775807
theorem KLs.no {w w' : World} {ao : Option Addr} {n : Nat} {nm : Nat → ByteArray} {by' : Nat → Int} (h : KLs w ao n nm by') (t : Tch (fun _ => False) w w') : KLs w' ao n nm by' := fun i hi => by
  obtain ⟨b, off, h1, ⟨h2, h3⟩, h4⟩ := h i hi
  exact ⟨b, off, h1, ⟨(t.cell (p := ⟨b, _, none⟩) (cell_lt h2) (fun h => h)).trans h2, (t.cell (p := ⟨b, _, none⟩) (cell_lt h3) (fun h => h)).trans h3⟩, h4⟩

def dkK (nm : Nat → ByteArray) (by' : Nat → Int) : Nat → DataW Unit
  | 0 => .map []
  | k + 1 => (dkK nm by' k).put (.string (nm k).data.toList) (.lit (.int .i64 (by' k)))
def kfK (nm : Nat → ByteArray) (by' : Nat → Int) : Nat → Nm → Int
  | 0, _ => 0
  | k + 1, x => if x = (nm k).data.toList then by' k else kfK nm by' k x
def hsK (nm : Nat → ByteArray) : Nat → Nm → Bool
  | 0, _ => false
  | k + 1, x => if x = (nm k).data.toList then true else hsK nm k x
theorem dkK_map (nm : Nat → ByteArray) (by' : Nat → Int) : ∀ k, Maps.IsMap (dkK nm by' k)
  | 0 => ⟨[], rfl⟩
  | k + 1 => (dkK_map nm by' k).put _ _
theorem dkK_at (nm : Nat → ByteArray) (by' : Nat → Int) (x : Nm) : ∀ k, (dkK nm by' k).atKey (.string x) (.lit (.int .i64 0)) = .lit (.int .i64 (kfK nm by' k x))
  | 0 => rfl
  | k + 1 => by
    rw [dkK, kfK]
    by_cases e : x = (nm k).data.toList
    · rw [if_pos e, e]; exact Maps.atKey_put_same (dkK_map nm by' k) (show WideAt.IsKeyLit (.string _) from trivial) _ _
    · rw [if_neg e, Maps.atKey_put_other (fun h => e (by simpa using h))]; exact dkK_at nm by' x k
theorem dkK_has (nm : Nat → ByteArray) (by' : Nat → Int) (x : Nm) : ∀ k, Maps.has (dkK nm by' k) (.string x) = hsK nm k x
  | 0 => rfl
  | k + 1 => by
    rw [dkK, hsK]
    by_cases e : x = (nm k).data.toList
    · rw [if_pos e, e]; exact Maps.has_put_same (dkK_map nm by' k) (show WideAt.IsKeyLit (.string _) from trivial) _
    · rw [if_neg e, Maps.has_put_other (fun h => e (by simpa using h))]; exact dkK_has nm by' x k

/-- One element that is right. -/
def KeepAt (d : Dsk) (nm : Nat → ByteArray) (by' : Nat → Int) (i : Nat) : Prop :=
  okN (nm i).data.toList = true ∧ ∃ f, getL (nm i).data.toList d.m = some f ∧ hsK nm i (nm i).data.toList = false ∧ 0 ≤ by' i ∧ by' i ≤ (f.bs.length : Int) - f.la
def KeepsBad (d : Dsk) (n : Nat) (nm : Nat → ByteArray) (by' : Nat → Int) (e : Int) : Prop := ∃ k, k < n ∧ (∀ i, i < k → KeepAt d nm by' i) ∧
  (okN (nm k).data.toList = false ∧ e = 20 ∨ okN (nm k).data.toList = true ∧ (getL (nm k).data.toList d.m = none ∧ e = 21 ∨ ∃ f, getL (nm k).data.toList d.m = some f ∧ (hsK nm k (nm k).data.toList = true ∨ by' k < 0 ∨ (f.bs.length : Int) - f.la < by' k) ∧ e = 26))

theorem look_kept {w : World} {kb nk : Nat} {D : DataW Unit} (h : w.ownsMap Tryz.prog 9 (plainElem Tryz.prog 3) kb nk D) {s : ByteArray} (hs : s.size ≤ maxLen) :
    ∃ c, (Instr.lookup 102 (.map (some kb)) (.string s) true).run Tryz.prog w = .ok (.tuple #[.int .i64 c, .bool (Maps.has D (.string s.data.toList))]) w := by
  obtain ⟨v, ps, hrun, hv⟩ := h.look_ok law_str Tryz.underlying102 (zero_int w) (plainElem_int Tryz.underlying3 (by decide)) (WideMaps.keyOf_string_mk Tryz.underlying9 hs)
  obtain ⟨c, rfl, _⟩ := plainElem_int_inv Tryz.underlying3 hv
  exact ⟨c, hrun⟩

set_option maxHeartbeats 4000000 in
set_option maxRecDepth 100000 in
theorem keeps_any (b : Nat) (d : Dsk) (σ : Nat → Option Nat) (ao : Option Addr) (n cap : Nat) (nm : Nat → ByteArray) (by' : Nat → Int) (w : World) (h : DK w b d σ) (hL : KLs w ao n nm by') (hn : n ≤ 9223372036854775807) :
    Calls Tryz.prog 75 #[.pointer (some ⟨b, 0, none⟩), .slice ao n cap] w fun x w1 => ((∃ e, KeepsBad d n nm by' e ∧ x = .returned (.tuple #[.map none, .int .i64 e])) ∨ (∀ i, i < n → KeepAt d nm by' i) ∧ ∃ kb nk, x = .returned (.tuple #[.map (some kb), .int .i64 0]) ∧ w1.ownsMap Tryz.prog 9 (plainElem Tryz.prog 3) kb nk (dkK nm by' n) ∧ w.heap.size ≤ kb) ∧ Tch (fun _ => False) w w1 := by
  have hmm := @run_makeMap Tryz.prog
  obtain ⟨kb, hkb⟩ : ∃ kb, kb = w.heap.size := ⟨_, rfl⟩
  obtain ⟨w1, hw1⟩ : ∃ w1, w1 = w.alloc (.map #[] 0) := ⟨_, rfl⟩
  have t1 : Tch (fun _ => False) w w1 := by rw [hw1]; exact Tch.alloc _ _ _
  have o1 : w1.ownsMap Tryz.prog 9 (plainElem Tryz.prog 3) kb 0 (dkK nm by' 0) := by rw [hw1, hkb]; exact World.ownsMap_made _ _ _ _
  have hmk : (Instr.makeMap 102 none).run Tryz.prog w = .ok (.map (some kb)) w1 := by rw [hw1, hkb]; exact hmm _ _
  have nk0 : σ kb = none := by
    cases hs : σ kb with
    | none => rfl
    | some a => have := h.lt kb (by rw [hs]; exact fun h => by cases h); omega
  have HW : Hid (∀ wr, Tch (fun i => i = kb) w1 wr → DK wr b d σ ∧ Tch (fun _ => False) w wr ∧ KLs wr ao n nm by') := fun wr t => by
    have T := t1.trans t (fun i hi e => by omega)
    exact ⟨(h.no t1).tch t (fun i _ hi => by rw [hi]; exact nk0), T, hL.no T⟩
  have hkn : w.heap.size ≤ kb := by omega
  clear hmm hw1 hkb t1 h hL
  go_enter Tryz.func75, Tryz.ntmps75
  go_wp2_with fail
  go_loopw [15] (fun i wr => ∃ k : Nat, i = .int .i64 k ∧ k ≤ n ∧ Hid (∀ i, i < k → KeepAt d nm by' i) ∧ wr.ownsMap Tryz.prog 9 (plainElem Tryz.prog 3) kb k (dkK nm by' k) ∧ Tch (fun i => i = kb) w1 wr) (fun i _ => n - (intOf i).toNat)
  case atStart => exact ⟨0, rfl, by omega, fun i hi => by omega, o1, Tch.refl _ _⟩
  case round =>
    obtain ⟨k, rfl, hk, hok, hO, hT⟩ := hrel
    clear o1 hmk
    by_cases hlt : (k : Int) < n
    · obtain ⟨⟨mb, gm, hD⟩, hTn, hK⟩ := HW.out wr hT
      obtain ⟨ab, off, rfl, ⟨c0, c1⟩, hb1, hb2⟩ := hK k (by omega)
      obtain ⟨wA, hwA⟩ : ∃ wA, wA = wr.alloc (.cells #[.string (nm k), .int .i64 (by' k)] 58) := ⟨_, rfl⟩
      have tA : Tch (fun _ => False) wr wA := by rw [hwA]; exact Tch.alloc _ _ _
      have a0 : wA.cell? ⟨wr.heap.size, 0, none⟩ = some (.string (nm k)) := by rw [hwA, blk_cell (box_one wr _)]; rfl
      have a1 : wA.cell? ⟨wr.heap.size, 1, none⟩ = some (.int .i64 (by' k)) := by rw [hwA, blk_cell (box_one wr _)]; rfl
      have hi := isName_any (nm k) wA
      cases ho : okN (nm k).data.toList
      · rw [ho] at hi
        have HB : Hid (KeepsBad d n nm by' 20) := ⟨k, by omega, hok.out, Or.inl ⟨ho, rfl⟩⟩
        go_wp2_with fail
        rw [← hwA]
        refine hi.mono ?_
        rintro x w5 ⟨rfl, hw5⟩
        subst hw5
        clear hwA
        go_wp2
        go_ret2
        exact ⟨Or.inl ⟨20, HB.out, rfl⟩, hTn.trans' tA⟩
      · rw [ho] at hi
        have hsz : (nm k).size ≤ maxLen := by have := okN_size ho; unfold maxLen; omega
        have hWA := hD.no tA
        have hl := (hWA.no ((Tch.refl _ wA).drew)).look hsz
        have c2 := hWA.c2
        have hgd := hWA.get (nm k).data.toList
        cases hg : getL (nm k).data.toList gm with
        | none =>
          rw [hg] at hl hgd
          simp only [] at hl
          have HB : Hid (KeepsBad d n nm by' 21) := ⟨k, by omega, hok.out, Or.inr ⟨ho, Or.inl ⟨hgd, rfl⟩⟩⟩
          have HT : Hid (Tch (fun _ => False) w wA.drew) := (hTn.trans' tA).drew
          clear hgd
          go_wp2_with fail
          rw [← hwA]
          refine hi.mono ?_
          rintro x w5 ⟨rfl, hw5⟩
          subst hw5
          clear hwA
          go_wp2
          go_region
          go_wp2
          go_ret2
          exact ⟨Or.inl ⟨21, HB.out, rfl⟩, HT.out⟩
        | some a =>
          obtain ⟨fb, f⟩ := a
          rw [hg] at hl hgd
          simp only [] at hl
          have hgd' : getL (nm k).data.toList d.m = some f := hgd
          have hOA := (ownsMap_tch hO tA (fun h => h))
          obtain ⟨wB, hwB⟩ : ∃ wB, wB = wA.drew := ⟨_, rfl⟩
          have tB : Tch (fun _ => False) wr wB := by rw [hwB]; exact tA.drew
          have hOB := ownsMap_tch hO tB (fun h => h)
          have hWB := hD.no tB
          obtain ⟨cv, hlk⟩ := look_kept hOB hsz
          rw [dkK_has] at hlk
          have a0B : wB.cell? ⟨wr.heap.size, 0, none⟩ = some (.string (nm k)) := by rw [hwB]; exact a0
          have a1B : wB.cell? ⟨wr.heap.size, 1, none⟩ = some (.int .i64 (by' k)) := by rw [hwB]; exact a1
          have HM : Hid (∀ m, Tch (fun _ => False) w (wB.drewN m) ∧ (wB.drewN m).ownsMap Tryz.prog 9 (plainElem Tryz.prog 3) kb k (dkK nm by' k) ∧ Tch (fun i => i = kb) w1 (wB.drewN m)) := fun m => ⟨(hTn.trans' tB).drewN m, ownsMap_tch hOB ((Tch.refl (fun _ => False) wB).drewN m) (fun h => h), (hT.trans' (tB.mono (fun _ _ h => h.elim))).drewN m⟩
          obtain ⟨ao', cp', e0, e1, _⟩ := hWB.fcell hg
          obtain ⟨l1, l2⟩ := hWB.flen hg
          have hpend := fun m => pending0_any fb f.la f.bs.length ao' cp' (wB.drewN m) e0 e1 l1 l2
          cases hh : hsK nm k (nm k).data.toList
          · rw [hh] at hlk
            by_cases hneg : by' k < 0
            · have HB : Hid (KeepsBad d n nm by' 26) := ⟨k, by omega, hok.out, Or.inr ⟨ho, Or.inr ⟨f, hgd', Or.inr (Or.inl hneg), rfl⟩⟩⟩
              clear hgd hgd' hWA hD hOA hOB hWB hO hg
              go_wp2_with fail
              rw [← hwA]
              refine hi.mono ?_
              rintro x w5 ⟨rfl, hw5⟩
              subst hw5
              clear hwA
              go_wp2_with fail
              go_region
              rw [← hwB]
              clear hwB hl
              go_wp2_with fail
              go_quiet ((go_at_call 72; exact Calls.quiet_of (hpend _)))
              go_wp2
              go_ret2
              exact ⟨Or.inl ⟨26, HB.out, rfl⟩, (HM.out _).1⟩
            · have hneg' : decide (by' k < 0) = false := by simpa using hneg
              by_cases hbig : (f.bs.length : Int) - f.la < by' k
              · have HB : Hid (KeepsBad d n nm by' 26) := ⟨k, by omega, hok.out, Or.inr ⟨ho, Or.inr ⟨f, hgd', Or.inr (Or.inr hbig), rfl⟩⟩⟩
                clear hgd hgd' hWA hD hOA hOB hWB hO hg
                go_wp2_with fail
                rw [← hwA]
                refine hi.mono ?_
                rintro x w5 ⟨rfl, hw5⟩
                subst hw5
                clear hwA
                go_wp2_with fail
                go_region
                rw [← hwB]
                clear hwB hl
                go_wp2_with fail
                go_quiet ((go_at_call 72; exact Calls.quiet_of (hpend _)))
                go_wp2
                go_ret2
                exact ⟨Or.inl ⟨26, HB.out, rfl⟩, (HM.out _).1⟩
              · have HO : Hid (∀ i, i < k + 1 → KeepAt d nm by' i) := fun i hi => by
                  rcases Nat.lt_or_ge i k with h | h
                  · exact hok.out i h
                  · obtain rfl : i = k := by omega
                    exact ⟨ho, f, hgd', hh, by omega, by omega⟩
                have hwfb : (Lit.int .i64 (by' k)).wf = true := WalkArith.wf_i64 (by omega)
                clear hgd hgd' hWA hD hOA hOB hWB hO hg
                go_wp2_with fail
                rw [← hwA]
                refine hi.mono ?_
                rintro x w5 ⟨rfl, hw5⟩
                subst hw5
                clear hwA
                go_wp2_with fail
                go_region
                rw [← hwB]
                clear hwB hl
                go_wp2_with fail
                go_quiet ((go_at_call 72; exact Calls.quiet_of (hpend _)))
                go_wp2_with (first | (at_mapUpdate; refine wpList_mapUpdate_own _ rfl _ _ _ 102 rfl 9 3 law_str Tryz.underlying102 _ kb k _ rfl (HM.out _).2.1 (by unfold maxLen; omega) _ _ _ rfl rfl (WideMaps.keyOf_string_mk Tryz.underlying9 hsz) _ [] (plainElem_int Tryz.underlying3 hwfb) ?_; intro w9 hO9 hg9) | fail)
                have T9 := ((HM.out _).2.2).trans' (Tch.of_grown (S := fun i => i = kb) hg9 (fun g e => by cases e; rfl))
                go_wp2
                go_roundw
                case rel => exact ⟨k + 1, by go_num, by omega, HO, hO9, T9⟩
                case measure => simp [intOf]; omega
          · rw [hh] at hlk
            have HB : Hid (KeepsBad d n nm by' 26) := ⟨k, by omega, hok.out, Or.inr ⟨ho, Or.inr ⟨f, hgd', Or.inl hh, rfl⟩⟩⟩
            clear hgd hgd' hWA hD hOA hOB hWB hO hg
            go_wp2_with fail
            rw [← hwA]
            refine hi.mono ?_
            rintro x w5 ⟨rfl, hw5⟩
            subst hw5
            clear hwA
            go_wp2_with fail
            go_region
            rw [← hwB]
            clear hwB hl
            go_wp2_with fail
            go_quiet ((go_at_call 72; exact Calls.quiet_of (hpend _)))
            go_wp2
            go_ret2
            exact ⟨Or.inl ⟨26, HB.out, rfl⟩, (HM.out _).1⟩
    · obtain rfl : n = k := by omega
      obtain ⟨_, hTn, _⟩ := HW.out wr hT
      go_wp2
      go_ret2
      exact ⟨Or.inr ⟨hok.out, kb, rfl, ⟨n, hO⟩, hkn⟩, hTn⟩

theorem KeepsBad.no {d : Dsk} {n : Nat} {nm : Nat → ByteArray} {by' : Nat → Int} {e : Int} (h : KeepsBad d n nm by' e) : e ≠ 0 ∧ ¬ ∀ i, i < n → KeepAt d nm by' i := by
  obtain ⟨k, hk, _, h⟩ := h
  constructor
  · rcases h with ⟨_, rfl⟩ | ⟨_, ⟨_, rfl⟩ | ⟨_, _, _, rfl⟩⟩ <;> decide
  · intro hall
    obtain ⟨h1, f, h2, h3, h4, h5⟩ := hall k hk
    rcases h with ⟨h6, _⟩ | ⟨_, ⟨h6, _⟩ | ⟨g, h6, h7, _⟩⟩
    · rw [h1] at h6; cases h6
    · rw [h2] at h6; cases h6
    · rw [h2] at h6
      cases h6
      rcases h7 with h7 | h7 | h7
      · rw [h3] at h7; cases h7
      · omega
      · omega
theorem kfK_le {d : Dsk} {nm : Nat → ByteArray} {by' : Nat → Int} : ∀ {n : Nat}, (∀ i, i < n → KeepAt d nm by' i) → ∀ x, 0 ≤ kfK nm by' n x ∧ ∀ f, getL x d.m = some f → f.la ≤ f.bs.length → kfK nm by' n x ≤ (f.bs.length : Int) - f.la
  | 0, _, x => ⟨Int.le_refl _, fun f _ hl => by show (0 : Int) ≤ _; omega⟩
  | k + 1, h, x => by
    have ih := kfK_le (n := k) (fun i hi => h i (by omega)) x
    rw [kfK]
    by_cases e : x = (nm k).data.toList
    · rw [if_pos e]
      obtain ⟨_, f, h2, _, h4, h5⟩ := h k (by omega)
      refine ⟨h4, fun g hg _ => ?_⟩
      rw [e, h2] at hg
      cases hg
      exact h5
    · rw [if_neg e]; exact ih
/-- What Crash keeps of each file. -/
def kept (nm : Nat → ByteArray) (by' : Nat → Int) (n : Nat) : Nm → Nat := fun x => (kfK nm by' n x).toNat

theorem crash_f (b : Nat) (d : Dsk) (F : Nat → Prop) (ao : Option Addr) (n cap : Nat) (nm : Nat → ByteArray) (by' : Nat → Int) (w : World) (h : DF w b d F) (hL : KLs w ao n nm by') (hn : n ≤ 9223372036854775807) :
    Calls Tryz.prog 63 #[.pointer (some ⟨b, 0, none⟩), .slice ao n cap] w fun x w' => ((∃ e, KeepsBad d n nm by' e ∧ x = .returned (.int .i64 e) ∧ DF w' b d F) ∨ (∀ i, i < n → KeepAt d nm by' i) ∧ x = .returned (.int .i64 0) ∧ DF w' b (d.torn (kept nm by' n)) F) ∧ Kept F w w' := by
  obtain ⟨σ, ⟨mb, gm, hW⟩, hF⟩ := h
  have hkp := keeps_any b d σ ao n cap nm by' w ⟨mb, gm, hW⟩ hL hn
  by_cases hall : ∀ i, i < n → KeepAt d nm by' i
  · have hk := kfK_le hall
    refine (crash_of b d σ mb gm _ (kept nm by' n) w hW (fun p hp => ?_) (hkp.mono fun x w1 ⟨hx, ht⟩ => ?_)).mono fun x w' ⟨hx, h', s'⟩ => ?_
    · have hg : getL p.1 d.m = some p.2.2 := by rw [hW.get, hW.apart.get (a := p.2) hp]; rfl
      have h1 := (hk p.1).2 p.2.2 hg (hW.fs p hp).le
      have h2 := (hk p.1).1
      unfold kept
      omega
    · rcases hx with ⟨e, he, _⟩ | ⟨_, kb, nk, hx, ho, hkb⟩
      · exact absurd hall he.no.2
      · refine ⟨kb, nk, dkK nm by' n, hx, ho, fun y => ?_, hkb, ht⟩
        rw [dkK_at]
        have := (hk y).1
        unfold kept
        rw [Int.toNat_of_nonneg this]
    · have := DF.stp hF h' s'
      exact ⟨Or.inr ⟨hall, hx, this.1⟩, this.2⟩
  · have hbad : Calls Tryz.prog 75 #[.pointer (some ⟨b, 0, none⟩), .slice ao n cap] w fun x w1 => ∃ e, (KeepsBad d n nm by' e ∧ (e != 0) = true) ∧ x = .returned (.tuple #[.map none, .int .i64 e]) ∧ Tch (fun _ => False) w w1 := hkp.mono fun x w1 ⟨hx, ht⟩ => by
      rcases hx with ⟨e, he, hx⟩ | ⟨h1, _⟩
      · exact ⟨e, ⟨he, by simpa using he.no.1⟩, hx, ht⟩
      · exact absurd h1 hall
    have HD : Hid (∀ w', Tch (fun _ => False) w w' → DF w' b d F ∧ Kept F w w') := fun w' t => DF.stp hF ⟨mb, gm, hW.no t⟩ (Stp.of_no t)
    clear hkp hall hW hF hL
    go_enter Tryz.func63, Tryz.ntmps63
    go_wp2_with fail
    refine hbad.mono ?_
    rintro x w1 ⟨e, ⟨he, he0⟩, rfl, ht⟩
    have HE : Hid (KeepsBad d n nm by' e) := he
    clear he hbad
    go_wp2
    go_ret
    have := HD.out _ ht
    exact ⟨Or.inl ⟨e, HE.out, rfl, this.1⟩, this.2⟩
end Go.Proofs.YtjambfbibeihiaaGreat
