/- Rename. -/
import Derived.Test.YtngdgglgmmlmkaaMeth5
namespace Go.Proofs.Ytngdgglgmmlmkaa
open Go.RowKit Go.ChangeMaps

theorem owns_max {H : Type} {P : Program} {k : TypeId} {R : Value → Option (DataW H × List MemPlace)} {w : World} {b n : Nat} {D : DataW H} (h : w.ownsMap P k R b n D) : Maps.size D ≤ maxLen := by
  obtain ⟨es, clock, hb, F, _, rfl⟩ := h
  have := F.size
  simpa [Maps.size, length_sorted] using this
theorem length_delL_lt {α : Type} {n : Nm} {a : α} : ∀ {m : List (Nm × α)}, getL n m = some a → (delL n m).length < m.length
  | [], h => by cases h
  | z :: r, h => by
    simp only [getL, List.find?_cons] at h
    by_cases hz : z.1 = n
    · have h1 : delL n (z :: r) = delL n r := by simp [delL, notL, hz]
      rw [h1]
      have := length_delL_le n r
      simp; omega
    · have hb : (z.1 == n) = false := by simpa using hz
      rw [hb] at h
      have ih := length_delL_lt (m := r) h
      have h1 : delL n (z :: r) = z :: delL n r := by
        have : notL n z = true := by simp [notL, hz]
        simp [delL, this]
      rw [h1]; simp; omega
theorem delL_none {α : Type} {n : Nm} {m : List (Nm × α)} (h : getL n m = none) : delL n m = m :=
  List.filter_eq_self.2 (fun p hp => by have := getL_none h p hp; simp [notL, this])

/-- Delete and put: what Rename does behind drop. -/
theorem moved {b : Nat} {d : Dsk} {σ : Nat → Option Nat} {mb : Nat} {gm : List (Nm × (Nat × Fl))} {w : World} (h : DW w b d σ mb gm) {s t : ByteArray} (hs : s.size ≤ maxLen) (ht : t.size ≤ maxLen) {fb : Nat} {f : Fl}
    (hg : getL s.data.toList gm = some (fb, f)) (hn : getL t.data.toList gm = none) :
    ∃ w2, (Builtin.delete_ #[72, 9] 0 #[.map (some mb), .string s]).run Try.prog w.drew = .ok (.tuple #[]) w2 ∧ Tch (fun i => i = mb) w w2 ∧
      ∃ w3, (Instr.mapUpdate 72 (.map (some mb)) (.string t) (.pointer (some ⟨fb, 0, none⟩))).run Try.prog w2.drew = .ok () w3 ∧
        DK w3 b { d with m := putL t.data.toList f (delL s.data.toList d.m) } σ ∧ Stp w σ w3 σ := by
  have t0 : Tch (fun _ => False) w w.drew := (Tch.refl _ w).drew
  have o0 := ownsMap_tch h.own t0 (fun h => h)
  have hmem := getL_mem hg
  obtain ⟨w2, hrun, o2, hturn⟩ := o0.drop law_str Try.underlying72 (WideMaps.keyOf_string_mk Try.underlying9 hs) 0
  rw [encD_del] at o2
  have t2 : Tch (fun i => i = mb) w w2 := (t0.mono (fun _ _ h => h.elim)).trans (Tch.of_grown (S := fun i => i = mb) hturn.grown (fun g e => by cases e; rfl)) (fun _ _ h => h)
  refine ⟨w2, hrun, t2, ?_⟩
  have o2' := owns_tight o2
  rw [encD_size] at o2'
  have hlt : (delL s.data.toList gm).length < maxLen := by
    have h1 := length_delL_lt hg
    have h2 := owns_max h.own
    rw [encD_size] at h2
    omega
  have t2d : Tch (fun _ => False) w2 w2.drew := (Tch.refl _ w2).drew
  obtain ⟨w3, hrun3, o3, hturn3⟩ := (ownsMap_tch o2' t2d (fun h => h)).store law_str Try.underlying72 hlt (WideMaps.keyOf_string_mk Try.underlying9 ht) (ptrElem_some fb)
  rw [show (DataW.lit (.int .i64 (fb : Int)) : DataW Unit) = .lit (.int .i64 ((fb, f).1 : Nat)) from rfl, encD_put] at o3
  have t3 : Tch (fun i => i = mb) w w3 := t2.trans' (((t2d.mono (fun _ _ h => h.elim)).trans (Tch.of_grown (S := fun i => i = mb) hturn3.grown (fun g e => by cases e; rfl)) (fun _ _ h => h)))
  refine ⟨w3, hrun3, ⟨mb, putL t.data.toList (fb, f) (delL s.data.toList gm), ?_⟩, ⟨t3.mono (fun i _ hi => by rw [hi, h.lm]; exact fun h => by cases h), fun _ _ => rfl⟩⟩
  have hA : Apart d.m := by rw [h.m]; exact apart_mapL _ h.apart
  have hu : sumL lenF (putL t.data.toList f (delL s.data.toList d.m)) = d.used := by
    have e1 : getL t.data.toList (delL s.data.toList d.m) = none := by
      by_cases e : t.data.toList = s.data.toList
      · rw [e]; exact getL_delL_same _ _
      · rw [getL_delL_other e, h.get, hn]; rfl
    rw [putL, sumL_insL, sumL_delL_none _ _ e1]
    exact (sumL_delL_some lenF s.data.toList hA (by rw [h.get, hg]; rfl)).symm
  refine ⟨?_, h.lb, h.lm, ?_, ?_, ?_, ?_, ?_, h.cap, h.die, h.fail, fun i hi => Nat.lt_of_lt_of_le (h.lt i hi) t3.size⟩
  · rw [t3.block b h.bl (Ne.symm h.ne), h.blk]
    unfold dcells
    rw [show Dsk.used { d with m := putL t.data.toList f (delL s.data.toList d.m) } = d.used from hu]
  · show putL _ _ (delL _ d.m) = _
    rw [h.m, delL_mapL]; exact putL_mapL (·.2) _ (fb, f) _
  · have := owns_tight o3
    rwa [encD_size] at this
  · have hfs : ∀ p ∈ gm, FB w3 σ p.2.1 p.2.2 := fun p hp => (h.fs p hp).tch t3 (fun i _ hi e => by
      rw [hi, h.lm] at e
      cases e
      obtain ⟨v, hv, _⟩ := (h.fs p hp).blk
      exact ne_of_ty h.blk hv (by decide) rfl) (fun _ _ => rfl)
    intro p hp
    rcases mem_putL.1 hp with rfl | ⟨hp, _⟩
    · exact hfs (s.data.toList, fb, f) hmem
    · exact hfs p (mem_delL.1 hp).1
  · intro p hp q hq e
    rcases mem_putL.1 hp with rfl | ⟨hp, _⟩
    · rcases mem_putL.1 hq with rfl | ⟨hq, _⟩
      · rfl
      · have := h.inj _ (mem_delL.1 hq).1 _ hmem e.symm
        exact absurd this (mem_delL.1 hq).2
    · rcases mem_putL.1 hq with rfl | ⟨hq, _⟩
      · have := h.inj _ (mem_delL.1 hp).1 _ hmem e
        exact absurd this (mem_delL.1 hp).2
      · exact h.inj p (mem_delL.1 hp).1 q (mem_delL.1 hq).1 e
  · show sumL lenF _ ≤ _
    rw [hu]; exact h.room

set_option maxHeartbeats 1000000 in
set_option maxRecDepth 100000 in
theorem rename1_any (b : Nat) (d : Dsk) (σ : Nat → Option Nat) (mb : Nat) (gm : List (Nm × (Nat × Fl))) (s t : ByteArray) (fb : Nat) (f : Fl) (pf pt pd pr : Nat) (w : World) (h : DW w b d σ mb gm) (hs : s.size ≤ maxLen) (ht : t.size ≤ maxLen) (hg : getL s.data.toList gm = some (fb, f))
    (hf : w.cell? ⟨pf, 0, none⟩ = some (.string s)) (hto : w.cell? ⟨pt, 0, none⟩ = some (.string t)) (hd : w.cell? ⟨pd, 0, none⟩ = some (.pointer (some ⟨b, 0, none⟩))) (hr : w.cell? ⟨pr, 0, none⟩ = some (.pointer (some ⟨fb, 0, none⟩)))
    (nf : σ pf = none) (nt : σ pt = none) (nd : σ pd = none) (nr : σ pr = none) :
    Calls Try.prog 44 #[.pointer (some ⟨pf, 0, none⟩), .pointer (some ⟨pt, 0, none⟩), .pointer (some ⟨pd, 0, none⟩), .pointer (some ⟨pr, 0, none⟩)] w fun x w' => x = .returned (.tuple #[]) ∧
      ∃ σ', DK w' b (if s.data.toList = t.data.toList then d else { d with m := putL t.data.toList f (delL s.data.toList (delL t.data.toList d.m)) }) σ' ∧ Stp w σ w' σ' := by
  by_cases hst : s = t
  · subst hst
    have HR : Hid (DK w b (if s.data.toList = s.data.toList then d else { d with m := putL s.data.toList f (delL s.data.toList (delL s.data.toList d.m)) }) σ) := by
      show DK _ _ _ _
      rw [if_pos rfl]; exact ⟨mb, gm, h⟩
    go_enter Try.func44, Try.ntmps44
    go_wp2
    first | go_end0 | refine bodyPost_ret (results_none rfl _ _ _) rfl ?_
    exact ⟨rfl, σ, HR.out, Stp.refl _ _⟩
  · have hne : ¬ s.data.toList = t.data.toList := fun e => hst (ByteArray.ext (Array.toList_inj.1 e))
    rw [if_neg hne]
    have hdr := drop_any b d σ mb gm t w h ht
    have HK : Hid (∀ w1, DW w1 b { d with m := delL t.data.toList d.m } σ mb (delL t.data.toList gm) → Stp w σ w1 σ → w1.cell? ⟨b, 2, none⟩ = some (.map (some mb)) ∧ w1.cell? ⟨pf, 0, none⟩ = some (.string s) ∧ w1.cell? ⟨pt, 0, none⟩ = some (.string t) ∧ w1.cell? ⟨pd, 0, none⟩ = some (.pointer (some ⟨b, 0, none⟩)) ∧ w1.cell? ⟨pr, 0, none⟩ = some (.pointer (some ⟨fb, 0, none⟩)) ∧
        ∃ w2, (Builtin.delete_ #[72, 9] 0 #[.map (some mb), .string s]).run Try.prog w1.drew = .ok (.tuple #[]) w2 ∧
          (w2.cell? ⟨b, 2, none⟩ = some (.map (some mb)) ∧ w2.cell? ⟨pt, 0, none⟩ = some (.string t) ∧ w2.cell? ⟨pd, 0, none⟩ = some (.pointer (some ⟨b, 0, none⟩)) ∧ w2.cell? ⟨pr, 0, none⟩ = some (.pointer (some ⟨fb, 0, none⟩))) ∧
          ∃ w3, (Instr.mapUpdate 72 (.map (some mb)) (.string t) (.pointer (some ⟨fb, 0, none⟩))).run Try.prog w2.drew = .ok () w3 ∧
            DK w3 b { d with m := putL t.data.toList f (delL s.data.toList (delL t.data.toList d.m)) } σ ∧ Stp w σ w3 σ) := by
      intro w1 h1 s1
      have keep : ∀ i v, σ i = none → w.cell? ⟨i, 0, none⟩ = some v → w1.cell? ⟨i, 0, none⟩ = some v := fun i v hi hv => (s1.tch.cell (p := ⟨i, 0, none⟩) (cell_lt hv) (fun hh => hh hi)).trans hv
      obtain ⟨w2, r2, t2, w3, r3, h3, s3⟩ := moved h1 hs ht (fb := fb) (f := f) (by rw [getL_delL_other hne]; exact hg) (getL_delL_same _ _)
      have keep2 : ∀ i v, σ i = none → w1.cell? ⟨i, 0, none⟩ = some v → w2.cell? ⟨i, 0, none⟩ = some v := fun i v hi hv => (t2.cell (p := ⟨i, 0, none⟩) (cell_lt hv) (fun hh => by simp only at hh; rw [hh, h1.lm] at hi; cases hi)).trans hv
      refine ⟨h1.c2, keep _ _ nf hf, keep _ _ nt hto, keep _ _ nd hd, keep _ _ nr hr, w2, r2, ⟨?_, keep2 _ _ nt (keep _ _ nt hto), keep2 _ _ nd (keep _ _ nd hd), keep2 _ _ nr (keep _ _ nr hr)⟩, w3, r3, h3, s1.trans s3⟩
      exact (t2.cell (p := ⟨b, 2, none⟩) h1.bl (Ne.symm h1.ne)).trans h1.c2
    have hsb : (s.toList == t.toList) = false := by rw [Lib.toList_data, Lib.toList_data]; simpa using hne
    go_enter Try.func44, Try.ntmps44
    go_wp2_with fail
    refine hdr.mono ?_
    rintro x w1 ⟨rfl, h1, s1⟩
    obtain ⟨a1, a2, a3, a4, a5, w2, r2, ⟨b1, b2, b3, b4⟩, w3, r3, h3, s3⟩ := HK.out w1 h1 s1
    clear hf hto hd hr
    go_wp2
    go_region
    go_wp2
    go_region
    go_end0
    exact ⟨rfl, σ, h3, s3⟩

set_option maxHeartbeats 1000000 in
set_option maxRecDepth 100000 in
theorem rename_any (b : Nat) (d : Dsk) (σ : Nat → Option Nat) (s t : ByteArray) (w : World) (h : DK w b d σ) :
    Calls Try.prog 14 #[.pointer (some ⟨b, 0, none⟩), .string s, .string t] w fun x w' => x = .returned (.int .i64 (d.rename s.data.toList t.data.toList).1) ∧ ∃ σ', DK w' b (d.rename s.data.toList t.data.toList).2 σ' ∧ Stp w σ w' σ' := by
  have t1 := box3_no w (.cells #[.pointer (some ⟨b, 0, none⟩)] 23) (.cells #[.string s] 9) (.cells #[.string t] 9)
  obtain ⟨w1, hw1⟩ : ∃ w1, w1 = ((w.alloc (.cells #[.pointer (some ⟨b, 0, none⟩)] 23)).alloc (.cells #[.string s] 9)).alloc (.cells #[.string t] 9) := ⟨_, rfl⟩
  have z1 : w1.heap.size = w.heap.size + 3 := by rw [hw1]; simp
  rw [← hw1] at t1
  have p1 : w1.cell? ⟨w.heap.size, 0, none⟩ = some (.pointer (some ⟨b, 0, none⟩)) := by
    rw [hw1, World.cell?_alloc_past _ _ _ (by simp; omega), World.cell?_alloc_past _ _ _ (by simp)]
    rw [blk_cell (box_one w _)]; rfl
  have f1 : w1.cell? ⟨w.heap.size + 1, 0, none⟩ = some (.string s) := by
    rw [hw1, World.cell?_alloc_past _ _ _ (by simp)]
    have := box_one (w.alloc (.cells #[.pointer (some ⟨b, 0, none⟩)] 23)) (.cells #[.string s] 9)
    simp only [World.size_alloc] at this
    rw [blk_cell this]; rfl
  have g1 : w1.cell? ⟨w.heap.size + 1 + 1, 0, none⟩ = some (.string t) := by
    rw [hw1]
    have := box_one ((w.alloc (.cells #[.pointer (some ⟨b, 0, none⟩)] 23)).alloc (.cells #[.string s] 9)) (.cells #[.string t] 9)
    simp only [World.size_alloc] at this
    rw [blk_cell this]; rfl
  have g2 : w1.cell? ⟨w.heap.size + 2, 0, none⟩ = some (.string t) := g1
  obtain ⟨mb, gm, hW⟩ := h
  have hW1 := hW.no t1
  have hi := isName_any t w1
  have hf := find_any b d σ mb gm s w1 hW1
  cases ho : okN t.data.toList
  · rw [ho] at hi
    have HR : Hid (d.rename s.data.toList t.data.toList = (20, d)) := by show _ = _; simp [Dsk.rename, ho]
    go_enter Try.func14, Try.ntmps14
    go_wp2_with fail
    rw [← hw1]
    refine hi.mono ?_
    rintro x w2 ⟨rfl, hw2⟩
    subst hw2
    clear hw1
    go_wp2
    go_ret
    rw [HR.out]
    exact ⟨rfl, σ, ⟨mb, gm, hW1⟩, Stp.of_no t1⟩
  · rw [ho] at hi
    have htz : t.size ≤ maxLen := by have := okN_size ho; unfold maxLen; omega
    go_enter Try.func14, Try.ntmps14
    go_wp2_with fail
    rw [← hw1]
    refine hi.mono ?_
    rintro x w2 ⟨rfl, hw2⟩
    subst hw2
    clear hw1
    go_wp2_with fail
    refine hf.mono ?_
    rintro x w2 ⟨hx, hw2⟩
    subst hw2
    clear hf
    rcases hx with ⟨ha, rfl⟩ | ⟨ha, rfl⟩
    · have HR : Hid (d.rename s.data.toList t.data.toList = (d.ask s.data.toList, d)) := by show _ = _; simp [Dsk.rename, ho, ha]
      have hab : (d.ask s.data.toList != 0) = true := by simpa using ha
      go_wp2
      go_ret
      rw [HR.out]
      have t3 := t1.allocR (.cells #[.pointer none] 75)
      exact ⟨rfl, σ, ⟨mb, gm, hW.no t3⟩, Stp.of_no t3⟩
    · obtain ⟨f, hg, hfd, _, _⟩ := file_of hW ha
      have hsz := ask_size ha
      have t3 := t1.allocR (.cells #[.pointer (some ⟨fbOf gm s.data.toList, 0, none⟩)] 75)
      obtain ⟨w3, hw3⟩ : ∃ w3, w3 = w2.alloc (.cells #[.pointer (some ⟨fbOf gm s.data.toList, 0, none⟩)] 75) := ⟨_, rfl⟩
      rw [← hw3] at t3
      have tn : Tch (fun _ => False) w2 w3 := by rw [hw3]; exact Tch.alloc _ _ _
      have p3 := (tn.cell (p := ⟨w.heap.size, 0, none⟩) (by simp only; omega) (fun h => h)).trans p1
      have f3 := (tn.cell (p := ⟨w.heap.size + 1, 0, none⟩) (by simp only; omega) (fun h => h)).trans f1
      have g3 := (tn.cell (p := ⟨w.heap.size + 2, 0, none⟩) (by simp only; omega) (fun h => h)).trans g2
      have r3 : w3.cell? ⟨w.heap.size + 3, 0, none⟩ = some (.pointer (some ⟨fbOf gm s.data.toList, 0, none⟩)) := by
        have := box_one w2 (.cells #[.pointer (some ⟨fbOf gm s.data.toList, 0, none⟩)] 75)
        rw [z1] at this
        rw [hw3, blk_cell this]; rfl
      have h3 := hW.no t3
      have p4 : (w2.alloc (.cells #[.pointer (some ⟨fbOf gm s.data.toList, 0, none⟩)] 75)).cell? ⟨w.heap.size, 0, none⟩ = some (.pointer (some ⟨b, 0, none⟩)) := by rw [← hw3]; exact p3
      have nn : ∀ i, w.heap.size ≤ i → σ i = none := fun i hi => by
        cases hs : σ i with
        | none => rfl
        | some a => have := hW.lt i (by rw [hs]; exact fun h => by cases h); omega
      by_cases hd : d.die = 1
      · have HR : Hid (d.rename s.data.toList t.data.toList = (2, { d with dead := true, die := 0 })) := by show _ = _; simp [Dsk.rename, ho, ha, Dsk.act, hd]
        clear ha t1 tn p1 hfd f1 g1 g2
        go_wp2_with fail
        rw [← hw3]
        refine (act_dies b d σ _ _ ⟨mb, gm, h3⟩ hd).mono ?_
        rintro x w4 ⟨rfl, h4, t4⟩
        go_wp2
        go_ret
        rw [HR.out]
        exact ⟨rfl, σ, h4, mono_did hW.lb hW.bl (Stp.of_no t3) t4⟩
      · have hr1 := rename1_any b d σ mb gm s t (fbOf gm s.data.toList) f (w.heap.size + 1) (w.heap.size + 2) w.heap.size (w.heap.size + 3) w3 h3 hsz htz hg f3 g3 p3 r3 (nn _ (by omega)) (nn _ (by omega)) (nn _ (by omega)) (nn _ (by omega))
        obtain ⟨d1, hd1⟩ : ∃ d1, d1 = if s.data.toList = t.data.toList then d else { d with m := putL t.data.toList f (delL s.data.toList (delL t.data.toList d.m)) } := ⟨_, rfl⟩
        have HR : Hid (d.rename s.data.toList t.data.toList = (0, { d1 with die := d1.die - 1 })) := by
          show _ = _
          simp only [Dsk.rename, ho, ha, Dsk.act, hd, hfd, hd1]
          by_cases e : s.data.toList = t.data.toList
          · simp [e]
          · simp [e]
        rw [← hd1] at hr1
        have ha2 := act_does b d σ 44 #[.pointer (some ⟨w.heap.size + 1, 0, none⟩), .pointer (some ⟨w.heap.size + 2, 0, none⟩), .pointer (some ⟨w.heap.size, 0, none⟩), .pointer (some ⟨w.heap.size + 3, 0, none⟩)] w3
          (fun w' d' σ' => d' = d1 ∧ Stp w3 σ w' σ') ⟨mb, gm, h3⟩ hd (enters _ _ _ Try.func44 (by kernel_rfl) rfl _ _)
          (hr1.mono fun x w' ⟨hx, σ', k1, k2⟩ => ⟨hx, _, σ', k1, rfl, k2⟩)
        clear ha t1 tn p1 hfd f1 g1 g2 hr1 hd1
        go_wp2_with fail
        rw [← hw3]
        refine ha2.mono ?_
        rintro x w4 ⟨rfl, w5, d5, σ5, ⟨rfl, h5⟩, h4, t4⟩
        go_wp2
        go_ret
        rw [HR.out]
        exact ⟨rfl, σ5, h4, mono_did hW.lb hW.bl ((Stp.of_no t3).trans h5) t4⟩
end Go.Proofs.Ytngdgglgmmlmkaa
