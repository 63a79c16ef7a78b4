/- drop, failsNow, and what is done in an act. -/
import Derived.Test.YtngdgglgmmlmkaaWrite
namespace Go.Proofs.Ytngdgglgmmlmkaa
open Go.RowKit Go.ChangeMaps

theorem failsNow_any (b : Nat) (d : Dsk) (σ : Nat → Option Nat) (mb : Nat) (gm : List (Nm × (Nat × Fl))) (w : World) (h : DW w b d σ mb gm) :
    Calls Try.prog 40 #[.pointer (some ⟨b, 0, none⟩)] w fun x w' => x = .returned (.bool (decide (d.fail = 1))) ∧ DW w' b { d with fail := d.fail - 1 } σ mb gm ∧ Tch (fun i => i = b) w w' := by
  have c5 := h.c5
  have f5 := h.fz 5
  have hb1 := h.fail
  by_cases hd : (0 : Int) < d.fail
  · have HR : Hid (∀ w', w' = w.setCell ⟨b, 5, none⟩ (.int .i64 ((d.fail : Int) - 1)) → DW w' b { d with fail := d.fail - 1 } σ mb gm ∧ Tch (fun i => i = b) w w') := by
      rintro w' rfl
      have t := Tch.setCell (fun i => i = b) w ⟨b, 5, none⟩ (.int .i64 ((d.fail : Int) - 1)) rfl
      refine ⟨h.own1 t ?_ rfl rfl h.die (by simp; omega), t⟩
      rw [blk_set h.blk]
      have e : ((d.fail - 1 : Nat) : Int) = (d.fail : Int) - 1 := by omega
      simp [dcells, e, Dsk.used]
    go_enter Try.func40, Try.ntmps40
    go_wp2
    go_ret
    refine ⟨ret_bool ?_, HR.out _ rfl⟩
    rw [Bool.eq_iff_iff]
    simp
    omega
  · have e : d.fail = 0 := by omega
    have HR : Hid (∀ k, k = 0 → DW w b { d with fail := k } σ mb gm) := by
      rintro k rfl
      have hh := h
      obtain ⟨cap, m, dead, die, fail⟩ := d
      simp only at e
      subst e
      exact hh
    go_enter Try.func40, Try.ntmps40
    go_wp2
    go_ret
    exact ⟨rfl, HR.out _ (by omega), Tch.refl _ _⟩

/-- A file is taken away. -/
theorem DW.delf {w w' : World} {b : Nat} {d d' : Dsk} {σ : Nat → Option Nat} {mb : Nat} {gm : List (Nm × (Nat × Fl))} (h : DW w b d σ mb gm) (n : Nm)
    (t : Tch (fun i => i = b ∨ i = mb) w w') (hb : w'.heap[b]? = some (.cells (dcells d' mb) 74 (0, 0))) (ho : w'.ownsMap Try.prog 9 ptrElem mb gm.length (encD (delL n gm)))
    (hm : d'.m = delL n d.m) (hc : d'.cap = d.cap) (hr : d'.used ≤ d.cap) (h1 : d'.die ≤ 9223372036854775807) (h2 : d'.fail ≤ 9223372036854775807) :
    DW w' b d' σ mb (delL n gm) := by
  refine ⟨hb, h.lb, h.lm, ?_, ?_, ?_, ?_, by rw [hc]; exact hr, by rw [hc]; exact h.cap, h1, h2, fun i hi => Nat.lt_of_lt_of_le (h.lt i hi) t.size⟩
  · rw [hm, h.m]; exact delL_mapL _ _ _
  · have := owns_tight ho
    rwa [encD_size] at this
  · intro p hp
    have hp := (mem_delL.1 hp).1
    refine (h.fs p hp).tch t (fun i hi hs e => ?_) (fun _ _ => rfl)
    have hbl := (h.fs p hp).blk
    obtain ⟨v, hv, _⟩ := hbl
    rcases hs with rfl | rfl
    · rw [h.lb] at e
      cases e
      exact ne_of_ty h.blk hv (by decide) rfl
    · rw [h.lm] at e
      cases e
      exact ne_of_ty h.blk hv (by decide) rfl
  · intro p hp q hq
    exact h.inj p (mem_delL.1 hp).1 q (mem_delL.1 hq).1

theorem DW.usedle {w : World} {b : Nat} {d : Dsk} {σ : Nat → Option Nat} {mb : Nat} {gm : List (Nm × (Nat × Fl))} (h : DW w b d σ mb gm) {n : Nm} {fb : Nat} {f : Fl} (hg : getL n gm = some (fb, f)) :
    d.used = f.bs.length + sumL lenF (delL n d.m) :=
  sumL_delL_some lenF n (by rw [h.m]; exact apart_mapL _ h.apart) (show getL n d.m = some f by rw [h.get, hg]; rfl)
theorem two_stp {w w' : World} {b : Nat} {d : Dsk} {σ : Nat → Option Nat} {mb : Nat} {gm : List (Nm × (Nat × Fl))} (h : DW w b d σ mb gm) (t : Tch (fun i => i = b ∨ i = mb) w w') : Stp w σ w' σ :=
  ⟨t.mono (fun i _ hi => by
    rcases hi with rfl | rfl
    · rw [h.lb]; exact fun h => by cases h
    · rw [h.lm]; exact fun h => by cases h), fun _ _ => rfl⟩

set_option maxHeartbeats 1000000 in
set_option maxRecDepth 100000 in
theorem drop_any (b : Nat) (d : Dsk) (σ : Nat → Option Nat) (mb : Nat) (gm : List (Nm × (Nat × Fl))) (s : ByteArray) (w : World) (h : DW w b d σ mb gm) (hs : s.size ≤ maxLen) :
    Calls Try.prog 45 #[.pointer (some ⟨b, 0, none⟩), .string s] w fun x w' => x = .returned (.tuple #[]) ∧
      DW w' b { d with m := delL s.data.toList d.m } σ mb (delL s.data.toList gm) ∧ Stp w σ w' σ := by
  have c2 := h.c2
  have c1 := h.c1
  have f1 := h.fz 1
  have hl := h.look hs
  have hrm := h.room
  have hcap := h.cap
  cases hg : getL s.data.toList gm with
  | none =>
    rw [hg] at hl
    simp only [] at hl
    have HR : Hid (delL s.data.toList gm = gm ∧ delL s.data.toList d.m = d.m) := by
      have key : ∀ {α : Type} (m : List (Nm × α)), getL s.data.toList m = none → delL s.data.toList m = m := fun m hm =>
        List.filter_eq_self.2 (fun p hp => by have := getL_none hm p hp; simp [notL, this])
      exact ⟨key _ hg, key _ (by rw [h.get, hg]; rfl)⟩
    go_enter Try.func45, Try.ntmps45
    go_wp2
    go_end0
    rw [HR.out.1, HR.out.2]
    exact ⟨rfl, h, Stp.refl _ _⟩
  | some a =>
    obtain ⟨fb, f⟩ := a
    rw [hg] at hl
    simp only [] at hl
    have hfb := h.fs _ (getL_mem hg)
    obtain ⟨v, hbk, hown, hlab⟩ := hfb.blk
    simp only at hbk hown
    obtain ⟨ao, cp, hv⟩ := slice_of hown
    subst hv
    have c0 : w.cell? ⟨fb, 0, none⟩ = some (.slice ao f.bs.length cp) := by rw [blk_cell hbk]; rfl
    have hu := h.usedle hg
    have hml := h.own.lt
    have HK : Hid (∃ w', (Builtin.delete_ #[72, 9] 0 #[.map (some mb), .string s]).run Try.prog (w.setCell ⟨b, 1, none⟩ (.int .i64 ((d.used : Int) - f.bs.length))).drew = .ok (.tuple #[]) w' ∧
        DW w' b { d with m := delL s.data.toList d.m } σ mb (delL s.data.toList gm) ∧ Stp w σ w' σ) := by
      have t1 : Tch (fun i => i = b) w (w.setCell ⟨b, 1, none⟩ (.int .i64 ((d.used : Int) - f.bs.length))).drew := (Tch.setCell (fun i => i = b) w ⟨b, 1, none⟩ _ rfl).drew
      have o1 := ownsMap_tch h.own t1 h.ne
      obtain ⟨w', hrun, o2, hturn⟩ := o1.drop law_str Try.underlying72 (WideMaps.keyOf_string_mk Try.underlying9 hs) 0
      rw [encD_del] at o2
      have t2 : Tch (fun i => i = b ∨ i = mb) w w' := (t1.mono (fun _ _ h => Or.inl h)).trans (Tch.of_grown (S := fun i => i = mb) hturn.grown (fun g e => by cases e; rfl)) (fun _ _ h => Or.inr h)
      refine ⟨w', hrun, h.delf _ t2 ?_ o2 rfl rfl ?_ h.die h.fail, two_stp h t2⟩
      · rw [hturn.grown.block b (Nat.lt_of_lt_of_le h.bl t1.size) (fun e => by cases e; exact h.ne rfl)]
        show (w.setCell _ _).heap[b]? = _
        rw [blk_set h.blk]
        have e : ((Dsk.used { d with m := delL s.data.toList d.m } : Nat) : Int) = (d.used : Int) - f.bs.length := by
          show (sumL lenF (delL _ d.m) : Int) = _
          omega
        unfold dcells
        rw [e]
        simp
      · show sumL lenF (delL _ d.m) ≤ _
        omega
    obtain ⟨w', hrun, hres⟩ := HK.out
    have hfu : f.bs.length ≤ d.used := by omega
    clear HK hu
    go_enter Try.func45, Try.ntmps45
    go_wp2
    go_region
    go_wp2
    go_end0
    exact ⟨rfl, hres⟩

/-- A file is put, in a block of its own. -/
theorem DW.putf {w w' : World} {b : Nat} {d d' : Dsk} {σ σ' : Nat → Option Nat} {mb : Nat} {gm : List (Nm × (Nat × Fl))} (h : DW w b d σ mb gm) (n : Nm) (fb : Nat) (f : Fl)
    (t : Tch (fun i => i = b ∨ i = mb) w w') (hσ : ∀ i, i < w.heap.size → σ' i = σ i) (hlt : ∀ i, σ' i ≠ none → i < w'.heap.size) (hb : w'.heap[b]? = some (.cells (dcells d' mb) 74 (0, 0)))
    (ho : w'.ownsMap Try.prog 9 ptrElem mb (gm.length + 1) (encD (putL n (fb, f) gm))) (hf : FB w' σ' fb f) (hnew : ∀ p ∈ gm, p.2.1 ≠ fb)
    (hm : d'.m = putL n f d.m) (hc : d'.cap = d.cap) (hr : d'.used ≤ d.cap) (h1 : d'.die ≤ 9223372036854775807) (h2 : d'.fail ≤ 9223372036854775807) :
    DW w' b d' σ' mb (putL n (fb, f) gm) := by
  refine ⟨hb, (hσ b h.bl).trans h.lb, (hσ mb h.own.lt).trans h.lm, ?_, ?_, ?_, ?_, by rw [hc]; exact hr, by rw [hc]; exact h.cap, h1, h2, hlt⟩
  · rw [hm, h.m]; exact putL_mapL (·.2) n (fb, f) gm
  · have := owns_tight ho
    rwa [encD_size] at this
  · intro p hp
    rcases mem_putL.1 hp with rfl | ⟨hp, _⟩
    · exact hf
    · refine (h.fs p hp).tch t (fun i hi hs e => ?_) hσ
      have hbl := (h.fs p hp).blk
      obtain ⟨v, hv, _⟩ := hbl
      rcases hs with rfl | rfl
      · rw [h.lb] at e
        cases e
        exact ne_of_ty h.blk hv (by decide) rfl
      · rw [h.lm] at e
        cases e
        exact ne_of_ty h.blk hv (by decide) rfl
  · intro p hp q hq e
    rcases mem_putL.1 hp with rfl | ⟨hp, _⟩
    · rcases mem_putL.1 hq with rfl | ⟨hq, _⟩
      · rfl
      · exact absurd e.symm (hnew q hq)
    · rcases mem_putL.1 hq with rfl | ⟨hq, _⟩
      · exact absurd e (hnew p hp)
      · exact h.inj p hp q hq e

set_option maxHeartbeats 1000000 in
set_option maxRecDepth 100000 in
theorem create1_any (b : Nat) (d : Dsk) (σ : Nat → Option Nat) (s : ByteArray) (p q : Nat) (w : World) (h : DK w b d σ) (hs : s.size ≤ maxLen) (hn : d.m.length < maxLen) (hg : getL s.data.toList d.m = none)
    (hp : w.cell? ⟨p, 0, none⟩ = some (.pointer (some ⟨b, 0, none⟩))) (hq : w.cell? ⟨q, 0, none⟩ = some (.string s)) :
    Calls Try.prog 47 #[.pointer (some ⟨p, 0, none⟩), .pointer (some ⟨q, 0, none⟩)] w fun x w' => x = .returned (.tuple #[]) ∧
      ∃ σ', DK w' b { d with m := putL s.data.toList ⟨[], 0⟩ d.m } σ' ∧ Stp w σ w' σ' := by
  obtain ⟨mb, gm, h⟩ := h
  have c2 := h.c2
  have hnl : gm.length = d.m.length := by rw [h.m]; simp [mapL]
  have hgm : getL s.data.toList gm = none := by
    have := h.get s.data.toList
    rw [hg] at this
    cases hx : getL s.data.toList gm with
    | none => rfl
    | some a => rw [hx] at this; cases this
  have HK : Hid (∃ w', (Instr.mapUpdate 72 (.map (some mb)) (.string s) (.pointer (some ⟨w.heap.size, 0, none⟩))).run Try.prog (w.alloc (.cells #[.slice none 0 0, .int .i64 0] 81)).drew = .ok () w' ∧
      ∃ σ', DK w' b { d with m := putL s.data.toList ⟨[], 0⟩ d.m } σ' ∧ Stp w σ w' σ') := by
    have t1 : Tch (fun _ => False) w (w.alloc (.cells #[.slice none 0 0, .int .i64 0] 81)).drew := (Tch.alloc (fun _ => False) w _).drew
    have o1 := ownsMap_tch h.own t1 (fun h => h)
    obtain ⟨w', hrun, o2, hturn⟩ := o1.store law_str Try.underlying72 (by rw [hnl]; exact hn) (WideMaps.keyOf_string_mk Try.underlying9 hs) (ptrElem_some w.heap.size)
    rw [show (DataW.lit (.int .i64 (w.heap.size : Int)) : DataW Unit) = .lit (.int .i64 ((w.heap.size, (⟨[], 0⟩ : Fl)).1 : Nat)) from rfl, encD_put] at o2
    have tg : Tch (fun i => i = mb) (w.alloc (.cells #[.slice none 0 0, .int .i64 0] 81)).drew w' := Tch.of_grown hturn.grown (fun g e => by cases e; rfl)
    have t2 : Tch (fun i => i = b ∨ i = mb) w w' := (t1.mono (fun _ _ h => h.elim)).trans tg (fun _ _ h => Or.inr h)
    have hml := h.own.lt
    have hnb : (w.alloc (.cells #[.slice none 0 0, .int .i64 0] 81)).drew.heap[w.heap.size]? = some (.cells #[.slice none 0 0, .int .i64 0] 81 (0, 0)) := heap_alloc_new w _
    have hnl2 : w.heap.size < (w.alloc (.cells #[.slice none 0 0, .int .i64 0] 81)).drew.heap.size := blk_lt hnb
    have hσ : ∀ i, i < w.heap.size → (if i = w.heap.size then some w.heap.size else σ i) = σ i := fun i hi => if_neg (by omega)
    refine ⟨w', hrun, fun i => if i = w.heap.size then some w.heap.size else σ i, ⟨mb, _, h.putf s.data.toList w.heap.size ⟨[], 0⟩ t2 hσ ?_ ?_ o2 ⟨if_pos rfl, ⟨.slice none 0 0, ?_, World.ownsRow_nil _ _ _ _, fun g e => by cases e⟩, Nat.le_refl _⟩ ?_ rfl rfl ?_ h.die h.fail⟩, ?_, hσ⟩
    · intro i hi
      split at hi
      · rename_i e
        rw [e]
        exact Nat.lt_of_lt_of_le hnl2 tg.size
      · exact Nat.lt_of_lt_of_le (h.lt i hi) t2.size
    · rw [tg.block b (Nat.lt_of_lt_of_le h.bl t1.size) (Ne.symm h.ne), t1.block b h.bl (fun h => h), h.blk]
      have e : (Dsk.used { d with m := putL s.data.toList ⟨[], 0⟩ d.m } : Nat) = d.used := by
        show sumL lenF (putL _ _ d.m) = _
        rw [putL, sumL_insL, sumL_delL_none _ _ hg]
        simp [lenF, Dsk.used]
      unfold dcells
      rw [e]
    · rw [tg.block _ hnl2 (by omega), hnb]
      rfl
    · intro x hx e
      have := (h.fs x hx).lt
      omega
    · show sumL lenF (putL _ _ d.m) ≤ _
      rw [putL, sumL_insL, sumL_delL_none _ _ hg]
      have := h.room
      simpa [lenF, Dsk.used] using this
    · refine t2.mono (fun i _ hi => ?_)
      rcases hi with rfl | rfl
      · rw [h.lb]; exact fun h => by cases h
      · rw [h.lm]; exact fun h => by cases h
  obtain ⟨w', hrun, hres⟩ := HK.out
  have t1 : Tch (fun _ => False) w (w.alloc (.cells #[.slice none 0 0, .int .i64 0] 81)) := Tch.alloc (fun _ => False) w _
  have hpa := (t1.cell (p := ⟨p, 0, none⟩) (cell_lt hp) (fun h => h)).trans hp
  have hqa := (t1.cell (p := ⟨q, 0, none⟩) (cell_lt hq) (fun h => h)).trans hq
  have c2a := (t1.cell (p := ⟨b, 2, none⟩) (cell_lt c2) (fun h => h)).trans c2
  clear HK t1 hnl
  go_enter Try.func47, Try.ntmps47
  go_wp2
  go_region
  go_end0
  exact ⟨rfl, hres⟩
end Go.Proofs.Ytngdgglgmmlmkaa
