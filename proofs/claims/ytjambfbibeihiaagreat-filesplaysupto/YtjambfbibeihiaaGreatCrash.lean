import Derived.Test.YtjambfbibeihiaaGreatReads
import Derived.Test.YtjambfbibeihiaaGreatQTail
import Derived.Sort.KeysCollected
/- Crash, whatever its list keeps. -/
namespace Go.Proofs.YtjambfbibeihiaaGreat
set_option maxRecDepth 100000
open Go.RowKit Go.ChangeMaps

theorem ranges_tch {H : Type} {P : Program} {k : TypeId} {R : Value → Option (DataW H × List MemPlace)} {S : Nat → Prop} {w w' : World} {b r n : Nat} {D : DataW H} {left : Lit → Bool} {cnt : Nat} (h : w.ranges P k R b r n D left cnt) (t : Tch S w w') (hb : ¬ S b) (hr : ¬ S r) : w'.ranges P k R b r n D left cnt := by
  have h1 := h.owns.lt
  have h2 := h.lt
  obtain ⟨es, clock, since, seen, c0, hb', F, hs, hD, hr', rest⟩ := h
  exact ⟨es, clock, since, seen, c0, (t.block b h1 hb).trans hb', F, hs, hD, (t.block r h2 hr).trans hr', rest⟩

/-- A loop's step over the map of a disk. -/
theorem wpList_next_files {P : Program} (w : World) {ops : Array Oper} {rest : List Oper} {o : Oper} {a : Act} {Q : Exit → Act → World → Prop} (hg : o.guard = none) (it : Operand) (hop : o.op = Op.next it false) (k : TypeId) (hk : P.underlying k = some .string) (b r n : Nat) (gm : List (Nm × (Nat × Fl))) (hA : Apart gm)
    (left : Lit → Bool) (cnt : Nat) (hit : a.eval it = .pointer (some ⟨r, 0, none⟩)) (h : w.ranges P k ptrElem b r n (encD gm) left cnt)
    (hDone : cnt = 0 → (∀ kl, left kl = false) → wpList P ops Q rest (a.put o.dst (.tuple #[.bool false])) w)
    (hMore : ∀ (s : ByteArray) (fb : Nat) (f : Fl) (w' : World) (cnt' : Nat), (s.data.toList, (fb, f)) ∈ gm → s.size ≤ maxLen → left (.string s.data.toList) = true → w'.ranges P k ptrElem b r n (encD gm) (fun z => left z && !z.sameKey (.string s.data.toList)) cnt' → cnt' < cnt →
      Tch (fun i => i = r) w w' → (Instr.entry (.pointer (some ⟨r, 0, none⟩))).run P w' = .ok (.tuple #[.string s, .pointer (some ⟨fb, 0, none⟩)]) w' → wpList P ops Q rest (a.put o.dst (.tuple #[.bool true, .string s, .pointer (some ⟨fb, 0, none⟩)])) w') :
    wpList P ops Q (o :: rest) a w := by
  have K : Maps.Keyed P k := Maps.string_keyed hk
  refine wpList_plain hg fun K' hK' => ?_
  unfold Oper.wp
  rcases h.next K o.type with ⟨h0, hl, hrun⟩ | ⟨key, v, kl, y, w', cnt', hkey, hlk, hv, hat, hrun, hrg, hlt, hgr, hsz, hen⟩
  · simp [execOp, hop, hit, hrun, Result.andThen]
    exact hK' _ _ (hDone h0 hl)
  · obtain ⟨x, rfl, rfl, hxl⟩ := Maps.keyOf_str hk hkey
    have e1 := hat (.lit (.int .i64 (-1)))
    rw [encD_at] at e1
    have hex : ∃ fb f, (x, (fb, f)) ∈ gm ∧ y.1 = .lit (.int .i64 (fb : Nat)) := by
      obtain ⟨p, hp, hpk⟩ : ∃ p ∈ gm, p.1 = x := by
        have h1 : Maps.has (encD gm) (.string x) = true := by
          obtain ⟨es, clock, since, seen, c0, _, F, _, hD, _, _, _, _, h9, _⟩ := h
          obtain ⟨z, hz, hzk⟩ := h9 _ hlk
          rw [hD]
          exact List.any_eq_true.2 ⟨_, mem_sorted.2 (List.mem_map.2 ⟨z, hz, rfl⟩), by rw [hzk]; exact WideAt.sameKey_self (K.key hkey)⟩
        rw [encD_has] at h1
        cases hg2 : getL x gm with
        | none => rw [hg2] at h1; cases h1
        | some a => exact ⟨_, getL_mem hg2, rfl⟩
      obtain ⟨p1, p2, p3⟩ := p
      simp only at hpk
      subst hpk
      rw [hA.get hp] at e1
      exact ⟨p2, p3, hp, e1.symm⟩
    obtain ⟨fb, f, hmem, hy⟩ := hex
    obtain rfl := ptrElem_inv hv hy
    simp [execOp, hop, hit, hrun, Result.andThen]
    refine hK' _ _ (hMore ⟨x.toArray⟩ fb f w' cnt' (by simpa using hmem) (by show x.toArray.size ≤ _; simpa using hxl) (by simpa using hlk) (by simpa using hrg) hlt ?_ hen)
    exact Tch.of_grown hgr (fun g e => by cases e; rfl)

/-- What a file's last bytes are is told anew. -/
theorem DW.setLast {w : World} {b : Nat} {d : Dsk} {σ : Nat → Option Nat} {mb : Nat} {gm : List (Nm × (Nat × Fl))} (h : DW w b d σ mb gm) {n : Nm} {fb : Nat} {f : Fl} (hg : getL n gm = some (fb, f)) :
    DW (w.setCell ⟨fb, 1, none⟩ (.int .i64 f.bs.length)) b (d.set n ⟨f.bs, f.bs.length⟩) σ mb (setL n (fb, ⟨f.bs, f.bs.length⟩) gm) ∧ Tch (fun i => i = b ∨ σ i = some fb) w (w.setCell ⟨fb, 1, none⟩ (.int .i64 f.bs.length)) := by
  have hfb := h.fs _ (getL_mem hg)
  have hff := hfb.lab
  obtain ⟨v, hbk, hown, hlab⟩ := hfb.blk
  simp only at hbk hown hlab hff
  have hbf : b ≠ fb := ne_of_ty h.blk hbk (by decide)
  have tA : Tch (fun i => i = b ∨ σ i = some fb) w (w.setCell ⟨fb, 1, none⟩ (.int .i64 f.bs.length)) := Tch.setCell (fun i => i = b ∨ σ i = some fb) w ⟨fb, 1, none⟩ (.int .i64 f.bs.length) (Or.inr hff)
  have tB : Tch (fun i => i = fb) w (w.setCell ⟨fb, 1, none⟩ (.int .i64 f.bs.length)) := Tch.setCell (fun i => i = fb) w ⟨fb, 1, none⟩ (.int .i64 f.bs.length) rfl
  have hu := h.setu hg ⟨f.bs, f.bs.length⟩
  have e : (d.set n ⟨f.bs, f.bs.length⟩).used = d.used := by
    show sumL lenF (setL n _ d.m) = _
    simp only at hu
    omega
  refine ⟨h.setf hg tA (fun _ _ => rfl) (fun i hi => Nat.lt_of_lt_of_le (h.lt i hi) tA.size) ?_ ⟨hff, ⟨v, ?_, ?_, hlab⟩, Nat.le_refl _⟩ rfl rfl (by rw [e]; exact h.room) h.die h.fail, tA⟩
  · rw [Below.heap_setCell _ _ _ _ hbf, h.blk]
    unfold dcells
    rw [e]
    rfl
  · rw [blk_set hbk]
    simp
  · refine ownsRow_tch' hown tB (fun g hgo hs => ?_)
    obtain ⟨cur, hh⟩ := row_blk hown hgo
    exact ne_of_ty hh hbk (by decide) hs

/-- The files in the midst of a Crash: those that are still to come are as they were. -/
def tornG (K : Nm → Nat) (left : Lit → Bool) (gm : List (Nm × (Nat × Fl))) : List (Nm × (Nat × Fl)) := gm.map fun p => (p.1, (p.2.1, if left (.string p.1) then p.2.2 else keepF K p.1 p.2.2))
theorem tornG_enc (K : Nm → Nat) (left : Lit → Bool) (gm : List (Nm × (Nat × Fl))) : encD (tornG K left gm) = encD gm := by
  unfold encD tornG
  rw [List.map_map]; rfl
theorem tornG_start {K : Nm → Nat} {left : Lit → Bool} {gm : List (Nm × (Nat × Fl))} (h : ∀ p ∈ gm, left (.string p.1) = true) : tornG K left gm = gm := by
  unfold tornG
  conv => rhs; rw [← List.map_id gm]
  refine List.map_congr_left (fun p hp => ?_)
  simp [h p hp]
theorem tornG_end {K : Nm → Nat} {left : Lit → Bool} {gm : List (Nm × (Nat × Fl))} (h : ∀ kl, left kl = false) : mapL (·.2) (tornG K left gm) = (mapL (·.2) gm).map fun p => (p.1, keepF K p.1 p.2) := by
  unfold tornG mapL
  rw [List.map_map, List.map_map]
  refine List.map_congr_left (fun p _ => ?_)
  simp [h]
theorem tornG_get {K : Nm → Nat} {left : Lit → Bool} {n : Nm} {fb : Nat} {f : Fl} (hl : left (.string n) = true) : ∀ {gm : List (Nm × (Nat × Fl))}, getL n gm = some (fb, f) → getL n (tornG K left gm) = some (fb, f)
  | [], h => by cases h
  | z :: r, h => by
    simp only [getL, List.find?_cons] at h
    simp only [getL, tornG, List.map_cons, List.find?_cons]
    by_cases hz : z.1 = n
    · have hb : (z.1 == n) = true := by simpa using hz
      rw [hb] at h ⊢
      simp only [Option.map_some, Option.some.injEq] at h ⊢
      rw [hz, hl, h]; rfl
    · have hb : (z.1 == n) = false := by simpa using hz
      rw [hb] at h ⊢
      exact tornG_get hl (gm := r) h
theorem tornG_step {K : Nm → Nat} {left : Lit → Bool} {n : Nm} {fb : Nat} {f : Fl} {gm : List (Nm × (Nat × Fl))} (hA : Apart gm) (hm : (n, (fb, f)) ∈ gm) :
    setL n (fb, keepF K n f) (tornG K left gm) = tornG K (fun z => left z && !z.sameKey (.string n)) gm := by
  unfold setL tornG
  rw [List.map_map]
  refine List.map_congr_left (fun p hp => ?_)
  simp only [Function.comp]
  by_cases hz : p.1 = n
  · have hb : (p.1 == n) = true := by simpa using hz
    have e := hA.get (n := p.1) (a := p.2) hp
    rw [hz, hA.get hm] at e
    simp only [Option.some.injEq] at e
    simp only [hb, if_true, Lit.sameKey, Bool.not_true, Bool.and_false, Bool.false_eq_true, if_false]
    rw [← e, hz]
  · have hb : (p.1 == n) = false := by simpa using hz
    simp [hb, Lit.sameKey]
theorem setL_setL {α : Type} (n : Nm) (a a' : α) (m : List (Nm × α)) : setL n a (setL n a' m) = setL n a m := by
  unfold setL
  rw [List.map_map]
  refine List.map_congr_left (fun p _ => ?_)
  simp only [Function.comp]
  by_cases hz : (p.1 == n) = true
  · simp [hz]
  · simp [hz]

theorem zero_int (w : World) : (zeroValue 3).run Tryz.prog w = .ok (.int .i64 0) w := by kernel_rfl

theorem crash_step {w wr w2 w4 : World} {b mb r kb nk : Nat} {d : Dsk} {σ : Nat → Option Nat} {gm : List (Nm × (Nat × Fl))} {K : Nm → Nat} {left : Lit → Bool} {n : Nm} {fb : Nat} {f : Fl} {cnt2 m : Nat} {Dk : DataW Unit} (hA : Apart gm) (hmem : (n, (fb, f)) ∈ gm) (hlx : left (.string n) = true)
    (lm : σ mb = some b) (lb : σ b = some b) (nem : mb ≠ b) (hfb : fb ≠ b) (nr : σ r = none) (nk0 : σ kb = none) (hr : w.heap.size ≤ r) (hbnd : f.la + K n ≤ f.bs.length) (hS : Stp w σ wr σ) (t2 : Tch (fun i => i = r) wr w2)
    (hrg : w2.ranges Tryz.prog 9 ptrElem mb r gm.length (encD gm) (fun z => left z && !z.sameKey (.string n)) cnt2) (ho : w2.ownsMap Tryz.prog 9 (plainElem Tryz.prog 3) kb nk Dk) (t4 : Tch (fun i => i = b ∨ σ i = some fb) (w2.drewN m) w4)
    (h4 : DW w4 b (Dsk.set { d with m := mapL (·.2) (tornG K left gm) } n ⟨f.bs.take (f.la + K n), min f.la (f.la + K n)⟩) σ mb (setL n (fb, ⟨f.bs.take (f.la + K n), min f.la (f.la + K n)⟩) (tornG K left gm))) :
    ∀ w', w' = w4.setCell ⟨fb, 1, none⟩ (.int .i64 ((f.la : Int) + (K n : Nat))) → w'.ranges Tryz.prog 9 ptrElem mb r gm.length (encD gm) (fun z => left z && !z.sameKey (.string n)) cnt2 ∧
      DW w' b { d with m := mapL (·.2) (tornG K (fun z => left z && !z.sameKey (.string n)) gm) } σ mb (tornG K (fun z => left z && !z.sameKey (.string n)) gm) ∧ w'.ownsMap Tryz.prog 9 (plainElem Tryz.prog 3) kb nk Dk ∧ Stp w σ w' σ := by
  rintro w' rfl
  have hg2 := tornG_get (K := K) hlx (hA.get hmem)
  have hg4 := getL_setL_same (a := ((fb, ⟨f.bs.take (f.la + K n), min f.la (f.la + K n)⟩) : Nat × Fl)) hg2
  obtain ⟨h5, t5⟩ := h4.setLast hg4
  have hlen : (f.bs.take (f.la + K n)).length = f.la + K n := by simp; omega
  simp only [hlen] at h5 t5
  rw [show ((f.la + K n : Nat) : Int) = (f.la : Int) + (K n : Nat) by omega] at h5 t5
  have T : Tch (fun i => i = b ∨ σ i = some fb) w2 (w4.setCell ⟨fb, 1, none⟩ (.int .i64 ((f.la : Int) + (K n : Nat)))) := ((Tch.refl (fun i => i = b ∨ σ i = some fb) w2).drewN m).trans' (t4.trans' t5)
  have N : ∀ i, σ i = none → ¬ (i = b ∨ σ i = some fb) := fun i hi hh => by
    rcases hh with rfl | hh
    · rw [lb] at hi; cases hi
    · rw [hi] at hh; cases hh
  refine ⟨ranges_tch hrg T ?_ (N r nr), ?_, ownsMap_tch ho T (N kb nk0), ⟨hS.tch.trans ((t2.mono (fun i _ hi => Or.inl hi) : Tch (fun i => i = r ∨ i = b ∨ σ i = some fb) wr w2).trans T (fun i _ hi => Or.inr hi)) ?_, fun _ _ => rfl⟩⟩
  · rintro (e | e)
    · exact nem e
    · rw [lm] at e; cases e; exact hfb rfl
  · rw [setL_setL] at h5
    have e : setL n (fb, (⟨f.bs.take (f.la + K n), f.la + K n⟩ : Fl)) (tornG K left gm) = _ := tornG_step (K := K) (left := left) hA hmem
    rw [e] at h5
    have e2 : Dsk.set (Dsk.set { d with m := mapL (·.2) (tornG K left gm) } n ⟨f.bs.take (f.la + K n), min f.la (f.la + K n)⟩) n ⟨f.bs.take (f.la + K n), f.la + K n⟩ = { d with m := mapL (·.2) (tornG K (fun z => left z && !z.sameKey (.string n)) gm) } := by
      unfold Dsk.set
      simp only [setL_setL]
      congr 1
      rw [← e]
      exact setL_mapL (·.2) n (fb, (⟨f.bs.take (f.la + K n), f.la + K n⟩ : Fl)) _
    rw [e2] at h5
    exact h5
  · intro i hi hh
    rcases hh with rfl | rfl | hh
    · omega
    · rw [lb]; exact fun h => by cases h
    · rw [hh]; exact fun h => by cases h

set_option maxHeartbeats 4000000 in
set_option maxRecDepth 100000 in
theorem crash_of (b : Nat) (d : Dsk) (σ : Nat → Option Nat) (mb : Nat) (gm : List (Nm × (Nat × Fl))) (l : Value) (K : Nm → Nat) (w : World) (h : DW w b d σ mb gm) (hB : ∀ p ∈ gm, p.2.2.la + K p.1 ≤ p.2.2.bs.length)
    (hkp : Calls Tryz.prog 75 #[.pointer (some ⟨b, 0, none⟩), l] w fun x w1 => ∃ kb nk, ∃ Dk : DataW Unit, x = .returned (.tuple #[.map (some kb), .int .i64 0]) ∧ w1.ownsMap Tryz.prog 9 (plainElem Tryz.prog 3) kb nk Dk ∧ (∀ n : Nm, Dk.atKey (.string n) (.lit (.int .i64 0)) = .lit (.int .i64 (K n : Nat))) ∧ w.heap.size ≤ kb ∧ Tch (fun _ => False) w w1) :
    Calls Tryz.prog 63 #[.pointer (some ⟨b, 0, none⟩), l] w fun x w' => x = .returned (.int .i64 0) ∧ DK w' b (d.torn K) σ ∧ Stp w σ w' σ := by
  have hA := h.apart
  have nn : ∀ i, w.heap.size ≤ i → σ i = none := fun i hi => by
    cases hs : σ i with
    | none => rfl
    | some a => have := h.lt i (by rw [hs]; exact fun h => by cases h); omega
  go_enter Tryz.func63, Tryz.ntmps63
  go_wp2_with fail
  refine hkp.mono ?_
  rintro x w1 ⟨kb, nk, Dk, rfl, hown1, hDk, hkb, t1⟩
  have h1 := h.no t1
  have c2 := h1.c2
  have hkl := hown1.lt
  go_wp2_with (first
    | (at_range; refine wpList_range_own _ rfl _ 70 rfl 9 73 law_str Tryz.underlying70 _ mb gm.length _ rfl h1.own ?_; intro w0 hrg0 hg0 hs0)
    | go_in)
  go_frame
  have r0 : w.heap.size ≤ w1.heap.size := t1.size
  obtain ⟨r, hr⟩ : ∃ r, r = w1.heap.size := ⟨_, rfl⟩
  rw [← hr] at hrg0 r0 hkl hs0 ⊢
  have nr : σ r = none := nn r r0
  have nk0 : σ kb = none := nn kb hkb
  have t0 : Tch (fun _ => False) w1 w0 := Tch.of_grown hg0 (fun g e => by cases e)
  have HS : Hid (∀ w2 : World, Tch (fun i => i = b) w2 w2) := fun w2 => Tch.refl _ _
  clear hr hkp
  go_loopw [7] (fun _ wr => ∃ (left : Lit → Bool) (cnt : Nat), wr.ranges Tryz.prog 9 ptrElem mb r gm.length (encD gm) left cnt ∧ DW wr b { d with m := mapL (·.2) (tornG K left gm) } σ mb (tornG K left gm) ∧ wr.ownsMap Tryz.prog 9 (plainElem Tryz.prog 3) kb nk Dk ∧ Stp w σ wr σ)
    (fun _ wr => wr.rangeLeft mb r)
  case atStart =>
    have e : tornG K (Maps.has (encD gm)) gm = gm := tornG_start (fun p hp => by rw [encD_has, hA.get (a := p.2) hp]; rfl)
    refine ⟨_, _, hrg0, ?_, ownsMap_tch hown1 t0 (fun h => h), Stp.of_no (t1.trans' t0)⟩
    rw [e, ← h.m]
    exact h1.no t0
  case round =>
    obtain ⟨left, cnt, hrg, hD, hown, hS⟩ := hrel
    clear hrg0 hg0 hs0 t0 h1 c2 hown1
    go_wp2_with (first
      | (at_next; refine wpList_next_files _ rfl _ rfl 9 Tryz.underlying9 mb r gm.length gm hA _ _ rfl hrg ?_ ?_)
      | go_in)
    · intro hc0 hl0
      have HE : Hid (DW wr b { d with m := (mapL (·.2) gm).map fun p => (p.1, keepF K p.1 p.2) } σ mb (tornG K left gm)) := by
        show DW _ _ _ _ _ _
        rw [← tornG_end hl0]; exact hD
      have c3 := hD.c3; have c4 := hD.c4; have c5 := hD.c5
      have f3 := hD.fz 3; have f4 := hD.fz 4; have f5 := hD.fz 5
      have HF : Hid (∀ w', w' = ((wr.setCell ⟨b, 3, none⟩ (.bool false)).setCell ⟨b, 4, none⟩ (.int .i64 0)).setCell ⟨b, 5, none⟩ (.int .i64 0) → DK w' b (d.torn K) σ ∧ Stp w σ w' σ) := by
        rintro w' rfl
        have t3 : Tch (fun i => i = b) wr (((wr.setCell ⟨b, 3, none⟩ (.bool false)).setCell ⟨b, 4, none⟩ (.int .i64 0)).setCell ⟨b, 5, none⟩ (.int .i64 0)) :=
          ((Tch.setCell (fun i => i = b) wr ⟨b, 3, none⟩ _ rfl).setCellR _ _ rfl).setCellR _ _ rfl
        refine ⟨⟨mb, _, HE.out.own1 (d' := d.torn K) t3 ?_ ?_ rfl (Nat.zero_le _) (Nat.zero_le _)⟩, hS.trans (one_stp hD t3)⟩
        · rw [blk_set (blk_set (blk_set HE.out.blk _) _)]
          simp [dcells, Dsk.torn, Dsk.used, h.m]
        · simp [Dsk.torn, h.m]
      clear HE
      go_wp2
      go_ret
      exact ⟨rfl, HF.out _ rfl⟩
    · intro s fb f w2 cnt2 hmem hsz hlx hrg2 hlt t2 hen
      have h2 := hD.tch t2 (fun i _ hi => by rw [hi]; exact nr)
      have hg2 := tornG_get (K := K) hlx (hA.get hmem)
      obtain ⟨ao, cp, e0, e1, _⟩ := h2.fcell hg2
      have o2 := ownsMap_tch hown t2 (by omega)
      have hlk : ∀ m, (Instr.lookup 102 (.map (some kb)) (.string s) false).run Tryz.prog (w2.drewN m) = .ok (.int .i64 (K s.data.toList : Nat)) (w2.drewN m) := by
        intro m
        have o3 := ownsMap_tch o2 ((Tch.refl (fun _ => False) w2).drewN m) (fun h => h)
        obtain ⟨c, hrun, hat, _⟩ := o3.lookup_int law_str Tryz.underlying102 Tryz.underlying3 (zero_int _) (WideMaps.keyOf_string_mk Tryz.underlying9 hsz)
        rw [hDk] at hat
        simp only [DataW.lit.injEq, Lit.int.injEq, true_and] at hat
        rw [hrun, hat]
      have hbnd := hB _ hmem
      simp only at hbnd
      obtain ⟨l1, _⟩ := h2.flen hg2
      have HC : Hid (∀ m, Calls Tryz.prog 57 #[.pointer (some ⟨b, 0, none⟩), .pointer (some ⟨fb, 0, none⟩), .int .i64 ((f.la : Int) + (K s.data.toList : Nat))] (w2.drewN m) fun x w' => x = .returned (.tuple #[]) ∧
          DW w' b (Dsk.set { d with m := mapL (·.2) (tornG K left gm) } s.data.toList ⟨f.bs.take (f.la + K s.data.toList), min f.la (f.la + K s.data.toList)⟩) σ mb (setL s.data.toList (fb, ⟨f.bs.take (f.la + K s.data.toList), min f.la (f.la + K s.data.toList)⟩) (tornG K left gm)) ∧ Tch (fun i => i = b ∨ σ i = some fb) (w2.drewN m) w') := by
        intro m
        have := cut_any b _ σ mb _ s.data.toList fb f (f.la + K s.data.toList) (w2.drewN m) (h2.no ((Tch.refl _ w2).drewN m)) hg2 hbnd
        rw [show ((f.la + K s.data.toList : Nat) : Int) = (f.la : Int) + (K s.data.toList : Nat) by omega] at this
        exact this
      have hl3 : (f.la : Int) + (K s.data.toList : Nat) ≤ f.bs.length := by omega
      have hbf : fb ≠ b := by
        rintro rfl
        obtain ⟨v, hv, _⟩ := (h2.fs _ (getL_mem hg2)).blk
        exact ne_of_ty hv h2.blk (by decide) rfl
      have HW : Hid (∀ m w4, Tch (fun i => i = b ∨ σ i = some fb) (w2.drewN m) w4 → DW w4 b (Dsk.set { d with m := mapL (·.2) (tornG K left gm) } s.data.toList ⟨f.bs.take (f.la + K s.data.toList), min f.la (f.la + K s.data.toList)⟩) σ mb (setL s.data.toList (fb, ⟨f.bs.take (f.la + K s.data.toList), min f.la (f.la + K s.data.toList)⟩) (tornG K left gm)) → _) :=
        fun m w4 t4 h4 => crash_step (m := m) hA hmem hlx h.lm h.lb h.ne hbf nr nk0 r0 hbnd hS t2 hrg2 o2 t4 h4
      clear h2 o2 hown hDk hB
      go_wp2_with fail
      refine wp_region_drew_tail 10 (by kernel_rfl) (by kernel_rfl) ?_
      simp only [List.take_succ_cons, List.take_zero, List.drop_succ_cons, List.drop_zero]
      repeat (quiet_step (fail))
      refine wpQuiet_nil ?_
      rintro w3 ⟨m, rfl⟩
      go_wp2_with fail
      refine (HC.out m).mono ?_
      rintro x w4 ⟨rfl, h4, t4⟩
      have hg4 := getL_setL_same (a := ((fb, ⟨f.bs.take (f.la + K s.data.toList), min f.la (f.la + K s.data.toList)⟩) : Nat × Fl)) hg2
      obtain ⟨ao4, cp4, c40, c41, _⟩ := h4.fcell hg4
      have f41 : w4.frozen? ⟨fb, 1, none⟩ = false := by
        obtain ⟨v, hv, _⟩ := (h4.fs _ (getL_mem hg4)).blk
        exact blk_frozen hv 1
      have HL : Hid (_) := HW.out m w4 t4 h4
      clear h4 t4 e0 e1 HW
      go_wp2
      go_roundw
      case rel => exact ⟨_, cnt2, HL.out _ rfl⟩
      case measure => rw [(HL.out _ rfl).1.left_eq, hrg.left_eq]; exact hlt
end Go.Proofs.YtjambfbibeihiaaGreat
