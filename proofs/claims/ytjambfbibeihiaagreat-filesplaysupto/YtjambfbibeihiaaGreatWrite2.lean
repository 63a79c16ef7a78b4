import Derived.Test.YtjambfbibeihiaaGreatAct
import Derived.Lib.AppendStr
/- What turns a file: extend, cut, failsNow. -/
namespace Go.Proofs.YtjambfbibeihiaaGreat
set_option maxRecDepth 100000
open Go.RowKit Go.ChangeMaps

/-- append of a string's bytes to a row of one's own, and where the new row lies. -/
theorem run_append_string_at {P : Program} (w : World) (base : Nat) (t u ty e : TypeId) (i : TypeInfo) (ht : P.underlying t = some (.slice e)) (hu : P.underlying u = some .string) (hi : P.info? e = some i) (hz : i.zero = some (.int .u8 0))
    (hsize : i.size = 1) (hby : i.bytes = 1) (v : Value) (n : Nat) (xs : List Value) (hown : w.ownsRow base e 1 v n xs) (s : ByteArray)
    (h63 : n + s.size ≤ maxLen) (hbytes : n + s.size ≤ 140737488355328) (hbase : base ≤ w.heap.size) :
    ∃ v' w', (Builtin.append_ #[t, u] ty #[v, .string s]).run P w = .ok v' w' ∧ w'.ownsRow base e 1 v' (n + s.size) (xs ++ Lib.strCells s) ∧ w.grownBy w' v.ownBlock ∧
      (v'.ownBlock = v.ownBlock ∨ v'.ownBlock = some w.heap.size) := by
  obtain ⟨v', w', hr, h2, h3, h4⟩ := Lib.run_append_own_string (P := P) w base t u ty e i ht hu hi hz hsize hby v n xs hown s h63 hbytes hbase
  refine ⟨v', w', hr, h2, h3, ?_⟩
  have hsmall : n + s.size ≤ 9223372036854775807 := by simp only [maxLen] at h63; omega
  rcases hown.2 with ⟨rfl, rfl⟩ | ⟨g, cap, cur, rfl, hbg, hg, hnc, hcm, hcs, htake⟩
  · by_cases hm : s.size = 0
    · rw [h4.2 ⟨rfl, hm⟩]; exact Or.inl rfl
    · have hr2 := run_append_nil_string (P := P) w t u ty e i (.int .u8 0) ht hu hi hz s (by omega) (by omega) (by rw [hby]; omega)
      rw [hr] at hr2
      simp only [Result.ok.injEq] at hr2
      rw [hr2.1]; exact Or.inr rfl
  · have hcs' : cur.size = cap := by simpa using hcs
    by_cases hroom : n + s.size ≤ cap
    · have hr2 := Lib.run_append_room_string (P := P) w t u ty e i ht hu hi hsize g n cap cur hg s hroom (by omega)
      rw [hr] at hr2
      simp only [Result.ok.injEq] at hr2
      rw [hr2.1]; exact Or.inl rfl
    · have holds : ∀ j u, xs[j]? = some u → w.cell? ((⟨g, 0, none⟩ : Addr).add j) = some u := hown.cells (g := g) rfl
      have hr2 := Lib.run_append_grow_string (P := P) w t u ty e i (.int .u8 0) ht hu hi hz ⟨g, 0, none⟩ n cap xs (by rw [hsize]; exact hown.1) holds s (by omega) (by omega) (by rw [hby]; exact growslice_fits (by omega) (by omega))
      rw [hr] at hr2
      simp only [Result.ok.injEq] at hr2
      rw [hr2.1]; exact Or.inr rfl
theorem wpList_append_string_at {P : Program} (w : World) {ops : Array Oper} {rest : List Oper} {o : Oper} {a : Act} {Q : Exit → Act → World → Prop} (hgd : o.guard = none) (sl x : Operand) (t u : TypeId)
    (ho : o.op = .call { callee := .builtin .append, args := #[sl, x], argTypes := #[t, u] })
    (base : Nat) (e : TypeId) (i : TypeInfo) (ht : P.underlying t = some (.slice e)) (hu : P.underlying u = some .string) (hi : P.info? e = some i) (hz : i.zero = some (.int .u8 0))
    (hsize : i.size = 1) (hby : i.bytes = 1)
    (v : Value) (n : Nat) (xs : List Value) (hs : a.eval sl = v) (hown : w.ownsRow base e 1 v n xs) (s : ByteArray) (hx : a.eval x = .string s)
    (h63 : n + s.size ≤ maxLen) (hbytes : n + s.size ≤ 140737488355328) (hbase : base ≤ w.heap.size)
    (h : ∀ v' w', w'.ownsRow base e 1 v' (n + s.size) (xs ++ Lib.strCells s) → w.grownBy w' v.ownBlock → (v'.ownBlock = v.ownBlock ∨ v'.ownBlock = some w.heap.size) → wpList P ops Q rest (a.put o.dst v') w') : wpList P ops Q (o :: rest) a w := by
  refine wpList_plain hgd fun K hK => ?_
  obtain ⟨v', w', hr, h2, h3, h4⟩ := run_append_string_at (P := P) w base t u o.type e i ht hu hi hz hsize hby v n xs hown s h63 hbytes hbase
  unfold Oper.wp execOp
  simp only [ho, resolve, invoke, builtin, Sem.run_bind, Sem.run_pure, Result.andThen_ok, List.map_toArray, List.map_cons, List.map_nil, hs, hx, hr]
  exact hK _ _ (h v' w' h2 h3 h4)

theorem info_byte : (Tryz.prog.info? 5).map (fun i => (i.zero, i.size, i.bytes)) = some (some (.int .u8 0), 1, 1) := by kernel_rfl

theorem encD_setL {gm : List (Nm × (Nat × Fl))} (hA : Apart gm) {n : Nm} {fb : Nat} {f : Fl} (hg : getL n gm = some (fb, f)) (f' : Fl) : encD (setL n (fb, f') gm) = encD gm := by
  unfold encD setL
  rw [List.map_map]
  congr 1
  refine List.map_congr_left (fun p hp => ?_)
  simp only [Function.comp]
  by_cases hn : p.1 = n
  · have hb : (p.1 == n) = true := by simpa using hn
    rw [hb]
    simp only [if_true]
    have := hA.get (n := p.1) (a := p.2) hp
    rw [hn, hg] at this
    simp only [Option.some.injEq] at this
    rw [← this]
  · have hb : (p.1 == n) = false := by simpa using hn
    rw [hb]; rfl

/-- One file's contents are turned. -/
theorem DW.setf {w w' : World} {b : Nat} {d d' : Dsk} {σ σ' : Nat → Option Nat} {mb : Nat} {gm : List (Nm × (Nat × Fl))} (h : DW w b d σ mb gm) {n : Nm} {fb : Nat} {f f' : Fl} (hg : getL n gm = some (fb, f))
    (t : Tch (fun i => i = b ∨ σ i = some fb) w w') (hσ : ∀ i, i < w.heap.size → σ' i = σ i) (hlt : ∀ i, σ' i ≠ none → i < w'.heap.size)
    (hb : w'.heap[b]? = some (.cells (dcells d' mb) 72 (0, 0))) (hf : FB w' σ' fb f') (hm : d'.m = setL n f' d.m) (hc : d'.cap = d.cap) (hr : d'.used ≤ d.cap) (h1 : d'.die ≤ 9223372036854775807) (h2 : d'.fail ≤ 9223372036854775807) :
    DW w' b d' σ' mb (setL n (fb, f') gm) := by
  have hA := h.apart
  have hmem := getL_mem hg
  have hbf : b ≠ fb := by
    rintro rfl
    obtain ⟨v, hv, _⟩ := (h.fs _ hmem).blk
    rw [h.blk] at hv
    simp only [Option.some.injEq, Obj.cells.injEq] at hv
    exact absurd hv.2.1 (by decide)
  have hml := h.own.lt
  refine ⟨hb, (hσ b h.bl).trans h.lb, (hσ mb hml).trans h.lm, ?_, ?_, ?_, ?_, by rw [hc]; exact hr, by rw [hc]; exact h.cap, h1, h2, hlt⟩
  · rw [hm, h.m]; exact setL_mapL (·.2) n (fb, f') gm
  · rw [length_setL, encD_setL hA hg]
    refine ownsMap_tch h.own t (fun hs => ?_)
    rcases hs with hs | hs
    · exact h.ne hs
    · rw [h.lm] at hs; cases hs; exact hbf rfl
  · intro p hp
    rcases mem_setL hp with rfl | ⟨hp2, hne⟩
    · exact hf
    · clear hp
      have hp := hp2
      refine (h.fs p hp).tch t (fun i hi hs e => ?_) hσ
      rcases hs with rfl | hs
      · rw [h.lb] at e
        cases e
        obtain ⟨v, hv, _⟩ := (h.fs p hp).blk
        rw [h.blk] at hv
        simp only [Option.some.injEq, Obj.cells.injEq] at hv
        exact absurd hv.2.1 (by decide)
      · rw [hs] at e
        cases e
        exact hne (h.inj p hp _ hmem rfl)
  · intro p hp q hq e
    have key : ∀ p ∈ setL n (fb, f') gm, ∃ p' ∈ gm, p'.1 = p.1 ∧ p'.2.1 = p.2.1 := by
      intro p hp
      rcases mem_setL hp with rfl | ⟨hp, _⟩
      · exact ⟨_, hmem, rfl, rfl⟩
      · exact ⟨p, hp, rfl, rfl⟩
    obtain ⟨p', hp', e1, e2⟩ := key p hp
    obtain ⟨q', hq', e3, e4⟩ := key q hq
    rw [← e1, ← e3]
    exact h.inj p' hp' q' hq' (by rw [e2, e4, e])
theorem DW.setu {w : World} {b : Nat} {d : Dsk} {σ : Nat → Option Nat} {mb : Nat} {gm : List (Nm × (Nat × Fl))} (h : DW w b d σ mb gm) {n : Nm} {fb : Nat} {f : Fl} (hg : getL n gm = some (fb, f)) (f' : Fl) :
    sumL lenF (setL n f' d.m) + f.bs.length = d.used + f'.bs.length := by
  have hA : Apart d.m := by rw [h.m]; exact apart_mapL _ h.apart
  exact sumL_setL lenF n hA (by rw [h.get, hg]; rfl)
theorem strCells_byte (s : ByteArray) : Lib.strCells s = Lib.byteCells s.data.toList := by
  unfold Lib.strCells Lib.byteCells; rfl
theorem slice_of {w : World} {base : Nat} {t : TypeId} {n : Nat} {v : Value} {xs : List Value} (h : w.ownsRow base t 1 v n xs) : ∃ ao c, v = .slice ao n c := by
  rcases h.2 with ⟨rfl, rfl⟩ | ⟨g, cap, cur, rfl, hg, _⟩
  · exact ⟨_, _, rfl⟩
  · exact ⟨_, _, rfl⟩
theorem row_blk {w : World} {base : Nat} {t : TypeId} {n : Nat} {v : Value} {xs : List Value} (h : w.ownsRow base t 1 v n xs) {g : Nat} (hg : v.ownBlock = some g) : ∃ cur, w.heap[g]? = some (.cells cur t (0, 0)) := by
  rcases h.2 with ⟨rfl, _⟩ | ⟨g', cap, cur, rfl, _, hh, _⟩
  · cases hg
  · simp [Value.ownBlock] at hg; subst hg; exact ⟨cur, hh⟩

theorem ne_of_ty {w : World} {g1 g2 : Nat} {c1 c2 : Array Value} {t1 t2 : TypeId} {f1 f2 : Nat × Nat} (h1 : w.heap[g1]? = some (.cells c1 t1 f1)) (h2 : w.heap[g2]? = some (.cells c2 t2 f2)) (ht : t1 ≠ t2) : g1 ≠ g2 := by
  rintro rfl
  rw [h1] at h2
  simp only [Option.some.injEq, Obj.cells.injEq] at h2
  exact ht h2.2.1

set_option maxHeartbeats 1000000 in
theorem extend_any (b : Nat) (d : Dsk) (σ : Nat → Option Nat) (mb : Nat) (gm : List (Nm × (Nat × Fl))) (n : Nm) (fb : Nat) (f : Fl) (s : ByteArray) (w : World) (h : DW w b d σ mb gm) (hg : getL n gm = some (fb, f)) (hroom : d.used + s.size ≤ d.cap) :
    Calls Tryz.prog 41 #[.pointer (some ⟨b, 0, none⟩), .pointer (some ⟨fb, 0, none⟩), .string s] w fun x w' => x = .returned (.tuple #[]) ∧
      ∃ σ', DW w' b (d.set n ⟨f.bs ++ s.data.toList, f.la⟩) σ' mb (setL n (fb, ⟨f.bs ++ s.data.toList, f.la⟩) gm) ∧ Stp w σ w' σ' := by
  have hfb := h.fs _ (getL_mem hg)
  obtain ⟨v, hbk, hown, hlab⟩ := hfb.blk
  simp only at hbk hown hlab
  have hu := h.setu hg ⟨f.bs ++ s.data.toList, f.la⟩
  have hcap := h.cap
  have hrm := h.room
  simp only [List.length_append] at hu
  have hsl : s.data.toList.length = s.size := by simp
  have hfu : f.bs.length ≤ d.used := by
    have h1 := sumL_delL_some lenF n (by rw [h.m]; exact apart_mapL _ h.apart) (show getL n d.m = some f by rw [h.get, hg]; rfl)
    unfold Dsk.used
    rw [h1]
    exact Nat.le_add_right _ _
  obtain ⟨ao, cp, hv⟩ := slice_of hown
  subst hv
  obtain ⟨i0, hi, hz0, hz1, hz2⟩ := info_parts info_byte
  have c0 : w.cell? ⟨fb, 0, none⟩ = some (.slice ao f.bs.length cp) := by rw [blk_cell hbk]; rfl
  have hbf : b ≠ fb := by
    rintro rfl
    rw [h.blk] at hbk
    simp only [Option.some.injEq, Obj.cells.injEq] at hbk
    exact absurd hbk.2.1 (by decide)
  have HK : Hid (∀ w1, w.grownBy w1 (Value.slice ao f.bs.length cp).ownBlock → w1.heap[fb]? = some (.cells #[.slice ao f.bs.length cp, .int .i64 f.la] 76 (0, 0)) ∧ w1.heap[b]? = some (.cells (dcells d mb) 72 (0, 0)) ∧ w1.cell? ⟨fb, 0, none⟩ = some (.slice ao f.bs.length cp) ∧ w1.cell? ⟨b, 1, none⟩ = some (.int .i64 d.used) ∧ w1.frozen? ⟨fb, 0, none⟩ = false ∧ w1.frozen? ⟨b, 1, none⟩ = false) := by
    intro w1 hgr
    have k0 : w1.heap[fb]? = some (.cells #[.slice ao f.bs.length cp, .int .i64 f.la] 76 (0, 0)) := by
      rw [hgr.block fb hfb.lt (fun e => ?_)]; exact hbk
      obtain ⟨cur, hh⟩ := row_blk hown e.symm
      rw [hbk] at hh
      simp only [Option.some.injEq, Obj.cells.injEq] at hh
      exact absurd hh.2.1 (by decide)
    have k1 : w1.heap[b]? = some (.cells (dcells d mb) 72 (0, 0)) := by
      rw [hgr.block b h.bl (fun e => ?_)]; exact h.blk
      obtain ⟨cur, hh⟩ := row_blk hown e.symm
      rw [h.blk] at hh
      simp only [Option.some.injEq, Obj.cells.injEq] at hh
      exact absurd hh.2.1 (by decide)
    exact ⟨k0, k1, by rw [blk_cell k0]; rfl, by rw [blk_cell k1]; rfl, blk_frozen k0 0, blk_frozen k1 1⟩
  go_enter Tryz.func41, Tryz.ntmps41
  go_wp2_with (at_builtin; refine wpList_append_string_at _ rfl _ _ 74 9 rfl 0 5 i0 Tryz.underlying74 Tryz.underlying9 hi hz0 hz1 hz2 (.slice ao f.bs.length cp) _ _ rfl hown s rfl (by unfold maxLen; omega) (by omega) (by omega) ?_; intro v' w1 hown' hgr hloc; obtain ⟨ao', cp', hv'⟩ := slice_of hown'; rw [hv']; obtain ⟨k0, k1, d0, d1, g0, g1⟩ := HK.out w1 hgr; clear c0)
  go_end0
  refine ⟨rfl, ?_⟩
  rw [hv'] at hown' hloc
  have hrow : ∀ g, (Value.slice ao' (f.bs.length + s.size) cp').ownBlock = some g → g ≠ fb ∧ g ≠ b := by
    intro g hgo
    obtain ⟨cur, hh⟩ := row_blk hown' hgo
    exact ⟨ne_of_ty hh k0 (by decide), ne_of_ty hh k1 (by decide)⟩
  have tB : Tch (fun i => i = fb ∨ i = b) w1 ((w1.setCell ⟨fb, 0, none⟩ (.slice ao' (f.bs.length + s.size) cp')).setCell ⟨b, 1, none⟩ (.int .i64 ((d.used : Int) + s.size))) :=
    Tch.setCellR (Tch.setCell _ _ _ _ (Or.inl rfl)) _ _ (Or.inr rfl)
  have tA : Tch (fun i => i = b ∨ σ i = some fb) w ((w1.setCell ⟨fb, 0, none⟩ (.slice ao' (f.bs.length + s.size) cp')).setCell ⟨b, 1, none⟩ (.int .i64 ((d.used : Int) + s.size))) :=
    (Tch.of_grown hgr (fun g hgo => Or.inr (hlab g hgo))).trans tB (fun i _ hi => by rcases hi with rfl | rfl; exact Or.inr hfb.lab; exact Or.inl rfl)
  have hσ : ∀ i, i < w.heap.size → (if w.heap.size ≤ i ∧ some i = (Value.slice ao' (f.bs.length + s.size) cp').ownBlock then some fb else σ i) = σ i := fun i hi => if_neg (by omega)
  refine ⟨fun i => if w.heap.size ≤ i ∧ some i = (Value.slice ao' (f.bs.length + s.size) cp').ownBlock then some fb else σ i, ?_, ⟨tA.mono (fun i _ hi => ?_), hσ⟩⟩
  · refine h.setf hg tA hσ (fun i hi => ?_) ?_ ⟨(hσ fb hfb.lt).trans hfb.lab, ⟨.slice ao' (f.bs.length + s.size) cp', ?_, ?_, ?_⟩, ?_⟩ rfl rfl ?_ h.die h.fail
    · split at hi
      · rename_i hc
        exact Nat.lt_of_lt_of_le (hown'.lt i hc.2.symm).2 tB.size
      · exact Nat.lt_of_lt_of_le (h.lt i hi) tA.size
    · rw [blk_set (by rw [Below.heap_setCell _ _ _ _ hbf]; exact k1)]
      have e : (Dsk.set d n ⟨f.bs ++ s.data.toList, f.la⟩).used = d.used + s.size := by
        show sumL lenF (setL n _ d.m) = _
        omega
      unfold dcells
      rw [e]
      simp [Dsk.set]
    · rw [Below.heap_setCell _ _ _ _ (Ne.symm hbf), blk_set k0]
      simp
    · have := ownsRow_tch' hown' tB (fun g hgo hs => by have := hrow g hgo; rcases hs with hs | hs; exact this.1 hs; exact this.2 hs)
      rw [strCells_byte, ← Lib.byteCells_append] at this
      simpa using this
    · intro g hgo
      rcases hloc with hl | hl
      · rw [hgo] at hl
        have hgl := (hown.lt g hl.symm).2
        exact (hσ g hgl).trans (hlab g hl.symm)
      · rw [hgo] at hl
        simp only [Option.some.injEq] at hl
        exact if_pos ⟨by omega, hgo.symm⟩
    · have := hfb.le
      simp; omega
    · show sumL lenF (setL n _ d.m) ≤ _
      omega
  · rcases hi with rfl | hi
    · rw [h.lb]; exact fun h => by cases h
    · rw [hi]; exact fun h => by cases h

theorem near_stp {w w' : World} {b fb : Nat} {d : Dsk} {σ : Nat → Option Nat} {mb : Nat} {gm : List (Nm × (Nat × Fl))} (h : DW w b d σ mb gm) (t : Tch (fun i => i = b ∨ σ i = some fb) w w') : Stp w σ w' σ :=
  ⟨t.mono (fun i _ hi => by
    rcases hi with rfl | hi
    · rw [h.lb]; exact fun h => by cases h
    · rw [hi]; exact fun h => by cases h), fun _ _ => rfl⟩
theorem ownsRow_take {w : World} {t : TypeId} {n k cap : Nat} {ao : Option Addr} {xs : List Value} (h : w.ownsRow 0 t 1 (.slice ao n cap) n xs) (hk : k ≤ n) : w.ownsRow 0 t 1 (.slice ao k cap) k (xs.take k) := by
  have hl : xs.length = n := by simpa using h.1
  refine ⟨by simp; omega, ?_⟩
  rcases h.2 with ⟨h1, h2⟩ | ⟨g, cap', cur, h1, h2, h3, h4, h5, h6, h7⟩
  · cases h1
    exact Or.inl ⟨by rw [show k = 0 by omega], by omega⟩
  · cases h1
    refine Or.inr ⟨g, cap, cur, rfl, h2, h3, by omega, h5, h6, ?_⟩
    rw [← h7, List.take_take]
    congr 1
    omega
theorem row_cap {w : World} {t : TypeId} {n m cap : Nat} {ao : Option Addr} {xs : List Value} (h : w.ownsRow 0 t 1 (.slice ao m cap) n xs) : n ≤ cap := by
  rcases h.2 with ⟨h1, h2⟩ | ⟨g, cap', cur, h1, h2, h3, h4, _⟩
  · omega
  · cases h1; exact h4
theorem byteCells_take (l : List UInt8) (k : Nat) : (Lib.byteCells l).take k = Lib.byteCells (l.take k) := by
  unfold Lib.byteCells; rw [List.map_take]

set_option maxHeartbeats 1000000 in
theorem cut_any (b : Nat) (d : Dsk) (σ : Nat → Option Nat) (mb : Nat) (gm : List (Nm × (Nat × Fl))) (n : Nm) (fb : Nat) (f : Fl) (k : Nat) (w : World) (h : DW w b d σ mb gm) (hg : getL n gm = some (fb, f)) (hk : k ≤ f.bs.length) :
    Calls Tryz.prog 57 #[.pointer (some ⟨b, 0, none⟩), .pointer (some ⟨fb, 0, none⟩), .int .i64 k] w fun x w' => x = .returned (.tuple #[]) ∧
      DW w' b (d.set n ⟨f.bs.take k, min f.la k⟩) σ mb (setL n (fb, ⟨f.bs.take k, min f.la k⟩) gm) ∧ Tch (fun i => i = b ∨ σ i = some fb) w w' := by
  have hfb := h.fs _ (getL_mem hg)
  obtain ⟨v, hbk, hown, hlab⟩ := hfb.blk
  simp only at hbk hown hlab
  have hu := h.setu hg ⟨f.bs.take k, min f.la k⟩
  have hcap := h.cap
  have hrm := h.room
  simp only [List.length_take] at hu
  have hfu : f.bs.length ≤ d.used := by
    have h1 := sumL_delL_some lenF n (by rw [h.m]; exact apart_mapL _ h.apart) (show getL n d.m = some f by rw [h.get, hg]; rfl)
    unfold Dsk.used
    rw [h1]
    exact Nat.le_add_right _ _
  have hle := hfb.le
  obtain ⟨ao, cp, hv⟩ := slice_of hown
  subst hv
  have c0 : w.cell? ⟨fb, 0, none⟩ = some (.slice ao f.bs.length cp) := by rw [blk_cell hbk]; rfl
  have c1 : w.cell? ⟨fb, 1, none⟩ = some (.int .i64 f.la) := by rw [blk_cell hbk]; rfl
  have e1 := h.c1
  have hbf : b ≠ fb := ne_of_ty h.blk hbk (by decide)
  have f0 := blk_frozen hbk 0
  have f1 := blk_frozen hbk 1
  have g1 := h.fz 1
  have hkc : k ≤ cp := by
    have := row_cap hown
    omega
  have HK : Hid (∀ (m : Nat) (w' : World), m = min f.la k → w' = (((w.setCell ⟨b, 1, none⟩ (.int .i64 ((d.used : Int) - (f.bs.length - k)))).setCell ⟨fb, 0, none⟩ (.slice ao k cp)).setCell ⟨fb, 1, none⟩ (.int .i64 m)).drew →
      DW w' b (d.set n ⟨f.bs.take k, min f.la k⟩) σ mb (setL n (fb, ⟨f.bs.take k, min f.la k⟩) gm) ∧ Tch (fun i => i = b ∨ σ i = some fb) w w') := by
    rintro m w' rfl rfl
    have tA : Tch (fun i => i = b ∨ σ i = some fb) w (((w.setCell ⟨b, 1, none⟩ (.int .i64 ((d.used : Int) - (f.bs.length - k)))).setCell ⟨fb, 0, none⟩ (.slice ao k cp)).setCell ⟨fb, 1, none⟩ (.int .i64 ((min f.la k : Nat) : Int))).drew :=
      (((Tch.setCell _ _ _ _ (Or.inl rfl)).setCellR _ _ (Or.inr hfb.lab)).setCellR _ _ (Or.inr hfb.lab)).drew
    have tB : Tch (fun i => i = b ∨ i = fb) w (((w.setCell ⟨b, 1, none⟩ (.int .i64 ((d.used : Int) - (f.bs.length - k)))).setCell ⟨fb, 0, none⟩ (.slice ao k cp)).setCell ⟨fb, 1, none⟩ (.int .i64 ((min f.la k : Nat) : Int))).drew :=
      (((Tch.setCell _ _ _ _ (Or.inl rfl)).setCellR _ _ (Or.inr rfl)).setCellR _ _ (Or.inr rfl)).drew
    refine ⟨?_, tA⟩
    · refine h.setf hg tA (fun _ _ => rfl) (fun i hi => Nat.lt_of_lt_of_le (h.lt i hi) tA.size) ?_ ⟨hfb.lab, ⟨.slice ao k cp, ?_, ?_, ?_⟩, ?_⟩ rfl rfl ?_ h.die h.fail
      · show (((w.setCell _ _).setCell _ _).setCell _ _).heap[b]? = _
        rw [Below.heap_setCell _ _ _ _ hbf, Below.heap_setCell _ _ _ _ hbf, blk_set h.blk]
        have e : ((Dsk.set d n ⟨f.bs.take k, min f.la k⟩).used : Int) = (d.used : Int) - (f.bs.length - k) := by
          show (sumL lenF (setL n _ d.m) : Int) = _
          omega
        unfold dcells
        rw [e]
        simp [Dsk.set]
      · show (((w.setCell _ _).setCell _ _).setCell _ _).heap[fb]? = _
        rw [blk_set (blk_set (by rw [Below.heap_setCell _ _ _ _ (Ne.symm hbf)]; exact hbk) _)]
        simp
      · have h1 := ownsRow_take hown hk
        rw [byteCells_take] at h1
        have h2 : (f.bs.take k).length = k := by simp; omega
        rw [h2]
        refine ownsRow_tch' h1 tB (fun g hgo hs => ?_)
        obtain ⟨cur, hh⟩ := row_blk h1 hgo
        rcases hs with hs | hs
        · exact ne_of_ty hh h.blk (by decide) hs
        · exact ne_of_ty hh hbk (by decide) hs
      · intro g hgo
        refine hlab g ?_
        cases ao with
        | none => cases hgo
        | some a => exact hgo
      · simp; omega
      · show sumL lenF (setL n _ d.m) ≤ _
        omega
  go_enter Tryz.func57, Tryz.ntmps57
  go_wp2
  go_region
  go_wp2
  · go_end0
    exact ⟨rfl, HK.out k _ (by omega) rfl⟩
  · go_end0
    exact ⟨rfl, HK.out f.la _ (by omega) rfl⟩
end Go.Proofs.YtjambfbibeihiaaGreat
/- drop, failsNow, and what is done in an act. -/
namespace Go.Proofs.YtjambfbibeihiaaGreat
set_option maxRecDepth 100000
open Go.RowKit Go.ChangeMaps

theorem failsNow_any (b : Nat) (d : Dsk) (σ : Nat → Option Nat) (mb : Nat) (gm : List (Nm × (Nat × Fl))) (w : World) (h : DW w b d σ mb gm) :
    Calls Tryz.prog 55 #[.pointer (some ⟨b, 0, none⟩)] w fun x w' => x = .returned (.bool (decide (d.fail = 1))) ∧ DW w' b { d with fail := d.fail - 1 } σ mb gm ∧ Tch (fun i => i = b) w w' := by
  have c5 := h.c5
  have f5 := h.fz 5
  have hb1 := h.fail
  by_cases hd : (0 : Int) < d.fail
  · have HR : Hid (∀ w', w' = w.setCell ⟨b, 5, none⟩ (.int .i64 ((d.fail : Int) - 1)) → DW w' b { d with fail := d.fail - 1 } σ mb gm ∧ Tch (fun i => i = b) w w') := by
      rintro w' rfl
      have t := Tch.setCell (fun i => i = b) w ⟨b, 5, none⟩ (.int .i64 ((d.fail : Int) - 1)) rfl
      refine ⟨h.own1 t ?_ rfl rfl h.die (by simp; omega), t⟩
      rw [blk_set h.blk]
      have e : ((d.fail - 1 : Nat) : Int) = (d.fail : Int) - 1 := by omega
      simp [dcells, e, Dsk.used]
    go_enter Tryz.func55, Tryz.ntmps55
    go_wp2
    go_ret
    refine ⟨ret_bool ?_, HR.out _ rfl⟩
    rw [Bool.eq_iff_iff]
    simp
    omega
  · have e : d.fail = 0 := by omega
    have HR : Hid (∀ k, k = 0 → DW w b { d with fail := k } σ mb gm) := by
      rintro k rfl
      have hh := h
      obtain ⟨cap, m, dead, die, fail⟩ := d
      simp only at e
      subst e
      exact hh
    go_enter Tryz.func55, Tryz.ntmps55
    go_wp2
    go_ret
    exact ⟨rfl, HR.out _ (by omega), Tch.refl _ _⟩

/-- A file is taken away. -/
theorem DW.delf {w w' : World} {b : Nat} {d d' : Dsk} {σ : Nat → Option Nat} {mb : Nat} {gm : List (Nm × (Nat × Fl))} (h : DW w b d σ mb gm) (n : Nm)
    (t : Tch (fun i => i = b ∨ i = mb) w w') (hb : w'.heap[b]? = some (.cells (dcells d' mb) 72 (0, 0))) (ho : w'.ownsMap Tryz.prog 9 ptrElem mb gm.length (encD (delL n gm)))
    (hm : d'.m = delL n d.m) (hc : d'.cap = d.cap) (hr : d'.used ≤ d.cap) (h1 : d'.die ≤ 9223372036854775807) (h2 : d'.fail ≤ 9223372036854775807) :
    DW w' b d' σ mb (delL n gm) := by
  refine ⟨hb, h.lb, h.lm, ?_, ?_, ?_, ?_, by rw [hc]; exact hr, by rw [hc]; exact h.cap, h1, h2, fun i hi => Nat.lt_of_lt_of_le (h.lt i hi) t.size⟩
  · rw [hm, h.m]; exact delL_mapL _ _ _
  · have := owns_tight ho
    rwa [encD_size] at this
  · intro p hp
    have hp := (mem_delL.1 hp).1
    refine (h.fs p hp).tch t (fun i hi hs e => ?_) (fun _ _ => rfl)
    have hbl := (h.fs p hp).blk
    obtain ⟨v, hv, _⟩ := hbl
    rcases hs with rfl | rfl
    · rw [h.lb] at e
      cases e
      exact ne_of_ty h.blk hv (by decide) rfl
    · rw [h.lm] at e
      cases e
      exact ne_of_ty h.blk hv (by decide) rfl
  · intro p hp q hq
    exact h.inj p (mem_delL.1 hp).1 q (mem_delL.1 hq).1

theorem DW.usedle {w : World} {b : Nat} {d : Dsk} {σ : Nat → Option Nat} {mb : Nat} {gm : List (Nm × (Nat × Fl))} (h : DW w b d σ mb gm) {n : Nm} {fb : Nat} {f : Fl} (hg : getL n gm = some (fb, f)) :
    d.used = f.bs.length + sumL lenF (delL n d.m) :=
  sumL_delL_some lenF n (by rw [h.m]; exact apart_mapL _ h.apart) (show getL n d.m = some f by rw [h.get, hg]; rfl)
theorem two_stp {w w' : World} {b : Nat} {d : Dsk} {σ : Nat → Option Nat} {mb : Nat} {gm : List (Nm × (Nat × Fl))} (h : DW w b d σ mb gm) (t : Tch (fun i => i = b ∨ i = mb) w w') : Stp w σ w' σ :=
  ⟨t.mono (fun i _ hi => by
    rcases hi with rfl | rfl
    · rw [h.lb]; exact fun h => by cases h
    · rw [h.lm]; exact fun h => by cases h), fun _ _ => rfl⟩

set_option maxHeartbeats 1000000 in
set_option maxRecDepth 100000 in
theorem drop_any (b : Nat) (d : Dsk) (σ : Nat → Option Nat) (mb : Nat) (gm : List (Nm × (Nat × Fl))) (s : ByteArray) (w : World) (h : DW w b d σ mb gm) (hs : s.size ≤ maxLen) :
    Calls Tryz.prog 59 #[.pointer (some ⟨b, 0, none⟩), .string s] w fun x w' => x = .returned (.tuple #[]) ∧
      DW w' b { d with m := delL s.data.toList d.m } σ mb (delL s.data.toList gm) ∧ Stp w σ w' σ := by
  have c2 := h.c2
  have c1 := h.c1
  have f1 := h.fz 1
  have hl := h.look hs
  have hrm := h.room
  have hcap := h.cap
  cases hg : getL s.data.toList gm with
  | none =>
    rw [hg] at hl
    simp only [] at hl
    have HR : Hid (delL s.data.toList gm = gm ∧ delL s.data.toList d.m = d.m) := by
      have key : ∀ {α : Type} (m : List (Nm × α)), getL s.data.toList m = none → delL s.data.toList m = m := fun m hm =>
        List.filter_eq_self.2 (fun p hp => by have := getL_none hm p hp; simp [notL, this])
      exact ⟨key _ hg, key _ (by rw [h.get, hg]; rfl)⟩
    go_enter Tryz.func59, Tryz.ntmps59
    go_wp2
    go_end0
    rw [HR.out.1, HR.out.2]
    exact ⟨rfl, h, Stp.refl _ _⟩
  | some a =>
    obtain ⟨fb, f⟩ := a
    rw [hg] at hl
    simp only [] at hl
    have hfb := h.fs _ (getL_mem hg)
    obtain ⟨v, hbk, hown, hlab⟩ := hfb.blk
    simp only at hbk hown
    obtain ⟨ao, cp, hv⟩ := slice_of hown
    subst hv
    have c0 : w.cell? ⟨fb, 0, none⟩ = some (.slice ao f.bs.length cp) := by rw [blk_cell hbk]; rfl
    have hu := h.usedle hg
    have hml := h.own.lt
    have HK : Hid (∃ w', (Builtin.delete_ #[70, 9] 0 #[.map (some mb), .string s]).run Tryz.prog (w.setCell ⟨b, 1, none⟩ (.int .i64 ((d.used : Int) - f.bs.length))).drew = .ok (.tuple #[]) w' ∧
        DW w' b { d with m := delL s.data.toList d.m } σ mb (delL s.data.toList gm) ∧ Stp w σ w' σ) := by
      have t1 : Tch (fun i => i = b) w (w.setCell ⟨b, 1, none⟩ (.int .i64 ((d.used : Int) - f.bs.length))).drew := (Tch.setCell (fun i => i = b) w ⟨b, 1, none⟩ _ rfl).drew
      have o1 := ownsMap_tch h.own t1 h.ne
      obtain ⟨w', hrun, o2, hturn⟩ := o1.drop law_str Tryz.underlying70 (WideMaps.keyOf_string_mk Tryz.underlying9 hs) 0
      rw [encD_del] at o2
      have t2 : Tch (fun i => i = b ∨ i = mb) w w' := (t1.mono (fun _ _ h => Or.inl h)).trans (Tch.of_grown (S := fun i => i = mb) hturn.grown (fun g e => by cases e; rfl)) (fun _ _ h => Or.inr h)
      refine ⟨w', hrun, h.delf _ t2 ?_ o2 rfl rfl ?_ h.die h.fail, two_stp h t2⟩
      · rw [hturn.grown.block b (Nat.lt_of_lt_of_le h.bl t1.size) (fun e => by cases e; exact h.ne rfl)]
        show (w.setCell _ _).heap[b]? = _
        rw [blk_set h.blk]
        have e : ((Dsk.used { d with m := delL s.data.toList d.m } : Nat) : Int) = (d.used : Int) - f.bs.length := by
          show (sumL lenF (delL _ d.m) : Int) = _
          omega
        unfold dcells
        rw [e]
        simp
      · show sumL lenF (delL _ d.m) ≤ _
        omega
    obtain ⟨w', hrun, hres⟩ := HK.out
    have hfu : f.bs.length ≤ d.used := by omega
    clear HK hu
    go_enter Tryz.func59, Tryz.ntmps59
    go_wp2
    go_region
    go_wp2
    go_end0
    exact ⟨rfl, hres⟩

/-- A file is put, in a block of its own. -/
theorem DW.putf {w w' : World} {b : Nat} {d d' : Dsk} {σ σ' : Nat → Option Nat} {mb : Nat} {gm : List (Nm × (Nat × Fl))} (h : DW w b d σ mb gm) (n : Nm) (fb : Nat) (f : Fl)
    (t : Tch (fun i => i = b ∨ i = mb) w w') (hσ : ∀ i, i < w.heap.size → σ' i = σ i) (hlt : ∀ i, σ' i ≠ none → i < w'.heap.size) (hb : w'.heap[b]? = some (.cells (dcells d' mb) 72 (0, 0)))
    (ho : w'.ownsMap Tryz.prog 9 ptrElem mb (gm.length + 1) (encD (putL n (fb, f) gm))) (hf : FB w' σ' fb f) (hnew : ∀ p ∈ gm, p.2.1 ≠ fb)
    (hm : d'.m = putL n f d.m) (hc : d'.cap = d.cap) (hr : d'.used ≤ d.cap) (h1 : d'.die ≤ 9223372036854775807) (h2 : d'.fail ≤ 9223372036854775807) :
    DW w' b d' σ' mb (putL n (fb, f) gm) := by
  refine ⟨hb, (hσ b h.bl).trans h.lb, (hσ mb h.own.lt).trans h.lm, ?_, ?_, ?_, ?_, by rw [hc]; exact hr, by rw [hc]; exact h.cap, h1, h2, hlt⟩
  · rw [hm, h.m]; exact putL_mapL (·.2) n (fb, f) gm
  · have := owns_tight ho
    rwa [encD_size] at this
  · intro p hp
    rcases mem_putL.1 hp with rfl | ⟨hp, _⟩
    · exact hf
    · refine (h.fs p hp).tch t (fun i hi hs e => ?_) hσ
      have hbl := (h.fs p hp).blk
      obtain ⟨v, hv, _⟩ := hbl
      rcases hs with rfl | rfl
      · rw [h.lb] at e
        cases e
        exact ne_of_ty h.blk hv (by decide) rfl
      · rw [h.lm] at e
        cases e
        exact ne_of_ty h.blk hv (by decide) rfl
  · intro p hp q hq e
    rcases mem_putL.1 hp with rfl | ⟨hp, _⟩
    · rcases mem_putL.1 hq with rfl | ⟨hq, _⟩
      · rfl
      · exact absurd e.symm (hnew q hq)
    · rcases mem_putL.1 hq with rfl | ⟨hq, _⟩
      · exact absurd e (hnew p hp)
      · exact h.inj p hp q hq e

set_option maxHeartbeats 1000000 in
set_option maxRecDepth 100000 in
theorem create1_any (b : Nat) (d : Dsk) (σ : Nat → Option Nat) (s : ByteArray) (p q : Nat) (w : World) (h : DK w b d σ) (hs : s.size ≤ maxLen) (hn : d.m.length < maxLen) (hg : getL s.data.toList d.m = none)
    (hp : w.cell? ⟨p, 0, none⟩ = some (.pointer (some ⟨b, 0, none⟩))) (hq : w.cell? ⟨q, 0, none⟩ = some (.string s)) :
    Calls Tryz.prog 49 #[.pointer (some ⟨p, 0, none⟩), .pointer (some ⟨q, 0, none⟩)] w fun x w' => x = .returned (.tuple #[]) ∧
      ∃ σ', DK w' b { d with m := putL s.data.toList ⟨[], 0⟩ d.m } σ' ∧ Stp w σ w' σ' := by
  obtain ⟨mb, gm, h⟩ := h
  have c2 := h.c2
  have hnl : gm.length = d.m.length := by rw [h.m]; simp [mapL]
  have hgm : getL s.data.toList gm = none := by
    have := h.get s.data.toList
    rw [hg] at this
    cases hx : getL s.data.toList gm with
    | none => rfl
    | some a => rw [hx] at this; cases this
  have HK : Hid (∃ w', (Instr.mapUpdate 70 (.map (some mb)) (.string s) (.pointer (some ⟨w.heap.size, 0, none⟩))).run Tryz.prog (w.alloc (.cells #[.slice none 0 0, .int .i64 0] 76)).drew = .ok () w' ∧
      ∃ σ', DK w' b { d with m := putL s.data.toList ⟨[], 0⟩ d.m } σ' ∧ Stp w σ w' σ') := by
    have t1 : Tch (fun _ => False) w (w.alloc (.cells #[.slice none 0 0, .int .i64 0] 76)).drew := (Tch.alloc (fun _ => False) w _).drew
    have o1 := ownsMap_tch h.own t1 (fun h => h)
    obtain ⟨w', hrun, o2, hturn⟩ := o1.store law_str Tryz.underlying70 (by rw [hnl]; exact hn) (WideMaps.keyOf_string_mk Tryz.underlying9 hs) (ptrElem_some w.heap.size)
    rw [show (DataW.lit (.int .i64 (w.heap.size : Int)) : DataW Unit) = .lit (.int .i64 ((w.heap.size, (⟨[], 0⟩ : Fl)).1 : Nat)) from rfl, encD_put] at o2
    have tg : Tch (fun i => i = mb) (w.alloc (.cells #[.slice none 0 0, .int .i64 0] 76)).drew w' := Tch.of_grown hturn.grown (fun g e => by cases e; rfl)
    have t2 : Tch (fun i => i = b ∨ i = mb) w w' := (t1.mono (fun _ _ h => h.elim)).trans tg (fun _ _ h => Or.inr h)
    have hml := h.own.lt
    have hnb : (w.alloc (.cells #[.slice none 0 0, .int .i64 0] 76)).drew.heap[w.heap.size]? = some (.cells #[.slice none 0 0, .int .i64 0] 76 (0, 0)) := heap_alloc_new w _
    have hnl2 : w.heap.size < (w.alloc (.cells #[.slice none 0 0, .int .i64 0] 76)).drew.heap.size := blk_lt hnb
    have hσ : ∀ i, i < w.heap.size → (if i = w.heap.size then some w.heap.size else σ i) = σ i := fun i hi => if_neg (by omega)
    refine ⟨w', hrun, fun i => if i = w.heap.size then some w.heap.size else σ i, ⟨mb, _, h.putf s.data.toList w.heap.size ⟨[], 0⟩ t2 hσ ?_ ?_ o2 ⟨if_pos rfl, ⟨.slice none 0 0, ?_, World.ownsRow_nil _ _ _ _, fun g e => by cases e⟩, Nat.le_refl _⟩ ?_ rfl rfl ?_ h.die h.fail⟩, ?_, hσ⟩
    · intro i hi
      split at hi
      · rename_i e
        rw [e]
        exact Nat.lt_of_lt_of_le hnl2 tg.size
      · exact Nat.lt_of_lt_of_le (h.lt i hi) t2.size
    · rw [tg.block b (Nat.lt_of_lt_of_le h.bl t1.size) (Ne.symm h.ne), t1.block b h.bl (fun h => h), h.blk]
      have e : (Dsk.used { d with m := putL s.data.toList ⟨[], 0⟩ d.m } : Nat) = d.used := by
        show sumL lenF (putL _ _ d.m) = _
        rw [putL, sumL_insL, sumL_delL_none _ _ hg]
        simp [lenF, Dsk.used]
      unfold dcells
      rw [e]
    · rw [tg.block _ hnl2 (by omega), hnb]
      rfl
    · intro x hx e
      have := (h.fs x hx).lt
      omega
    · show sumL lenF (putL _ _ d.m) ≤ _
      rw [putL, sumL_insL, sumL_delL_none _ _ hg]
      have := h.room
      simpa [lenF, Dsk.used] using this
    · refine t2.mono (fun i _ hi => ?_)
      rcases hi with rfl | rfl
      · rw [h.lb]; exact fun h => by cases h
      · rw [h.lm]; exact fun h => by cases h
  obtain ⟨w', hrun, hres⟩ := HK.out
  have t1 : Tch (fun _ => False) w (w.alloc (.cells #[.slice none 0 0, .int .i64 0] 76)) := Tch.alloc (fun _ => False) w _
  have hpa := (t1.cell (p := ⟨p, 0, none⟩) (cell_lt hp) (fun h => h)).trans hp
  have hqa := (t1.cell (p := ⟨q, 0, none⟩) (cell_lt hq) (fun h => h)).trans hq
  have c2a := (t1.cell (p := ⟨b, 2, none⟩) (cell_lt c2) (fun h => h)).trans c2
  clear HK t1 hnl
  go_enter Tryz.func49, Tryz.ntmps49
  go_wp2
  go_region
  go_end0
  exact ⟨rfl, hres⟩
end Go.Proofs.YtjambfbibeihiaaGreat
