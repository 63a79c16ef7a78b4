import Derived.Test.YtkcmpipipelgoaaCArg
import Derived.Test.YtkcmpipipelgoaaKPl1
/- HistoryPlays: its arguments, from the row's reading to cells. -/
namespace Go.Proofs.Ytkcmpipipelgoaa
open Go.ChangeShapes Go.WideShapes Go.ChangeAt Go.RowKit Go.Deep
set_option maxRecDepth 100000

theorem c_op : Try.prog.cellsOf 67 = 9 := by kernel_rfl
theorem bulk_pos {H : Type} (d : DataW H) : 1 ≤ Rows.uptoBulk d := by
  cases d with
  | lit l => cases l <;> simp [Rows.uptoBulk]
  | _ => simp [Rows.uptoBulk]
theorem bulk_len {H : Type} (l : List (DataW H)) : l.length ≤ Rows.uptoBulkAll l := by
  induction l with
  | nil => simp [Rows.uptoBulkAll]
  | cons x l ih => have := bulk_pos x; simp only [List.length_cons, Rows.uptoBulkAll]; omega
theorem bulk_mem {H : Type} {x : DataW H} {l : List (DataW H)} (h : x ∈ l) : Rows.uptoBulk x ≤ Rows.uptoBulkAll l := by
  induction l with
  | nil => simp at h
  | cons y l ih =>
    simp only [Rows.uptoBulkAll]
    rcases List.mem_cons.1 h with rfl | h
    · omega
    · have := ih h; omega
theorem bulk_many {H : Type} (c : Nat) (l : List (DataW H)) (h : ∀ d ∈ l, c ≤ Rows.uptoBulk d) : l.length * c ≤ Rows.uptoBulkAll l := by
  induction l with
  | nil => simp [Rows.uptoBulkAll]
  | cons x l ih =>
    have h1 := h x (by simp)
    have h2 := ih (fun d hd => h d (by simp [hd]))
    simp only [List.length_cons, Rows.uptoBulkAll, Nat.add_mul, Nat.one_mul]
    omega
theorem bulk_slice {H : Type} (es sp : List (DataW H)) : es.length ≤ Rows.uptoBulk (.slice es sp) := by
  have := bulk_len es
  simp only [Rows.uptoBulk]
  omega
theorem bulk_part {H : Type} {d : DataW H} {l : List (DataW H)} (h : d ∈ l) : Rows.uptoBulk d ≤ Rows.uptoBulk (.agg l) := by
  have := bulk_mem h
  simp only [Rows.uptoBulk]
  omega
theorem list9 {α : Type} (l : List α) (h : l.length = 9) : ∃ c0 c1 c2 c3 c4 c5 c6 c7 c8, l = [c0, c1, c2, c3, c4, c5, c6, c7, c8] := by
  rcases l with _ | ⟨c0, _ | ⟨c1, _ | ⟨c2, _ | ⟨c3, _ | ⟨c4, _ | ⟨c5, _ | ⟨c6, _ | ⟨c7, _ | ⟨c8, _ | ⟨c9, l⟩⟩⟩⟩⟩⟩⟩⟩⟩⟩ <;> simp at h
  exact ⟨c0, c1, c2, c3, c4, c5, c6, c7, c8, rfl⟩
section
variable {H : Type} {enc : TypeId × Value → H} {W : World} {fuel : Nat} {x : DataW H × List MemPlace} {cs : List Value}
theorem slice_of {t e : TypeId} {c : Value} (hu : Try.prog.underlying t = some (.slice e)) (h : DataW.trod enc Try.prog W 0 (fun _ => true) true fuel t [c] = some x) : ∃ ao len cap, c = .slice ao len cap := by
  rcases open_slice hu h with ⟨h1, _⟩ | ⟨a, len', cap', m, n, D, Pl, h1, _⟩
  · simp at h1; exact ⟨_, _, _, h1⟩
  · simp at h1; exact ⟨_, _, _, h1⟩
/-- Tables. -/
theorem tbls_of {ao : Option Addr} {len cap : Nat} (h : DataW.trod enc Try.prog W 0 (fun _ => true) true fuel 41 [.slice ao len cap] = some x) :
    ∃ l : List (Tbl × Value), len = l.length ∧ TL W (fun i => ¬ i < W.heap.size) ao l ∧ l.length ≤ Rows.uptoBulk x.1 ∧ ∀ i (hi : i < l.length), l[i].1.cols.length ≤ Rows.uptoBulk x.1 := by
  rcases open_slice Try.underlying41 h with ⟨h1, _⟩ | ⟨a, len', cap', m, n, D, Pl, h1, _, hl, hmx, hm, hx, hee⟩
  · simp at h1
    obtain ⟨rfl, rfl, rfl⟩ := h1
    exact ⟨[], rfl, ⟨SL.nil _ _, fun h => absurd rfl h, fun i hi => by simp at hi⟩, by simp, fun i hi => by simp at hi⟩
  · simp only [List.cons.injEq, Value.slice.injEq, and_true] at h1
    obtain ⟨rfl, rfl, rfl⟩ := h1
    have hm' : m = cap := by simpa using hm
    rw [c_tbl] at hee
    have hbx : ∀ i, i < len → Rows.uptoBulk (D i) ≤ Rows.uptoBulk x.1 := fun i hi => by
      have h1 : Rows.uptoBulk (D i) ≤ Rows.uptoBulkAll ((List.range len).map D) := bulk_mem (List.mem_map.2 ⟨i, List.mem_range.2 hi, rfl⟩)
      rw [hx]
      simp only [Rows.uptoBulk]
      omega
    have key : ∀ i, i < len → ∃ p : Tbl × Value, (∀ j u, (tcs p)[j]? = some u → W.cell? ((a.add (i * 5)).add j) = some u) ∧ (∃ co cc, CK W (fun i => ¬ i < W.heap.size) p co cc) ∧ p.1.cols.length ≤ Rows.uptoBulk x.1 := by
      intro i hi
      obtain ⟨cs', hc', ht⟩ := hee i (by omega)
      obtain ⟨_, hcl, hcc⟩ := World.cells?_some hc'
      obtain ⟨t, co, c, rfl, hsl, hno, hcap, _, _, hd⟩ := tbl_of ht
      refine ⟨(t, .slice co t.cols.length c), fun j u hu => ?_, ⟨co, c, rfl, hsl, hno, hcap, fun hne g o e => ?_⟩, ?_⟩
      · have hj : j < 5 := by have := (List.getElem?_eq_some_iff.1 hu).1; simpa [tcs] using this
        have g0 := hcc j (by simpa using hj)
        rcases (by omega : j = 0 ∨ j = 1 ∨ j = 2 ∨ j = 3 ∨ j = 4) with rfl | rfl | rfl | rfl | rfl <;> (simp [tcs] at hu; subst hu; simpa using g0)
      · obtain ⟨g', o', e', ha⟩ := hsl (by
          intro e0
          have := congrArg List.length e0
          rw [ccl_len] at this
          exact hne (List.eq_nil_of_length_eq_zero (by have h9 : t.cols.length * 3 = 0 := this; show t.cols.length = 0; omega)))
        rw [e'] at e; injection e with e; injection e with e _
        have hlt : g < W.heap.size := by
          rw [← e]; exact ha.lt (by
            intro e0
            have := congrArg List.length e0
            rw [ccl_len] at this
            exact hne (List.eq_nil_of_length_eq_zero (by have h9 : t.cols.length * 3 = 0 := this; show t.cols.length = 0; omega)))
        exact ⟨fun h => h hlt, hlt⟩
      · show t.cols.length ≤ _
        by_cases hne : t.cols = []
        · rw [hne]; simp
        · obtain ⟨d1, d2, d3, es, sp, d4, hd1, hd2⟩ := hd hne
          have h1 := bulk_slice es sp
          have h2 : Rows.uptoBulk (.slice es sp) ≤ Rows.uptoBulk (.agg [d1, d2, d3, .slice es sp, d4]) := bulk_part (by simp)
          have h3 := hbx i hi
          have hd1' : D i = .agg [d1, d2, d3, .slice es sp, d4] := hd1
          rw [hd1'] at h3
          omega
    have pick : ∃ l : List (Tbl × Value), l.length = len ∧ ∀ i (hi : i < l.length), (∀ j u, (tcs l[i])[j]? = some u → W.cell? ((a.add (i * 5)).add j) = some u) ∧ (∃ co cc, CK W (fun i => ¬ i < W.heap.size) l[i] co cc) ∧ l[i].1.cols.length ≤ Rows.uptoBulk x.1 := by
      classical
      refine ⟨List.ofFn (fun i : Fin len => (key i.1 i.2).choose), by simp, fun i hi => ?_⟩
      have hi' : i < len := by simpa using hi
      rw [List.getElem_ofFn]
      exact (key i hi').choose_spec
    obtain ⟨l, rfl, hls⟩ := pick
    obtain ⟨b, off, spot⟩ := a
    have hsp : l ≠ [] → spot = none := fun hne => by
      have h0 := (hls 0 (List.length_pos_iff.2 hne)).1 0 _ rfl
      simpa [Addr.add] using World.cell?_spot h0
    have hAt : l ≠ [] → At W b off (tcl l) := fun hne j u hu' => by
      have hs := hsp hne
      subst hs
      have hj : j < l.length * 5 := by rw [← tcl_len]; exact (List.getElem?_eq_some_iff.1 hu').1
      obtain ⟨q, r, rfl, hr⟩ : ∃ q r, j = q * 5 + r ∧ r < 5 := ⟨j / 5, j % 5, by omega, by omega⟩
      have hq : q < l.length := by omega
      rw [tcl_get l q r hq hr] at hu'
      have h1 := (hls q hq).1 r u hu'
      simp only [add_plain] at h1
      rw [← Nat.add_assoc]; exact h1
    have hpos : ∀ hc : tcl l ≠ [], l ≠ [] := fun hc e => hc (by rw [e]; rfl)
    refine ⟨l, rfl, ⟨fun hc => ⟨b, off, by rw [hsp (hpos hc)], hAt (hpos hc)⟩, fun hne g o e h => h ?_, fun i hi => (hls i hi).2.1⟩, ?_, fun i hi => (hls i hi).2.2⟩
    · injection e with e; injection e with e _
      rw [← e]; exact (hAt hne).lt (tcl_nil hne)
    · have := bulk_len ((List.range l.length).map D)
      rw [List.length_map, List.length_range] at this
      rw [hx]
      simp only [Rows.uptoBulk]
      omega
/-- What is to be done. -/
theorem op_of (h : DataW.trod enc Try.prog W 0 (fun _ => true) true fuel 67 cs = some x) (hb : Rows.uptoBulk x.1 ≤ 1048576) : ∃ d : Opd, cs = ocs d ∧ OpA W d := by
  obtain ⟨xs, n', _, hx, hcl, hxl, hf⟩ := DataW.trod_struct Try.underlying67 h
  rw [c_op] at hcl
  have hxs : xs.length = 5 := hxl
  obtain ⟨c0, c1, c2, c3, c4, c5, c6, c7, c8, rfl⟩ := list9 cs hcl
  obtain ⟨y0, y1, y2, y3, y4, rfl⟩ := list5 xs hxs
  have f0 : DataW.trod enc Try.prog W 0 (fun _ => true) true n' 3 [c0] = some y0 := by have := hf 0 _ rfl; simpa [c_int] using this
  have f1 : DataW.trod enc Try.prog W 0 (fun _ => true) true n' 3 [c1] = some y1 := by have := hf 1 _ rfl; simpa [c_int] using this
  have f2 : DataW.trod enc Try.prog W 0 (fun _ => true) true n' 3 [c2] = some y2 := by have := hf 2 _ rfl; simpa [c_int] using this
  have f3 : DataW.trod enc Try.prog W 0 (fun _ => true) true n' 3 [c3] = some y3 := by have := hf 3 _ rfl; simpa [c_int] using this
  have f4 : DataW.trod enc Try.prog W 0 (fun _ => true) true n' 36 [c4, c5, c6, c7, c8] = some y4 := by have := hf 4 _ rfl; simpa [c_int, c_tbl] using this
  obtain ⟨kd, e0, _, w0⟩ := DataW.trod_int Try.underlying3 f0
  obtain ⟨on, e1, _, w1⟩ := DataW.trod_int Try.underlying3 f1
  obtain ⟨lsn, e2, _, w2⟩ := DataW.trod_int Try.underlying3 f2
  obtain ⟨id, e3, _, w3⟩ := DataW.trod_int Try.underlying3 f3
  obtain ⟨T, ta, tc, eT, hT, hTn, hTc, _, _, hTd⟩ := tbl_of f4
  simp at e0 e1 e2 e3
  simp only [List.cons.injEq, and_true] at eT
  obtain ⟨t0, t1, t2, t3, t4⟩ := eT
  subst e0 e1 e2 e3 t0 t1 t2 t3 t4
  have hx1 : x.1 = .agg [y0.1, y1.1, y2.1, y3.1, y4.1] := by
    have := congrArg Prod.fst hx
    simpa using this
  rw [hx1] at hb
  have p4 : Rows.uptoBulk y4.1 ≤ _ := bulk_part (l := [y0.1, y1.1, y2.1, y3.1, y4.1]) (by simp)
  have hcl5 : T.cols.length ≤ 1048576 := by
    by_cases hne : T.cols = []
    · rw [hne]; simp
    · obtain ⟨d1, d2, d3, es, sp, d4, h1, h2⟩ := hTd hne
      have h3 := bulk_slice es sp
      have h4 : Rows.uptoBulk (.slice es sp) ≤ Rows.uptoBulk (.agg [d1, d2, d3, .slice es sp, d4]) := bulk_part (by simp)
      have h5 : Rows.uptoBulk (.agg [d1, d2, d3, .slice es sp, d4]) ≤ 1048576 := by rw [← h1]; omega
      omega
  exact ⟨⟨kd, on, lsn, id, T, ta, tc⟩, rfl, ⟨wf_i64 w1, wf_i64 w3, hT, hTn, by show T.cols.length ≤ _; omega⟩⟩
theorem ops_of {ao : Option Addr} {len cap : Nat} (h : DataW.trod enc Try.prog W 0 (fun _ => true) true fuel 50 [.slice ao len cap] = some x) (hb : Rows.uptoBulk x.1 ≤ 1048576) : ∃ ops : List Opd, len = ops.length ∧ SL W ao (ocl ops) ∧ ∀ d ∈ ops, OpA W d := by
  rcases open_slice Try.underlying50 h with ⟨h1, _⟩ | ⟨a, len', cap', m, n, D, Pl, h1, _, hl, hmx, hm, hx, hee⟩
  · simp at h1
    obtain ⟨rfl, rfl, rfl⟩ := h1
    exact ⟨[], rfl, SL.nil _ _, fun d hd => by cases hd⟩
  · simp only [List.cons.injEq, Value.slice.injEq, and_true] at h1
    obtain ⟨rfl, rfl, rfl⟩ := h1
    have hm' : m = cap := by simpa using hm
    rw [c_op] at hee
    have hbx : ∀ i, i < len → Rows.uptoBulk (D i) ≤ 1048576 := fun i hi => by
      have h1 : Rows.uptoBulk (D i) ≤ Rows.uptoBulkAll ((List.range len).map D) := bulk_mem (List.mem_map.2 ⟨i, List.mem_range.2 hi, rfl⟩)
      rw [hx] at hb
      simp only [Rows.uptoBulk] at hb
      omega
    have key : ∀ i, i < len → ∃ d : Opd, (∀ j u, (ocs d)[j]? = some u → W.cell? ((a.add (i * 9)).add j) = some u) ∧ OpA W d := by
      intro i hi
      obtain ⟨cs', hc', ht⟩ := hee i (by omega)
      obtain ⟨_, hcl, hcc⟩ := World.cells?_some hc'
      obtain ⟨d, rfl, hok⟩ := op_of ht (hbx i hi)
      refine ⟨d, fun j u hu => ?_, hok⟩
      have hj : j < (ocs d).length := (List.getElem?_eq_some_iff.1 hu).1
      have g0 := hcc j hj
      rw [g0]; exact hu
    have pick : ∃ l : List Opd, l.length = len ∧ ∀ i (hi : i < l.length), (∀ j u, (ocs l[i])[j]? = some u → W.cell? ((a.add (i * 9)).add j) = some u) ∧ OpA W l[i] := by
      classical
      refine ⟨List.ofFn (fun i : Fin len => (key i.1 i.2).choose), by simp, fun i hi => ?_⟩
      have hi' : i < len := by simpa using hi
      rw [List.getElem_ofFn]
      exact (key i hi').choose_spec
    obtain ⟨l, rfl, hls⟩ := pick
    obtain ⟨b, off, spot⟩ := a
    have hsp : l ≠ [] → spot = none := fun hne => by
      have h0 := (hls 0 (List.length_pos_iff.2 hne)).1 0 _ rfl
      simpa [Addr.add] using World.cell?_spot h0
    refine ⟨l, rfl, fun hc => ?_, fun d hd => ?_⟩
    · have hne : l ≠ [] := fun e => hc (by rw [e]; rfl)
      have hs := hsp hne
      subst hs
      refine ⟨b, off, rfl, fun j u hu' => ?_⟩
      have hj : j < l.length * 9 := by rw [← ocl_len]; exact (List.getElem?_eq_some_iff.1 hu').1
      obtain ⟨q, r, rfl, hr⟩ : ∃ q r, j = q * 9 + r ∧ r < 9 := ⟨j / 9, j % 9, by omega, by omega⟩
      have hq : q < l.length := by omega
      rw [ocl_get l q r l[q] (List.getElem?_eq_getElem hq) hr] at hu'
      have h1 := (hls q hq).1 r u hu'
      simp only [add_plain] at h1
      rw [← Nat.add_assoc]; exact h1
    · obtain ⟨i, hi, rfl⟩ := List.getElem_of_mem hd
      exact (hls i hi).2
end
end Go.Proofs.Ytkcmpipipelgoaa
