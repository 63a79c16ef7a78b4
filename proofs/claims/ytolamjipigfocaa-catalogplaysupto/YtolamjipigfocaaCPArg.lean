import Derived.Test.YtolamjipigfocaaCArg
import Derived.Test.YtolamjipigfocaaCPl1
/- CatalogPlays: its argument, from the row's reading to cells. -/
namespace Go.Proofs.Ytolamjipigfocaa
open Go.ChangeShapes Go.WideShapes Go.ChangeAt Go.RowKit Go.Deep
set_option maxRecDepth 100000

theorem c_row : Try.prog.cellsOf 39 = 1 := by kernel_rfl
theorem c_tbls : Try.prog.cellsOf 37 = 1 := by kernel_rfl
theorem c_op : Try.prog.cellsOf 45 = 12 := by kernel_rfl
theorem bulk_pos {H : Type} (d : DataW H) : 1 ≤ Rows.uptoBulk d := by
  cases d with
  | lit l => cases l <;> simp [Rows.uptoBulk]
  | _ => simp [Rows.uptoBulk]
theorem bulk_len {H : Type} (l : List (DataW H)) : l.length ≤ Rows.uptoBulkAll l := by
  induction l with
  | nil => simp [Rows.uptoBulkAll]
  | cons x l ih => have := bulk_pos x; simp only [List.length_cons, Rows.uptoBulkAll]; omega
theorem bulk_mem {H : Type} {x : DataW H} {l : List (DataW H)} (h : x ∈ l) : Rows.uptoBulk x ≤ Rows.uptoBulkAll l := by
  induction l with
  | nil => simp at h
  | cons y l ih =>
    simp only [Rows.uptoBulkAll]
    rcases List.mem_cons.1 h with rfl | h
    · omega
    · have := ih h; omega
theorem bulk_many {H : Type} (c : Nat) (l : List (DataW H)) (h : ∀ d ∈ l, c ≤ Rows.uptoBulk d) : l.length * c ≤ Rows.uptoBulkAll l := by
  induction l with
  | nil => simp [Rows.uptoBulkAll]
  | cons x l ih =>
    have h1 := h x (by simp)
    have h2 := ih (fun d hd => h d (by simp [hd]))
    simp only [List.length_cons, Rows.uptoBulkAll, Nat.add_mul, Nat.one_mul]
    omega
theorem bulk_slice {H : Type} (es sp : List (DataW H)) : es.length ≤ Rows.uptoBulk (.slice es sp) := by
  have := bulk_len es
  simp only [Rows.uptoBulk]
  omega
theorem bulk_part {H : Type} {d : DataW H} {l : List (DataW H)} (h : d ∈ l) : Rows.uptoBulk d ≤ Rows.uptoBulk (.agg l) := by
  have := bulk_mem h
  simp only [Rows.uptoBulk]
  omega
theorem list8 {α : Type} (l : List α) (h : l.length = 8) : ∃ c0 c1 c2 c3 c4 c5 c6 c7, l = [c0, c1, c2, c3, c4, c5, c6, c7] := by
  rcases l with _ | ⟨c0, _ | ⟨c1, _ | ⟨c2, _ | ⟨c3, _ | ⟨c4, _ | ⟨c5, _ | ⟨c6, _ | ⟨c7, _ | ⟨c8, l⟩⟩⟩⟩⟩⟩⟩⟩⟩ <;> simp at h
  exact ⟨c0, c1, c2, c3, c4, c5, c6, c7, rfl⟩
theorem list12 {α : Type} (l : List α) (h : l.length = 12) : ∃ c0 c1 c2 c3 c4 c5 c6 c7 c8 c9 c10 c11, l = [c0, c1, c2, c3, c4, c5, c6, c7, c8, c9, c10, c11] := by
  rcases l with _ | ⟨c0, _ | ⟨c1, _ | ⟨c2, _ | ⟨c3, _ | ⟨c4, _ | ⟨c5, _ | ⟨c6, _ | ⟨c7, _ | ⟨c8, _ | ⟨c9, _ | ⟨c10, _ | ⟨c11, _ | ⟨c12, l⟩⟩⟩⟩⟩⟩⟩⟩⟩⟩⟩⟩⟩ <;> simp at h
  exact ⟨c0, c1, c2, c3, c4, c5, c6, c7, c8, c9, c10, c11, rfl⟩
section
variable {H : Type} {enc : TypeId × Value → H} {W : World} {fuel : Nat} {x : DataW H × List MemPlace} {cs : List Value}
theorem SL.sz {ao : Option Addr} {cs : List Value} (h : SL W ao cs) : SZ (fun i => i < W.heap.size) W ao cs := ⟨h, fun hc g o e => by
  obtain ⟨g', o', e', ha⟩ := h hc
  rw [e'] at e; injection e with e; injection e with e _
  rw [← e]; exact ha.lt hc⟩
theorem slice_of {t e : TypeId} {c : Value} (hu : Try.prog.underlying t = some (.slice e)) (h : DataW.trod enc Try.prog W 0 (fun _ => true) true fuel t [c] = some x) : ∃ ao len cap, c = .slice ao len cap := by
  rcases open_slice hu h with ⟨h1, _⟩ | ⟨a, len', cap', m, n, D, Pl, h1, _⟩
  · simp at h1; exact ⟨_, _, _, h1⟩
  · simp at h1; exact ⟨_, _, _, h1⟩
/-- Tables. -/
theorem tbls_of {ao : Option Addr} {len cap : Nat} (h : DataW.trod enc Try.prog W 0 (fun _ => true) true fuel 37 [.slice ao len cap] = some x) :
    ∃ l : List (Tbl × Value), len = l.length ∧ TL W (fun i => ¬ i < W.heap.size) ao l ∧ l.length ≤ Rows.uptoBulk x.1 ∧ ∀ i (hi : i < l.length), l[i].1.cols.length ≤ Rows.uptoBulk x.1 := by
  rcases open_slice Try.underlying37 h with ⟨h1, _⟩ | ⟨a, len', cap', m, n, D, Pl, h1, _, hl, hmx, hm, hx, hee⟩
  · simp at h1
    obtain ⟨rfl, rfl, rfl⟩ := h1
    exact ⟨[], rfl, TL.nil _ _, by simp, fun i hi => by simp at hi⟩
  · simp only [List.cons.injEq, Value.slice.injEq, and_true] at h1
    obtain ⟨rfl, rfl, rfl⟩ := h1
    have hm' : m = cap := by simpa using hm
    rw [c_tbl] at hee
    have hbx : ∀ i, i < len → Rows.uptoBulk (D i) ≤ Rows.uptoBulk x.1 := fun i hi => by
      have h1 : Rows.uptoBulk (D i) ≤ Rows.uptoBulkAll ((List.range len).map D) := bulk_mem (List.mem_map.2 ⟨i, List.mem_range.2 hi, rfl⟩)
      rw [hx]
      simp only [Rows.uptoBulk]
      omega
    have key : ∀ i, i < len → ∃ p : Tbl × Value, (∀ j u, (tcs p)[j]? = some u → W.cell? ((a.add (i * 5)).add j) = some u) ∧ (∃ co cc, CK W (fun i => ¬ i < W.heap.size) p co cc) ∧ p.1.cols.length ≤ Rows.uptoBulk x.1 := by
      intro i hi
      obtain ⟨cs', hc', ht⟩ := hee i (by omega)
      obtain ⟨_, hcl, hcc⟩ := World.cells?_some hc'
      obtain ⟨t, co, c, rfl, hsl, hno, hcap, _, _, hd⟩ := tbl_of ht
      refine ⟨(t, .slice co t.cols.length c), fun j u hu => ?_, ⟨co, c, rfl, hsl, hno, hcap, fun hne g o e => ?_⟩, ?_⟩
      · have hj : j < 5 := by have := (List.getElem?_eq_some_iff.1 hu).1; simpa [tcs] using this
        have g0 := hcc j (by simpa using hj)
        rcases (by omega : j = 0 ∨ j = 1 ∨ j = 2 ∨ j = 3 ∨ j = 4) with rfl | rfl | rfl | rfl | rfl <;> (simp [tcs] at hu; subst hu; simpa using g0)
      · obtain ⟨g', o', e', ha⟩ := hsl (by
          intro e0
          have := congrArg List.length e0
          rw [ccl_len] at this
          exact hne (List.eq_nil_of_length_eq_zero (by have h9 : t.cols.length * 3 = 0 := this; show t.cols.length = 0; omega)))
        rw [e'] at e; injection e with e; injection e with e _
        have hlt : g < W.heap.size := by
          rw [← e]; exact ha.lt (by
            intro e0
            have := congrArg List.length e0
            rw [ccl_len] at this
            exact hne (List.eq_nil_of_length_eq_zero (by have h9 : t.cols.length * 3 = 0 := this; show t.cols.length = 0; omega)))
        exact ⟨fun h => h hlt, hlt⟩
      · show t.cols.length ≤ _
        by_cases hne : t.cols = []
        · rw [hne]; simp
        · obtain ⟨d1, d2, d3, es, sp, d4, hd1, hd2⟩ := hd hne
          have h1 := bulk_slice es sp
          have h2 : Rows.uptoBulk (.slice es sp) ≤ Rows.uptoBulk (.agg [d1, d2, d3, .slice es sp, d4]) := bulk_part (by simp)
          have h3 := hbx i hi
          have hd1' : D i = .agg [d1, d2, d3, .slice es sp, d4] := hd1
          rw [hd1'] at h3
          omega
    have pick : ∃ l : List (Tbl × Value), l.length = len ∧ ∀ i (hi : i < l.length), (∀ j u, (tcs l[i])[j]? = some u → W.cell? ((a.add (i * 5)).add j) = some u) ∧ (∃ co cc, CK W (fun i => ¬ i < W.heap.size) l[i] co cc) ∧ l[i].1.cols.length ≤ Rows.uptoBulk x.1 := by
      classical
      refine ⟨List.ofFn (fun i : Fin len => (key i.1 i.2).choose), by simp, fun i hi => ?_⟩
      have hi' : i < len := by simpa using hi
      rw [List.getElem_ofFn]
      exact (key i hi').choose_spec
    obtain ⟨l, rfl, hls⟩ := pick
    obtain ⟨b, off, spot⟩ := a
    have hsp : l ≠ [] → spot = none := fun hne => by
      have h0 := (hls 0 (List.length_pos_iff.2 hne)).1 0 _ rfl
      simpa [Addr.add] using World.cell?_spot h0
    have hAt : l ≠ [] → At W b off (tcl l) := fun hne j u hu' => by
      have hs := hsp hne
      subst hs
      have hj : j < l.length * 5 := by rw [← tcl_len]; exact (List.getElem?_eq_some_iff.1 hu').1
      obtain ⟨q, r, rfl, hr⟩ : ∃ q r, j = q * 5 + r ∧ r < 5 := ⟨j / 5, j % 5, by omega, by omega⟩
      have hq : q < l.length := by omega
      rw [tcl_get l q r hq hr] at hu'
      have h1 := (hls q hq).1 r u hu'
      simp only [add_plain] at h1
      rw [← Nat.add_assoc]; exact h1
    have hpos : ∀ hc : tcl l ≠ [], l ≠ [] := fun hc e => hc (by rw [e]; rfl)
    refine ⟨l, rfl, ⟨fun hc => ⟨b, off, by rw [hsp (hpos hc)], hAt (hpos hc)⟩, fun hne g o e h => h ?_, fun i hi => (hls i hi).2.1⟩, ?_, fun i hi => (hls i hi).2.2⟩
    · injection e with e; injection e with e _
      rw [← e]; exact (hAt hne).lt (tcl_nil hne)
    · have := bulk_len ((List.range l.length).map D)
      rw [List.length_map, List.length_range] at this
      rw [hx]
      simp only [Rows.uptoBulk]
      omega
/-- What is to be done. -/
theorem op_of (h : DataW.trod enc Try.prog W 0 (fun _ => true) true fuel 45 cs = some x) (hb : Rows.uptoBulk x.1 ≤ 1048576) : ∃ p : Opv, cs = p.cel ∧ p.ok (fun i => i < W.heap.size) W ∧ 9 ≤ Rows.uptoBulk x.1 := by
  obtain ⟨xs, n', _, hx, hcl, hxl, hf⟩ := DataW.trod_struct Try.underlying45 h
  rw [c_op] at hcl
  have hxs : xs.length = 8 := hxl
  obtain ⟨c0, c1, c2, c3, c4, c5, c6, c7, c8, c9, c10, c11, rfl⟩ := list12 cs hcl
  obtain ⟨y0, y1, y2, y3, y4, y5, y6, y7, rfl⟩ := list8 xs hxs
  have f0 : DataW.trod enc Try.prog W 0 (fun _ => true) true n' 3 [c0] = some y0 := by have := hf 0 _ rfl; simpa [c_int] using this
  have f1 : DataW.trod enc Try.prog W 0 (fun _ => true) true n' 3 [c1] = some y1 := by have := hf 1 _ rfl; simpa [c_int] using this
  have f2 : DataW.trod enc Try.prog W 0 (fun _ => true) true n' 3 [c2] = some y2 := by have := hf 2 _ rfl; simpa [c_int] using this
  have f3 : DataW.trod enc Try.prog W 0 (fun _ => true) true n' 9 [c3] = some y3 := by have := hf 3 _ rfl; simpa [c_int, c_str] using this
  have f4 : DataW.trod enc Try.prog W 0 (fun _ => true) true n' 34 [c4] = some y4 := by have := hf 4 _ rfl; simpa [c_int, c_str, c_cols] using this
  have f5 : DataW.trod enc Try.prog W 0 (fun _ => true) true n' 36 [c5, c6, c7, c8, c9] = some y5 := by have := hf 5 _ rfl; simpa [c_int, c_str, c_cols, c_tbl] using this
  have f6 : DataW.trod enc Try.prog W 0 (fun _ => true) true n' 37 [c10] = some y6 := by have := hf 6 _ rfl; simpa [c_int, c_str, c_cols, c_tbl, c_tbls] using this
  have f7 : DataW.trod enc Try.prog W 0 (fun _ => true) true n' 39 [c11] = some y7 := by have := hf 7 _ rfl; simpa [c_int, c_str, c_cols, c_tbl, c_tbls, c_row] using this
  obtain ⟨kd, e0, _, w0⟩ := DataW.trod_int Try.underlying3 f0
  obtain ⟨on, e1, _, w1⟩ := DataW.trod_int Try.underlying3 f1
  obtain ⟨N, e2, _, w2⟩ := DataW.trod_int Try.underlying3 f2
  obtain ⟨nm, e3, _⟩ := DataW.trod_string Try.underlying9 f3
  obtain ⟨ca, cl, cc, rfl⟩ := slice_of Try.underlying34 f4
  obtain ⟨cols, rfl, hC, hCn, _, _, hCd⟩ := cols_of f4
  obtain ⟨T, ta, tc, eT, hT, hTn, hTc, _, _, hTd⟩ := tbl_of f5
  obtain ⟨lo, ll, lc, rfl⟩ := slice_of Try.underlying37 f6
  obtain ⟨l, rfl, hL, hLb, hLc⟩ := tbls_of f6
  obtain ⟨ro, rl, rc, rfl⟩ := slice_of Try.underlying39 f7
  obtain ⟨vs, rfl, hR, hRn, _, _, hRd⟩ := row_of f7
  simp at e0 e1 e2 e3
  simp only [List.cons.injEq, and_true] at eT
  obtain ⟨t0, t1, t2, t3, t4⟩ := eT
  subst e0 e1 e2 e3 t0 t1 t2 t3 t4
  have hx1 : x.1 = .agg [y0.1, y1.1, y2.1, y3.1, y4.1, y5.1, y6.1, y7.1] := by
    have := congrArg Prod.fst hx
    simpa using this
  rw [hx1] at hb
  have p4 : Rows.uptoBulk y4.1 ≤ _ := bulk_part (l := [y0.1, y1.1, y2.1, y3.1, y4.1, y5.1, y6.1, y7.1]) (by simp)
  have p5 : Rows.uptoBulk y5.1 ≤ _ := bulk_part (l := [y0.1, y1.1, y2.1, y3.1, y4.1, y5.1, y6.1, y7.1]) (by simp)
  have p6 : Rows.uptoBulk y6.1 ≤ _ := bulk_part (l := [y0.1, y1.1, y2.1, y3.1, y4.1, y5.1, y6.1, y7.1]) (by simp)
  have p7 : Rows.uptoBulk y7.1 ≤ _ := bulk_part (l := [y0.1, y1.1, y2.1, y3.1, y4.1, y5.1, y6.1, y7.1]) (by simp)
  have hcl4 : cols.length ≤ 1048576 := by
    by_cases hne : cols = []
    · rw [hne]; simp
    · obtain ⟨es, sp, h1, h2⟩ := hCd hne
      have := bulk_slice es sp
      have h3 : Rows.uptoBulk (.slice es sp) ≤ 1048576 := by rw [← h1]; omega
      omega
  have hcl7 : vs.length ≤ 1048576 := by
    by_cases hne : vs = []
    · rw [hne]; simp
    · obtain ⟨es, sp, h1, h2⟩ := hRd hne
      have := bulk_slice es sp
      have h3 : Rows.uptoBulk (.slice es sp) ≤ 1048576 := by rw [← h1]; omega
      omega
  have hcl5 : T.cols.length ≤ 1048576 := by
    by_cases hne : T.cols = []
    · rw [hne]; simp
    · obtain ⟨d1, d2, d3, es, sp, d4, h1, h2⟩ := hTd hne
      have h3 := bulk_slice es sp
      have h4 : Rows.uptoBulk (.slice es sp) ≤ Rows.uptoBulk (.agg [d1, d2, d3, .slice es sp, d4]) := bulk_part (by simp)
      have h5 : Rows.uptoBulk (.agg [d1, d2, d3, .slice es sp, d4]) ≤ 1048576 := by rw [← h1]; omega
      omega
  have b1 := wf_i64 w1
  have b2 := wf_i64 w2
  refine ⟨⟨kd, on, N, nm, ca, cc, cols, T, ta, tc, lo, lc, l, ro, rc, vs⟩, rfl, ⟨b2.1, b2.2, b1.1, b1.2, hC.sz, hT.sz, hR.sz, hL, hCn, hTn, fun e => (hRn e).2, hTc, hcl4, hcl5, hcl7, by show l.length ≤ _; omega, fun i hi => by have := hLc i hi; show l[i].1.cols.length ≤ _; omega⟩, ?_⟩
  rw [hx1]
  have := bulk_len [y0.1, y1.1, y2.1, y3.1, y4.1, y5.1, y6.1, y7.1]
  simp only [List.length_cons, List.length_nil] at this
  simp only [Rows.uptoBulk]
  omega
theorem ops_of {ao : Option Addr} {len cap : Nat} (h : DataW.trod enc Try.prog W 0 (fun _ => true) true fuel 22 [.slice ao len cap] = some x) (hb : Rows.uptoBulk x.1 ≤ 1048576) : ∃ os : Nat → Opv, (∀ i, i < len → ∃ b off, ao = some ⟨b, off, none⟩ ∧ OpAt W b (off + i * 12) (os i) ∧ (os i).ok (fun i => i < W.heap.size) W) ∧ len ≤ 116508 := by
  rcases open_slice Try.underlying22 h with ⟨h1, rfl⟩ | ⟨a, len', cap', m, n, D, Pl, h1, _, hl, hmx, hm, hx, hel⟩
  · simp at h1
    obtain ⟨rfl, rfl, rfl⟩ := h1
    exact ⟨fun _ => fop1, fun i hi => by omega, by omega⟩
  · simp only [List.cons.injEq, Value.slice.injEq, and_true] at h1
    obtain ⟨rfl, rfl, rfl⟩ := h1
    subst hx
    have hm' : m = cap := by simpa using hm
    rw [c_op] at hel
    simp only [Rows.uptoBulk] at hb
    have hD : ∀ i, i < len → Rows.uptoBulk (D i) ≤ 1048576 := fun i hi => by
      have h1 : Rows.uptoBulk (D i) ≤ Rows.uptoBulkAll ((List.range len).map D) := bulk_mem (List.mem_map.2 ⟨i, List.mem_range.2 hi, rfl⟩)
      omega
    have key : ∀ i, i < len → ∃ p : Opv, (∀ j u, p.cel[j]? = some u → W.cell? ((a.add (i * 12)).add j) = some u) ∧ p.ok (fun i => i < W.heap.size) W ∧ 9 ≤ Rows.uptoBulk (D i) := by
      intro i hi
      obtain ⟨cs', hc, ht⟩ := hel i (by omega)
      obtain ⟨_, hcl, hcc⟩ := World.cells?_some hc
      obtain ⟨p, rfl, hok, h9⟩ := op_of ht (hD i hi)
      refine ⟨p, fun j u hu => ?_, hok, h9⟩
      have hj : j < p.cel.length := (List.getElem?_eq_some_iff.1 hu).1
      have g0 := hcc j hj
      rw [g0]; exact hu
    obtain ⟨b, off, spot⟩ := a
    have key2 : ∀ i, ∃ p : Opv, i < len → (OpAt W b (off + i * 12) p ∧ p.ok (fun i => i < W.heap.size) W) ∧ spot = none := fun i => by
      by_cases hi : i < len
      · obtain ⟨p, h1, h2, _⟩ := key i hi
        have hspot : spot = none := by
          obtain ⟨p', h1', _⟩ := key 0 (by omega)
          simpa [Addr.add] using World.cell?_spot (h1' 0 _ rfl)
        subst hspot
        refine ⟨p, fun _ => ⟨⟨fun j u hu => ?_, h2⟩, rfl⟩⟩
        have h3 := h1 j u hu
        simp only [add_plain] at h3
        exact h3
      · exact ⟨fop1, fun h => absurd h hi⟩
    obtain ⟨os, hos⟩ := Classical.skolem.1 key2
    refine ⟨os, fun i hi => ?_, ?_⟩
    · obtain ⟨⟨h1, h2⟩, rfl⟩ := hos i hi
      exact ⟨b, off, rfl, h1, h2⟩
    · have := bulk_many 9 ((List.range len).map D) (fun d hd => by
        obtain ⟨i, hi, rfl⟩ := List.mem_map.1 hd
        obtain ⟨_, _, _, h9⟩ := key i (List.mem_range.1 hi)
        exact h9)
      rw [List.length_map, List.length_range] at this
      omega
end
end Go.Proofs.Ytolamjipigfocaa
