import Derived.Test.YtmnhkgibplnnnaaRows
import Derived.Test.YtmnhkgibplnnnaaUCp
import Derived.ProofKit
import Derived.SizedLaws
import Derived.OpenShut
import Derived.Deep.Slices
/- The argument of MergeLists: lists of changes that came in. -/
namespace Go.Proofs.Ytmnhkgibplnnnaa
open Go.ChangeShapes Go.WideShapes Go.ChangeAt Go.RowKit Go.Deep Go
set_option maxRecDepth 100000

theorem ca_int : Try.prog.cellsOf 3 = 1 := by kernel_rfl
theorem ca_str : Try.prog.cellsOf 9 = 1 := by kernel_rfl
theorem ca_val : Try.prog.cellsOf 76 = 3 := by kernel_rfl
theorem ca_row : Try.prog.cellsOf 25 = 1 := by kernel_rfl
theorem ca_chg : Try.prog.cellsOf 27 = 6 := by kernel_rfl
theorem ca_lst : Try.prog.cellsOf 28 = 1 := by kernel_rfl
theorem la3 {α : Type} (l : List α) (h : l.length = 3) : ∃ c0 c1 c2, l = [c0, c1, c2] := by
  rcases l with _ | ⟨c0, _ | ⟨c1, _ | ⟨c2, _ | ⟨c3, l⟩⟩⟩⟩ <;> simp at h
  exact ⟨c0, c1, c2, rfl⟩
theorem la6 {α : Type} (l : List α) (h : l.length = 6) : ∃ c0 c1 c2 c3 c4 c5, l = [c0, c1, c2, c3, c4, c5] := by
  rcases l with _ | ⟨c0, _ | ⟨c1, _ | ⟨c2, _ | ⟨c3, _ | ⟨c4, _ | ⟨c5, _ | ⟨c6, l⟩⟩⟩⟩⟩⟩⟩ <;> simp at h
  exact ⟨c0, c1, c2, c3, c4, c5, rfl⟩
theorem la1 {α : Type} (l : List α) (h : l.length = 1) : ∃ c0, l = [c0] := by
  rcases l with _ | ⟨c0, _ | ⟨c1, l⟩⟩ <;> simp at h
  exact ⟨c0, rfl⟩
theorem bk_pos {H : Type} (d : DataW H) : 1 ≤ Rows.uptoBulk d := by
  cases d with
  | lit l => cases l <;> simp [Rows.uptoBulk]
  | _ => simp [Rows.uptoBulk]
theorem bk_len {H : Type} (l : List (DataW H)) : l.length ≤ Rows.uptoBulkAll l := by
  induction l with
  | nil => simp [Rows.uptoBulkAll]
  | cons x l ih => have := bk_pos x; simp only [List.length_cons, Rows.uptoBulkAll]; omega
theorem bk_mem {H : Type} {x : DataW H} {l : List (DataW H)} (h : x ∈ l) : Rows.uptoBulk x ≤ Rows.uptoBulkAll l := by
  induction l with
  | nil => cases h
  | cons y l ih =>
    simp only [Rows.uptoBulkAll]
    rcases List.mem_cons.1 h with rfl | h
    · omega
    · have := ih h; omega
def ivl : Option Value → Int
  | some (.int .i64 k) => k
  | _ => 0
def svl : Option Value → ByteArray
  | some (.string s) => s
  | _ => ⟨#[]⟩
/-- The values of a row, as they are read. -/
def rdv (W : World) (ao : Option Addr) (n : Nat) : List Vl :=
  match ao with
  | none => []
  | some a => (List.range n).map fun i => ⟨ivl (W.cell? (a.add (i * 3))), ivl (W.cell? ((a.add (i * 3)).add 1)), svl (W.cell? ((a.add (i * 3)).add 2))⟩
def DW (W : World) (c : Rc) : List Value × List Value := (vcl (rdv W c.oa c.ol), vcl (rdv W c.na c.nl))
theorem vcl_len (l : List Vl) : (vcl l).length = l.length * 3 := by
  induction l with
  | nil => rfl
  | cons a l ih => show (vc a ++ vcl l).length = _; rw [List.length_append, ih, List.length_cons]; show 3 + _ = _; omega
theorem vcl_one (l : List Vl) : ∀ u ∈ vcl l, u.oneCell' = true := fun u hu => by
  obtain ⟨v, _, hv⟩ := List.mem_flatMap.1 hu
  simp only [vc, List.mem_cons, List.not_mem_nil, or_false] at hv
  rcases hv with rfl | rfl | rfl <;> rfl
section
variable {H : Type} {enc : TypeId × Value → H} {W : World} {fuel : Nat} {x : DataW H × List MemPlace} {cs : List Value}
theorem val_in (h : DataW.trod enc Try.prog W 0 (fun _ => true) true fuel 76 cs = some x) : ∃ v : Vl, cs = vc v := by
  obtain ⟨xs, n', _, hx, hcl, hxl, hf⟩ := DataW.trod_struct Try.underlying76 h
  rw [ca_val] at hcl
  have hxs : xs.length = 3 := hxl
  obtain ⟨c0, c1, c2, rfl⟩ := la3 cs hcl
  obtain ⟨y0, y1, y2, rfl⟩ := la3 xs hxs
  have f0 : DataW.trod enc Try.prog W 0 (fun _ => true) true n' 3 [c0] = some y0 := by have := hf 0 _ rfl; simpa [ca_int] using this
  have f1 : DataW.trod enc Try.prog W 0 (fun _ => true) true n' 3 [c1] = some y1 := by have := hf 1 _ rfl; simpa [ca_int] using this
  have f2 : DataW.trod enc Try.prog W 0 (fun _ => true) true n' 9 [c2] = some y2 := by have := hf 2 _ rfl; simpa [ca_str] using this
  obtain ⟨k, e0, _, _⟩ := DataW.trod_int Try.underlying3 f0
  obtain ⟨n, e1, _, _⟩ := DataW.trod_int Try.underlying3 f1
  obtain ⟨s, e2, _, _⟩ := DataW.trod_string Try.underlying9 f2
  simp at e0 e1 e2
  subst e0 e1 e2
  exact ⟨⟨k, n, s⟩, rfl⟩
/-- What is known of a row that came in. -/
structure RowIn (W : World) (ao : Option Addr) (n c : Nat) : Prop where
  rd : RdR W ao n c (vcl (rdv W ao n))
  len : (rdv W ao n).length = n
  lt : ∀ a, ao = some a → 0 < n → a.block < W.heap.size
  le : n ≤ c
  cap : c ≤ maxLen
  bd : n ≤ 1048576
theorem row_in {ao : Option Addr} {len cap : Nat} (h : DataW.trod enc Try.prog W 0 (fun _ => true) true fuel 25 [.slice ao len cap] = some x) (hb : Rows.uptoBulk x.1 ≤ 1048576) : RowIn W ao len cap := by
  rcases open_slice Try.underlying25 h with ⟨h1, _⟩ | ⟨a, len', cap', m, n, D, Pl, h1, _, hl, hmx, hm, hx, hee⟩
  · simp at h1
    obtain ⟨rfl, rfl, rfl⟩ := h1
    exact ⟨⟨rfl, fun u hu => (by cases hu), by omega, .inl ⟨rfl, rfl, rfl⟩⟩, rfl, fun _ h => (by cases h), Nat.le_refl _, Nat.zero_le _, Nat.zero_le _⟩
  · simp only [List.cons.injEq, Value.slice.injEq, and_true] at h1
    obtain ⟨rfl, rfl, rfl⟩ := h1
    have hm' : m = cap := by simpa using hm
    rw [ca_val] at hee
    rw [hx] at hb
    simp only [Rows.uptoBulk] at hb
    have hbl := bk_len ((List.range len).map D)
    rw [List.length_map, List.length_range] at hbl
    have hlen : (rdv W (some a) len).length = len := by simp [rdv]
    have key : ∀ i v, (rdv W (some a) len)[i]? = some v → W.cell? (a.add (i * 3)) = some (.int .i64 v.k) ∧ W.cell? ((a.add (i * 3)).add 1) = some (.int .i64 v.n) ∧ W.cell? ((a.add (i * 3)).add 2) = some (.string v.s) := by
      intro i v hv
      have hi : i < len := by have := (List.getElem?_eq_some_iff.1 hv).1; omega
      obtain ⟨cs', hc', ht⟩ := hee i (by omega)
      obtain ⟨_, hcl, hcc⟩ := World.cells?_some hc'
      obtain ⟨u, rfl⟩ := val_in ht
      have g0 : W.cell? (a.add (i * 3)) = some (.int .i64 u.k) := by have := hcc 0 (by simp); simpa [vc, Addr.add] using this
      have g1 : W.cell? ((a.add (i * 3)).add 1) = some (.int .i64 u.n) := by have := hcc 1 (by simp); simpa [vc] using this
      have g2 : W.cell? ((a.add (i * 3)).add 2) = some (.string u.s) := by have := hcc 2 (by simp); simpa [vc] using this
      have : v = u := by
        simp only [rdv, List.getElem?_map, List.getElem?_range hi, Option.map_some, Option.some.injEq] at hv
        rw [← hv, g0, g1, g2]; rfl
      subst this
      exact ⟨g0, g1, g2⟩
    have hlt : 0 < len → a.block < W.heap.size := fun h0 => by
      have := cell_lt (key 0 _ (List.getElem?_eq_getElem (by omega))).1
      rwa [add_block] at this
    refine ⟨⟨by rw [vcl_len, hlen], vcl_one _, by omega, .inr ⟨a, rfl, fun j u hu => ?_⟩⟩, hlen, fun a' e h0 => by cases e; exact hlt h0, hl, hmx, by omega⟩
    have hj : j < len * 3 := by have := (List.getElem?_eq_some_iff.1 hu).1; rw [vcl_len, hlen] at this; exact this
    obtain ⟨q, r, rfl, hr⟩ : ∃ q r, j = q * 3 + r ∧ r < 3 := ⟨j / 3, j % 3, by omega, by omega⟩
    have hq : q < (rdv W (some a) len).length := by omega
    obtain ⟨g0, g1, g2⟩ := key q _ (List.getElem?_eq_getElem hq)
    have hv := vcl_get _ q _ (List.getElem?_eq_getElem hq) r
    obtain ⟨b, off, spot⟩ := a
    have hspot : spot = none := by simpa [Addr.add] using World.cell?_spot (key 0 _ (List.getElem?_eq_getElem (by omega))).1
    subst hspot
    simp only [add_plain] at g0 g1 g2 ⊢
    rcases (by omega : r = 0 ∨ r = 1 ∨ r = 2) with rfl | rfl | rfl
    · rw [hv _ rfl] at hu; rw [← hu]; exact g0
    · rw [hv _ rfl] at hu; rw [← hu, ← Nat.add_assoc]; exact g1
    · rw [hv _ rfl] at hu; rw [← hu, ← Nat.add_assoc]; exact g2
/-- A change that came in. -/
structure ChIn (W : World) (c : Rc) : Prop where
  o : RowIn W c.oa c.ol c.oc
  n : RowIn W c.na c.nl c.nc
theorem sl_in {t e : TypeId} {c : Value} (hu : Try.prog.underlying t = some (.slice e)) (h : DataW.trod enc Try.prog W 0 (fun _ => true) true fuel t [c] = some x) : ∃ ao len cap, c = .slice ao len cap := by
  rcases open_slice hu h with ⟨h1, _⟩ | ⟨a, len', cap', m, n, D, Pl, h1, _⟩
  · simp at h1; exact ⟨_, _, _, h1⟩
  · simp at h1; exact ⟨_, _, _, h1⟩
theorem ch_in (h : DataW.trod enc Try.prog W 0 (fun _ => true) true fuel 27 cs = some x) (hb : Rows.uptoBulk x.1 ≤ 1048576) : ∃ c : Rc, cs = kc6 c ∧ ChIn W c := by
  obtain ⟨xs, n', _, hx, hcl, hxl, hf⟩ := DataW.trod_struct Try.underlying27 h
  rw [ca_chg] at hcl
  have hxs : xs.length = 6 := hxl
  obtain ⟨c0, c1, c2, c3, c4, c5, rfl⟩ := la6 cs hcl
  obtain ⟨y0, y1, y2, y3, y4, y5, rfl⟩ := la6 xs hxs
  have f0 : DataW.trod enc Try.prog W 0 (fun _ => true) true n' 3 [c0] = some y0 := by have := hf 0 _ rfl; simpa [ca_int, ca_row] using this
  have f1 : DataW.trod enc Try.prog W 0 (fun _ => true) true n' 3 [c1] = some y1 := by have := hf 1 _ rfl; simpa [ca_int, ca_row] using this
  have f2 : DataW.trod enc Try.prog W 0 (fun _ => true) true n' 3 [c2] = some y2 := by have := hf 2 _ rfl; simpa [ca_int, ca_row] using this
  have f3 : DataW.trod enc Try.prog W 0 (fun _ => true) true n' 3 [c3] = some y3 := by have := hf 3 _ rfl; simpa [ca_int, ca_row] using this
  have f4 : DataW.trod enc Try.prog W 0 (fun _ => true) true n' 25 [c4] = some y4 := by have := hf 4 _ rfl; simpa [ca_int, ca_row] using this
  have f5 : DataW.trod enc Try.prog W 0 (fun _ => true) true n' 25 [c5] = some y5 := by have := hf 5 _ rfl; simpa [ca_int, ca_row] using this
  have hx1 : x.1 = .agg [y0.1, y1.1, y2.1, y3.1, y4.1, y5.1] := by rw [hx]; rfl
  rw [hx1] at hb
  simp only [Rows.uptoBulk, Rows.uptoBulkAll] at hb
  obtain ⟨k0, e0, _, _⟩ := DataW.trod_int Try.underlying3 f0
  obtain ⟨k1, e1, _, _⟩ := DataW.trod_int Try.underlying3 f1
  obtain ⟨k2, e2, _, _⟩ := DataW.trod_int Try.underlying3 f2
  obtain ⟨k3, e3, _, _⟩ := DataW.trod_int Try.underlying3 f3
  obtain ⟨a4, l4, p4, rfl⟩ := sl_in Try.underlying25 f4
  obtain ⟨a5, l5, p5, rfl⟩ := sl_in Try.underlying25 f5
  simp at e0 e1 e2 e3
  subst e0 e1 e2 e3
  exact ⟨⟨k0, k1, k2, k3, a4, l4, p4, a5, l5, p5⟩, rfl, row_in f4 (by omega), row_in f5 (by omega)⟩
theorem kcl_get (u : List Rc) : ∀ i c, u[i]? = some c → ∀ j v, (kc6 c)[j]? = some v → (kcl u)[i * 6 + j]? = some v := by
  induction u with
  | nil => intro i c h; simp at h
  | cons a u ih =>
    intro i c h j v hv
    have hj : j < 6 := (List.getElem?_eq_some_iff.1 hv).1
    cases i with
    | zero =>
      obtain rfl : a = c := by simpa using h
      show (kc6 a ++ kcl u)[0 * 6 + j]? = _
      rw [Nat.zero_mul, Nat.zero_add, List.getElem?_append_left (by show j < 6; exact hj)]; exact hv
    | succ i =>
      show (kc6 a ++ kcl u)[(i + 1) * 6 + j]? = _
      rw [List.getElem?_append_right (by show 6 ≤ _; omega)]
      rw [show (i + 1) * 6 + j - (kc6 a).length = i * 6 + j by show (i + 1) * 6 + j - 6 = _; omega]
      exact ih i c (by simpa using h) j v hv
/-- A list of changes that came in. -/
theorem list_in {ao : Option Addr} {len cap : Nat} (h : DataW.trod enc Try.prog W 0 (fun _ => true) true fuel 28 [.slice ao len cap] = some x) (hb : Rows.uptoBulk x.1 ≤ 1048576) :
    ∃ u : List Rc, len = u.length ∧ RL (DW W) W.heap.size W ao cap u ∧ (∀ c ∈ u, ChIn W c) ∧ u.length + 1 ≤ Rows.uptoBulk x.1 := by
  rcases open_slice Try.underlying28 h with ⟨h1, hx⟩ | ⟨a, len', cap', m, n, D, Pl, h1, _, hl, hmx, hm, hx, hee⟩
  · simp at h1
    obtain ⟨rfl, rfl, rfl⟩ := h1
    exact ⟨[], rfl, ⟨Nat.le_refl _, by omega, fun h => absurd rfl h, fun c hc => (by cases hc)⟩, fun c hc => (by cases hc), bk_pos _⟩
  · simp only [List.cons.injEq, Value.slice.injEq, and_true] at h1
    obtain ⟨rfl, rfl, rfl⟩ := h1
    have hm' : m = cap := by simpa using hm
    rw [ca_chg] at hee
    have hx1 : x.1 = .slice ((List.range len).map D) ((List.range (m - len)).map fun j => D (len + j)) := by rw [hx]
    rw [hx1] at hb ⊢
    simp only [Rows.uptoBulk] at hb ⊢
    have hbl := bk_len ((List.range len).map D)
    rw [List.length_map, List.length_range] at hbl
    have key : ∀ i, i < len → ∃ c : Rc, (∀ j v, (kc6 c)[j]? = some v → W.cell? ((a.add (i * 6)).add j) = some v) ∧ ChIn W c := by
      intro i hi
      obtain ⟨cs', hc', ht⟩ := hee i (by omega)
      obtain ⟨_, hcl, hcc⟩ := World.cells?_some hc'
      have hbi : Rows.uptoBulk (D i) ≤ Rows.uptoBulkAll ((List.range len).map D) := bk_mem (List.mem_map.2 ⟨i, List.mem_range.2 hi, rfl⟩)
      obtain ⟨c, rfl, hc⟩ := ch_in ht (by show Rows.uptoBulk (D i) ≤ _; omega)
      refine ⟨c, fun j v hv => ?_, hc⟩
      exact (hcc j (List.getElem?_eq_some_iff.1 hv).1).trans hv
    have pick : ∃ u : List Rc, u.length = len ∧ ∀ i (hi : i < u.length), (∀ j v, (kc6 u[i])[j]? = some v → W.cell? ((a.add (i * 6)).add j) = some v) ∧ ChIn W u[i] := by
      classical
      refine ⟨List.ofFn (fun i : Fin len => (key i.1 i.2).choose), by simp, fun i hi => ?_⟩
      have hi' : i < len := by simpa using hi
      rw [List.getElem_ofFn]
      exact (key i hi').choose_spec
    obtain ⟨u, rfl, hu⟩ := pick
    have hci : ∀ c ∈ u, ChIn W c := fun c hc => by
      obtain ⟨i, hi, rfl⟩ := List.getElem_of_mem hc
      exact (hu i hi).2
    refine ⟨u, rfl, ⟨hl, by unfold maxLen at hmx; omega, fun hne => ?_, fun c hc => ⟨(hci c hc).o.rd, (hci c hc).n.rd, (hci c hc).o.lt, (hci c hc).n.lt⟩⟩, hci, by omega⟩
    have h0 : 0 < u.length := List.length_pos_iff.2 hne
    obtain ⟨b, off, spot⟩ := a
    have h00 := (hu 0 h0).1 0 _ rfl
    have hspot : spot = none := by simpa [Addr.add] using World.cell?_spot h00
    subst hspot
    have hbk := cell_lt h00
    simp only [add_plain] at hu hbk
    refine ⟨b, off, hbk, rfl, fun j v hv => ?_⟩
    have hj : j < u.length * 6 := by rw [← kcl_len]; exact (List.getElem?_eq_some_iff.1 hv).1
    obtain ⟨q, r, rfl, hr⟩ : ∃ q r, j = q * 6 + r ∧ r < 6 := ⟨j / 6, j % 6, by omega, by omega⟩
    have hq : q < u.length := by omega
    have hkl : r < (kc6 u[q]).length := hr
    have e1 := kcl_get u q _ (List.getElem?_eq_getElem hq) r _ (List.getElem?_eq_getElem hkl)
    rw [e1] at hv
    rw [← hv, ← Nat.add_assoc]
    exact (hu q hq).1 r _ (List.getElem?_eq_getElem hkl)
/-- How many changes there are, and one for each list. -/
def lsz : List (List Rc) → Nat
  | [] => 0
  | u :: ls => u.length + 1 + lsz ls
theorem lsz_le {H : Type} (D : Nat → DataW H) : ∀ (ls : List (List Rc)) (k : Nat), (∀ i (hi : i < ls.length), ls[i].length + 1 ≤ Rows.uptoBulk (D (k + i))) → lsz ls ≤ Rows.uptoBulkAll ((List.range' k ls.length).map D)
  | [], _, _ => Nat.zero_le _
  | u :: ls, k, h => by
    have h0 := h 0 (by simp)
    have ih := lsz_le D ls (k + 1) (fun i hi => by
      have := h (i + 1) (by simp; omega)
      rw [show k + 1 + i = k + (i + 1) by omega]; simpa using this)
    simp only [List.length_cons, List.range'_succ, List.map_cons, Rows.uptoBulkAll, lsz]
    simp only [List.getElem_cons_zero, Nat.add_zero] at h0
    omega
/-- The lists that came in. -/
theorem lists_in {ao : Option Addr} {len cap : Nat} (h : DataW.trod enc Try.prog W 0 (fun _ => true) true fuel 23 [.slice ao len cap] = some x) (hb : Rows.uptoBulk x.1 ≤ 1048576) :
    ∃ (hd : List Value) (ls : List (List Rc)), len = ls.length ∧ LLs (DW W) W.heap.size W ao hd ls ∧ (∀ u ∈ ls, ∀ c ∈ u, ChIn W c) ∧ lsz ls ≤ 1048576 ∧ len ≤ cap ∧ cap ≤ maxLen := by
  rcases open_slice Try.underlying23 h with ⟨h1, hx⟩ | ⟨a, len', cap', m, n, D, Pl, h1, _, hl, hmx, hm, hx, hee⟩
  · simp at h1
    obtain ⟨rfl, rfl, rfl⟩ := h1
    exact ⟨[], [], rfl, ⟨rfl, fun h => absurd rfl h, fun j l h => by simp at h⟩, fun u hu => (by cases hu), Nat.zero_le _, Nat.le_refl _, Nat.zero_le _⟩
  · simp only [List.cons.injEq, Value.slice.injEq, and_true] at h1
    obtain ⟨rfl, rfl, rfl⟩ := h1
    have hm' : m = cap := by simpa using hm
    rw [ca_lst] at hee
    have hx1 : x.1 = .slice ((List.range len).map D) ((List.range (m - len)).map fun j => D (len + j)) := by rw [hx]
    rw [hx1] at hb
    simp only [Rows.uptoBulk] at hb
    have key : ∀ i, i < len → ∃ p : Value × List Rc, W.cell? (a.add (i * 1)) = some p.1 ∧ (∃ ao cp, p.1 = .slice ao p.2.length cp ∧ RL (DW W) W.heap.size W ao cp p.2) ∧ (∀ c ∈ p.2, ChIn W c) ∧ p.2.length + 1 ≤ Rows.uptoBulk (D i) := by
      intro i hi
      obtain ⟨cs', hc', ht⟩ := hee i (by omega)
      obtain ⟨_, hcl, hcc⟩ := World.cells?_some hc'
      obtain ⟨c, rfl⟩ := la1 cs' hcl
      have hbi : Rows.uptoBulk (D i) ≤ Rows.uptoBulkAll ((List.range len).map D) := bk_mem (List.mem_map.2 ⟨i, List.mem_range.2 hi, rfl⟩)
      obtain ⟨ao, l, cp, rfl⟩ := sl_in Try.underlying28 ht
      obtain ⟨u, rfl, hr, hci, hz⟩ := list_in ht (by show Rows.uptoBulk (D i) ≤ _; omega)
      exact ⟨(.slice ao u.length cp, u), by have := hcc 0 (by simp); simpa [Addr.add] using this, ⟨ao, cp, rfl, hr⟩, hci, hz⟩
    have pick : ∃ ps : List (Value × List Rc), ps.length = len ∧ ∀ i (hi : i < ps.length), W.cell? (a.add (i * 1)) = some ps[i].1 ∧ (∃ ao cp, ps[i].1 = .slice ao ps[i].2.length cp ∧ RL (DW W) W.heap.size W ao cp ps[i].2) ∧ (∀ c ∈ ps[i].2, ChIn W c) ∧ ps[i].2.length + 1 ≤ Rows.uptoBulk (D i) := by
      classical
      refine ⟨List.ofFn (fun i : Fin len => (key i.1 i.2).choose), by simp, fun i hi => ?_⟩
      have hi' : i < len := by simpa using hi
      rw [List.getElem_ofFn]
      exact (key i hi').choose_spec
    obtain ⟨ps, rfl, hps⟩ := pick
    refine ⟨ps.map (·.1), ps.map (·.2), by simp, ⟨by simp, fun hne => ?_, fun j l hj => ?_⟩, fun u hu c hc => ?_, ?_, hl, hmx⟩
    · have h0 : 0 < ps.length := List.length_pos_iff.2 (fun e => hne (by rw [e]; rfl))
      obtain ⟨b, off, spot⟩ := a
      have h00 := (hps 0 h0).1
      have hspot : spot = none := by simpa [Addr.add] using World.cell?_spot h00
      subst hspot
      have hbk := cell_lt h00
      simp only [add_plain, Nat.mul_one] at hps hbk
      refine ⟨b, off, rfl, hbk, fun j u hu => ?_⟩
      obtain ⟨hj, e⟩ := List.getElem?_eq_some_iff.1 hu
      rw [List.length_map] at hj
      rw [List.getElem_map] at e
      rw [← e]; exact (hps j hj).1
    · obtain ⟨hj', e⟩ := List.getElem?_eq_some_iff.1 hj
      rw [List.length_map] at hj'
      rw [List.getElem_map] at e
      subst e
      obtain ⟨_, ⟨ao, cp, e, hr⟩, _⟩ := hps j hj'
      exact ⟨ao, cp, by rw [List.getElem?_map, List.getElem?_eq_getElem hj']; exact congrArg some e, hr⟩
    · obtain ⟨p, hp, rfl⟩ := List.mem_map.1 hu
      obtain ⟨i, hi, rfl⟩ := List.getElem_of_mem hp
      exact (hps i hi).2.2.1 c hc
    · have := lsz_le D (ps.map (·.2)) 0 (fun i hi => by
        rw [List.length_map] at hi
        rw [List.getElem_map, Nat.zero_add]; exact (hps i hi).2.2.2)
      rw [List.length_map, ← List.range_eq_range'] at this
      omega
end
end Go.Proofs.Ytmnhkgibplnnnaa
