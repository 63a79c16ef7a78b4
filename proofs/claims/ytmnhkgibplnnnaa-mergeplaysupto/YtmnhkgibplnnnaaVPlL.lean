import Derived.Test.YtmnhkgibplnnnaaVPl0
import Derived.Test.YtmnhkgibplnnnaaUMlL
/- MergePlays: the row, from the law. -/
namespace Go.Proofs.Ytmnhkgibplnnnaa
open Go.ChangeShapes Go.WideShapes Go.ChangeAt Go.RowKit Go.Deep Go
set_option maxRecDepth 100000

theorem ca_op : Try.prog.cellsOf 45 = 2 := by kernel_rfl
theorem la2 {α : Type} (l : List α) (h : l.length = 2) : ∃ c0 c1, l = [c0, c1] := by
  match l, h with
  | [a, b], _ => exact ⟨a, b, rfl⟩
section
variable {H : Type} {enc : TypeId × Value → H} {W : World} {fuel : Nat} {x : DataW H × List MemPlace} {cs : List Value}
theorem op_in (h : DataW.trod enc Try.prog W 0 (fun _ => true) true fuel 45 cs = some x) (hb : Rows.uptoBulk x.1 ≤ 1048576) : ∃ p : Opd, cs = opc p ∧ RL (DW W) W.heap.size W p.ua p.uc p.u ∧ (∀ c ∈ p.u, ChIn W c) ∧ p.u.length ≤ 1048576 := by
  obtain ⟨xs, n', _, hx, hcl, hxl, hf⟩ := DataW.trod_struct Try.underlying45 h
  rw [ca_op] at hcl
  have hxs : xs.length = 2 := hxl
  obtain ⟨c0, c1, rfl⟩ := la2 cs hcl
  obtain ⟨y0, y1, rfl⟩ := la2 xs hxs
  have f0 : DataW.trod enc Try.prog W 0 (fun _ => true) true n' 3 [c0] = some y0 := by have := hf 0 _ rfl; simpa [ca_int, ca_lst] using this
  have f1 : DataW.trod enc Try.prog W 0 (fun _ => true) true n' 28 [c1] = some y1 := by have := hf 1 _ rfl; simpa [ca_int, ca_lst] using this
  have hx1 : x.1 = .agg [y0.1, y1.1] := by rw [hx]; rfl
  rw [hx1] at hb
  simp only [Rows.uptoBulk, Rows.uptoBulkAll] at hb
  obtain ⟨k0, e0, _, _⟩ := DataW.trod_int Try.underlying3 f0
  obtain ⟨a1, l1, p1, rfl⟩ := sl_in Try.underlying28 f1
  obtain ⟨u, rfl, hr, hci, hz⟩ := list_in f1 (by omega)
  simp at e0
  subst e0
  exact ⟨⟨k0, a1, p1, u⟩, rfl, hr, hci, by show u.length ≤ _; omega⟩
theorem ops_in {ao : Option Addr} {len cap : Nat} (h : DataW.trod enc Try.prog W 0 (fun _ => true) true fuel 33 [.slice ao len cap] = some x) (hb : Rows.uptoBulk x.1 ≤ 1048576) :
    ∃ ops : List Opd, len = ops.length ∧ (ops ≠ [] → ∃ g o, ao = some ⟨g, o, none⟩ ∧ g < W.heap.size ∧ ∀ j v, (opcl ops)[j]? = some v → W.cell? ⟨g, o + j, none⟩ = some v) ∧ (ops = [] → ao = none → cap = 0) ∧ (∀ p ∈ ops, RL (DW W) W.heap.size W p.ua p.uc p.u ∧ (∀ c ∈ p.u, ChIn W c) ∧ p.u.length ≤ 1048576) ∧ ops.length ≤ 1048576 ∧ len ≤ cap ∧ cap ≤ maxLen := by
  rcases open_slice Try.underlying33 h with ⟨h1, hx⟩ | ⟨a, len', cap', m, n, D, Pl, h1, _, hl, hmx, hm, hx, hee⟩
  · simp at h1
    obtain ⟨rfl, rfl, rfl⟩ := h1
    exact ⟨[], rfl, fun h => absurd rfl h, fun _ _ => rfl, fun p hp => (by cases hp), Nat.zero_le _, Nat.le_refl _, Nat.zero_le _⟩
  · simp only [List.cons.injEq, Value.slice.injEq, and_true] at h1
    obtain ⟨rfl, rfl, rfl⟩ := h1
    have hm' : m = cap := by simpa using hm
    rw [ca_op] at hee
    have hx1 : x.1 = .slice ((List.range len).map D) ((List.range (m - len)).map fun j => D (len + j)) := by rw [hx]
    rw [hx1] at hb
    simp only [Rows.uptoBulk] at hb
    have hbl := bk_len ((List.range len).map D)
    rw [List.length_map, List.length_range] at hbl
    have key : ∀ i, i < len → ∃ p : Opd, (∀ j v, (opc p)[j]? = some v → W.cell? ((a.add (i * 2)).add j) = some v) ∧ RL (DW W) W.heap.size W p.ua p.uc p.u ∧ (∀ c ∈ p.u, ChIn W c) ∧ p.u.length ≤ 1048576 := by
      intro i hi
      obtain ⟨cs', hc', ht⟩ := hee i (by omega)
      obtain ⟨_, hcl, hcc⟩ := World.cells?_some hc'
      have hbi : Rows.uptoBulk (D i) ≤ Rows.uptoBulkAll ((List.range len).map D) := bk_mem (List.mem_map.2 ⟨i, List.mem_range.2 hi, rfl⟩)
      obtain ⟨p, rfl, hp⟩ := op_in ht (by show Rows.uptoBulk (D i) ≤ _; omega)
      exact ⟨p, fun j v hv => (hcc j (List.getElem?_eq_some_iff.1 hv).1).trans hv, hp⟩
    have pick : ∃ u : List Opd, u.length = len ∧ ∀ i (hi : i < u.length), (∀ j v, (opc u[i])[j]? = some v → W.cell? ((a.add (i * 2)).add j) = some v) ∧ RL (DW W) W.heap.size W u[i].ua u[i].uc u[i].u ∧ (∀ c ∈ u[i].u, ChIn W c) ∧ u[i].u.length ≤ 1048576 := by
      classical
      refine ⟨List.ofFn (fun i : Fin len => (key i.1 i.2).choose), by simp, fun i hi => ?_⟩
      have hi' : i < len := by simpa using hi
      rw [List.getElem_ofFn]
      exact (key i hi').choose_spec
    obtain ⟨u, rfl, hu⟩ := pick
    refine ⟨u, rfl, fun hne => ?_, fun _ e => (by cases e), fun p hp => ?_, by omega, hl, hmx⟩
    · have h0 : 0 < u.length := List.length_pos_iff.2 hne
      obtain ⟨b, off, spot⟩ := a
      have h00 := (hu 0 h0).1 0 _ rfl
      have hspot : spot = none := by simpa [Addr.add] using World.cell?_spot h00
      subst hspot
      have hbk := cell_lt h00
      simp only [add_plain] at hu hbk
      refine ⟨b, off, rfl, hbk, fun j v hv => ?_⟩
      have hj : j < u.length * 2 := by rw [← opcl_len]; exact (List.getElem?_eq_some_iff.1 hv).1
      obtain ⟨q, r, rfl, hr⟩ : ∃ q r, j = q * 2 + r ∧ r < 2 := ⟨j / 2, j % 2, by omega, by omega⟩
      have hq : q < u.length := by omega
      have hkl : r < (opc u[q]).length := hr
      have e1 := opcl_get u q _ (List.getElem?_eq_getElem hq) r _ (List.getElem?_eq_getElem hkl)
      rw [e1] at hv
      rw [← hv, ← Nat.add_assoc]
      exact (hu q hq).1 r _ (List.getElem?_eq_getElem hkl)
    · obtain ⟨i, hi, rfl⟩ := List.getElem_of_mem hp
      exact (hu i hi).2
end
theorem pl_lifted (law : PLaw) (os : Os) (started : os.Started) (H : Type) (enc : TypeId × Value → H) (F : Stop.Interp) :
    ReturnsInHanded {} Try.checked os 4 .any ((Rows.OpenSpec.upto Rows.mergePlaysSpec).pre6 enc Try.prog Try.f4 Rows.mergePlaysUptoRow.domain false) (((Rows.OpenSpec.upto Rows.mergePlaysSpec).at F).post enc Try.prog Try.f4 false true false false) := by
  refine returnsInHanded_of_cond (C := Try.checked) (s := Rows.OpenSpec.upto Rows.mergePlaysSpec) (k := Rows.uptoSmall) rfl ml_own started (by kernel_rfl) Try.func4
    (OpenSpec.witness (enc := enc) (C := Try.checked) (s := Rows.OpenSpec.upto Rows.mergePlaysSpec) (k := Rows.uptoSmall) rfl false ⟨#[], #[.slice none 0 0], []⟩ 8 (by kernel_rfl) (by kernel_rfl) (by kernel_rfl)
      (x := ([.nil], [], [])) (by kernel_rfl) rfl (by kernel_rfl)) ?_
  intro W base args ds gs before hval0 hW _ hk _
  have hval : ∀ (j : Nat) t v, Try.f4.params[j]? = some t → args[j]? = some v → Value.okWide Try.prog W .any base t v := hval0
  have hW' := hW
  obtain ⟨p, q, hA0, hV, rfl, _, _⟩ := hW
  have hA : DataW.TrodAll enc Try.prog W 0 (fun _ => true) true Try.f4.params.toList args.toList ds p := hA0
  rw [Try.params4] at hA hval
  obtain ⟨v0, d0, rfl, rfl, h0⟩ := trodAll_one hA
  obtain ⟨rfl, rfl⟩ := trodVars_none hV
  obtain ⟨a0, len0, cap0, rfl⟩ := okWide_slice Try.underlying33 (hval 0 33 v0 rfl rfl)
  have h0k := h0
  obtain ⟨f0, hf0⟩ := h0
  clear hA0 hval0
  simp only [List.append_nil] at hW'
  have hlt0 : ∀ x ∈ p, x.block < W.heap.size := fun x hx => hW'.lt x (by simp [hx])
  have e1 : Rows.mergePlaysSpec.fn H ([d0] ++ []) = { results := [.lit (.bool true)], args := [d0] } := by simp [Rows.mergePlaysSpec]
  have hb : Rows.uptoBulkAll ([d0] ++ [] : List (DataW H)) ≤ 1048576 := of_decide_eq_true hk
  simp only [List.append_nil, Rows.uptoBulkAll] at hb
  obtain ⟨ops, rfl, hat, h00, hel, hz, hl, hc⟩ := ops_in hf0 (show Rows.uptoBulk d0 ≤ 1048576 by omega)
  refine (law W a0 cap0 ops hat h00 hel hz hl hc).mono fun e W' ⟨he, ht⟩ => ?_
  subst he
  have hB : Below W.heap.size W W' := ht.below (Nat.le_refl _) (fun _ _ h => h)
  refine ⟨_, rfl, _, _, _, [], p, [], hW', ?_, ?_, ?_, hB.frame _, fun h => by cases h⟩
  · show DataW.TrodAll _ _ _ _ _ _ _ _ (Rows.mergePlaysSpec.fn H ([d0] ++ [])).results _
    rw [e1]; exact trodAll_mk1 (shut_bool Try.underlying4 true)
  · show DataW.TrodAll _ _ _ _ _ _ _ _ (Rows.mergePlaysSpec.fn H ([d0] ++ [])).args _
    rw [e1]
    exact trodAll_mk1 (Below.trod ml_laidOut (by kernel_rfl) (of_decide_eq_true (by kernel_rfl)) h0k hB hlt0)
  · show _ = _
    rfl
theorem pl_of (law : PLaw) : Rows.MergePlaysUptoSaid :=
  OpenClaim.holds_of_cond 4 Try.f4 rfl rfl rfl rfl rfl rfl rfl ⟨rfl, rfl, rfl, rfl, rfl⟩ rfl rfl rfl rfl rfl (by kernel_rfl) Try.func4 (by kernel_rfl)
    (of_decide_eq_true (by kernel_rfl)) (by unfold Func.isWrapper; first | (rw [if_pos (by decide +kernel)]; kernel_rfl) | (rw [if_neg (by decide +kernel)]; exact ⟨rfl, rfl⟩))
    (fun os started H enc _ F => pl_lifted law os started H enc F)
end Go.Proofs.Ytmnhkgibplnnnaa
