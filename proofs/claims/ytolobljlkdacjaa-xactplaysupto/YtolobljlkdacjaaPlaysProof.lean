import Derived.Test.YtolobljlkdacjaaRows
import Derived.Test.YtolobljlkdacjaaXPlaw
import Derived.ProofKit
import Derived.SizedLaws
import Derived.OpenShut
import Derived.JoinedCond
import Derived.Deep.Slices
/- XactPlays: the row of the second form. -/
namespace Go.Proofs.Ytolobljlkdacjaa
open Go.ChangeShapes Go.WideShapes Go.ChangeAt Go.RowKit Go.Deep

theorem tr_own : ownKnob Try.prog.godebug = none := by kernel_rfl
theorem tr_laidOut : laidOutB Try.prog = true := by kernel_rfl
theorem cells_int : Try.prog.cellsOf 3 = 1 := by kernel_rfl
theorem cells_bool : Try.prog.cellsOf 4 = 1 := by kernel_rfl
theorem cells_ints : Try.prog.cellsOf 31 = 1 := by kernel_rfl
theorem cells_snap : Try.prog.cellsOf 36 = 3 := by kernel_rfl
theorem cells_opL : Try.prog.cellsOf 38 = 7 := by kernel_rfl
theorem wf_i64 {n : Int} (h : (Lit.int .i64 n).wf = true) : -9223372036854775808 ≤ n ∧ n ≤ 9223372036854775807 := by
  have := bounds_i64 h
  omega
theorem list1 {α : Type} (l : List α) (h : l.length = 1) : ∃ c0, l = [c0] := by
  rcases l with _ | ⟨c0, _ | ⟨c1, l⟩⟩ <;> simp at h
  exact ⟨c0, rfl⟩
theorem list3 {α : Type} (l : List α) (h : l.length = 3) : ∃ c0 c1 c2, l = [c0, c1, c2] := by
  rcases l with _ | ⟨c0, _ | ⟨c1, _ | ⟨c2, _ | ⟨c3, l⟩⟩⟩⟩ <;> simp at h
  exact ⟨c0, c1, c2, rfl⟩
theorem list5 {α : Type} (l : List α) (h : l.length = 5) : ∃ c0 c1 c2 c3 c4, l = [c0, c1, c2, c3, c4] := by
  rcases l with _ | ⟨c0, _ | ⟨c1, _ | ⟨c2, _ | ⟨c3, _ | ⟨c4, _ | ⟨c5, l⟩⟩⟩⟩⟩⟩ <;> simp at h
  exact ⟨c0, c1, c2, c3, c4, rfl⟩
theorem list7 {α : Type} (l : List α) (h : l.length = 7) : ∃ c0 c1 c2 c3 c4 c5 c6, l = [c0, c1, c2, c3, c4, c5, c6] := by
  rcases l with _ | ⟨c0, _ | ⟨c1, _ | ⟨c2, _ | ⟨c3, _ | ⟨c4, _ | ⟨c5, _ | ⟨c6, _ | ⟨c7, l⟩⟩⟩⟩⟩⟩⟩⟩ <;> simp at h
  exact ⟨c0, c1, c2, c3, c4, c5, c6, rfl⟩
theorem bulk_pos {H : Type} (d : DataW H) : 1 ≤ Rows.uptoBulk d := by
  cases d with
  | lit l => cases l <;> simp [Rows.uptoBulk]
  | _ => simp [Rows.uptoBulk]
theorem bulk_len {H : Type} (l : List (DataW H)) : l.length ≤ Rows.uptoBulkAll l := by
  induction l with
  | nil => simp [Rows.uptoBulkAll]
  | cons x l ih => have := bulk_pos x; simp only [List.length_cons, Rows.uptoBulkAll]; omega
theorem bulk_mem {H : Type} {x : DataW H} {l : List (DataW H)} (h : x ∈ l) : Rows.uptoBulk x ≤ Rows.uptoBulkAll l := by
  induction l with
  | nil => simp at h
  | cons y l ih =>
    simp only [Rows.uptoBulkAll]
    rcases List.mem_cons.1 h with rfl | h
    · omega
    · have := ih h; omega

set_option maxRecDepth 100000 in
theorem ints_of {H : Type} {enc : TypeId × Value → H} {W : World} {fuel : Nat} {ao : Option Addr} {len cap : Nat} {x : DataW H × List MemPlace}
    (h : DataW.trod enc Try.prog W 0 (fun _ => true) true fuel 31 [.slice ao len cap] = some x) : (∃ l : List Int, l.length = len ∧ IR W ao l) ∧ (ao = none → cap = 0) ∧ len ≤ Rows.uptoBulk x.1 := by
  rcases open_slice Try.underlying31 h with ⟨h1, rfl⟩ | ⟨a, len', cap', m, n, D, Pl, h1, _, hl, hmx, hm, hx, hel⟩
  · simp at h1
    obtain ⟨rfl, rfl, rfl⟩ := h1
    exact ⟨⟨[], rfl, fun k n hk => by simp at hk⟩, fun _ => rfl, by simp⟩
  · simp only [List.cons.injEq, Value.slice.injEq, and_true] at h1
    obtain ⟨rfl, rfl, rfl⟩ := h1
    subst hx
    have hm' : m = cap := by simpa using hm
    rw [cells_int] at hel
    have key : ∀ i, i < len → ∃ p : Int, W.cell? (a.add (i * 1)) = some (.int .i64 p) := by
      intro i hi
      obtain ⟨cs', hc, ht⟩ := hel i (by omega)
      obtain ⟨_, hcl, hcc⟩ := World.cells?_some hc
      obtain ⟨c0, rfl⟩ := list1 cs' hcl
      obtain ⟨k1, e1, _, _⟩ := DataW.trod_int Try.underlying3 ht
      simp at e1
      subst e1
      have g0 := hcc 0 (by omega)
      exact ⟨k1, by simpa [Addr.add] using g0⟩
    obtain ⟨b, off, spot⟩ := a
    have key2 : ∀ i, ∃ p : Int, i < len → W.cell? ⟨b, off + i, none⟩ = some (.int .i64 p) ∧ spot = none := fun i => by
      by_cases hi : i < len
      · obtain ⟨p, h1⟩ := key i hi
        have hspot : spot = none := by
          obtain ⟨_, h0'⟩ := key 0 (by omega)
          simpa [Addr.add] using World.cell?_spot h0'
        subst hspot
        simp only [add_plain, Nat.mul_one] at h1
        exact ⟨p, fun _ => ⟨h1, rfl⟩⟩
      · exact ⟨0, fun h => absurd h hi⟩
    obtain ⟨pz, hpz⟩ := Classical.skolem.1 key2
    refine ⟨⟨(List.range len).map pz, by simp, fun k n hk => ?_⟩, (fun h => by cases h), ?_⟩
    · rw [List.getElem?_map] at hk
      cases hr : (List.range len)[k]? with
      | none => rw [hr] at hk; cases hk
      | some y =>
        rw [hr] at hk
        simp only [Option.map_some, Option.some.injEq] at hk
        have hkl : k < len := by have := (List.getElem?_eq_some_iff.1 hr).1; simpa using this
        have hyk : y = k := by rw [List.getElem?_range hkl] at hr; exact (Option.some.inj hr).symm
        subst hyk
        obtain ⟨h1, rfl⟩ := hpz y hkl
        exact ⟨b, off, rfl, by rw [← hk]; exact h1⟩
    · have := bulk_len ((List.range len).map D)
      rw [List.length_map, List.length_range] at this
      simp only [Rows.uptoBulk]
      omega

set_option maxRecDepth 100000 in
theorem ops_of {H : Type} {enc : TypeId × Value → H} {W : World} {fuel : Nat} {ao : Option Addr} {len cap : Nat} {x : DataW H × List MemPlace}
    (h : DataW.trod enc Try.prog W 0 (fun _ => true) true fuel 22 [.slice ao len cap] = some x) (hb : Rows.uptoBulk x.1 ≤ 1048576) : ∃ os : Nat → Opv, (∀ i, i < len → ∃ b off, ao = some ⟨b, off, none⟩ ∧ OpAt W b (off + i * 7) (os i) ∧ (os i).ok W) ∧ len ≤ 1048576 := by
  rcases open_slice Try.underlying22 h with ⟨h1, rfl⟩ | ⟨a, len', cap', m, n, D, Pl, h1, _, hl, hmx, hm, hx, hel⟩
  · simp at h1
    obtain ⟨rfl, rfl, rfl⟩ := h1
    exact ⟨fun _ => fop 0 0, fun i hi => by omega, by omega⟩
  · simp only [List.cons.injEq, Value.slice.injEq, and_true] at h1
    obtain ⟨rfl, rfl, rfl⟩ := h1
    subst hx
    have hm' : m = cap := by simpa using hm
    rw [cells_opL] at hel
    simp only [Rows.uptoBulk] at hb
    have key : ∀ i, i < len → ∃ o : Opv, (W.cell? (a.add (i * 7)) = some (.int .i64 o.kd) ∧ W.cell? ((a.add (i * 7)).add 1) = some (.int .i64 o.N) ∧ W.cell? ((a.add (i * 7)).add 2) = some (.int .i64 o.M) ∧ W.cell? ((a.add (i * 7)).add 3) = some (.bool o.tw) ∧ W.cell? ((a.add (i * 7)).add 4) = some (.int .i64 o.mn) ∧ W.cell? ((a.add (i * 7)).add 5) = some (.int .i64 o.mx) ∧ W.cell? ((a.add (i * 7)).add 6) = some (.slice o.lo o.l.length o.lc)) ∧ o.ok W := by
      intro i hi
      obtain ⟨cs', hc, ht⟩ := hel i (by omega)
      obtain ⟨_, hcl, hcc⟩ := World.cells?_some hc
      obtain ⟨xs, n', _, hxe, _, hxl, hf⟩ := DataW.trod_struct Try.underlying38 ht
      have hxs : xs.length = 5 := hxl
      obtain ⟨c0, c1, c2, c3, c4, c5, c6, rfl⟩ := list7 cs' hcl
      obtain ⟨y0, y1, y2, y3, y4, rfl⟩ := list5 xs hxs
      have f0 : DataW.trod enc Try.prog W 0 (fun _ => true) true n' 3 [c0] = some y0 := by have := hf 0 _ rfl; simpa [cells_int] using this
      have f1 : DataW.trod enc Try.prog W 0 (fun _ => true) true n' 3 [c1] = some y1 := by have := hf 1 _ rfl; simpa [cells_int] using this
      have f2 : DataW.trod enc Try.prog W 0 (fun _ => true) true n' 3 [c2] = some y2 := by have := hf 2 _ rfl; simpa [cells_int] using this
      have f3 : DataW.trod enc Try.prog W 0 (fun _ => true) true n' 4 [c3] = some y3 := by have := hf 3 _ rfl; simpa [cells_bool, cells_int] using this
      have f4 : DataW.trod enc Try.prog W 0 (fun _ => true) true n' 36 [c4, c5, c6] = some y4 := by have := hf 4 _ rfl; simpa [cells_snap, cells_int, cells_bool] using this
      obtain ⟨ys, n2, _, hye, _, hyl, hg⟩ := DataW.trod_struct Try.underlying36 f4
      have hys : ys.length = 3 := hyl
      obtain ⟨s0, s1, s2, rfl⟩ := list3 ys hys
      have g0' : DataW.trod enc Try.prog W 0 (fun _ => true) true n2 3 [c4] = some s0 := by have := hg 0 _ rfl; simpa [cells_int] using this
      have g1' : DataW.trod enc Try.prog W 0 (fun _ => true) true n2 3 [c5] = some s1 := by have := hg 1 _ rfl; simpa [cells_int] using this
      have g2' : DataW.trod enc Try.prog W 0 (fun _ => true) true n2 31 [c6] = some s2 := by have := hg 2 _ rfl; simpa [cells_ints, cells_int] using this
      have e6 : ∃ la ln lc, c6 = .slice la ln lc := by
        rcases open_slice Try.underlying31 g2' with ⟨h1, _⟩ | ⟨a', len', cap', _, _, _, _, h1, _⟩
        · simp at h1; exact ⟨_, _, _, h1⟩
        · simp at h1; exact ⟨_, _, _, h1⟩
      obtain ⟨lo, ln, lc, rfl⟩ := e6
      obtain ⟨kd, e0, _, wkd⟩ := DataW.trod_int Try.underlying3 f0
      obtain ⟨N, e1, _, wN⟩ := DataW.trod_int Try.underlying3 f1
      obtain ⟨M, e2, _, wM⟩ := DataW.trod_int Try.underlying3 f2
      obtain ⟨tw, e3, _⟩ := DataW.trod_bool Try.underlying4 f3
      obtain ⟨mn, e4, _, wmn⟩ := DataW.trod_int Try.underlying3 g0'
      obtain ⟨mx, e5, _, wmx⟩ := DataW.trod_int Try.underlying3 g1'
      obtain ⟨⟨l, hll, hIR⟩, hnil, hlb⟩ := ints_of g2'
      simp at e0 e1 e2 e3 e4 e5
      subst e0 e1 e2 e3 e4 e5
      have hD : D i = .agg [y0.1, y1.1, y2.1, y3.1, y4.1] := by
        have := congrArg Prod.fst hxe
        simpa using this
      have hY : y4.1 = .agg [s0.1, s1.1, s2.1] := by
        have := congrArg Prod.fst hye
        simpa using this
      have hDi : Rows.uptoBulk (D i) ≤ Rows.uptoBulkAll ((List.range len).map D) := bulk_mem (List.mem_map.2 ⟨i, List.mem_range.2 hi, rfl⟩)
      have hy4 : Rows.uptoBulk s2.1 ≤ Rows.uptoBulk (D i) := by
        rw [hD]; simp only [Rows.uptoBulk, Rows.uptoBulkAll]; rw [hY]; simp only [Rows.uptoBulk, Rows.uptoBulkAll]; omega
      have g0 := hcc 0 (by omega)
      have g1 := hcc 1 (by omega)
      have g2 := hcc 2 (by omega)
      have g3 := hcc 3 (by omega)
      have g4 := hcc 4 (by omega)
      have g5 := hcc 5 (by omega)
      have g6 := hcc 6 (by omega)
      have bN := wf_i64 wN
      have bM := wf_i64 wM
      have bmn := wf_i64 wmn
      subst hll
      exact ⟨⟨kd, N, M, tw, mn, mx, lo, lc, l⟩, ⟨by simpa [Addr.add] using g0, by simpa using g1, by simpa using g2, by simpa using g3, by simpa using g4, by simpa using g5, by simpa using g6⟩, ⟨bN.1, bN.2, bM.1, bM.2, bmn.1, bmn.2, by show l.length ≤ _; omega, hIR, hnil⟩⟩
    obtain ⟨b, off, spot⟩ := a
    have key2 : ∀ i, ∃ o : Opv, i < len → (OpAt W b (off + i * 7) o ∧ o.ok W) ∧ spot = none := fun i => by
      by_cases hi : i < len
      · obtain ⟨o, ⟨h0, h1, h2, h3, h4, h5, h6⟩, h7⟩ := key i hi
        have hspot : spot = none := by
          obtain ⟨_, ⟨h0', _⟩, _⟩ := key 0 (by omega)
          simpa [Addr.add] using World.cell?_spot h0'
        subst hspot
        simp only [add_plain] at h0 h1 h2 h3 h4 h5 h6
        refine ⟨o, fun _ => ⟨⟨fun j u hu => ?_, h7⟩, rfl⟩⟩
        have hj : j < 7 := by have := (List.getElem?_eq_some_iff.1 hu).1; simpa [Opv.cel] using this
        have h8 : j = 0 ∨ j = 1 ∨ j = 2 ∨ j = 3 ∨ j = 4 ∨ j = 5 ∨ j = 6 := by omega
        rcases h8 with rfl | rfl | rfl | rfl | rfl | rfl | rfl <;> simp only [Opv.cel, List.getElem?_cons_zero, List.getElem?_cons_succ, Option.some.injEq] at hu <;> subst hu <;> assumption
      · exact ⟨fop 0 0, fun h => absurd h hi⟩
    obtain ⟨os, hos⟩ := Classical.skolem.1 key2
    refine ⟨os, fun i hi => ?_, ?_⟩
    · obtain ⟨⟨h1, h2⟩, rfl⟩ := hos i hi
      exact ⟨b, off, rfl, h1, h2⟩
    · have := bulk_len ((List.range len).map D)
      rw [List.length_map, List.length_range] at this
      omega

set_option maxRecDepth 100000 in
theorem plays_lifted (os : Os) (started : os.Started) (H : Type) (enc : TypeId × Value → H) (F : Stop.Interp) :
    ReturnsInHanded {} Try.checked os 3 .any ((Rows.OpenSpec.upto Rows.xactPlaysSpec).pre6 enc Try.prog Try.f3 Rows.xactPlaysUptoRow.domain false) (((Rows.OpenSpec.upto Rows.xactPlaysSpec).at F).post enc Try.prog Try.f3 false true false false) := by
  refine returnsInHanded_of_cond (C := Try.checked) (s := Rows.OpenSpec.upto Rows.xactPlaysSpec) (k := Rows.uptoSmall) rfl tr_own started (by kernel_rfl) Try.func3
    (OpenSpec.witness (enc := enc) (C := Try.checked) (s := Rows.OpenSpec.upto Rows.xactPlaysSpec) (k := Rows.uptoSmall) rfl false ⟨#[], #[.int .i64 0, .int .i64 0, .slice none 0 0], []⟩ 8 (by kernel_rfl) (by kernel_rfl) (by kernel_rfl)
      (x := ([.lit (.int .i64 0), .lit (.int .i64 0), .nil], [], [])) (by kernel_rfl) rfl (by kernel_rfl)) ?_
  intro W base args ds gs before hval0 hW _ hk _
  have hval : ∀ (j : Nat) t v, Try.f3.params[j]? = some t → args[j]? = some v → Value.okWide Try.prog W .any base t v := hval0
  have hW' := hW
  obtain ⟨p, q, hA0, hV, rfl, _, _⟩ := hW
  have hA : DataW.TrodAll enc Try.prog W 0 (fun _ => true) true Try.f3.params.toList args.toList ds p := hA0
  rw [Try.params3] at hA hval
  obtain ⟨v0, v1, v2, d0, d1, d2, p0, p1, p2, rfl, rfl, rfl, h0, h1, h2⟩ := trodAll_three hA
  obtain ⟨rfl, rfl⟩ := trodVars_none hV
  obtain ⟨n, rfl, rfl, rfl, wn⟩ := open_int Try.underlying3 (hval 0 3 v0 rfl rfl) h0
  obtain ⟨m, rfl, rfl, rfl, wm⟩ := open_int Try.underlying3 (hval 1 3 v1 rfl rfl) h1
  obtain ⟨a0, len, cap, rfl⟩ := okWide_slice Try.underlying22 (hval 2 22 v2 rfl rfl)
  have h2k := h2
  obtain ⟨fuel, hf⟩ := h2
  clear hA0 hval0
  simp only [List.append_nil, List.nil_append] at hW'
  have hlt : ∀ x ∈ p2, x.block < W.heap.size := fun x hx => by simpa using hW'.lt x hx
  have e1 : (Rows.xactPlaysSpec.fn H ([.lit (.int .i64 n), .lit (.int .i64 m), d2] ++ [])) = { results := [.lit (.bool true)], args := [.lit (.int .i64 n), .lit (.int .i64 m), d2] } := by simp [Rows.xactPlaysSpec]
  have hb : Rows.uptoBulkAll ([.lit (.int .i64 n), .lit (.int .i64 m), d2] ++ [] : List (DataW H)) ≤ 1048576 := of_decide_eq_true hk
  simp only [List.append_nil, Rows.uptoBulkAll] at hb
  obtain ⟨os', hos, hlen⟩ := ops_of hf (show Rows.uptoBulk d2 ≤ 1048576 by omega)
  refine (plays_law n m a0 len cap W (wf_i64 wn).1 (wf_i64 wn).2 (wf_i64 wm).1 (wf_i64 wm).2 hlen os' hos).mono fun e W' ⟨he, ht⟩ => ?_
  subst he
  have hB : Below W.heap.size W W' := ht.below (Nat.le_refl _) (fun _ _ h => h)
  refine ⟨_, rfl, _, _, _, [], p2, [], hW', ?_, ?_, ?_, hB.frame _, fun h => by cases h⟩
  · show DataW.TrodAll _ _ _ _ _ _ _ _ (Rows.xactPlaysSpec.fn H ([.lit (.int .i64 n), .lit (.int .i64 m), d2] ++ [])).results _
    rw [e1]; exact trodAll_mk1 (shut_bool Try.underlying4 true)
  · show DataW.TrodAll _ _ _ _ _ _ _ _ (Rows.xactPlaysSpec.fn H ([.lit (.int .i64 n), .lit (.int .i64 m), d2] ++ [])).args _
    rw [e1]; exact trodAll_mk3 (shut_int Try.underlying3 wn) (shut_int Try.underlying3 wm) (Below.trod tr_laidOut (by kernel_rfl) (of_decide_eq_true (by kernel_rfl)) h2k hB hlt)
  · show _ = _
    rfl

theorem plays_holds : Rows.XactPlaysUptoSaid :=
  OpenClaim.holds_of_cond 3 Try.f3 rfl rfl rfl rfl rfl rfl rfl ⟨rfl, rfl, rfl, rfl, rfl⟩ rfl rfl rfl rfl rfl (by kernel_rfl) Try.func3 (by kernel_rfl)
    (of_decide_eq_true (by kernel_rfl)) (by unfold Func.isWrapper; first | (rw [if_pos (by decide +kernel)]; kernel_rfl) | (rw [if_neg (by decide +kernel)]; exact ⟨rfl, rfl⟩))
    (fun os started H enc _ F => plays_lifted os started H enc F)
end Go.Proofs.Ytolobljlkdacjaa
