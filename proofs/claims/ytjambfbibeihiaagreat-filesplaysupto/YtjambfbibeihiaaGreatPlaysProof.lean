import Derived.Test.YtjambfbibeihiaaGreatRows
import Derived.Test.YtjambfbibeihiaaGreatPl
import Derived.ProofKit
import Derived.SizedLaws
import Derived.OpenShut
import Derived.JoinedCond
import Derived.Deep.Slices
/- FilesPlays: the row of the second form. -/
namespace Go.Proofs.YtjambfbibeihiaaGreat
open Go.ChangeShapes Go.WideShapes Go.ChangeAt Go.RowKit Go.Deep

theorem tr_own : ownKnob Tryz.prog.godebug = none := by kernel_rfl
theorem tr_laidOut : laidOutB Tryz.prog = true := by kernel_rfl
theorem cells_str : Tryz.prog.cellsOf 9 = 1 := by kernel_rfl
theorem cells_int : Tryz.prog.cellsOf 3 = 1 := by kernel_rfl
theorem cells_bool : Tryz.prog.cellsOf 4 = 1 := by kernel_rfl
theorem cells_keeps : Tryz.prog.cellsOf 39 = 1 := by kernel_rfl
theorem cells_keep : Tryz.prog.cellsOf 58 = 2 := by kernel_rfl
theorem cells_opL : Tryz.prog.cellsOf 41 = 7 := by kernel_rfl
theorem wf_i64 {n : Int} (h : (Lit.int .i64 n).wf = true) : -9223372036854775808 ≤ n ∧ n ≤ 9223372036854775807 := by
  have := bounds_i64 h
  omega
theorem list2 {α : Type} (l : List α) (h : l.length = 2) : ∃ c0 c1, l = [c0, c1] := by
  rcases l with _ | ⟨c0, _ | ⟨c1, _ | ⟨c2, l⟩⟩⟩ <;> simp at h
  exact ⟨c0, c1, rfl⟩
theorem list7 {α : Type} (l : List α) (h : l.length = 7) : ∃ c0 c1 c2 c3 c4 c5 c6, l = [c0, c1, c2, c3, c4, c5, c6] := by
  rcases l with _ | ⟨c0, _ | ⟨c1, _ | ⟨c2, _ | ⟨c3, _ | ⟨c4, _ | ⟨c5, _ | ⟨c6, _ | ⟨c7, l⟩⟩⟩⟩⟩⟩⟩⟩ <;> simp at h
  exact ⟨c0, c1, c2, c3, c4, c5, c6, rfl⟩
theorem bulk_pos {H : Type} (d : DataW H) : 1 ≤ Rows.uptoBulk d := by
  cases d with
  | lit l => cases l <;> simp [Rows.uptoBulk]
  | _ => simp [Rows.uptoBulk]
theorem bulk_append {H : Type} (l r : List (DataW H)) : Rows.uptoBulkAll (l ++ r) = Rows.uptoBulkAll l + Rows.uptoBulkAll r := by
  induction l with
  | nil => simp [Rows.uptoBulkAll]
  | cons x l ih => simp only [List.cons_append, Rows.uptoBulkAll, ih]; omega
theorem bulk_len {H : Type} (l : List (DataW H)) : l.length ≤ Rows.uptoBulkAll l := by
  induction l with
  | nil => simp [Rows.uptoBulkAll]
  | cons x l ih => have := bulk_pos x; simp only [List.length_cons, Rows.uptoBulkAll]; omega
theorem bulk_mem {H : Type} {x : DataW H} {l : List (DataW H)} (h : x ∈ l) : Rows.uptoBulk x ≤ Rows.uptoBulkAll l := by
  induction l with
  | nil => simp at h
  | cons y l ih =>
    simp only [Rows.uptoBulkAll]
    rcases List.mem_cons.1 h with rfl | h
    · omega
    · have := ih h; omega

set_option maxRecDepth 100000 in
theorem keeps_of {H : Type} {enc : TypeId × Value → H} {W : World} {fuel : Nat} {ao : Option Addr} {len cap : Nat} {x : DataW H × List MemPlace}
    (h : DataW.trod enc Tryz.prog W 0 (fun _ => true) true fuel 39 [.slice ao len cap] = some x) : (∃ nm by', KLs W ao len nm by') ∧ (ao = none → len = 0 ∧ cap = 0) ∧ len ≤ Rows.uptoBulk x.1 ∧ ∀ a, 0 < len → ao = some a → a.block < W.heap.size := by
  rcases open_slice Tryz.underlying39 h with ⟨h1, rfl⟩ | ⟨a, len', cap', m, n, D, Pl, h1, _, hl, hmx, hm, hx, hel⟩
  · simp at h1
    obtain ⟨rfl, rfl, rfl⟩ := h1
    exact ⟨⟨fun _ => ⟨#[]⟩, fun _ => 0, fun i hi => by omega⟩, fun _ => ⟨rfl, rfl⟩, by simp, fun a h => by omega⟩
  · simp only [List.cons.injEq, Value.slice.injEq, and_true] at h1
    obtain ⟨rfl, rfl, rfl⟩ := h1
    subst hx
    have hm' : m = cap := by simpa using hm
    rw [cells_keep] at hel
    have key : ∀ i, i < len → ∃ p : ByteArray × Int, (W.cell? (a.add (i * 2)) = some (.string p.1) ∧ W.cell? ((a.add (i * 2)).add 1) = some (.int .i64 p.2)) ∧ -9223372036854775808 ≤ p.2 ∧ p.2 ≤ 9223372036854775807 := by
      intro i hi
      obtain ⟨cs', hc, ht⟩ := hel i (by omega)
      obtain ⟨_, hcl, hcc⟩ := World.cells?_some hc
      obtain ⟨xs, n', _, hxe, _, hxl, hf⟩ := DataW.trod_struct Tryz.underlying58 ht
      have hxs : xs.length = 2 := hxl
      obtain ⟨c0, c1, rfl⟩ := list2 cs' hcl
      obtain ⟨y0, y1, rfl⟩ := list2 xs hxs
      have f0 : DataW.trod enc Tryz.prog W 0 (fun _ => true) true n' 9 [c0] = some y0 := by have := hf 0 _ rfl; simpa [cells_str] using this
      have f1 : DataW.trod enc Tryz.prog W 0 (fun _ => true) true n' 3 [c1] = some y1 := by have := hf 1 _ rfl; simpa [cells_int] using this
      obtain ⟨s0, e0, hs0, ws⟩ := DataW.trod_string Tryz.underlying9 f0
      obtain ⟨k1, e1, hs1, wk⟩ := DataW.trod_int Tryz.underlying3 f1
      simp at e0 e1
      subst e0 e1
      have g0 := hcc 0 (by omega)
      have g1 := hcc 1 (by omega)
      have b1 := wf_i64 wk
      exact ⟨(s0, k1), ⟨by simpa [Addr.add] using g0, by simpa using g1⟩, b1⟩
    have hblk : 0 < len → a.block < W.heap.size := fun h0 => by
      obtain ⟨_, ⟨h0', _⟩, _⟩ := key 0 h0
      have := cell_lt h0'
      simpa [Addr.add] using this
    obtain ⟨b, off, spot⟩ := a
    have key2 : ∀ i, ∃ p : ByteArray × Int, i < len → ((W.cell? ⟨b, off + i * 2, none⟩ = some (.string p.1) ∧ W.cell? ⟨b, off + i * 2 + 1, none⟩ = some (.int .i64 p.2)) ∧ -9223372036854775808 ≤ p.2 ∧ p.2 ≤ 9223372036854775807) ∧ spot = none := fun i => by
      by_cases hi : i < len
      · obtain ⟨p, ⟨h1, h2⟩, h3⟩ := key i hi
        have hspot : spot = none := by
          obtain ⟨_, ⟨h0', _⟩, _⟩ := key 0 (by omega)
          simpa [Addr.add] using World.cell?_spot h0'
        subst hspot
        simp only [add_plain] at h1 h2
        exact ⟨p, fun _ => ⟨⟨⟨h1, h2⟩, h3⟩, rfl⟩⟩
      · exact ⟨(⟨#[]⟩, 0), fun h => absurd h hi⟩
    obtain ⟨pz, hpz⟩ := Classical.skolem.1 key2
    refine ⟨⟨fun i => (pz i).1, fun i => (pz i).2, fun i hi => ?_⟩, (fun h => by cases h), ?_, (fun a' h0 e => by cases e; exact hblk h0)⟩
    · obtain ⟨⟨⟨h1, h2⟩, h3⟩, rfl⟩ := hpz i hi
      exact ⟨b, off, rfl, ⟨h1, h2⟩, h3⟩
    · have := bulk_len ((List.range len).map D)
      rw [List.length_map, List.length_range] at this
      simp only [Rows.uptoBulk]
      omega

set_option maxRecDepth 100000 in
theorem ops_of {H : Type} {enc : TypeId × Value → H} {W : World} {fuel : Nat} {ao : Option Addr} {len cap : Nat} {x : DataW H × List MemPlace}
    (h : DataW.trod enc Tryz.prog W 0 (fun _ => true) true fuel 22 [.slice ao len cap] = some x) (hb : Rows.uptoBulk x.1 ≤ 1048576) : ∃ os : Nat → OpR, (∀ i, i < len → ∃ b off, ao = some ⟨b, off, none⟩ ∧ OpAt W b (off + i * 7) (os i) ∧ (os i).ok W) ∧ len ≤ 1048576 := by
  rcases open_slice Tryz.underlying22 h with ⟨h1, rfl⟩ | ⟨a, len', cap', m, n, D, Pl, h1, _, hl, hmx, hm, hx, hel⟩
  · simp at h1
    obtain ⟨rfl, rfl, rfl⟩ := h1
    exact ⟨fun _ => opOf 0 0 ⟨#[]⟩ ⟨#[]⟩, fun i hi => by omega, by omega⟩
  · simp only [List.cons.injEq, Value.slice.injEq, and_true] at h1
    obtain ⟨rfl, rfl, rfl⟩ := h1
    subst hx
    have hm' : m = cap := by simpa using hm
    rw [cells_opL] at hel
    simp only [Rows.uptoBulk] at hb
    have key : ∀ i, i < len → ∃ o : OpR, (W.cell? (a.add (i * 7)) = some (.int .i64 o.kd) ∧ W.cell? ((a.add (i * 7)).add 1) = some (.int .i64 o.N) ∧ W.cell? ((a.add (i * 7)).add 2) = some (.int .i64 o.M) ∧ W.cell? ((a.add (i * 7)).add 3) = some (.bool o.tw) ∧ W.cell? ((a.add (i * 7)).add 4) = some (.string o.nm) ∧ W.cell? ((a.add (i * 7)).add 5) = some (.string o.S) ∧ W.cell? ((a.add (i * 7)).add 6) = some (.slice o.lo o.ln o.lc)) ∧ o.ok W := by
      intro i hi
      obtain ⟨cs', hc, ht⟩ := hel i (by omega)
      obtain ⟨_, hcl, hcc⟩ := World.cells?_some hc
      obtain ⟨xs, n', _, hxe, _, hxl, hf⟩ := DataW.trod_struct Tryz.underlying41 ht
      have hxs : xs.length = 7 := hxl
      obtain ⟨c0, c1, c2, c3, c4, c5, c6, rfl⟩ := list7 cs' hcl
      obtain ⟨y0, y1, y2, y3, y4, y5, y6, rfl⟩ := list7 xs hxs
      have f0 : DataW.trod enc Tryz.prog W 0 (fun _ => true) true n' 3 [c0] = some y0 := by have := hf 0 _ rfl; simpa [cells_int] using this
      have f1 : DataW.trod enc Tryz.prog W 0 (fun _ => true) true n' 3 [c1] = some y1 := by have := hf 1 _ rfl; simpa [cells_int] using this
      have f2 : DataW.trod enc Tryz.prog W 0 (fun _ => true) true n' 3 [c2] = some y2 := by have := hf 2 _ rfl; simpa [cells_int] using this
      have f3 : DataW.trod enc Tryz.prog W 0 (fun _ => true) true n' 4 [c3] = some y3 := by have := hf 3 _ rfl; simpa [cells_bool] using this
      have f4 : DataW.trod enc Tryz.prog W 0 (fun _ => true) true n' 9 [c4] = some y4 := by have := hf 4 _ rfl; simpa [cells_str] using this
      have f5 : DataW.trod enc Tryz.prog W 0 (fun _ => true) true n' 9 [c5] = some y5 := by have := hf 5 _ rfl; simpa [cells_str] using this
      have f6 : DataW.trod enc Tryz.prog W 0 (fun _ => true) true n' 39 [c6] = some y6 := by have := hf 6 _ rfl; simpa [cells_keeps] using this
      have e6 : ∃ la ln lc, c6 = .slice la ln lc := by
        rcases open_slice Tryz.underlying39 f6 with ⟨h1, _⟩ | ⟨a', len', cap', _, _, _, _, h1, _⟩
        · simp at h1; exact ⟨_, _, _, h1⟩
        · simp at h1; exact ⟨_, _, _, h1⟩
      obtain ⟨lo, ln, lc, rfl⟩ := e6
      obtain ⟨kd, e0, _, wkd⟩ := DataW.trod_int Tryz.underlying3 f0
      obtain ⟨N, e1, _, wN⟩ := DataW.trod_int Tryz.underlying3 f1
      obtain ⟨M, e2, _, wM⟩ := DataW.trod_int Tryz.underlying3 f2
      obtain ⟨tw, e3, _⟩ := DataW.trod_bool Tryz.underlying4 f3
      obtain ⟨nm, e4, _, wnm⟩ := DataW.trod_string Tryz.underlying9 f4
      obtain ⟨S, e5, _⟩ := DataW.trod_string Tryz.underlying9 f5
      obtain ⟨⟨nmL, byL, hKL⟩, hnil, hlb, hlt⟩ := keeps_of f6
      simp at e0 e1 e2 e3 e4 e5
      subst e0 e1 e2 e3 e4 e5
      have hD : D i = .agg [y0.1, y1.1, y2.1, y3.1, y4.1, y5.1, y6.1] := by
        have := congrArg Prod.fst hxe
        simpa using this
      have hDi : Rows.uptoBulk (D i) ≤ Rows.uptoBulkAll ((List.range len).map D) := bulk_mem (List.mem_map.2 ⟨i, List.mem_range.2 hi, rfl⟩)
      have hy6 : Rows.uptoBulk y6.1 ≤ Rows.uptoBulk (D i) := by
        rw [hD]; simp only [Rows.uptoBulk, Rows.uptoBulkAll]; omega
      have g0 := hcc 0 (by omega)
      have g1 := hcc 1 (by omega)
      have g2 := hcc 2 (by omega)
      have g3 := hcc 3 (by omega)
      have g4 := hcc 4 (by omega)
      have g5 := hcc 5 (by omega)
      have g6 := hcc 6 (by omega)
      exact ⟨⟨kd, N, M, tw, nm, S, lo, ln, lc, nmL, byL⟩, ⟨by simpa [Addr.add] using g0, by simpa using g1, by simpa using g2, by simpa using g3, by simpa using g4, by simpa using g5, by simpa using g6⟩, ⟨wf_i64 wN, wf_i64 wM, wnm, hKL, hlt, hnil, by show (ln + 2) * 40 ≤ _; omega⟩⟩
    obtain ⟨b, off, spot⟩ := a
    have key2 : ∀ i, ∃ o : OpR, i < len → (OpAt W b (off + i * 7) o ∧ o.ok W) ∧ spot = none := fun i => by
      by_cases hi : i < len
      · obtain ⟨o, ⟨h0, h1, h2, h3, h4, h5, h6⟩, h7⟩ := key i hi
        have hspot : spot = none := by
          obtain ⟨_, ⟨h0', _⟩, _⟩ := key 0 (by omega)
          simpa [Addr.add] using World.cell?_spot h0'
        subst hspot
        simp only [add_plain] at h0 h1 h2 h3 h4 h5 h6
        exact ⟨o, fun _ => ⟨⟨⟨h0, h1, h2, h3, h4, h5, h6⟩, h7⟩, rfl⟩⟩
      · exact ⟨opOf 0 0 ⟨#[]⟩ ⟨#[]⟩, fun h => absurd h hi⟩
    obtain ⟨os, hos⟩ := Classical.skolem.1 key2
    refine ⟨os, fun i hi => ?_, ?_⟩
    · obtain ⟨⟨h1, h2⟩, rfl⟩ := hos i hi
      exact ⟨b, off, rfl, h1, h2⟩
    · have := bulk_len ((List.range len).map D)
      rw [List.length_map, List.length_range] at this
      omega

set_option maxRecDepth 100000 in
theorem plays_lifted (os : Os) (started : os.Started) (H : Type) (enc : TypeId × Value → H) (F : Stop.Interp) :
    ReturnsInHanded {} Tryz.checked os 3 .any ((Rows.OpenSpec.upto Rows.filesPlaysSpec).pre6 enc Tryz.prog Tryz.f3 Rows.filesPlaysUptoRow.domain false) (((Rows.OpenSpec.upto Rows.filesPlaysSpec).at F).post enc Tryz.prog Tryz.f3 false true false false) := by
  refine returnsInHanded_of_cond (C := Tryz.checked) (s := Rows.OpenSpec.upto Rows.filesPlaysSpec) (k := Rows.uptoSmall) rfl tr_own started (by kernel_rfl) Tryz.func3
    (OpenSpec.witness (enc := enc) (C := Tryz.checked) (s := Rows.OpenSpec.upto Rows.filesPlaysSpec) (k := Rows.uptoSmall) rfl false ⟨#[], #[.int .i64 0, .int .i64 0, .slice none 0 0], []⟩ 8 (by kernel_rfl) (by kernel_rfl) (by kernel_rfl)
      (x := ([.lit (.int .i64 0), .lit (.int .i64 0), .nil], [], [])) (by kernel_rfl) rfl (by kernel_rfl)) ?_
  intro W base args ds gs before hval0 hW _ hk _
  have hval : ∀ (j : Nat) t v, Tryz.f3.params[j]? = some t → args[j]? = some v → Value.okWide Tryz.prog W .any base t v := hval0
  have hW' := hW
  obtain ⟨p, q, hA0, hV, rfl, _, _⟩ := hW
  have hA : DataW.TrodAll enc Tryz.prog W 0 (fun _ => true) true Tryz.f3.params.toList args.toList ds p := hA0
  rw [Tryz.params3] at hA hval
  obtain ⟨v0, v1, v2, d0, d1, d2, p0, p1, p2, rfl, rfl, rfl, h0, h1, h2⟩ := trodAll_three hA
  obtain ⟨rfl, rfl⟩ := trodVars_none hV
  obtain ⟨n, rfl, rfl, rfl, wn⟩ := open_int Tryz.underlying3 (hval 0 3 v0 rfl rfl) h0
  obtain ⟨m, rfl, rfl, rfl, wm⟩ := open_int Tryz.underlying3 (hval 1 3 v1 rfl rfl) h1
  obtain ⟨a0, len, cap, rfl⟩ := okWide_slice Tryz.underlying22 (hval 2 22 v2 rfl rfl)
  have h2k := h2
  obtain ⟨fuel, hf⟩ := h2
  clear hA0 hval0
  simp only [List.append_nil, List.nil_append] at hW'
  have hlt : ∀ x ∈ p2, x.block < W.heap.size := fun x hx => by simpa using hW'.lt x hx
  have e1 : (Rows.filesPlaysSpec.fn H ([.lit (.int .i64 n), .lit (.int .i64 m), d2] ++ [])) = { results := [.lit (.bool true)], args := [.lit (.int .i64 n), .lit (.int .i64 m), d2] } := by simp [Rows.filesPlaysSpec]
  have hb : Rows.uptoBulkAll ([.lit (.int .i64 n), .lit (.int .i64 m), d2] ++ [] : List (DataW H)) ≤ 1048576 := of_decide_eq_true hk
  simp only [List.append_nil, Rows.uptoBulkAll] at hb
  obtain ⟨os', hos, hlen⟩ := ops_of hf (show Rows.uptoBulk d2 ≤ 1048576 by omega)
  refine (plays_law n m a0 len cap os' W (wf_i64 wn) (wf_i64 wm) hos hlen).mono fun e W' ⟨he, ht⟩ => ?_
  subst he
  have hB : Below W.heap.size W W' := ht.below (Nat.le_refl _) (fun _ _ h => h)
  refine ⟨_, rfl, _, _, _, [], p2, [], hW', ?_, ?_, ?_, hB.frame _, fun h => by cases h⟩
  · show DataW.TrodAll _ _ _ _ _ _ _ _ (Rows.filesPlaysSpec.fn H ([.lit (.int .i64 n), .lit (.int .i64 m), d2] ++ [])).results _
    rw [e1]; exact trodAll_mk1 (shut_bool Tryz.underlying4 true)
  · show DataW.TrodAll _ _ _ _ _ _ _ _ (Rows.filesPlaysSpec.fn H ([.lit (.int .i64 n), .lit (.int .i64 m), d2] ++ [])).args _
    rw [e1]; exact trodAll_mk3 (shut_int Tryz.underlying3 wn) (shut_int Tryz.underlying3 wm) (Below.trod tr_laidOut (by kernel_rfl) (of_decide_eq_true (by kernel_rfl)) h2k hB hlt)
  · show _ = _
    rfl

theorem plays_holds : Rows.FilesPlaysUptoSaid :=
  OpenClaim.holds_of_cond 3 Tryz.f3 rfl rfl rfl rfl rfl rfl rfl ⟨rfl, rfl, rfl, rfl, rfl⟩ rfl rfl rfl rfl rfl (by kernel_rfl) Tryz.func3 (by kernel_rfl)
    (of_decide_eq_true (by kernel_rfl)) (by unfold Func.isWrapper; first | (rw [if_pos (by decide +kernel)]; kernel_rfl) | (rw [if_neg (by decide +kernel)]; exact ⟨rfl, rfl⟩))
    (fun os started H enc _ F => plays_lifted os started H enc F)
#print axioms plays_holds
end Go.Proofs.YtjambfbibeihiaaGreat
