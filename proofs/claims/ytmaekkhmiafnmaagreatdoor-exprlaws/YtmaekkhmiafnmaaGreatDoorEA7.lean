import Derived.Test.YtmaekkhmiafnmaaGreatDoorEA4
import Derived.Deep.DeepLaidRun
set_option maxRecDepth 100000
namespace Go.Proofs.YtmaekkhmiafnmaaGreatDoor
open Go.ChangeShapes Go.WideShapes Go.RowKit Go.Deep
set_option maxRecDepth 100000
theorem arg_row {H : Type} {enc : TypeId × Value → H} {W : World} {v : Value} {d : DataW H} {p : List MemPlace} (hsl : ∃ a len cap, v = .slice a len cap) (h : DataW.Trod enc Tryz.prog W 0 (fun _ => true) true 23 v d p) :
    ∃ (vs : List Val) (ao : Option Addr) (cap : Nat), v = .slice ao vs.length cap ∧ SL W ao (rcl vs) ∧ (ao = none → vs = [] ∧ cap = 0) ∧ (∀ u ∈ vs, u.i64 ∧ u.s.size ≤ maxLen) ∧ (vs ≠ [] → ∃ es sp, d = .slice es sp ∧ es.length = vs.length) := by
  obtain ⟨ao, len, cap, rfl⟩ := hsl
  obtain ⟨fuel, hf⟩ := h
  rcases open_slice Tryz.underlying23 hf with ⟨h1, _⟩ | ⟨a, len', cap', m, n, D, Pl, h1, _, hl, hmx, hm, hx, hel⟩
  · have h2 : [Value.slice ao len cap] = [Value.slice none 0 0] := h1
    simp at h2
    obtain ⟨rfl, rfl, rfl⟩ := h2
    exact ⟨[], none, 0, rfl, fun h => absurd rfl h, fun _ => ⟨rfl, rfl⟩, fun u hu => by simp at hu, fun h => absurd rfl h⟩
  · simp only [Value.cells, List.cons.injEq, Value.slice.injEq, and_true] at h1
    obtain ⟨rfl, rfl, rfl⟩ := h1
    have hm' : m = cap := by simpa using hm
    rw [c_val] at hel
    have key : ∀ i, i < len → ∃ u : Val, (W.cell? (a.add (i * 3)) = some (.int .i64 u.k) ∧ W.cell? ((a.add (i * 3)).add 1) = some (.int .i64 u.n) ∧ W.cell? ((a.add (i * 3)).add 2) = some (.string u.s)) ∧ u.i64 ∧ u.s.size ≤ maxLen := by
      intro i hi
      obtain ⟨cs', hc, ht⟩ := hel i (by omega)
      obtain ⟨_, hcl, hcc⟩ := World.cells?_some hc
      obtain ⟨k, n, s, rfl, _, h64, hsz⟩ := val_of ht
      have g0 := hcc 0 (by simp)
      have g1 := hcc 1 (by simp)
      have g2 := hcc 2 (by simp)
      exact ⟨⟨k, n, s⟩, ⟨by simpa [Addr.add] using g0, by simpa using g1, by simpa using g2⟩, h64, hsz⟩
    have pick : ∃ vs : List Val, vs.length = len ∧ ∀ i (hi : i < vs.length), (W.cell? (a.add (i * 3)) = some (.int .i64 vs[i].k) ∧ W.cell? ((a.add (i * 3)).add 1) = some (.int .i64 vs[i].n) ∧ W.cell? ((a.add (i * 3)).add 2) = some (.string vs[i].s)) ∧ vs[i].i64 ∧ vs[i].s.size ≤ maxLen := by
      classical
      refine ⟨List.ofFn (fun i : Fin len => (key i.1 i.2).choose), by simp, fun i hi => ?_⟩
      have hi' : i < len := by simpa using hi
      rw [List.getElem_ofFn]
      exact (key i hi').choose_spec
    obtain ⟨vs, rfl, hvs⟩ := pick
    refine ⟨vs, some a, cap, rfl, fun hv => ?_, fun h => (by cases h), fun u hu => ?_, fun _ => ⟨_, _, congrArg Prod.fst hx, by rw [List.length_map, List.length_range]⟩⟩
    · have hne : vs ≠ [] := by rintro rfl; exact hv rfl
      have h0 : 0 < vs.length := List.length_pos_iff.2 hne
      obtain ⟨b, off, spot⟩ := a
      have hspot : spot = none := by
        obtain ⟨⟨h0', _⟩, _⟩ := hvs 0 h0
        simpa [Addr.add] using World.cell?_spot h0'
      subst hspot
      refine ⟨b, off, rfl, fun j u hu' => ?_⟩
      have hj : j < vs.length * 3 := by rw [← rcl_len]; exact (List.getElem?_eq_some_iff.1 hu').1
      obtain ⟨q, r, rfl, hr⟩ : ∃ q r, j = q * 3 + r ∧ r < 3 := ⟨j / 3, j % 3, by omega, by omega⟩
      have hq : q < vs.length := by omega
      obtain ⟨⟨h0', h1', h2'⟩, _⟩ := hvs q hq
      simp only [add_plain] at h0' h1' h2'
      obtain ⟨g0, g1, g2⟩ := rcl_get vs q hq
      rcases (by omega : r = 0 ∨ r = 1 ∨ r = 2) with rfl | rfl | rfl
      · rw [Nat.add_zero] at hu' ⊢; rw [g0] at hu'; rw [h0', hu']
      · rw [g1] at hu'; rw [← Nat.add_assoc, h1', hu']
      · rw [g2] at hu'; rw [← Nat.add_assoc, h2', hu']
    · obtain ⟨i, hi, rfl⟩ := List.getElem_of_mem hu
      exact (hvs i hi).2
theorem tr_star : "*" ++ "errors.errorString" = "*errors.errorString" := by decide
theorem tr_rowES (u : TypeId) (h : Tryz.prog.typeName? 3 u = some "*errors.errorString") : u = 253 :=
  typeName_ptr_named (nm := "errors.errorString") (by rw [tr_star]; kernel_rfl) (by kernel_rfl) (by decide) u (by rw [tr_star]; exact h)
theorem c_es : Tryz.prog.cellsOf 255 = 1 := by kernel_rfl
theorem tr_gS : Tryz.prog.globalNamed "strconv.ErrSyntax" = some 4 := by kernel_rfl
theorem tr_gSt : (Tryz.prog.globals[4]?).map (·.type) = some 122 := by kernel_rfl
theorem tr_gR : Tryz.prog.globalNamed "strconv.ErrRange" = some 5 := by kernel_rfl
theorem tr_gRt : (Tryz.prog.globals[5]?).map (·.type) = some 122 := by kernel_rfl
theorem tr_gP : Tryz.prog.globalNamed "internal/strconv.uint64pow10" = some 2 := by kernel_rfl
abbrev laid11 : List (String × DataW Unit) := [("math/bits.deBruijn32tab", Rows.laid_math_bits_deBruijn32tab), ("math/bits.deBruijn64tab", Rows.laid_math_bits_deBruijn64tab), ("internal/strconv.uint64pow10", Rows.laid_internal_strconv_uint64pow10), ("unicode/utf8.acceptRanges", Rows.laid_unicode_utf8_acceptRanges), ("strconv.ErrRange", Rows.laid_strconv_ErrRange), ("strconv.ErrSyntax", Rows.laid_strconv_ErrSyntax), ("confluence/value.words", Rows.laid_confluence_value_words), ("confluence/expr.shapes", Rows.laid_confluence_expr_shapes), ("unicode/utf8.first", Rows.laid_unicode_utf8_first)]
theorem of_laid11 {W : World} (h : laidMetH Tryz.prog laid11 W) (hg : 10 ≤ W.heap.size) : HG W := by
  have h' : laidMet Tryz.prog laid11 W := h
  have h2 := h'.tail.tail
  have h4 := h2.tail.tail
  have h5 := h4.tail
  have h6 := h5.tail
  refine ⟨wd_of11 h6, ⟨?_, ?_, ?_⟩, sh_of11 h6.tail, hg⟩
  · have h3 : laidMet Tryz.prog (("internal/strconv.uint64pow10", Lib.tabData .u64 Lib.pow10Tab) :: [("unicode/utf8.acceptRanges", Rows.laid_unicode_utf8_acceptRanges), ("strconv.ErrRange", Rows.laid_strconv_ErrRange), ("strconv.ErrSyntax", Rows.laid_strconv_ErrSyntax), ("confluence/value.words", Rows.laid_confluence_value_words), ("confluence/expr.shapes", Rows.laid_confluence_expr_shapes), ("unicode/utf8.first", Rows.laid_unicode_utf8_first)]) W := h2
    exact Lib.tabIs_of_head tr_gP (by kernel_rfl) Tryz.underlying220 Tryz.underlying206 (by kernel_rfl) (by kernel_rfl) h3
  · obtain ⟨a, s, hv, _⟩ := laid_sentinel h5 tr_gS tr_gSt Tryz.underlying122 tr_rowES Tryz.underlying253 Tryz.underlying255 rfl rfl Tryz.underlying9 c_es c_str
    exact ⟨_, _, hv⟩
  · obtain ⟨a, s, hv, _⟩ := laid_sentinel h4 tr_gR tr_gRt Tryz.underlying122 tr_rowES Tryz.underlying253 Tryz.underlying255 rfl rfl Tryz.underlying9 c_es c_str
    exact ⟨_, _, hv⟩
theorem far11 {w : World} (h : w.ShapedOpen Tryz.prog) : 10 ≤ w.heap.size := by
  have hs : ((((begin Tryz.prog (fun _ _ => 0) default).world.heap[10 - 1]?).bind Obj.row?).isSome) = true := by kernel_rfl
  obtain ⟨⟨z, t⟩, hz⟩ := Option.isSome_iff_exists.1 hs
  have h2 : Tryz.prog.globals.size = 10 := by kernel_rfl
  obtain ⟨cs, hc, _⟩ := h.1 (10 - 1) z t (by rw [h2]; decide) hz
  have := (Array.getElem?_eq_some_iff.1 hc).1
  omega
end Go.Proofs.YtmaekkhmiafnmaaGreatDoor
namespace Go.Proofs.YtmaekkhmiafnmaaGreatDoor
open Go.ChangeShapes Go.WideShapes Go.RowKit Go.Deep
set_option maxRecDepth 100000
def firstC : Array Value := match (Go.Pinned.utf8First : DataW Unit) with
  | .agg l => (l.map fun d => match d with | .lit (.int k z) => Value.int k z | _ => Value.int .u8 0).toArray
  | _ => #[]
noncomputable def door11 (os : Os) : World :=
  { World.doorLaid Tryz.prog 400 os with heap := (World.doorLaid Tryz.prog 400 os).heap.setIfInBounds 8 (.cells firstC 257) }
theorem door11_met (os : Os) (args : Array Value) : laidMetH Tryz.prog laid11 ((door11 os).forCall (fun _ _ => 0) ⟨#[], args, []⟩).memory :=
  laidMet_of_run3 8 (by kernel_rfl) (by kernel_rfl) (by kernel_rfl)
end Go.Proofs.YtmaekkhmiafnmaaGreatDoor
namespace Go.Proofs.YtmaekkhmiafnmaaGreatDoor
open Go.ChangeShapes Go.WideShapes Go.RowKit Go.Deep
theorem laws_lifted (os : Os) (started : os.Started) (H : Type) (enc : TypeId × Value → H) :
    ReturnsInHanded {} Tryz.checked os 3 .any (fun w args => (Rows.exprLawsSpec.pre enc Tryz.prog Tryz.f3 [] false w args ∧ laidMetH Tryz.prog laid11 w) ∧ sizedMet enc Tryz.prog Tryz.f3 (OpenSpec.ofChange Rows.exprLawsSpec) false w args)
      (Rows.exprLawsSpec.post enc Tryz.prog Tryz.f3 false true false false) := by
  refine returnsInHanded_of_calls (C := Tryz.checked) tr_own started (by kernel_rfl)
    (ChangeSpec.witness_shaped (enc := enc) (C := Tryz.checked) (os := os) (X := fun w _ => laidMetH Tryz.prog laid11 w) false (door11 os) #[.slice none 0 0] 8 rfl (World.shaped_of_RefB (by kernel_rfl) (by kernel_rfl)) (by kernel_rfl) (by kernel_rfl) (by kernel_rfl) (door11_met os _)) ?_
  intro w tape i _ hsh _ hok hpre _
  obtain ⟨_, _, _, fn', hfn', _, _, _, _, hval0⟩ := hok
  obtain rfl : fn' = Tryz.f3 := Option.some.inj (hfn'.symm.trans Tryz.func3)
  obtain ⟨⟨⟨ds, gs, before, hW0, _⟩, hL0⟩, _⟩ := hpre
  have hW := DataW.Whole.of_heap (w' := w.forCall tape i) (by rfl) hW0
  have hL : laidMetH Tryz.prog laid11 (w.forCall tape i) := laidMetH.of_heap (by rfl) hL0
  have hG := of_laid11 hL (far11 hsh)
  obtain ⟨args, ha⟩ : ∃ a, a = i.args := ⟨_, rfl⟩
  rw [← ha] at hval0 hW ⊢
  obtain ⟨W, hWe⟩ : ∃ W, W = w.forCall tape i := ⟨_, rfl⟩
  rw [← hWe] at hval0 hW hG ⊢
  have hval : ∀ (j : Nat) t v, Tryz.f3.params[j]? = some t → args[j]? = some v → Value.okWide Tryz.prog W .any w.heap.size t v := hval0
  have hW' := hW
  obtain ⟨p, q, hA0, hV0, rfl, hfz, hnd⟩ := hW
  have hA : DataW.TrodAll enc Tryz.prog W 0 (fun _ => true) true Tryz.f3.params.toList args.toList ds p := hA0
  have hV : DataW.TrodVars enc Tryz.prog W (fun _ => true) [] gs q := hV0
  rw [Tryz.params3] at hA hval
  obtain ⟨v0, d0, rfl, rfl, h0⟩ := trodAll_one hA
  obtain ⟨vs, ro, rc, rfl, hr, hrn, hri, _⟩ := arg_row (okWide_slice Tryz.underlying23 (hval 0 23 v0 rfl rfl)) h0
  obtain ⟨rfl, rfl⟩ : gs = [] ∧ q = [] := by
    cases gs with
    | nil => exact ⟨rfl, hV⟩
    | cons g r => exact absurd hV (by intro h; cases h)
  have hlt : ∀ x ∈ p, x.block < W.heap.size := fun x hx => hW'.lt x (by simpa using hx)
  have e1 : Rows.exprLawsSpec.fn H ([d0] ++ []) = { results := [.lit (.bool true)], args := [d0] } := by simp [Rows.exprLawsSpec]
  refine (exprLaws_law vs (fun v hv => (hri v hv).1.2) ro rc W hG hr).mono fun e W' ⟨he, ht⟩ => ?_
  subst he
  refine ChangeSpec.post_blind ?_
  have hB : Below W.heap.size W W' := ht.below (Nat.le_refl _) (fun _ _ h => h)
  refine ⟨_, _, _, [], p, [], hW', ?_, ?_, ?_, hB.frame _, fun h => by cases h⟩
  · rw [e1]; exact trodAll_mk1 (shut_bool Tryz.underlying4 true)
  · rw [e1]; exact trodAll_mk1 (Below.trod tr_laidOut (by kernel_rfl) (of_decide_eq_true (by kernel_rfl)) h0 hB (fun x hx => hlt x hx))
  · rw [e1]; rfl
theorem laws_holds : Rows.ExprLawsSaid :=
  OpenClaim.holds_of_wide 3 Tryz.f3 rfl rfl rfl rfl rfl rfl rfl ⟨rfl, rfl, rfl, rfl, rfl⟩ rfl rfl rfl rfl rfl (by kernel_rfl) Tryz.func3 (by kernel_rfl)
    (of_decide_eq_true (by kernel_rfl)) (by unfold Func.isWrapper; rw [if_neg (of_decide_eq_false (by kernel_rfl))]; exact ⟨rfl, rfl⟩)
    (fun os started H enc _ => laws_lifted os started H enc)
theorem laws_card : Rows.ExprLawsCardSaid :=
  Claim7.holds_tied_plain_at .later [] [.data, .data, .data, .data, .sentinel, .sentinel, .data, .data, .pinned] true Rows.exprLawsCard.stood.harness true
    laws_holds (fun _ h => by cases h) (by kernel_rfl) (fun _ h => by cases h) exprLaws_row_tie rfl ⟨rfl, rfl⟩ (by kernel_rfl) rfl
    (fun f fn hf hfn => by
      obtain rfl : f = 3 := Option.some.inj ((show Tryz.prog.funcNamed "confluence/confluencelaw11.ExprLaws" = some 3 by kernel_rfl).symm.trans hf) |>.symm
      obtain rfl : fn = Tryz.f3 := (Option.some.inj (Tryz.func3.symm.trans hfn)).symm
      exact ⟨by kernel_rfl, fun j t ht => by
        rw [Tryz.params3] at ht
        have h3 : t = 23 := by
          rcases j with _ | j
          · simpa using ht.symm
          · simp at ht
        rw [h3]
        exact (show Tryz.prog.wantsStandIn 23 = false by kernel_rfl)
        ⟩)
    (by kernel_rfl)
#print axioms laws_card
end Go.Proofs.YtmaekkhmiafnmaaGreatDoor
