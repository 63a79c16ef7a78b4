/- ValueCompares: the row, and its card. -/
import Derived.Test.YtnjbkkccofjmgaaDoorVLift
import Derived.Test.YtnjbkkccofjmgaaDoorVRowArg
import Derived.Test.YtnjbkkccofjmgaaDoorTie
import Derived.Test.YtnjbkkccofjmgaaDoorCards
import Derived.SevenTiedAt
namespace Go.Proofs.YtnjbkkccofjmgaaDoor
open Go.ChangeShapes Go.WideShapes Go.RowKit Go.Deep

set_option maxRecDepth 100000 in
theorem compares_lifted (os : Os) (started : os.Started) (H : Type) (enc : TypeId × Value → H) :
    ReturnsInHanded {} Tryd.checked os 6 .any (fun w args => (Rows.valueComparesSpec.pre enc Tryd.prog Tryd.f6 [] false w args ∧ laidMetH Tryd.prog theLaid w) ∧ sizedMet enc Tryd.prog Tryd.f6 (OpenSpec.ofChange Rows.valueComparesSpec) false w args)
      (Rows.valueComparesSpec.post enc Tryd.prog Tryd.f6 false true false false) := by
  refine returnsInHanded_of_change_and (C := Tryd.checked) (X := fun w _ => laidMetH Tryd.prog theLaid w) (fun _ _ _ hh h => h.of_heap hh) tr_own started (by kernel_rfl) Tryd.func6
    (ChangeSpec.witness_shaped (enc := enc) (C := Tryd.checked) (os := os) (X := fun w _ => laidMetH Tryd.prog theLaid w) false (World.doorLaid Tryd.prog 400 os) #[.agg #[.int .i64 0, .int .i64 0, .string ⟨#[]⟩], .agg #[.int .i64 0, .int .i64 0, .string ⟨#[]⟩], .slice none 0 0, .slice none 0 0] 8 rfl (World.shaped_of_RefB (by kernel_rfl) (by kernel_rfl)) (by kernel_rfl) (by kernel_rfl) (by kernel_rfl) (door_met os _)) ?_
  intro W base args ds gs before hval0 hW _ hsz hL _
  have hval : ∀ (j : Nat) t v, Tryd.f6.params[j]? = some t → args[j]? = some v → Value.okWide Tryd.prog W .any base t v := hval0
  have hW' := hW
  obtain ⟨p, q, hA0, hV0, rfl, hfz, hnd⟩ := hW
  have hA : DataW.TrodAll enc Tryd.prog W 0 (fun _ => true) true Tryd.f6.params.toList args.toList ds p := hA0
  have hV : DataW.TrodVars enc Tryd.prog W (fun _ => true) [] gs q := hV0
  rw [Tryd.params6] at hA hval
  obtain ⟨v0, v1, v2, v3, d0, d1, d2, d3, p0, p1, p2, p3, rfl, rfl, rfl, h0, h1, h2, h3⟩ := trodAll_four hA
  obtain ⟨k, n, s, rfl, _, hs0⟩ := arg_val (hval 0 23 v0 rfl rfl) h0
  obtain ⟨k', n', s', rfl, _, hs1⟩ := arg_val (hval 1 23 v1 rfl rfl) h1
  obtain ⟨l, ro, c, rfl, hr, hrn, _, hrd⟩ := arg_row (okWide_slice Tryd.underlying36 (hval 2 36 v2 rfl rfl)) h2
  obtain ⟨m, so, e, rfl, hs, hsn, _, hsd⟩ := arg_row (okWide_slice Tryd.underlying36 (hval 3 36 v3 rfl rfl)) h3
  obtain ⟨hg, hwd⟩ := of_laid hL
  obtain ⟨rfl, rfl⟩ : gs = [] ∧ q = [] := by
    cases gs with
    | nil => exact ⟨rfl, hV⟩
    | cons g r => exact absurd hV (by intro h; cases h)
  have hll : l.length * 32 ≤ 140737488351232 := by
    by_cases h : l = []
    · subst h; simp
    · obtain ⟨es, sp, rfl, hel⟩ := hrd h
      have h9 : (es.length + sp.length) * Tryd.prog.bytesOf 23 ≤ reachBytes := sized_slice hsz (j := 2) (t := 36) (by rw [Tryd.params6]; rfl) rfl Tryd.underlying36
      rw [b_val, hel] at h9
      unfold reachBytes at h9
      omega
  have hlm : m.length * 32 ≤ 140737488351232 := by
    by_cases h : m = []
    · subst h; simp
    · obtain ⟨es, sp, rfl, hel⟩ := hsd h
      have h9 : (es.length + sp.length) * Tryd.prog.bytesOf 23 ≤ reachBytes := sized_slice hsz (j := 3) (t := 36) (by rw [Tryd.params6]; rfl) rfl Tryd.underlying36
      rw [b_val, hel] at h9
      unfold reachBytes at h9
      omega
  have hlt : ∀ x ∈ p0 ++ p1 ++ p2 ++ p3, x.block < W.heap.size := fun x hx => hW'.lt x (by simpa using hx)
  have e1 : Rows.valueComparesSpec.fn H ([d0, d1, d2, d3] ++ []) = { results := [.lit (.bool true)], args := [d0, d1, d2, d3] } := by simp [Rows.valueComparesSpec]
  refine (compares_law ⟨k, n, s⟩ ⟨k', n', s'⟩ l m ro so c e W hg hwd (by unfold maxLen at hs0; show s.size ≤ _; omega) (by unfold maxLen at hs1; show s'.size ≤ _; omega) hr hs hrn hsn hll hlm).mono fun e W' ⟨he, ht⟩ => ?_
  subst he
  have hB : Below W.heap.size W W' := ht.below (Nat.le_refl _) (fun _ _ h => h)
  refine ⟨_, rfl, _, _, _, [], p0 ++ p1 ++ p2 ++ p3, [], hW', ?_, ?_, ?_, hB.frame _, fun h => by cases h⟩
  · rw [e1]; exact trodAll_mk1 (shut_bool Tryd.underlying4 true)
  · rw [e1, List.append_assoc, List.append_assoc]; exact trodAll_mk4 (Below.trod tr_laidOut (by kernel_rfl) (of_decide_eq_true (by kernel_rfl)) h0 hB (fun x hx => hlt x (by simp [hx]))) (Below.trod tr_laidOut (by kernel_rfl) (of_decide_eq_true (by kernel_rfl)) h1 hB (fun x hx => hlt x (by simp [hx]))) (Below.trod tr_laidOut (by kernel_rfl) (of_decide_eq_true (by kernel_rfl)) h2 hB (fun x hx => hlt x (by simp [hx]))) (Below.trod tr_laidOut (by kernel_rfl) (of_decide_eq_true (by kernel_rfl)) h3 hB (fun x hx => hlt x (by simp [hx])))
  · rw [e1]; rfl

theorem compares_holds : Rows.ValueComparesSaid :=
  OpenClaim.holds_of_wide 6 Tryd.f6 rfl rfl rfl rfl rfl rfl rfl ⟨rfl, rfl, rfl, rfl, rfl⟩ rfl rfl rfl rfl rfl (by kernel_rfl) Tryd.func6 (by kernel_rfl)
    (of_decide_eq_true (by kernel_rfl)) (by unfold Func.isWrapper; rw [if_neg (of_decide_eq_false (by kernel_rfl))]; exact ⟨rfl, rfl⟩)
    (fun os started H enc _ => compares_lifted os started H enc)

theorem compares_card : Rows.ValueComparesCardSaid :=
  Claim7.holds_tied_plain_at .later [] [.data, .data, .data, .handle, .data] true Rows.valueComparesCard.stood.harness true
    compares_holds (fun _ h => by cases h) (by kernel_rfl) (fun _ h => by cases h) valueCompares_row_tie rfl ⟨rfl, rfl⟩ (by kernel_rfl) rfl
    (fun f fn hf hfn => by
      obtain rfl : f = 6 := Option.some.inj ((show Tryd.prog.funcNamed "confluence/confluencelaw4.ValueCompares" = some 6 by kernel_rfl).symm.trans hf) |>.symm
      obtain rfl : fn = Tryd.f6 := (Option.some.inj (Tryd.func6.symm.trans hfn)).symm
      exact ⟨by kernel_rfl, fun j t ht => by
        rw [Tryd.params6] at ht
        have h3 : t = 23 ∨ t = 36 := by
          rcases j with _ | _ | _ | _ | j
          · left; simpa using ht.symm
          · left; simpa using ht.symm
          · right; simpa using ht.symm
          · right; simpa using ht.symm
          · simp at ht
        rcases h3 with rfl | rfl
        · exact (show Tryd.prog.wantsStandIn 23 = false by kernel_rfl)
        · exact (show Tryd.prog.wantsStandIn 36 = false by kernel_rfl)
        ⟩)
    (by kernel_rfl)
#print axioms compares_card
end Go.Proofs.YtnjbkkccofjmgaaDoor
