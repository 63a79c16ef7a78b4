/- ValueFits: the law, the row, and its card. -/
import Derived.Test.YtnjbkkccofjmgaaDoorVLift
import Derived.Test.YtnjbkkccofjmgaaDoorBarv
import Derived.Test.YtnjbkkccofjmgaaDoorTie
import Derived.Test.YtnjbkkccofjmgaaDoorCards
import Derived.SevenTiedAt
namespace Go.Proofs.YtnjbkkccofjmgaaDoor
open Go.ChangeShapes Go.WideShapes Go.RowKit Go.Deep
open Go.ChangeMaps (open_string shut_string)

set_option maxHeartbeats 2000000 in
set_option maxRecDepth 100000 in
theorem fits_law (k n : Int) (s nm : ByteArray) (ck : Int) (cn : Bool) (w : World) (hg : HE w) (hw : HWd w) :
    Calls Tryd.prog 3 #[vA k n s, cA nm ck cn] w fun x w' => x = .returned (.bool true) ∧ Tch (fun _ => False) w w' := by
  obtain ⟨w0, hw0⟩ : ∃ w0, w0 = (w.alloc (.cells #[.int .i64 k, .int .i64 n, .string s] 23)).alloc (.cells #[.string nm, .int .i64 ck, .bool cn] 25) := ⟨_, rfl⟩
  have T0 : Tch (fun _ => False) w w0 := by rw [hw0]; exact (Tch.alloc _ _ _).allocR _
  have hkn := known_any w0 (hg.tch T0 (fun h => h)) (hw.tch T0 (fun h => h))
  obtain ⟨C, hC⟩ : ∃ C : List Value → World → Prop, C = fun _ W => Tch (fun _ => False) w0 W := ⟨_, rfl⟩
  have hc : ∀ s' W, C s' W → (W.cell? ⟨w.heap.size, 0, none⟩ = some (.int .i64 k) ∧ W.cell? ⟨w.heap.size, 1, none⟩ = some (.int .i64 n) ∧ W.cell? ⟨w.heap.size, 2, none⟩ = some (.string s)) ∧ W.cell? ⟨w.heap.size + 1, 0, none⟩ = some (.string nm) ∧ W.cell? ⟨w.heap.size + 1, 1, none⟩ = some (.int .i64 ck) ∧ W.cell? ⟨w.heap.size + 1, 2, none⟩ = some (.bool cn) := fun s' W h => by
    rw [hC, hw0] at h; exact box_tch2 h
  obtain ⟨E, hE⟩ : ∃ E, E = fitE ⟨k, n, s⟩ ck cn := ⟨_, rfl⟩
  have hA : ∀ s' W, C s' W → Calls Tryd.prog 9 #[vA k n s, cA nm ck cn] W fun x w' => x = .returned (.int .i64 E) ∧ C s' w' := fun s' W h => by
    rw [hC] at h ⊢; rw [hE]
    refine (fits_any k n s nm ck cn W).mono ?_
    rintro x w' ⟨hx, t⟩
    exact ⟨hx, h.trans' t⟩
  have hB : ∀ s' W, C s' W → Calls Tryd.prog 10 #[vA k n s, cA nm ck cn] W fun x w' => x = .returned (.int .i64 E) ∧ C s' w' := fun s' W h => by
    rw [hC] at h ⊢; rw [hE]
    refine (rfits_any k n s nm ck cn W).mono ?_
    rintro x w' ⟨hx, t⟩
    exact ⟨hx, h.trans' t⟩
  have HS : Hid (∀ W, Tch (fun _ => False) w0 W → C [] W.drew) := fun W t => by rw [hC]; exact t.drew
  have hend : ∀ s' W, C s' W → Tch (fun _ => False) w W := fun s' W h => by rw [hC] at h; exact T0.trans' h
  clear hC hE hg hw T0
  go_enter Tryd.func3, Tryd.ntmps3
  go_wp2_with fail
  rw [← hw0]
  refine hkn.mono ?_
  rintro x w1 ⟨rfl, t1⟩
  have s0 := HS.out w1 t1
  clear hw0 t1 HS hkn
  go_wp2_with fail
  refine wp_region_barv [] C (by kernel_rfl) (by kernel_rfl) (by kernel_rfl) s0 ?_
  clear s0
  iterate 4 (refine barv_read (by go_simp) (by rfl) ?_
             apply Exists.intro
             refine ⟨fun s' W hW b K Q hK => ?_, fun K hK => ?_⟩
             obtain ⟨⟨q0, q1, q2⟩, q3, q4, q5⟩ := hc _ W hW
             go_simp
             exact hK W hW
             go_simp
             refine hK _ ?_
             clear hK K)
  refine barv_read (by go_simp) (by rfl) ?_
  apply Exists.intro
  refine ⟨fun s' W hW b K Q hK => ?_, fun K hK => ?_⟩
  go_simp
  go_at_call 9
  refine (hA _ W hW).mono ?_
  rintro x w' ⟨rfl, h1⟩
  exact hK _ h1
  go_simp
  refine hK _ ?_
  clear hK K
  iterate 2 (refine barv_read (by go_simp) (by rfl) ?_
             apply Exists.intro
             refine ⟨fun s' W hW b K Q hK => ?_, fun K hK => ?_⟩
             obtain ⟨⟨q0, q1, q2⟩, q3, q4, q5⟩ := hc _ W hW
             go_simp
             exact hK W hW
             go_simp
             refine hK _ ?_
             clear hK K)
  refine barv_read (by go_simp) (by rfl) ?_
  apply Exists.intro
  refine ⟨fun s' W hW b K Q hK => ?_, fun K hK => ?_⟩
  go_simp
  go_at_call 10
  refine (hB _ W hW).mono ?_
  rintro x w' ⟨rfl, h1⟩
  exact hK _ h1
  go_simp
  refine hK _ ?_
  clear hK K
  iterate 3 (refine barv_read (by go_simp) (by rfl) ?_
             apply Exists.intro
             refine ⟨fun s' W hW b K Q hK => ?_, fun K hK => ?_⟩
             go_simp
             exact hK W hW
             go_simp
             refine hK _ ?_
             clear hK K)
  refine barv_nil ?_
  intro w2 hw2
  have HT : Hid _ := hend _ w2 hw2
  clear hw2 hend hc hA hB
  go_wp2
  go_ret
  exact ⟨rfl, HT.out⟩

set_option maxRecDepth 100000 in
theorem fits_lifted (os : Os) (started : os.Started) (H : Type) (enc : TypeId × Value → H) :
    ReturnsInHanded {} Tryd.checked os 3 .any (fun w args => (Rows.valueFitsSpec.pre enc Tryd.prog Tryd.f3 [] false w args ∧ laidMetH Tryd.prog theLaid w) ∧ sizedMet enc Tryd.prog Tryd.f3 (OpenSpec.ofChange Rows.valueFitsSpec) false w args)
      (Rows.valueFitsSpec.post enc Tryd.prog Tryd.f3 false true false false) := by
  refine returnsInHanded_of_change_and (C := Tryd.checked) (X := fun w _ => laidMetH Tryd.prog theLaid w) (fun _ _ _ hh h => h.of_heap hh) tr_own started (by kernel_rfl) Tryd.func3
    (ChangeSpec.witness_shaped (enc := enc) (C := Tryd.checked) (os := os) (X := fun w _ => laidMetH Tryd.prog theLaid w) false (World.doorLaid Tryd.prog 400 os) #[.agg #[.int .i64 0, .int .i64 0, .string ⟨#[]⟩], .agg #[.string ⟨#[]⟩, .int .i64 0, .bool false]] 8 rfl (World.shaped_of_RefB (by kernel_rfl) (by kernel_rfl)) (by kernel_rfl) (by kernel_rfl) (by kernel_rfl) (door_met os _)) ?_
  intro W base args ds gs before hval0 hW _ hsz hL _
  have hval : ∀ (j : Nat) t v, Tryd.f3.params[j]? = some t → args[j]? = some v → Value.okWide Tryd.prog W .any base t v := hval0
  have hW' := hW
  obtain ⟨p, q, hA0, hV0, rfl, hfz, hnd⟩ := hW
  have hA : DataW.TrodAll enc Tryd.prog W 0 (fun _ => true) true Tryd.f3.params.toList args.toList ds p := hA0
  have hV : DataW.TrodVars enc Tryd.prog W (fun _ => true) [] gs q := hV0
  rw [Tryd.params3] at hA hval
  obtain ⟨v0, v1, d0, d1, p0, p1, rfl, rfl, rfl, h0, h1⟩ := trodAll_two hA
  obtain ⟨k, n, s, rfl, _⟩ := arg_val (hval 0 23 v0 rfl rfl) h0
  obtain ⟨nm, ck, cn, rfl⟩ := arg_col (hval 1 25 v1 rfl rfl) h1
  obtain ⟨hg, hwd⟩ := of_laid hL
  obtain ⟨rfl, rfl⟩ : gs = [] ∧ q = [] := by
    cases gs with
    | nil => exact ⟨rfl, hV⟩
    | cons g r => exact absurd hV (by intro h; cases h)
  have hlt : ∀ x ∈ p0 ++ p1, x.block < W.heap.size := fun x hx => hW'.lt x (by simpa using hx)
  have e1 : Rows.valueFitsSpec.fn H ([d0, d1] ++ []) = { results := [.lit (.bool true)], args := [d0, d1] } := by simp [Rows.valueFitsSpec]
  refine (fits_law k n s nm ck cn W hg hwd).mono fun e W' ⟨he, ht⟩ => ?_
  subst he
  have hB : Below W.heap.size W W' := ht.below (Nat.le_refl _) (fun _ _ h => h)
  refine ⟨_, rfl, _, _, _, [], p0 ++ p1, [], hW', ?_, ?_, ?_, hB.frame _, fun h => by cases h⟩
  · rw [e1]; exact trodAll_mk1 (shut_bool Tryd.underlying4 true)
  · rw [e1]; exact trodAll_mk2 (Below.trod tr_laidOut (by kernel_rfl) (of_decide_eq_true (by kernel_rfl)) h0 hB (fun x hx => hlt x (by simp [hx]))) (Below.trod tr_laidOut (by kernel_rfl) (of_decide_eq_true (by kernel_rfl)) h1 hB (fun x hx => hlt x (by simp [hx])))
  · rw [e1]; rfl

theorem fits_holds : Rows.ValueFitsSaid :=
  OpenClaim.holds_of_wide 3 Tryd.f3 rfl rfl rfl rfl rfl rfl rfl ⟨rfl, rfl, rfl, rfl, rfl⟩ rfl rfl rfl rfl rfl (by kernel_rfl) Tryd.func3 (by kernel_rfl)
    (of_decide_eq_true (by kernel_rfl)) (by unfold Func.isWrapper; rw [if_neg (of_decide_eq_false (by kernel_rfl))]; exact ⟨rfl, rfl⟩)
    (fun os started H enc _ => fits_lifted os started H enc)

theorem fits_card : Rows.ValueFitsCardSaid :=
  Claim7.holds_tied_plain_at .later [] [.data, .data, .data, .handle, .data] true Rows.valueFitsCard.stood.harness true
    fits_holds (fun _ h => by cases h) (by kernel_rfl) (fun _ h => by cases h) valueFits_row_tie rfl ⟨rfl, rfl⟩ (by kernel_rfl) rfl
    (fun f fn hf hfn => by
      obtain rfl : f = 3 := Option.some.inj ((show Tryd.prog.funcNamed "confluence/confluencelaw4.ValueFits" = some 3 by kernel_rfl).symm.trans hf) |>.symm
      obtain rfl : fn = Tryd.f3 := (Option.some.inj (Tryd.func3.symm.trans hfn)).symm
      exact ⟨by kernel_rfl, fun j t ht => by
        rw [Tryd.params3] at ht
        have h3 : t = 25 ∨ t = 23 := by
          rcases j with _ | _ | j
          · right; simpa using ht.symm
          · left; simpa using ht.symm
          · simp at ht
        rcases h3 with rfl | rfl
        · exact (show Tryd.prog.wantsStandIn 25 = false by kernel_rfl)
        · exact (show Tryd.prog.wantsStandIn 23 = false by kernel_rfl)
        ⟩)
    (by kernel_rfl)
#print axioms fits_card
end Go.Proofs.YtnjbkkccofjmgaaDoor
