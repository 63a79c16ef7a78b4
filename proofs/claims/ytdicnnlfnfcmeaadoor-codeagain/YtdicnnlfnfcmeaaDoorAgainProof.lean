/- CodeAgain: the row, and its card. -/
import Derived.Test.YtdicnnlfnfcmeaaDoorAgain3
import Derived.Test.YtdicnnlfnfcmeaaDoorTie
import Derived.Test.YtdicnnlfnfcmeaaDoorCards
import Derived.SevenTiedAt
namespace Go.Proofs.YtdicnnlfnfcmeaaDoor
open Go.ChangeShapes Go.WideShapes Go.RowKit Go.Deep
open Go.ChangeMaps (open_string shut_string)

theorem ints_of {H : Type} {enc : TypeId × Value → H} {W : World} {fuel : Nat} {ao : Option Addr} {len cap : Nat} {x : DataW H × List MemPlace}
    (h : DataW.trod enc Tryd.prog W 0 (fun _ => true) true fuel 22 [.slice ao len cap] = some x) :
    len = 0 ∨ ∃ b off, ao = some ⟨b, off, none⟩ ∧ Ints W b off len ∧ b < W.heap.size := by
  rcases Go.ChangeShapes.open_ints Tryd.underlying22 Tryd.underlying3 cells_op1 h with ⟨h1, _⟩ | ⟨a, len', cap', zs, h1, _, hl, _, hz, _, hc, hw⟩
  · simp at h1; exact Or.inl h1.2.1
  · simp only [List.cons.injEq, Value.slice.injEq, and_true] at h1
    obtain ⟨rfl, rfl, rfl⟩ := h1
    by_cases h0 : len = 0
    · exact Or.inl h0
    right
    have hz' : zs.length = cap := by simpa using hz
    obtain ⟨b, off, rfl, hcc⟩ := ints_at hc (by omega)
    refine ⟨b, off, rfl, ?_, ?_⟩
    · intro i hi
      have hi' : i < zs.length := by omega
      have hb := wf_i64 (hw (zs.getD i 0) (by
        rw [List.getD_eq_getElem?_getD, List.getElem?_eq_getElem hi']
        exact List.getElem_mem hi'))
      exact ⟨zs.getD i 0, hcc i hi', hb.1, hb.2⟩
    · exact cell_lt (hcc 0 (by omega))

theorem again_all {H : Type} {enc : TypeId × Value → H} (S : ByteArray) (v : Value) {d : DataW H} {p : List MemPlace} (W : World) (hg : HE W) (hS : S.size + 4096 ≤ 140737488355328)
    (hv : ∃ a len cap, v = .slice a len cap) (h : DataW.Trod enc Tryd.prog W 0 (fun _ => true) true 22 v d p) :
    Calls Tryd.prog 3 #[.string S, v] W fun x W' => x = .returned (.bool true) ∧ Tch (fun _ => False) W W' := by
  obtain ⟨ao, len, cap, rfl⟩ := hv
  obtain ⟨fuel, hf⟩ := h
  rcases ints_of hf with rfl | ⟨b, off, rfl, ho, hb⟩
  · exact again_zero S ao cap W hg
  · exact again_any S b off len cap W hg hS ho hb

set_option maxRecDepth 100000 in
theorem again_lifted (os : Os) (started : os.Started) (H : Type) (enc : TypeId × Value → H) :
    ReturnsInHanded {} Tryd.checked os 3 .any (fun w args => (Rows.codeAgainSpec.pre enc Tryd.prog Tryd.f3 [] false w args ∧ laidMetH Tryd.prog theLaid w) ∧ sizedMet enc Tryd.prog Tryd.f3 (OpenSpec.ofChange Rows.codeAgainSpec) false w args)
      (Rows.codeAgainSpec.post enc Tryd.prog Tryd.f3 false true false false) := by
  refine returnsInHanded_of_change_and (C := Tryd.checked) (X := fun w _ => laidMetH Tryd.prog theLaid w) (fun _ _ _ hh h => h.of_heap hh) tr_own started (by kernel_rfl) Tryd.func3
    (ChangeSpec.witness_at (enc := enc) (C := Tryd.checked) (os := os) (X := fun w _ => laidMetH Tryd.prog theLaid w) false (laidWorld os) #[.string ⟨#[]⟩, .slice none 0 0] 8 rfl (by kernel_rfl) (by kernel_rfl) (by kernel_rfl) (by kernel_rfl) (by kernel_rfl) (laidWorld_met os _)) ?_
  intro W base args ds gs before hval0 hW _ hsz hL _
  have hval : ∀ (j : Nat) t v, Tryd.f3.params[j]? = some t → args[j]? = some v → Value.okWide Tryd.prog W .any base t v := hval0
  have hW' := hW
  obtain ⟨p, q, hA0, hV0, rfl, hfz, hnd⟩ := hW
  have hA : DataW.TrodAll enc Tryd.prog W 0 (fun _ => true) true Tryd.f3.params.toList args.toList ds p := hA0
  have hV : DataW.TrodVars enc Tryd.prog W (fun _ => true) [] gs q := hV0
  rw [Tryd.params3] at hA hval
  obtain ⟨v0, v1, d0, d1, p0, p1, rfl, rfl, rfl, h0, h1⟩ := trodAll_two hA
  have h1k := h1
  obtain ⟨s0, rfl, rfl, rfl, ws0⟩ := open_string Tryd.underlying9 (hval 0 9 v0 rfl rfl) h0
  have hsl := okWide_slice Tryd.underlying22 (hval 1 22 v1 rfl rfl)
  have hg := handle_of_laid hL
  obtain ⟨rfl, rfl⟩ : gs = [] ∧ q = [] := by
    cases gs with
    | nil => exact ⟨rfl, hV⟩
    | cons g r => exact absurd hV (by intro h; cases h)
  have z0 : s0.size + 4096 ≤ 140737488355328 := by
    have h9 := sized_string hsz (j := 0) (t := 9) (by rw [Tryd.params3]; rfl) rfl
    have h8 : reachBytes + 4096 ≤ 140737488355328 := by decide
    have h7 : s0.data.toList.length = s0.size := Array.length_toList
    omega
  have hlt : ∀ x ∈ p1, x.block < W.heap.size := fun x hx => hW'.lt x (by simpa using hx)
  have e1 : Rows.codeAgainSpec.fn H ([.lit (.string s0.data.toList), d1] ++ []) = { results := [.lit (.bool true)], args := [.lit (.string s0.data.toList), d1] } := by simp [Rows.codeAgainSpec]
  refine (again_all s0 v1 W hg z0 hsl h1k).mono fun e W' ⟨he, ht⟩ => ?_
  subst he
  have hB : Below W.heap.size W W' := ht.below (Nat.le_refl _) (fun _ _ h => h)
  refine ⟨_, rfl, _, _, _, [], [] ++ p1, [], hW', ?_, ?_, ?_, hB.frame _, fun h => by cases h⟩
  · rw [e1]; exact trodAll_mk1 (shut_bool Tryd.underlying4 true)
  · rw [e1]; exact trodAll_mk2 (shut_string Tryd.underlying9 ws0) (Below.trod tr_laidOut (by kernel_rfl) (of_decide_eq_true (by kernel_rfl)) h1k hB hlt)
  · rw [e1]; rfl

theorem again_holds : Rows.CodeAgainSaid :=
  OpenClaim.holds_of_wide 3 Tryd.f3 rfl rfl rfl rfl rfl rfl rfl ⟨rfl, rfl, rfl, rfl, rfl⟩ rfl rfl rfl rfl rfl (by kernel_rfl) Tryd.func3 (by kernel_rfl)
    (of_decide_eq_true (by kernel_rfl)) (by unfold Func.isWrapper; rw [if_neg (of_decide_eq_false (by kernel_rfl))]; exact ⟨rfl, rfl⟩)
    (fun os started H enc _ => again_lifted os started H enc)

theorem again_card : Rows.CodeAgainCardSaid :=
  Claim7.holds_tied_plain_at .later [] [.handle] true Rows.codeAgainCard.stood.harness true
    again_holds (fun _ h => by cases h) (by kernel_rfl) (fun _ h => by cases h) codeAgain_row_tie rfl ⟨rfl, rfl⟩ (by kernel_rfl) rfl
    (fun f fn hf hfn => by
      obtain rfl : f = 3 := Option.some.inj ((show Tryd.prog.funcNamed "confluence/confluencelaw1.CodeAgain" = some 3 by kernel_rfl).symm.trans hf) |>.symm
      obtain rfl : fn = Tryd.f3 := (Option.some.inj (Tryd.func3.symm.trans hfn)).symm
      exact ⟨by kernel_rfl, fun j t ht => by
        rw [Tryd.params3] at ht
        have h3 : t = 9 ∨ t = 22 := by
          rcases j with _ | _ | j
          · left; simpa using ht.symm
          · right; simpa using ht.symm
          · simp at ht
        rcases h3 with rfl | rfl
        · exact (show Tryd.prog.wantsStandIn 9 = false by kernel_rfl)
        · exact (show Tryd.prog.wantsStandIn 22 = false by kernel_rfl)⟩)
    (by kernel_rfl)
#print axioms again_card
end Go.Proofs.YtdicnnlfnfcmeaaDoor
