/- ValueKeys: the law, the row, and its card. -/
import Derived.Test.YtnjbkkccofjmgaaDoorVLift
import Derived.Test.YtnjbkkccofjmgaaDoorVKey3
import Derived.Test.YtnjbkkccofjmgaaDoorVKey4
import Derived.Test.YtnjbkkccofjmgaaDoorTie
import Derived.Test.YtnjbkkccofjmgaaDoorCards
import Derived.SevenTiedAt
namespace Go.Proofs.YtnjbkkccofjmgaaDoor
open Go.ChangeShapes Go.WideShapes Go.RowKit Go.Deep
open Go.ChangeMaps (open_string shut_string)

set_option maxHeartbeats 2000000 in
set_option maxRecDepth 100000 in
theorem keys_law (k n : Int) (s S : ByteArray) (w : World) (hg : HE w) (hw : HWd w) (hi : (Val.mk k n s).i64) (hS : S.size ≤ 281474976710656) :
    Calls Tryd.prog 4 #[vA k n s, .string S] w fun x w' => x = .returned (.bool true) ∧ Tch (fun _ => False) w w' := by
  have T0 : Tch (fun _ => False) w (w.alloc (.cells #[.int .i64 k, .int .i64 n, .string s] 23)) := Tch.alloc _ _ _
  have hkn := known_any _ (hg.tch T0 (fun h => h)) (hw.tch T0 (fun h => h))
  obtain ⟨⟨vk, vn, vs⟩, hv⟩ : ∃ v, v = (unk S).1 := ⟨_, rfl⟩
  obtain ⟨d, hd1, hd⟩ := eql_val ⟨vk, vn, vs⟩ ⟨vk, vn, vs⟩
  obtain rfl : d = true := hd1.2 rfl
  clear hd1
  simp only at hd
  have HA : Hid (∀ W, Calls Tryd.prog 11 #[vA k n s] W fun x w' => x = .returned (.tuple #[.string ⟨(keyP ⟨k, n, s⟩).1.toArray⟩, .int .i64 (keyP ⟨k, n, s⟩).2]) ∧ Tch (fun _ => False) W w') := fun W => key_any k n s W hi
  have HB : Hid (∀ W, Calls Tryd.prog 12 #[vA k n s] W fun x w' => x = .returned (.tuple #[.string ⟨(keyP ⟨k, n, s⟩).1.toArray⟩, .int .i64 (keyP ⟨k, n, s⟩).2]) ∧ Tch (fun _ => False) W w') := fun W => rkey_any k n s W hi
  have HC : Hid (∀ W, Calls Tryd.prog 13 #[.string S] W fun x w' => x = .returned (.tuple #[vA vk vn vs, .int .i64 (unk S).2]) ∧ Tch (fun _ => False) W w') := fun W => by have := unkey_any S W hS; rw [← hv] at this; exact this
  have HD : Hid (∀ W, Calls Tryd.prog 14 #[.string S] W fun x w' => x = .returned (.tuple #[vA vk vn vs, .int .i64 (unk S).2]) ∧ Tch (fun _ => False) W w') := fun W => by have := runkey_any S W hS; rw [← hv] at this; exact this
  clear hv
  generalize (unk S).2 = e1 at HC HD
  generalize (⟨(keyP ⟨k, n, s⟩).1.toArray⟩ : ByteArray) = K at HA HB
  generalize (keyP ⟨k, n, s⟩).2 = e2 at HA HB
  clear hg hw hi
  go_enter Tryd.func4, Tryd.ntmps4
  go_wp2_with fail
  refine hkn.mono ?_
  rintro x w1 ⟨rfl, t1⟩
  obtain ⟨c0, c1, c2⟩ := box_tch t1
  have T1 := T0.trans' t1
  clear hkn t1 T0
  go_wp2_with fail
  refine (HA.out w1).mono ?_
  rintro x w2 ⟨rfl, t2⟩
  have b0 : w.heap.size < w1.heap.size := cell_lt c0
  have d0 := (t2.cell (p := ⟨w.heap.size, 0, none⟩) b0 (fun h => h)).trans c0
  have d1 := (t2.cell (p := ⟨w.heap.size, 1, none⟩) b0 (fun h => h)).trans c1
  have d2 := (t2.cell (p := ⟨w.heap.size, 2, none⟩) b0 (fun h => h)).trans c2
  have T2 := T1.trans' t2
  clear c0 c1 c2 b0 t2 T1
  go_wp2_with fail
  refine (HB.out w2).mono ?_
  rintro x w3 ⟨rfl, t3⟩
  have T3 := T2.trans' t3
  clear t3 T2 d0 d1 d2
  go_wp2_with fail
  refine (HC.out w3).mono ?_
  rintro x w4 ⟨rfl, t4⟩
  have T4 := T3.trans' t4
  clear t4 T3
  obtain ⟨w5, hw5⟩ : ∃ w5, w5 = w4.alloc (.cells #[.int .i64 vk, .int .i64 vn, .string vs] 23) := ⟨_, rfl⟩
  have hz5 : w5.heap.size = w4.heap.size + 1 := by rw [hw5]; simp
  go_wp2_with fail
  rw [← hw5]
  refine (HD.out w5).mono ?_
  rintro x w6 ⟨rfl, t6⟩
  obtain ⟨c0, c1, c2⟩ := box_tch (by rw [hw5] at t6; exact t6)
  have T6 := (T4.trans' (by rw [hw5]; exact Tch.alloc _ _ _ : Tch (fun _ => False) w4 w5)).trans' t6
  have b0 : w4.heap.size < w6.heap.size := cell_lt c0
  clear hw5 hz5 t6 T4
  go_wp2_with fail
  go_ret
  exact ⟨rfl, T6.allocR _⟩

set_option maxRecDepth 100000 in
theorem keys_lifted (os : Os) (started : os.Started) (H : Type) (enc : TypeId × Value → H) :
    ReturnsInHanded {} Tryd.checked os 4 .any (fun w args => (Rows.valueKeysSpec.pre enc Tryd.prog Tryd.f4 [] false w args ∧ laidMetH Tryd.prog theLaid w) ∧ sizedMet enc Tryd.prog Tryd.f4 (OpenSpec.ofChange Rows.valueKeysSpec) false w args)
      (Rows.valueKeysSpec.post enc Tryd.prog Tryd.f4 false true false false) := by
  refine returnsInHanded_of_change_and (C := Tryd.checked) (X := fun w _ => laidMetH Tryd.prog theLaid w) (fun _ _ _ hh h => h.of_heap hh) tr_own started (by kernel_rfl) Tryd.func4
    (ChangeSpec.witness_shaped (enc := enc) (C := Tryd.checked) (os := os) (X := fun w _ => laidMetH Tryd.prog theLaid w) false (World.doorLaid Tryd.prog 400 os) #[.agg #[.int .i64 0, .int .i64 0, .string ⟨#[]⟩], .string ⟨#[]⟩] 8 rfl (World.shaped_of_RefB (by kernel_rfl) (by kernel_rfl)) (by kernel_rfl) (by kernel_rfl) (by kernel_rfl) (door_met os _)) ?_
  intro W base args ds gs before hval0 hW _ hsz hL _
  have hval : ∀ (j : Nat) t v, Tryd.f4.params[j]? = some t → args[j]? = some v → Value.okWide Tryd.prog W .any base t v := hval0
  have hW' := hW
  obtain ⟨p, q, hA0, hV0, rfl, hfz, hnd⟩ := hW
  have hA : DataW.TrodAll enc Tryd.prog W 0 (fun _ => true) true Tryd.f4.params.toList args.toList ds p := hA0
  have hV : DataW.TrodVars enc Tryd.prog W (fun _ => true) [] gs q := hV0
  rw [Tryd.params4] at hA hval
  obtain ⟨v0, v1, d0, d1, p0, p1, rfl, rfl, rfl, h0, h1⟩ := trodAll_two hA
  obtain ⟨k, n, s, rfl, hi, _⟩ := arg_val (hval 0 23 v0 rfl rfl) h0
  obtain ⟨S, rfl, rfl, rfl, ws⟩ := open_string Tryd.underlying9 (hval 1 9 v1 rfl rfl) h1
  have z1 : S.size ≤ 281474976710656 := by
    have h9 := sized_string hsz (j := 1) (t := 9) (by rw [Tryd.params4]; rfl) rfl
    have h8 : reachBytes + 4096 ≤ 140737488355328 := by decide
    have h7 : S.data.toList.length = S.size := Array.length_toList
    omega
  obtain ⟨hg, hwd⟩ := of_laid hL
  obtain ⟨rfl, rfl⟩ : gs = [] ∧ q = [] := by
    cases gs with
    | nil => exact ⟨rfl, hV⟩
    | cons g r => exact absurd hV (by intro h; cases h)
  have hlt : ∀ x ∈ p0 ++ [], x.block < W.heap.size := fun x hx => hW'.lt x (by simpa using hx)
  have e1 : Rows.valueKeysSpec.fn H ([d0, .lit (.string S.data.toList)] ++ []) = { results := [.lit (.bool true)], args := [d0, .lit (.string S.data.toList)] } := by simp [Rows.valueKeysSpec]
  refine (keys_law k n s S W hg hwd hi z1).mono fun e W' ⟨he, ht⟩ => ?_
  subst he
  have hB : Below W.heap.size W W' := ht.below (Nat.le_refl _) (fun _ _ h => h)
  refine ⟨_, rfl, _, _, _, [], p0 ++ [], [], hW', ?_, ?_, ?_, hB.frame _, fun h => by cases h⟩
  · rw [e1]; exact trodAll_mk1 (shut_bool Tryd.underlying4 true)
  · rw [e1]; exact trodAll_mk2 (Below.trod tr_laidOut (by kernel_rfl) (of_decide_eq_true (by kernel_rfl)) h0 hB (fun x hx => hlt x (by simp [hx]))) (Below.trod tr_laidOut (by kernel_rfl) (of_decide_eq_true (by kernel_rfl)) h1 hB (fun x hx => by cases hx))
  · rw [e1]; rfl

theorem keys_holds : Rows.ValueKeysSaid :=
  OpenClaim.holds_of_wide 4 Tryd.f4 rfl rfl rfl rfl rfl rfl rfl ⟨rfl, rfl, rfl, rfl, rfl⟩ rfl rfl rfl rfl rfl (by kernel_rfl) Tryd.func4 (by kernel_rfl)
    (of_decide_eq_true (by kernel_rfl)) (by unfold Func.isWrapper; rw [if_neg (of_decide_eq_false (by kernel_rfl))]; exact ⟨rfl, rfl⟩)
    (fun os started H enc _ => keys_lifted os started H enc)

theorem keys_card : Rows.ValueKeysCardSaid :=
  Claim7.holds_tied_plain_at .later [] [.data, .data, .data, .handle, .data] true Rows.valueKeysCard.stood.harness true
    keys_holds (fun _ h => by cases h) (by kernel_rfl) (fun _ h => by cases h) valueKeys_row_tie rfl ⟨rfl, rfl⟩ (by kernel_rfl) rfl
    (fun f fn hf hfn => by
      obtain rfl : f = 4 := Option.some.inj ((show Tryd.prog.funcNamed "confluence/confluencelaw4.ValueKeys" = some 4 by kernel_rfl).symm.trans hf) |>.symm
      obtain rfl : fn = Tryd.f4 := (Option.some.inj (Tryd.func4.symm.trans hfn)).symm
      exact ⟨by kernel_rfl, fun j t ht => by
        rw [Tryd.params4] at ht
        have h3 : t = 23 ∨ t = 9 := by
          rcases j with _ | _ | j
          · left; simpa using ht.symm
          · right; simpa using ht.symm
          · simp at ht
        rcases h3 with rfl | rfl
        · exact (show Tryd.prog.wantsStandIn 23 = false by kernel_rfl)
        · exact (show Tryd.prog.wantsStandIn 9 = false by kernel_rfl)
        ⟩)
    (by kernel_rfl)
#print axioms keys_card
end Go.Proofs.YtnjbkkccofjmgaaDoor
