import Derived.Test.YtececlalnkiafaaHArg
import Derived.Test.YtececlalnkiafaaHSyW
/- HistoryStays: the row. -/
namespace Go.Proofs.Ytececlalnkiafaa
open Go.ChangeShapes Go.WideShapes Go.ChangeAt Go.RowKit Go.Deep

theorem c_act : Try.prog.cellsOf 32 = 3 := by kernel_rfl
def AcR (a : Ac) : Prop := inR a.k ∧ inR a.i ∧ inR a.s
instance : Inhabited {a : Ac // AcR a} := ⟨⟨⟨0, 0, 0⟩, by unfold AcR inR; exact ⟨by decide, by decide, by decide⟩⟩⟩
theorem f3_acl (l : List {a : Ac // AcR a}) : f3 (fun a : {a : Ac // AcR a} => Value.int .i64 a.1.k) (fun a => .int .i64 a.1.i) (fun a => .int .i64 a.1.s) l = acl (l.map Subtype.val) := by
  unfold acl f3
  rw [List.flatMap_map]
section
variable {H : Type} {enc : TypeId × Value → H} {W : World} {fuel : Nat} {x : DataW H × List MemPlace} {cs : List Value}
theorem act_of (h : DataW.trod enc Try.prog W 0 (fun _ => true) true fuel 32 cs = some x) : ∃ a : {a : Ac // AcR a}, cs = [.int .i64 a.1.k, .int .i64 a.1.i, .int .i64 a.1.s] := by
  obtain ⟨xs, n', _, hx, hcl, hxl, hf⟩ := DataW.trod_struct Try.underlying32 h
  rw [c_act] at hcl
  have hxs : xs.length = 3 := hxl
  obtain ⟨c0, c1, c2, rfl⟩ := list3 cs hcl
  obtain ⟨y0, y1, y2, rfl⟩ := list3 xs hxs
  have f0 : DataW.trod enc Try.prog W 0 (fun _ => true) true n' 3 [c0] = some y0 := by have := hf 0 _ rfl; simpa [c_int] using this
  have f1 : DataW.trod enc Try.prog W 0 (fun _ => true) true n' 3 [c1] = some y1 := by have := hf 1 _ rfl; simpa [c_int] using this
  have f2 : DataW.trod enc Try.prog W 0 (fun _ => true) true n' 3 [c2] = some y2 := by have := hf 2 _ rfl; simpa [c_int] using this
  obtain ⟨k, e0, g0, wk⟩ := DataW.trod_int Try.underlying3 f0
  obtain ⟨n, e1, g1, wn⟩ := DataW.trod_int Try.underlying3 f1
  obtain ⟨s, e2, g2, ws⟩ := DataW.trod_int Try.underlying3 f2
  simp at e0 e1 e2
  subst e0 e1 e2
  exact ⟨⟨⟨k, n, s⟩, wf_i64 wk, wf_i64 wn, wf_i64 ws⟩, rfl⟩
theorem acts_of {ao : Option Addr} {len cap : Nat} (h : DataW.trod enc Try.prog W 0 (fun _ => true) true fuel 22 [.slice ao len cap] = some x) :
    ∃ L : List Ac, len = L.length ∧ SL W ao (acl L) ∧ ∀ a ∈ L, inR a.k ∧ inR a.i ∧ inR a.s := by
  obtain ⟨vs, rfl, hs, _⟩ := list_of (fun a : {a : Ac // AcR a} => Value.int .i64 a.1.k) (fun a => .int .i64 a.1.i) (fun a => .int .i64 a.1.s) Try.underlying22 c_act (fun h => act_of h) h
  rw [f3_acl] at hs
  refine ⟨vs.map Subtype.val, by rw [List.length_map], hs, fun a ha => ?_⟩
  obtain ⟨b, _, rfl⟩ := List.mem_map.1 ha
  exact b.2
end
set_option maxRecDepth 100000 in
theorem stays_lifted (os : Os) (started : os.Started) (H : Type) (enc : TypeId × Value → H) :
    ReturnsInHanded {} Try.checked os 3 .any (Rows.historyStaysSpec.pre6 enc Try.prog Try.f3 Rows.historyStaysRow.domain false) (Rows.historyStaysSpec.post enc Try.prog Try.f3 false true false false) := by
  refine returnsInHanded_of_change_sized (C := Try.checked) tr_own started (by kernel_rfl) Try.func3
    (ChangeSpec.witness6 (enc := enc) (C := Try.checked) false ⟨#[], #[.slice none 0 0], []⟩ 8 (by kernel_rfl) (by kernel_rfl) (by kernel_rfl) (by kernel_rfl)) ?_
  intro W base args ds gs before hval0 hW _ hsz _
  have hval : ∀ (j : Nat) t v, Try.f3.params[j]? = some t → args[j]? = some v → Value.okWide Try.prog W .any base t v := hval0
  have hW' := hW
  obtain ⟨p, q, hA0, hV, rfl, _, _⟩ := hW
  have hA : DataW.TrodAll enc Try.prog W 0 (fun _ => true) true Try.f3.params.toList args.toList ds p := hA0
  rw [Try.params3] at hA hval
  obtain ⟨v0, d0, rfl, rfl, h0⟩ := trodAll_one hA
  obtain ⟨rfl, rfl⟩ := trodVars_none hV
  obtain ⟨ro, len, rc, rfl⟩ := okWide_slice Try.underlying22 (hval 0 22 v0 rfl rfl)
  have h0k := h0
  obtain ⟨fuel0, hf0⟩ := h0
  obtain ⟨ms, rfl, hmsl, hmi⟩ := acts_of hf0
  clear hA0 hval0
  simp only [List.append_nil] at hW'
  have hlt : ∀ x ∈ p, x.block < W.heap.size := fun x hx => by simpa using hW'.lt x (by simpa using hx)
  have e1 : Rows.historyStaysSpec.fn H ([d0] ++ []) = { results := [.lit (.bool true)], args := [d0] } := by simp [Rows.historyStaysSpec]
  refine (stays_law W ro rc ms hmsl hmi).mono fun e W' ⟨he, ht⟩ => ?_
  subst he
  have hB : Below W.heap.size W W' := ht.below (Nat.le_refl _) (fun _ _ h => h)
  refine ⟨_, rfl, _, _, _, [], p, [], hW', ?_, ?_, ?_, hB.frame _, fun h => by cases h⟩
  · rw [e1]; exact trodAll_mk1 (shut_bool Try.underlying4 true)
  · rw [e1]; exact trodAll_mk1 (Below.trod tr_laidOut (by kernel_rfl) (of_decide_eq_true (by kernel_rfl)) h0k hB hlt)
  · rw [e1]; rfl

theorem stays_holds : Rows.HistoryStaysSaid :=
  OpenClaim.holds_of_wide 3 Try.f3 rfl rfl rfl rfl rfl rfl rfl ⟨rfl, rfl, rfl, rfl, rfl⟩ rfl rfl rfl rfl rfl (by kernel_rfl) Try.func3 (by kernel_rfl)
    (of_decide_eq_true (by kernel_rfl)) (by unfold Func.isWrapper; first | (rw [if_pos (by decide +kernel)]; kernel_rfl) | (rw [if_neg (by decide +kernel)]; exact ⟨rfl, rfl⟩))
    (fun os started H enc _ => stays_lifted os started H enc)
#print axioms stays_holds
end Go.Proofs.Ytececlalnkiafaa
