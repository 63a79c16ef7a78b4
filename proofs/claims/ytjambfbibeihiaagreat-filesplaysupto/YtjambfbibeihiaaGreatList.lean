import Derived.Test.YtjambfbibeihiaaGreatLays
import Derived.Test.YtjambfbibeihiaaGreatFace
import Derived.Maps.Ext
/- List: the names, rising. -/
namespace Go.Proofs.YtjambfbibeihiaaGreat
set_option maxRecDepth 100000
open Go.RowKit Go.ChangeMaps Go.Sort Go.Shelf
open Go.Maps (Keyed)

theorem bytes_lt : ∀ {a b : List UInt8}, bytesBefore a b = true → a ≤ b
  | [], [], h => by simp [bytesBefore] at h
  | [], _ :: _, _ => List.nil_le _
  | _ :: _, [], h => by simp [bytesBefore] at h
  | x :: r, y :: s, h => by
    simp only [bytesBefore, Bool.or_eq_true, decide_eq_true_eq, Bool.and_eq_true, beq_iff_eq] at h
    rw [List.cons_le_cons_iff]
    rcases h with h | ⟨rfl, h⟩
    · exact Or.inl h
    · exact Or.inr ⟨rfl, bytes_lt h⟩
theorem encD_keys (gm : List (Nm × (Nat × Fl))) : strKeys (encD gm) = gm.map (·.1) := by
  show (gm.map fun p => ((.string p.1, .lit (.int .i64 p.2.1)) : Lit × DataW Unit)).map (fun p => strOf p.1) = _
  rw [List.map_map]; rfl
theorem DW.names {w : World} {b : Nat} {d : Dsk} {σ : Nat → Option Nat} {mb : Nat} {gm : List (Nm × (Nat × Fl))} (h : DW w b d σ mb gm) : d.m.map (·.1) = gm.map (·.1) := by
  rw [h.m]; unfold mapL; rw [List.map_map]; rfl
theorem DW.sorted {w : World} {b : Nat} {d : Dsk} {σ : Nat → Option Nat} {mb : Nat} {gm : List (Nm × (Nat × Fl))} (h : DW w b d σ mb gm) : (gm.map (·.1)).Pairwise (fun x y => bytesBefore x y = true) := by
  obtain ⟨es, clock, _, F, _, hD⟩ := h.own
  have h1 := Maps.sorted_sorted law_str.one _ (Maps.fit_keys F) (Maps.fit_apart law_str F)
  unfold encD at hD
  cases hD' : (es.toList.map (WideElems.rg Tryz.prog 9 ptrElem)).foldr DataW.insert [] with
  | nil =>
    rw [hD'] at hD
    simp only [DataW.map.injEq, List.map_eq_nil_iff] at hD
    rw [hD]; exact List.Pairwise.nil
  | cons z r =>
    rw [hD'] at hD h1
    simp only [DataW.map.injEq] at hD
    rw [← hD] at h1
    rw [List.pairwise_map] at h1 ⊢
    exact h1
theorem DW.sorts {w : World} {b : Nat} {d : Dsk} {σ : Nat → Option Nat} {mb : Nat} {gm : List (Nm × (Nat × Fl))} (h : DW w b d σ mb gm) {ss : List (List UInt8)} (hp : ss.Perm (strKeys (encD gm))) : ss.mergeSort (fun x y => decide (x ≤ y)) = d.m.map (·.1) := by
  rw [encD_keys] at hp
  rw [h.names, show ss.mergeSort (fun x y => decide (x ≤ y)) = (gm.map (·.1)).mergeSort (fun x y => decide (x ≤ y)) from mergeSort_of_perm hp]
  refine List.mergeSort_of_pairwise ?_
  exact h.sorted.imp (fun h => by simpa using bytes_lt h)

theorem sorts_any (m : Nat) : AnyZ.SortsIn Tryz.prog Tryz.sortedL_ren Fence.wide m :=
  ⟨fun blk off cap ss W hH hblk hsz => callsIn_wide.2 (AnyM.slices_Sort_string Tryz.sortL blk off cap ss W hH hblk hsz), fun p cap W => callsIn_wide.2 (AnyM.slices_Sort_string_none Tryz.sortL p cap W)⟩
theorem keys_any (mb : Option Nat) (W : World) : CallsIn Fence.wide 5 Tryz.prog 77 #[.map mb] W fun e w' => e = .returned (.func (.func 83) #[] #[.pointer (some ⟨W.heap.size, 0, none⟩)]) ∧ w' = W.alloc (.cells #[.map mb] 70) :=
  AnyZ.keys_in Tryz.keysL Fence.wide 5 trivial rfl mb W

set_option maxHeartbeats 1000000 in
theorem sorted_any {H : Type} (b nn : Nat) (D0 : DataW H) (R : Value → Option (DataW H × List MemPlace)) (w : World) (hown : w.ownsMap Tryz.prog 9 R b nn D0) (hmax : Maps.size D0 ≤ maxLen) (hbytes : Maps.size D0 * 16 ≤ 140737488355328) :
    CallsIn Fence.wide 5 Tryz.prog 76 #[.func (.func 83) #[] #[.pointer (some ⟨w.heap.size, 0, none⟩)]] (w.alloc (.cells #[.map (some b)] 70)) fun e w' => ∃ (v : Value) (ss : List (List UInt8)), e = .returned v ∧ ss.Perm (strKeys D0) ∧
      w'.ownsRow (w.alloc (.cells #[.map (some b)] 70)).heap.size 9 1 v ss.length ((ss.mergeSort (fun x y => decide (x ≤ y))).map encStr) ∧ Below (w.alloc (.cells #[.map (some b)] 70)).heap.size (w.alloc (.cells #[.map (some b)] 70)) w' := by
  have hbl := hown.lt
  have hseq : SeqGives Fence.wide 2 Tryz.prog 83 #[.pointer (some ⟨w.heap.size, 0, none⟩)] encStr (fun ss => ss.Perm (strKeys D0)) (Maps.size D0) (w.alloc (.cells #[.map (some b)] 70)) :=
    AnyZ.keys_gives (ρ := Tryz.keysL_ren) { Tryz.keysL with } Fence.wide _ trivial rfl (by omega) w.heap.size b nn D0 _ (by simp) (by simp) (by
      obtain ⟨es, clock, hb, Ft, hs, hD⟩ := hown
      exact ⟨es, clock, (Below.heap_alloc _ _ b hbl).trans hb, Ft, hs, hD⟩)
  exact (AnyZ.sorted_in Tryz.sortedL Fence.wide 5 trivial trivial trivial trivial rfl (by omega) (sorts_any _) (enters_of Tryz.func82 (by kernel_rfl) rfl) 83 #[.pointer (some ⟨w.heap.size, 0, none⟩)] trivial (enters_of Tryz.func83 (by kernel_rfl) rfl) _ _ hmax hbytes _ hseq).mono
    fun e w' ⟨v, ss, h1, h2, h3, _, h5⟩ => ⟨v, ss, h1, h2, h3, h5⟩

set_option maxHeartbeats 1000000 in
theorem list_any (b : Nat) (d : Dsk) (σ : Nat → Option Nat) (w : World) (h : DK w b d σ) (hb : d.m.length * 16 ≤ 140737488355328) :
    Calls Tryz.prog 66 #[.pointer (some ⟨b, 0, none⟩)] w fun x w' => ∃ v, x = .returned v ∧ w'.ownsRow w.heap.size 9 1 v d.m.length ((d.m.map (·.1)).map encStr) ∧ Tch (fun _ => False) w w' := by
  obtain ⟨mb, gm, h⟩ := h
  have c2 := h.c2
  have hl : d.m.length = gm.length := by rw [h.m]; simp [mapL]
  have hz : Maps.size (encD gm) * 16 ≤ 140737488355328 := by rw [encD_size, ← hl]; exact hb
  have hM := sorted_any mb gm.length (encD gm) ptrElem w h.own (owns_max h.own) hz
  have HS : Hid (∀ ss : List (List UInt8), ss.Perm (strKeys (encD gm)) → ss.mergeSort (fun x y => decide (x ≤ y)) = d.m.map (·.1) ∧ ss.length = d.m.length) := fun ss hp => by
    refine ⟨h.sorts hp, ?_⟩
    rw [hp.length_eq, encD_keys, List.length_map, hl]
  clear hl hz hb
  refine (callsIn_wide (n := 6)).1 ?_
  have hfK : Fence.wide.fn 77 := trivial
  have hfS : Fence.wide.fn 76 := trivial
  refine callsIn_of_wp Tryz.func66 rfl trivial ?_ rfl
  simp only [Tryz.ntmps66, List.size_toArray, List.length_cons, List.length_nil, Nat.reduceAdd, Nat.reduceSub, Array.replicate_succ, Array.replicate_zero, List.push_toArray, List.append_toArray, List.nil_append, List.cons_append]
  gi_wp2_with (first
    | (gi_at_call 77; refine (keys_any _ _).mono ?_; rintro e w' ⟨rfl, rfl⟩)
    | (gi_at_call 76; refine hM.mono ?_; rintro e w' ⟨v, ss, rfl, hS, hrow, hbl⟩))
  go_ret
  obtain ⟨e1, e2⟩ := HS.out ss hS
  rw [e1, e2] at hrow
  refine ⟨v, rfl, ownsRow_base_a hrow (by simp), ?_⟩
  exact (Tch.alloc (fun _ => False) w _).trans' (Tch.of_below hbl (Nat.le_refl _))
end Go.Proofs.YtjambfbibeihiaaGreat
