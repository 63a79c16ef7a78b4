import Derived.Test.YtececlalnkiafaaLays
import Derived.Test.YtececlalnkiafaaHForg
import Derived.Lib.SlKeysI
/- numbers: those that have notes, rising. -/
namespace Go.Proofs.Ytececlalnkiafaa
set_option maxRecDepth 100000
open Go.RowKit Go Go.ChangeMaps Go.Sort Go.Shelf
open Go.Maps (Keyed)

theorem keys_sm {w : World} {sb ns : Nat} {g : Int → Option Value} (h : SM w sb ns g) : ∃ D : DataW Value, w.ownsMap Try.prog 3 heldE sb ns D ∧ Maps.size D = ns ∧ (intKeys D).Nodup ∧ ∀ x, x ∈ intKeys D ↔ (g x).isSome = true := by
  obtain ⟨f, ⟨D, ho, hn, hf⟩, hg⟩ := h
  refine ⟨D, ho, hn, ?_⟩
  have htd := ho.tidy law_int
  obtain ⟨es, clock, hb, Ft, hs, hD⟩ := ho
  obtain ⟨es', hD', hp⟩ := htd
  have hk : ∀ p ∈ es', ∃ x, p.1 = .int .i64 x := fun p hp' => by
    rw [hD'] at hD
    injection hD with hD
    rw [hD] at hp'
    obtain ⟨v, hv⟩ := Maps.keys_perm (WideShapes.sorted_perm _).symm (Maps.fit_keys Ft) p hp'
    obtain ⟨x, _, hx, _⟩ := Maps.keyOf_i64 Try.underlying3 hv
    exact ⟨x, hx⟩
  constructor
  · rw [hD']
    show (es'.map fun p => Go.intOf p.1).Nodup
    refine List.pairwise_map.2 (hp.imp_of_mem fun {p q} hp' hq' hne e => hne ?_)
    obtain ⟨a, ha⟩ := hk p hp'
    obtain ⟨b, hb⟩ := hk q hq'
    rw [ha, hb] at e ⊢
    exact congrArg _ e
  · intro x
    rw [← hg x, ← (hf _).1, hD', Maps.has_eq, List.any_eq_true]
    show x ∈ es'.map (fun p => Go.intOf p.1) ↔ _
    rw [List.mem_map]
    constructor
    · rintro ⟨p, hp', rfl⟩
      obtain ⟨a, ha⟩ := hk p hp'
      exact ⟨p, hp', by rw [ha]; simp [Lit.sameKey, Go.intOf]⟩
    · rintro ⟨p, hp', hs⟩
      obtain ⟨a, ha⟩ := hk p hp'
      rw [ha] at hs
      exact ⟨p, hp', by rw [ha]; simpa [Lit.sameKey, Go.intOf] using hs⟩
/-- The numbers that have notes, rising. -/
def IdsOf (K : Int → List Nt) (ids : List Int) : Prop := ids.Pairwise (fun a b => a < b) ∧ ∀ i, i ∈ ids ↔ K i ≠ []
theorem sorts_any (m : Nat) : AnyZI.SortsIn Try.prog Try.sortedL_ren Fence.wide m :=
  ⟨fun blk off cap ss W hH hblk hsz => callsIn_wide.2 (AnyM.slices_Sort_int Try.sortL blk off cap ss W hH hblk hsz), fun p cap W => callsIn_wide.2 (AnyM.slices_Sort_int_none Try.sortL p cap W)⟩
theorem keys_any (mb : Option Nat) (W : World) : CallsIn Fence.wide 5 Try.prog 49 #[.map mb] W fun e w' => e = .returned (.func (.func 60) #[] #[.pointer (some ⟨W.heap.size, 0, none⟩)]) ∧ w' = W.alloc (.cells #[.map mb] 71) :=
  AnyZI.keys_in Try.keysL Fence.wide 5 trivial rfl mb W

set_option maxHeartbeats 1000000 in
theorem sorted_any {H : Type} (b nn : Nat) (D0 : DataW H) (R : Value → Option (DataW H × List MemPlace)) (w : World) (hown : w.ownsMap Try.prog 3 R b nn D0) (hmax : Maps.size D0 ≤ maxLen) (hbytes : Maps.size D0 * 8 ≤ 140737488355328) :
    CallsIn Fence.wide 5 Try.prog 48 #[.func (.func 60) #[] #[.pointer (some ⟨w.heap.size, 0, none⟩)]] (w.alloc (.cells #[.map (some b)] 71)) fun e w' => ∃ (v : Value) (ss : List Int), e = .returned v ∧ ss.Perm (intKeys D0) ∧
      w'.ownsRow (w.alloc (.cells #[.map (some b)] 71)).heap.size 3 1 v ss.length ((ss.mergeSort (fun x y => decide (x ≤ y))).map encZ) ∧ Below (w.alloc (.cells #[.map (some b)] 71)).heap.size (w.alloc (.cells #[.map (some b)] 71)) w' := by
  have hbl := hown.lt
  have hseq : SeqGives Fence.wide 2 Try.prog 60 #[.pointer (some ⟨w.heap.size, 0, none⟩)] encZ (fun ss => ss.Perm (intKeys D0)) (Maps.size D0) (w.alloc (.cells #[.map (some b)] 71)) :=
    AnyZI.keys_gives (ρ := Try.keysL_ren) { Try.keysL with } Fence.wide _ trivial rfl (by omega) w.heap.size b nn D0 _ (by simp) (by simp) (by
      obtain ⟨es, clock, hb, Ft, hs, hD⟩ := hown
      exact ⟨es, clock, (Below.heap_alloc _ _ b hbl).trans hb, Ft, hs, hD⟩)
  exact (AnyZI.sorted_in Try.sortedL Fence.wide 5 trivial trivial trivial trivial rfl (by omega) (sorts_any _) (enters_of Try.func59 (by kernel_rfl) rfl) 60 #[.pointer (some ⟨w.heap.size, 0, none⟩)] trivial (enters_of Try.func60 (by kernel_rfl) rfl) _ _ hmax hbytes _ hseq).mono
    fun e w' ⟨v, ss, h1, h2, h3, _, h5⟩ => ⟨v, ss, h1, h2, h3, h5⟩

theorem ids_sort {K : Int → List Nt} {f : Int → Nat} {L ss : List Int} (hnd : L.Nodup) (hm : ∀ x, x ∈ L ↔ (sG K f x).isSome = true) (hp : ss.Perm L) : IdsOf K (ss.mergeSort (fun x y => decide (x ≤ y))) := by
  have tr : ∀ a b c : Int, leI a b = true → leI b c = true → leI a c = true := fun a b c h1 h2 => by simp only [leI, decide_eq_true_eq] at *; exact Int.le_trans h1 h2
  have tot : ∀ a b : Int, (leI a b || leI b a) = true := fun a b => by simp only [leI, Bool.or_eq_true, decide_eq_true_eq]; exact Int.le_total a b
  have hs := List.pairwise_mergeSort tr tot ss
  have hpp : (ss.mergeSort (fun x y => decide (x ≤ y))).Perm L := (List.mergeSort_perm ss leI).trans hp
  have hn2 : (ss.mergeSort (fun x y => decide (x ≤ y))).Nodup := hpp.nodup_iff.2 hnd
  refine ⟨?_, fun i => ?_⟩
  · have h2 := List.Pairwise.and hs hn2
    refine h2.imp (fun {a b} h => ?_)
    have h3 := h.1
    have h4 : a ≠ b := h.2
    simp only [leI, decide_eq_true_eq] at h3
    omega
  · rw [hpp.mem_iff, hm]
    unfold sG
    cases K i <;> simp

set_option maxHeartbeats 1000000 in
theorem numbers_w {w : World} {F : Nat → Prop} {b mb sb ns : Nat} {h : Hs} (H : HW w F b mb sb ns h) (hT : h.T < 17592186044416) :
    Calls Try.prog 26 #[.pointer (some ⟨b, 0, none⟩)] w fun r w' => ∃ v ids, r = .returned v ∧ IdsOf h.K ids ∧ ids.length ≤ h.T ∧ w'.ownsRow w.heap.size 3 1 v ids.length (ids.map encZ) ∧ Tch (fun _ => False) w w' := by
  obtain ⟨D, ho, hn, hnd, hm⟩ := keys_sm H.sm
  have hnl := H.nl
  have c3 := H.c.2.2.2
  have hM := sorted_any sb ns D heldE w ho (by rw [hn]; unfold maxLen; omega) (by rw [hn]; omega)
  have HS : Hid (∀ ss : List Int, ss.Perm (intKeys D) → IdsOf h.K (ss.mergeSort (fun x y => decide (x ≤ y))) ∧ (ss.mergeSort (fun x y => decide (x ≤ y))).length = ss.length ∧ ss.length ≤ h.T) := fun ss hp => by
    refine ⟨ids_sort hnd hm hp, List.length_mergeSort _, ?_⟩
    have h1 : (intKeys D).length = Maps.size D := by
      have := ho.isMap
      obtain ⟨es, rfl⟩ := this
      simp [intKeys, Maps.size]
    rw [hp.length_eq, h1, hn]
    exact hnl
  clear ho hn hnd hm hnl H
  refine (callsIn_wide (n := 6)).1 ?_
  have hfK : Fence.wide.fn 49 := trivial
  have hfS : Fence.wide.fn 48 := trivial
  refine callsIn_of_wp Try.func26 rfl trivial ?_ rfl
  simp only [Try.ntmps26, List.size_toArray, List.length_cons, List.length_nil, Nat.reduceAdd, Nat.reduceSub, Array.replicate_succ, Array.replicate_zero, List.push_toArray, List.append_toArray, List.nil_append, List.cons_append]
  gi_wp2_with (first
    | (gi_at_call 49; refine (keys_any _ _).mono ?_; rintro e w' ⟨rfl, rfl⟩)
    | (gi_at_call 48; refine hM.mono ?_; rintro e w' ⟨v, ss, rfl, hS, hrow, hbl⟩))
  go_ret
  obtain ⟨e1, e2, e3⟩ := HS.out ss hS
  refine ⟨v, _, rfl, e1, by rw [e2]; exact e3, ?_, ?_⟩
  · rw [e2]
    exact ownsRow_base_a hrow (by simp)
  · exact (Tch.alloc (fun _ => False) w _).trans' (Tch.of_below hbl (Nat.le_refl _))
end Go.Proofs.Ytececlalnkiafaa
