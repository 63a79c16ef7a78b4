import Derived.Test.YtjbehnoococelaaMLay3
/- tidy. -/
namespace Go.Proofs.Ytjbehnoococelaa
open Go.RowKit Go Go.Sort Go.Maps

/-- What is left of the places: without the chain, if it has no versions. -/
def tidE (E : List En) (k : Int) (s : List UInt8) (zs : List VV) : List En := if zs = [] then E.filter (fun e => decide (¬ (e.k = k ∧ e.s = s))) else E
set_option maxHeartbeats 2000000 in
set_option maxRecDepth 100000 in
theorem tidy_any (w : World) (hb mb tb : Nat) (T : List (Int × Nat)) (E : List En) (C : Nat → Ch) (σ : Nat → Option Nat) (q : Nat) (h : HW w hb mb tb T E C σ q) (k : Int) (h1 : -9223372036854775808 ≤ k) (h2 : k ≤ 9223372036854775807) (S : ByteArray) (hS : S.size ≤ maxLen) (cb : Nat) (me : (⟨k, S.data.toList, cb⟩ : En) ∈ E) (co : Option Addr) (cc : Nat) (zs : List VV) (hC : C cb = (co, cc, zs)) :
    Calls Try.prog 58 #[.pointer (some ⟨hb, 0, none⟩), .int .i64 k, .string S] w fun x w' => x = .returned (.tuple #[]) ∧ (∃ T', HW w' hb mb tb T' (tidE E k S.data.toList zs) C σ q) ∧ Tch (fun i => σ i ≠ none) w w' := by
  have c1 := h.c1
  obtain ⟨l, hl⟩ : ∃ l, lkT T k = some l := by
    cases hl : lkT T k with
    | some l => exact ⟨l, rfl⟩
    | none => have := h.noT hl S.data.toList; rw [lkE_of_mem h.ek me] at this; cases this
  have hlm := lkT_mem hl
  have gl := h.look h1 h2
  rw [hl] at gl
  have gk := h.look2 hlm hS
  simp only at gk
  rw [lkE_of_mem h.ek me] at gk
  simp only [ptrV, mapV] at gl gk
  obtain ⟨hcb, hlq⟩ := h.chs _ me
  simp only [hC] at hcb hlq
  have ec : w.cell? ⟨cb, 0, none⟩ = some (.slice co zs.length cc) := by rw [blk_cell hcb.blk]; rfl
  obtain ⟨n, hlen, hn0⟩ := h.len hlm
  have hlab := (h.inn _ hlm).1
  simp only at hlab
  have hlb' : σ l ≠ none := by rw [hlab]; exact fun h => by cases h
  by_cases hz : zs = []
  · have HE : Hid (tidE E k S.data.toList zs = E.filter (fun e => decide (¬ (e.k = k ∧ e.s = S.data.toList)))) := by show _ = _; simp [tidE, hz]
    obtain ⟨w1, hd, hw1, t1⟩ := h.delE hlm hS 0
    have c1' := hw1.c1
    obtain ⟨n1, hlen1, hn1⟩ := hw1.len hlm
    obtain ⟨w2, hd2, hw2, t2⟩ := hw1.dropT h1 h2 0
    rw [hz] at ec
    simp only [List.length_nil] at ec
    have T1 : Hid (Tch (fun i => σ i ≠ none) w w1) := t1.mono (fun i _ e => by rw [e]; exact hlb')
    have T2 : Hid (Tch (fun i => σ i ≠ none) w w2) := T1.out.trans t2 (fun i _ e => by rw [e, h.lt]; exact fun h => by cases h)
    have HW1 : Hid _ := hw1
    have HW2 : Hid _ := hw2
    have HN1 : Hid _ := hn1
    clear h hcb hlq hlen hn0 hz me hw1 hw2 t1 t2 hl hlm hn1 hC
    by_cases h0 : n1 = 0
    · subst h0
      go_enter Try.func58, Try.ntmps58
      go_wp2
      go_end0
      refine ⟨rfl, ⟨T.filter (fun p => decide (p.1 ≠ k)), ?_⟩, T2.out⟩
      rw [HE.out]
      have := HW2.out
      have e0 : (E.filter (fun e => decide (¬ (e.k = k ∧ e.s = S.data.toList)))).filter (fun e => decide (e.k ≠ k)) = E.filter (fun e => decide (¬ (e.k = k ∧ e.s = S.data.toList))) := List.filter_eq_self.2 (fun e he => by simpa using HN1.out trivial e he)
      rw [e0] at this
      exact this
    · have h0' : ¬ (n1 : Int) = 0 := by omega
      have h0b : ((n1 : Int) == 0) = false := by simpa using h0'
      go_enter Try.func58, Try.ntmps58
      go_wp2
      go_end0
      refine ⟨rfl, ⟨T, ?_⟩, T1.out⟩
      rw [HE.out]
      exact HW1.out
  · have HE : Hid (tidE E k S.data.toList zs = E) := by show _ = _; simp [tidE, hz]
    have hz0 : ¬ ((zs.length : Nat) : Int) = 0 := by
      intro e
      exact hz (List.length_eq_zero_iff.1 (by omega))
    have hz0b : (((zs.length : Nat) : Int) == 0) = false := by simpa using hz0
    have h0 : ¬ n = 0 := fun e => hn0 e _ me rfl
    have h0' : ¬ (n : Int) = 0 := by omega
    have h0b : ((n : Int) == 0) = false := by simpa using h0'
    have HH : Hid _ := h
    obtain ⟨ln, hln⟩ : ∃ ln, ln = zs.length := ⟨_, rfl⟩
    rw [← hln] at ec hz0 hz0b
    clear h hcb hlq hn0 hz me hl hlm hC hln
    go_enter Try.func58, Try.ntmps58
    go_wp2
    go_end0
    exact ⟨rfl, ⟨T, by rw [HE.out]; exact HH.out⟩, Tch.refl _ _⟩

/-- clear of one version, the last one. -/
theorem clear_ver {W : World} {g off : Nat} {cur : Array Value} (hg : W.heap[g]? = some (.cells cur 84 (0, 0))) (hs : off + 3 ≤ cur.size) : ∃ W', (∀ ty c, (Builtin.clear_ #[82] ty #[.slice (some ⟨g, off, none⟩) 1 c]).run Try.prog W = .ok (.tuple #[]) W') ∧ Tch (fun i => i = g) W W' ∧ ∃ zs : List Value, zs.length = 3 ∧ W'.heap[g]? = some (.cells (cur.toList.take off ++ zs ++ cur.toList.drop (off + 3)).toArray 84 (0, 0)) := by
  obtain ⟨i0, hi0, hz0, hz1, hz2⟩ := info_parts info_ver
  obtain ⟨zs, hzs⟩ : ∃ zs, zs = (Builtin.zeroCells (Value.agg #[.int .i64 0, .bool false, .slice none 0 0]).cells 1).toList := ⟨_, rfl⟩
  have hzl : zs.length = 3 := by rw [hzs]; simp [Builtin.zeroCells, Value.cells]
  have hz1' : ∀ u ∈ zs, u.oneCell' = true := fun u hu => by
    rw [hzs] at hu
    simp only [Builtin.zeroCells, Value.cells, Array.toList_map, List.mem_map] at hu
    obtain ⟨k, _, rfl⟩ := hu
    show (#[Value.int .i64 0, .bool false, .slice none 0 0][k % 3]!).oneCell' = true
    rcases (by omega : k % 3 = 0 ∨ k % 3 = 1 ∨ k % 3 = 2) with e | e | e <;> rw [e] <;> rfl
  have hst := run_storeCells_at Try.prog g off 84 zs 0 cur W hg (by omega) hz1'
  refine ⟨W.setRow g (cur.toList.take (off + 0) ++ zs ++ cur.toList.drop (off + 0 + zs.length)).toArray, fun ty c => ?_, ⟨rfl, rfl, rfl, by simp [World.setRow], fun k _ hk => setRow_other W g k _ hk⟩, zs, hzl, ?_⟩
  · simp only [Builtin.clear_]
    simp [run_underlying Try.underlying82, zeroValue, typeInfo, hi0, hz0, ← hzs, hst]
  · rw [hzl, Nat.add_zero]
    simp [World.setRow, Array.getElem?_modify, hg]
end Go.Proofs.Ytjbehnoococelaa
