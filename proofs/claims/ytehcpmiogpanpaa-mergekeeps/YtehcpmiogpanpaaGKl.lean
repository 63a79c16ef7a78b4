import Derived.Test.YtehcpmiogpanpaaGKp
/- MergeKeeps: pick; the list of rows that the law makes. -/
namespace Go.Proofs.Ytehcpmiogpanpaa
open Go.RowKit Go

set_option maxHeartbeats 1000000 in
set_option maxRecDepth 100000 in
theorem pick_any (c : Int) (h1 : -9223372036854775808 ≤ c) (h2 : c ≤ 9223372036854775807) (w : World) : Calls Try.prog 6 #[.int .i64 c, .int .i64 4] w fun e w' => (∃ m : Nat, e = .returned (.int .i64 m) ∧ m < 4) ∧ w' = w := by
  by_cases h : c < 0
  · go_enter Try.func6, Try.ntmps6
    go_wp2
    go_ret
    refine ⟨⟨((-(c + 1)) % 4).toNat, ?_, by omega⟩, rfl⟩
    have e : -((c + 1).tmod 4) = (-(c + 1)) % 4 := by rw [← Int.neg_tmod, Int.tmod_eq_emod_of_nonneg (by omega)]
    show Ending.returned (.int .i64 (-((c + 1).tmod 4))) = _
    rw [e, Int.toNat_of_nonneg (Int.emod_nonneg _ (by decide))]
  · go_enter Try.func6, Try.ntmps6
    go_wp2
    go_ret
    refine ⟨⟨(c % 4).toNat, ?_, by omega⟩, rfl⟩
    show Ending.returned (.int .i64 (c % 4)) = _
    rw [Int.toNat_of_nonneg (Int.emod_nonneg _ (by decide))]
theorem RL.mono {M M' : Nat} {w : World} {ao : Option Addr} {cp : Nat} {u : List Kc} (h : RL M w ao cp u) (hM : M ≤ M') : RL M' w ao cp u :=
  ⟨h.len, h.cap, fun hu => by
    obtain ⟨g, o, cur, h1, h2⟩ := h.at' hu
    exact ⟨g, o, cur, by omega, h2⟩⟩
theorem RL.of_own {M base : Nat} {w : World} {ao : Option Addr} {cp : Nat} {u : List Kc} (h : w.ownsRow base 27 6 (.slice ao u.length cp) u.length (kcl u)) (hM : w.heap.size ≤ M) : RL M w ao cp u := by
  rcases h.2 with ⟨e, h0⟩ | ⟨g, cap, cur, e, _, hg, h1, h2, h3, h4⟩
  · simp only [Value.slice.injEq] at e
    exact ⟨by omega, by omega, fun hu => absurd (List.length_eq_zero_iff.1 h0) hu⟩
  · simp only [Value.slice.injEq, true_and] at e
    obtain ⟨e1, e2⟩ := e
    subst e1 e2
    refine ⟨h1, by unfold maxLen at h2; omega, fun _ => ⟨g, 0, cur, Nat.lt_of_lt_of_le (blk_lt hg) hM, rfl, hg, fun j v hv => ?_⟩⟩
    rw [← h4, List.getElem?_take] at hv
    split at hv
    · rw [Nat.zero_add, ← Array.getElem?_toList]; exact hv
    · cases hv
theorem info_sl : (Try.prog.info? 28).map (fun i => (i.zero, i.size, i.bytes)) = some (some (.slice none 0 0), 1, 24) := by kernel_rfl
/-- The law's list of rows. -/
structure KL (N : Nat) (w wr : World) (v3 : Value) (ls : List (List Kc)) : Prop where
  own : ∃ hd, wr.ownsRow N 28 1 v3 ls.length hd ∧ ∀ (j : Nat) (r : List Kc), ls[j]? = some r → ∃ (ao : Option Addr) (cp : Nat), hd[j]? = some (Value.slice ao r.length cp) ∧ RL wr.heap.size wr ao cp r
  good : GL ls
  tch : Tch (fun _ => False) w wr
theorem KL.later {N : Nat} {w wr wx : World} {v3 : Value} {ls : List (List Kc)} (h : KL N w wr v3 ls) (t : Tch (fun i => wr.heap.size ≤ i) wr wx) : KL N w wx v3 ls := by
  obtain ⟨hd, h1, h2⟩ := h.own
  refine ⟨⟨hd, own_tch h1 t (fun g e => by have := (h1.lt g e).2; omega), fun j r hj => ?_⟩, h.good, h.tch.trans t (fun i hi e => by have := h.tch.size; omega)⟩
  obtain ⟨ao, cp, e, hr⟩ := h2 j r hj
  exact ⟨ao, cp, e, (hr.tch t (fun g _ hg _ => by omega)).mono t.size⟩
/-- A row more. -/
theorem KL.more {N : Nat} {w wx wz : World} {v3 : Value} {ls : List (List Kc)} {ro : Option Addr} {k rc base : Nat} {r : List Kc} {at' : Int} (h : KL N w wx v3 ls) (hN : N ≤ w.heap.size) (hwN : w.heap.size ≤ N) (ho : wx.ownsRow base 27 6 (.slice ro k rc) r.length (kcl r)) (hk : k = r.length) (hg : GR (ls.length : Nat) r at') (hwz : wz = wx.alloc (.cells #[.slice ro k rc] 28)) (hs : ls.length ≤ 1000000) :
    ∃ v' w', (Builtin.append_ #[23, 23] 23 #[v3, .slice (some ⟨wx.heap.size, 0, none⟩) 1 1]).run Try.prog wz = .ok v' w' ∧ KL N w w' v' (ls ++ [r]) := by
  obtain ⟨i0, hi0, hz0, hz1, hz2⟩ := info_parts info_sl
  obtain ⟨hd, h1, h2⟩ := h.own
  have tz : Tch (fun _ => False) wx wz := by rw [hwz]; exact Tch.alloc _ _ _
  have bz : wz.heap[wx.heap.size]? = some (.cells #[.slice ro k rc] 28 (0, 0)) := by rw [hwz]; exact alloc_new _ _
  have h1z := own_tch h1 tz (fun _ _ h => h)
  have hNz : N ≤ wz.heap.size := Nat.le_trans hN (Nat.le_trans h.tch.size tz.size)
  obtain ⟨v', w', hr, hown, hgr, _, _⟩ := run_append_own_at (P := Try.prog) wz N 23 23 28 i0 _ 1 24 Try.underlying23 hi0 hz0 hz1 hz2 rfl (by decide) _ _ _ h1z ⟨wx.heap.size, 0, none⟩ 1 1 [.slice ro k rc] rfl (fun j u hu => by
    rw [add_plain, Nat.zero_add, blk_cell bz, show (#[.slice ro k rc] : Array Value) = [.slice ro k rc].toArray from rfl, List.getElem?_toArray]; exact hu) (fun u hu => by simp only [List.mem_cons, List.not_mem_nil, or_false] at hu; rw [hu]; rfl) (by unfold maxLen; omega) (by omega) hNz
  have t' : Tch (fun i => v3.ownBlock = some i) wz w' := Tch.of_grown hgr (fun g e => e)
  have n27 : ∀ g cur, wz.heap[g]? = some (.cells cur 27 (0, 0)) → ¬ v3.ownBlock = some g := fun g cur hg e => by
    rcases h1z.2 with ⟨e2, _⟩ | ⟨g2, _, _, e2, _, hg2, _⟩
    · rw [e2] at e; cases e
    · rw [e2] at e
      have : g2 = g := by simpa [Value.ownBlock] using e
      subst this
      exact ne_ty hg hg2 (by decide) rfl
  refine ⟨v', w', hr, ⟨hd ++ [.slice ro k rc], by rw [List.length_append, List.length_singleton]; exact hown, fun j r' hj => ?_⟩, h.good.snoc hg, ?_⟩
  · have hlen : hd.length = ls.length := by have := h1.1; omega
    rcases Nat.lt_trichotomy j ls.length with hl | hl | hl
    · rw [List.getElem?_append_left hl] at hj
      obtain ⟨ao, cp, e, hr'⟩ := h2 j r' hj
      exact ⟨ao, cp, by rw [List.getElem?_append_left (by omega)]; exact e, (((hr'.no tz).tch t' (fun g cur _ hg => n27 g cur hg)).mono (Nat.le_trans tz.size t'.size))⟩
    · subst hl
      rw [List.getElem?_append_right (Nat.le_refl _), Nat.sub_self] at hj
      obtain rfl : r = r' := by simpa using hj
      refine ⟨ro, rc, by rw [List.getElem?_append_right (by omega), show ls.length - hd.length = 0 by omega, ← hk]; rfl, ?_⟩
      rw [hk] at ho
      exact (((RL.of_own ho (Nat.le_refl _)).no tz).tch t' (fun g cur _ hg => n27 g cur hg)).mono (Nat.le_trans tz.size t'.size)
    · rw [List.getElem?_eq_none (by simp; omega)] at hj; cases hj
  · exact (h.tch.trans' tz).trans t' (fun i hi e => by have := (h1z.lt i e).1; omega)
end Go.Proofs.Ytehcpmiogpanpaa
