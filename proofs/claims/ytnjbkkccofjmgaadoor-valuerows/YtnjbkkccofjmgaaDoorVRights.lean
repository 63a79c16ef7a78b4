/- A row of raw values made right, as the law makes it. -/
import Derived.Test.YtnjbkkccofjmgaaDoorVRight
namespace Go.Proofs.YtnjbkkccofjmgaaDoor
open Go.RowKit

/-- The cells of a row. -/
def rcl (l : List Val) : List Value := l.flatMap fun v => [.int .i64 v.k, .int .i64 v.n, .string v.s]
theorem rcl_len : ∀ l : List Val, (rcl l).length = l.length * 3
  | [] => rfl
  | v :: l => by
    have := rcl_len l
    have e : rcl (v :: l) = [.int .i64 v.k, .int .i64 v.n, .string v.s] ++ rcl l := rfl
    rw [e, List.length_append, this, List.length_cons]; simp; omega
theorem rcl_snoc (l : List Val) (v : Val) : rcl (l ++ [v]) = rcl l ++ [.int .i64 v.k, .int .i64 v.n, .string v.s] := by simp [rcl]
theorem rcl_get : ∀ (l : List Val) (j : Nat) (hj : j < l.length), (rcl l)[j * 3]? = some (.int .i64 l[j].k) ∧ (rcl l)[j * 3 + 1]? = some (.int .i64 l[j].n) ∧ (rcl l)[j * 3 + 2]? = some (.string l[j].s)
  | v :: l, 0, _ => ⟨rfl, rfl, rfl⟩
  | v :: l, j + 1, hj => by
    have e : rcl (v :: l) = [.int .i64 v.k, .int .i64 v.n, .string v.s] ++ rcl l := rfl
    have ih := rcl_get l j (by simpa using hj)
    rw [e, show (j + 1) * 3 = 3 + j * 3 by omega]
    rw [List.getElem?_append_right (by simp), List.getElem?_append_right (by simp; omega), List.getElem?_append_right (by simp; omega)]
    simp only [List.length_cons, List.length_nil, List.getElem_cons_succ]
    rw [show 3 + j * 3 - (0 + 1 + 1 + 1) = j * 3 by omega, show 3 + j * 3 + 1 - (0 + 1 + 1 + 1) = j * 3 + 1 by omega, show 3 + j * 3 + 2 - (0 + 1 + 1 + 1) = j * 3 + 2 by omega]
    exact ih
theorem rcl_one (l : List Val) : ∀ u ∈ rcl l, u.oneCell' = true := by
  intro u hu
  simp only [rcl, List.mem_flatMap] at hu
  obtain ⟨v, _, hv⟩ := hu
  simp at hv
  rcases hv with rfl | rfl | rfl <;> rfl
theorem row_tch {S : Nat → Prop} {w w' : World} {base : Nat} {t : TypeId} {sz n : Nat} {v : Value} {xs : List Value} (h : w.ownsRow base t sz v n xs) (tc : Tch S w w') (hS : ∀ i, base ≤ i → i < w.heap.size → ¬ S i) : w'.ownsRow base t sz v n xs := by
  obtain ⟨h1, h2⟩ := h
  refine ⟨h1, ?_⟩
  rcases h2 with h2 | ⟨g, cap, cur, hv, hg, hh, r⟩
  · exact Or.inl h2
  · exact Or.inr ⟨g, cap, cur, hv, hg, by rw [tc.block g (blk_lt hh) (hS g hg (blk_lt hh))]; exact hh, r⟩
theorem row_slice {w : World} {base : Nat} {t : TypeId} {sz n : Nat} {v : Value} {xs : List Value} (h : w.ownsRow base t sz v n xs) : ∃ ao c, v = .slice ao n c := by
  rcases h.2 with ⟨rfl, rfl⟩ | ⟨g, cap, cur, rfl, hg, _⟩
  · exact ⟨_, _, rfl⟩
  · exact ⟨_, _, rfl⟩
theorem row_ge {w : World} {base : Nat} {t : TypeId} {sz n : Nat} {v : Value} {xs : List Value} (h : w.ownsRow base t sz v n xs) {k : Nat} (hk : v.ownBlock = some k) : base ≤ k := by
  rcases h.2 with ⟨rfl, _⟩ | ⟨g, cap, cur, rfl, hg, _⟩
  · cases hk
  · simp [Value.ownBlock] at hk; omega
theorem row_at {w : World} {base : Nat} {ao : Option Addr} {c : Nat} {l : List Val} (h : w.ownsRow base 23 3 (.slice ao l.length c) l.length (rcl l)) (hl : l ≠ []) : ∃ g, ao = some ⟨g, 0, none⟩ ∧ base ≤ g ∧ RowAt w g 0 l := by
  rcases h.2 with ⟨h1, h2⟩ | ⟨g, cap, cur, hv, hg, hh, hc, hm, hs, ht⟩
  · exact absurd (List.length_eq_zero_iff.1 h2) hl
  · simp only [Value.slice.injEq] at hv
    refine ⟨g, hv.1, hg, fun j hj => ?_⟩
    obtain ⟨g0, g1, g2⟩ := rcl_get l j hj
    have key : ∀ i u, i < l.length * 3 → (rcl l)[i]? = some u → w.cell? ⟨g, 0 + i, none⟩ = some u := fun i u hi hu => by
      rw [Nat.zero_add, blk_cell hh, ← Array.getElem?_toList]
      rw [← ht, List.getElem?_take_of_lt hi] at hu
      exact hu
    exact ⟨key _ _ (by omega) g0, by have := key (j * 3 + 1) _ (by omega) g1; simpa [Nat.add_assoc] using this, by have := key (j * 3 + 2) _ (by omega) g2; simpa [Nat.add_assoc] using this⟩
theorem rcl_cells {W : World} {b : Nat} {v : Val} (h0 : W.cell? ⟨b, 0, none⟩ = some (.int .i64 v.k)) (h1 : W.cell? ⟨b, 1, none⟩ = some (.int .i64 v.n)) (h2 : W.cell? ⟨b, 2, none⟩ = some (.string v.s)) : ∀ j u, (rcl [v])[j]? = some u → W.cell? ((⟨b, 0, none⟩ : Addr).add j) = some u := by
  intro j u hu
  rcases j with _ | _ | _ | j
  · cases hu; simpa [Addr.add] using h0
  · cases hu; simpa [Addr.add] using h1
  · cases hu; simpa [Addr.add] using h2
  · simp [rcl] at hu

def RtOut (vs : List Val) (x : Ending) (w' : World) : Prop := ∃ R cp, x = .returned (.slice (some ⟨R, 0, none⟩) 3 cp) ∧ RowAt w' R 0 (vs.map rt)
set_option maxHeartbeats 2000000 in
set_option maxRecDepth 100000 in
theorem rights_any (vs : List Val) (g c : Nat) (w : World) (h3 : vs.length = 3) (hrow : RowAt w g 0 vs) (hi : ∀ v ∈ vs, v.i64) :
    Calls Tryd.prog 15 #[.slice (some ⟨g, 0, none⟩) 3 c] w fun x w' => RtOut vs x w' ∧ Tch (fun _ => False) w w' := by
  obtain ⟨i0, hii, hz0, hz1, hz2⟩ := info_parts info_val
  have hgl := hrow.lt (by intro e; rw [e] at h3; simp at h3)
  have HR : Hid (∀ W, Tch (fun i => w.heap.size ≤ i) w W → RowAt W g 0 vs) := fun W t => hrow.tch t (fun _ => by omega)
  have HI : Hid (∀ v ∈ vs, v.i64) := hi
  have H3 : Hid (vs.length = 3) := h3
  clear hrow hi h3 hgl
  go_enter Tryd.func15, Tryd.ntmps15
  go_wp2_with fail
  go_loopw [3, 4] (fun v i wr => ∃ (k : Nat) (l : List Val), i = .int .i64 k ∧ k ≤ 3 ∧ Hid (l = (vs.take k).map rt) ∧ (l.length ≤ k ∧ Hid (l.length = k)) ∧ wr.ownsRow w.heap.size 23 3 v l.length (rcl l) ∧ Tch (fun i => w.heap.size ≤ i) w wr) (fun _ i _ => 3 - (intOf i).toNat)
  case atStart => exact ⟨0, [], rfl, by omega, rfl, ⟨Nat.le_refl _, rfl⟩, ⟨rfl, Or.inl ⟨rfl, rfl⟩⟩, Tch.refl _ _⟩
  case round =>
    obtain ⟨k, l, rfl, hk, HL, ⟨hll, HLL⟩, hown, hT⟩ := hrel
    obtain ⟨ao, cp, hv⟩ := row_slice hown
    subst hv
    have HG : Hid (∀ b, (Value.slice ao l.length cp).ownBlock = some b → w.heap.size ≤ b) := fun b hk => row_ge hown hk
    have HO : Hid (∀ W, Tch (fun _ => False) wr W → W.ownsRow w.heap.size 23 3 (.slice ao l.length cp) l.length (rcl l)) := fun W t => row_tch hown t (fun _ _ _ h => h)
    have hwr := hT.size
    by_cases hlt : (k : Int) < 3
    · have hkl : k < vs.length := by rw [H3.out]; omega
      obtain ⟨c0, c1, c2⟩ := HR.out wr hT k hkl
      obtain ⟨v, hv⟩ : ∃ v, v = vs[k] := ⟨_, rfl⟩
      rw [← hv] at c0 c1 c2
      simp only [Nat.zero_add] at c0 c1 c2
      have hvi := HI.out v (by rw [hv]; exact List.getElem_mem hkl)
      have HV : Hid ((vs.take (k + 1)).map rt = l ++ [rt v]) := by
        show _ = _
        rw [List.take_succ_eq_append_getElem hkl, List.map_append, ← HL.out, ← hv]; rfl
      have hra := right_any v wr hvi
      generalize rt v = u at hra HV
      clear hv hown hvi hkl
      go_wp2_with fail
      refine hra.mono ?_
      rintro x w1 ⟨rfl, t1⟩
      clear hra c0 c1 c2
      have hz := t1.size
      go_wp2_with (at_builtin; refine wpList_append_own _ rfl _ _ 36 rfl w.heap.size 23 i0 (.agg #[.int .i64 0, .int .i64 0, .string ⟨#[]⟩]) 3 32 Tryd.underlying36 hii hz0 hz1 hz2 rfl (by decide) (.slice ao l.length cp) _ _ rfl (HO.out _ (t1.allocR _)) ⟨w1.heap.size, 0, none⟩ 1 1 (rcl [u]) rfl rfl (rcl_cells (by simp) (by simp) (by simp)) (rcl_one _) (by unfold maxLen; omega) (by omega) (by simp; omega) ?_; intro v' w2 hown' hgr hnil; obtain ⟨ao', cp', hv'⟩ := row_slice hown'; subst hv'; clear hnil)
      refine ⟨⟨k + 1, l ++ [u], by go_num, by omega, HV.out.symm, ⟨by simp; omega, by show _ = _; rw [List.length_append, HLL.out]; rfl⟩, ?_, (hT.trans' (no_mono (t1.allocR _))).trans' (grown_tch hgr HG.out)⟩, by simp [intOf]; omega⟩
      rw [rcl_snoc, List.length_append]; exact hown'
    · obtain rfl : k = 3 := by omega
      have HE : Hid (l = vs.map rt) := by
        show _ = _
        rw [HL.out, List.take_of_length_le (by rw [H3.out]; exact Nat.le_refl _)]
      go_wp2_with fail
      go_ret
      obtain ⟨R, rfl, _, hr⟩ := row_at hown (by intro e; have := HLL.out; rw [e] at this; simp at this)
      refine ⟨⟨R, cp, ?_, by rw [← HE.out]; exact hr⟩, ge_new hT⟩
      show Ending.returned (.slice _ l.length cp) = _
      rw [HLL.out]
end Go.Proofs.YtnjbkkccofjmgaaDoor
