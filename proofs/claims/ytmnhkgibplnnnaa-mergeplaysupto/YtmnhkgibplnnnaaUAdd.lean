import Derived.Test.YtmnhkgibplnnnaaUMer
/- Add of a list's row. -/
namespace Go.Proofs.Ytmnhkgibplnnnaa
open Go.RowKit Go

def upF (f : Nat → Nat) (n x : Nat) (j : Nat) : Nat := if j = n then x else f j
theorem upF_at (f : Nat → Nat) (n x : Nat) : upF f n x n = x := if_pos rfl
theorem upF_ne (f : Nat → Nat) (n x : Nat) {j : Nat} (h : j < n) : upF f n x j = f j := if_neg (by omega)
def k0 : Rc := ⟨0, 0, 0, 0, none, 0, 0, none, 0, 0⟩
/-- A row more, that holds nothing yet. -/
theorem MS.room {D : Rc → List Value × List Value} {N : Nat} {w w2 : World} {mb g cap : Nat} {L : List It} {P B : Nat → Nat} {H : Nat → Rc} {rs : List (List Rc)} {b : Nat} {v : Value} (h : MS D N w mb g cap L P B H rs) (hb : w.heap[b]? = some (.cells #[v] 28 (0, 0))) (hbN : N ≤ b) (hbB : ∀ j, j < rs.length → B j ≠ b)
    (e2 : w2 = (w.setCell ⟨mb, 1, none⟩ (.int .i64 ((rs.length : Int) + 1))).alloc (.cells (rwC b k0) 69)) :
    MS D N w2 mb g cap L (upF P rs.length w.heap.size) (upF B rs.length b) H (rs ++ [[]]) ∧ w2.heap[w.heap.size]? = some (.cells (rwC b k0) 69 (0, 0)) ∧ Tch (fun i => i = mb) w w2 := by
  have hsz : (w.setCell ⟨mb, 1, none⟩ (.int .i64 ((rs.length : Int) + 1))).heap.size = w.heap.size := by simp [World.setCell]
  have t1 : Tch (fun i => i = mb) w (w.setCell ⟨mb, 1, none⟩ (.int .i64 ((rs.length : Int) + 1))) := Tch.setCell (fun i => i = mb) _ _ _ rfl
  have t2 : Tch (fun i => i = mb) w w2 := by rw [e2]; exact t1.allocR _
  have hbl := blk_lt hb
  have hml := blk_lt h.mbk
  have hlen : (rs ++ [[]]).length = rs.length + 1 := by simp
  have hN : N ≤ w.heap.size := by have := h.lo.1; omega
  have hNm := h.lo.1
  have old : ∀ (j : Nat) (c : Rc) (u : List Rc), (rs ++ [[]])[j]? = some (c :: u) → j < rs.length ∧ rs[j]? = some (c :: u) := fun j c u e => by
    have hj : j < rs.length := by
      rcases Nat.lt_or_ge j rs.length with h1 | h1
      · exact h1
      · rw [List.getElem?_append_right h1] at e
        exfalso
        by_cases h0 : j - rs.length = 0
        · rw [h0] at e; simp at e
        · rw [List.getElem?_eq_none (by simp; omega)] at e; cases e
    rw [List.getElem?_append_left hj] at e
    exact ⟨hj, e⟩
  refine ⟨⟨?_, h.hr.tch t2 (fun e => h.hr.ne h.mbk (by decide) (by decide) e.symm), h.hp, ?_, ?_, ?_, ?_, ?_, ⟨h.lo.1, h.lo.2.1, ?_⟩, ?_⟩, ?_, t2⟩
  · rw [e2, Below.heap_alloc _ _ _ (by rw [hsz]; exact hml), blk_set h.mbk, hlen]
    simp
  · exact (h.its.ext (fun _ _ => rfl) (fun j hj => (upF_ne P _ _ hj).symm)).more
  · intro j c u e
    have hj := (old j c u e).1
    have e := (old j c u e).2
    rw [upF_ne P _ _ hj, upF_ne B _ _ hj]
    have hR := h.row j c u e
    obtain ⟨ao, cp, hbi, _⟩ := hR.box
    exact hR.tch t2 (ne_ty hR.blk h.mbk (by decide)) (ne_ty hbi h.mbk (by decide)) (fun g0 hg e => by omega) (fun g0 cur hg => ne_ty hg h.mbk (by decide))
  · intro i j hi hj e
    rw [hlen] at hi hj
    unfold upF at e
    split at e <;> split at e
    · omega
    · have := (h.lt j (by omega)).1; omega
    · have := (h.lt i (by omega)).1; omega
    · exact h.injP i j (by omega) (by omega) e
  · intro i j hi hj e
    rw [hlen] at hi hj
    unfold upF at e
    split at e <;> split at e
    · omega
    · exact absurd e.symm (hbB j (by omega))
    · exact absurd e (hbB i (by omega))
    · exact h.injB i j (by omega) (by omega) e
  · intro j hj
    rw [hlen] at hj
    have hs2 : w2.heap.size = w.heap.size + 1 := by rw [e2, World.size_alloc, hsz]
    unfold upF
    split
    · exact ⟨by omega, by omega⟩
    · have := h.lt j (by omega); exact ⟨by omega, by omega⟩
  · intro j hj
    rw [hlen] at hj
    unfold upF
    split
    · exact ⟨hN, hbN⟩
    · exact h.lo.2.2 j (by omega)
  · intro i j c d u v e e' hne
    exact h.dis i j c d u v (old i c u e).2 (old j d v e').2 hne
  · rw [e2, ← hsz]; exact alloc_new _ _
theorem feq_no (b : Nat) (w : World) : (binOp .eql 51 (.func (.func 28) #[] #[.pointer (some ⟨b, 0, none⟩)]) .nilFunc).run Try.prog w = .ok (.bool false) w := by kernel_rfl
set_option maxHeartbeats 4000000 in
set_option maxRecDepth 100000 in
theorem add_any (D : Rc → List Value × List Value) (N : Nat) (mb g cap : Nat) (L : List It) (P B : Nat → Nat) (H : Nat → Rc) (rs : List (List Rc)) (w : World) (h : MS D N w mb g cap L P B H rs) (b : Nat) (l0 : List Rc) (ao : Option Addr) (cp : Nat) (hb : w.heap[b]? = some (.cells #[.slice ao l0.length cp] 28 (0, 0))) (hl : RL D N w ao cp l0) (hbN : N ≤ b) (hbB : ∀ j, j < rs.length → B j ≠ b) (hs : rs.length < 1000000000000) :
    Calls Try.prog 10 #[.pointer (some ⟨mb, 0, none⟩), fV b] w fun e w' => e = .returned (.tuple #[]) ∧ (∃ g' cap' L' H', MS D N w' mb g' cap' L' (upF P rs.length w.heap.size) (upF B rs.length b) H' (rs ++ [l0])) ∧ w.heap.size ≤ w'.heap.size ∧ Tch (fun i => N ≤ i) w w' := by
  have m1 : w.cell? ⟨mb, 1, none⟩ = some (.int .i64 (rs.length : Int)) := blk_cell h.mbk 1
  have fm := blk_frozen h.mbk
  obtain ⟨w1, hw1⟩ : ∃ w1, w1 = w.setCell ⟨mb, 1, none⟩ (.int .i64 ((rs.length : Int) + 1)) := ⟨_, rfl⟩
  obtain ⟨w2, hw2⟩ : ∃ w2, w2 = w1.alloc (.cells (rwC b k0) 69) := ⟨_, rfl⟩
  obtain ⟨h2, hp2, t2⟩ := h.room hb hbN hbB (w2 := w2) (by rw [hw2, hw1])
  have hsz : w1.heap.size = w.heap.size := by rw [hw1]; simp [World.setCell]
  have k1 : w2.cell? ⟨mb, 1, none⟩ = some (.int .i64 ((rs.length : Int) + 1)) := by
    have := blk_cell h2.mbk 1
    rw [this]; simp
  have hbm : b ≠ mb := ne_ty hb h.mbk (by decide)
  have hb2 := (t2.block b (blk_lt hb) hbm).trans hb
  have hl2 : RL D N w2 ao cp l0 := hl.tch t2 (fun g0 hg e => by have := h.lo.1; omega)
  have hlen : (rs ++ [([] : List Rc)]).length = rs.length + 1 := by simp
  have q : Calls Try.prog 25 #[.pointer (some ⟨mb, 0, none⟩), .pointer (some ⟨w.heap.size, 0, none⟩), .int .i64 ((rs.length : Int) + 1)] w2 fun e w' => e = .returned (.tuple #[]) ∧ (∃ g' cap' L' H', MS D N w' mb g' cap' L' (upF P rs.length w.heap.size) (upF B rs.length b) H' (rs ++ [l0])) ∧ w.heap.size ≤ w'.heap.size ∧ Tch (fun i => N ≤ i) w w' := by
    have hmN := h.lo.1
    have t2' : Tch (fun i => N ≤ i) w w2 := t2.mono (fun i _ e => by omega)
    cases l0 with
    | nil =>
      refine (ask_nil mb w.heap.size b ((rs.length : Int) + 1) k0 ao cp w2 hp2 hb2).mono ?_
      rintro e w' ⟨rfl, t⟩
      exact ⟨rfl, ⟨g, cap, L, H, h2.no t⟩, Nat.le_trans t2.size t.size, t2'.trans t (fun _ _ h => h.elim)⟩
    | cons c u =>
      have hL : L.length ≤ rs.length := its_len h.its
      refine (ask_cons D N mb w.heap.size b g cap ((rs ++ [([] : List Rc)]).length : Nat) ((rs.length : Int) + 1) L c k0 u ao cp w2 h2.mbk h2.hr h2.hp (by omega) hp2 hb2 hl2 h.lo.1 (by have := blk_lt h.mbk; omega) hbN h.lo.2.1).mono ?_
      rintro e w' ⟨rfl, g', cap', L', hc, a⟩
      have a' : AO D N w2 w' mb (upF P rs.length w.heap.size rs.length) (upF B rs.length b rs.length) g cap ((rs ++ [([] : List Rc)]).length : Nat) (tn1 rs.length) L c u g' cap' L' hc := by rw [upF_at, upF_at]; exact a
      have h3 := h2.asked (j := rs.length) (c0 := k0) (by simp) (by rw [upF_at, upF_at]; exact hp2) (by rw [upF_at]; exact hb2) a'
      rw [List.set_append_right _ _ (Nat.le_refl _), Nat.sub_self] at h3
      refine ⟨rfl, ⟨g', cap', L', _, h3⟩, Nat.le_trans t2.size a.tch.size, t2'.trans a.tch (fun i hi e => ?_)⟩
      have := h.lo.2.1
      omega
  have HW1 : Hid (w1 = _) := hw1
  have HW2 : Hid (w2 = w1.alloc (.cells #[.func (.func 28) #[] #[.pointer (some ⟨b, 0, none⟩)], .int .i64 0, .int .i64 0, .int .i64 0, .int .i64 0, .slice none 0 0, .slice none 0 0] 69)) := hw2
  unfold fV
  have hfe := feq_no b
  obtain ⟨n, hn⟩ : ∃ n, n = rs.length := ⟨_, rfl⟩
  have Hn : Hid (n = rs.length) := hn
  rw [← hn] at m1 k1 q HW1 hs
  clear h hb hl hbN hbB h2 hp2 t2 hb2 hl2 hlen hw1 hw2 hn hbm
  go_enter Try.func10, Try.ntmps10
  go_upto_region 2 with (fail)
  rw [← HW1.out]
  clear m1 fm
  rw [HW2.out] at k1 q
  go_wp2_with fail
  refine q.mono ?_
  rintro e w3 ⟨rfl, h3⟩
  have H3 : Hid _ := h3
  clear h3 q k1
  go_wp2
  go_end0
  rw [← Hn.out]
  exact ⟨rfl, H3.out⟩
end Go.Proofs.Ytmnhkgibplnnnaa
