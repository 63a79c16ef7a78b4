import Derived.Test.YtdbaafigmfclcaaTNode
/- leaf, kid, count, recount. -/
namespace Go.Proofs.Ytdbaafigmfclcaa
open Go.RowKit Go

/-- A kids' row, for reading. -/
theorem kid_at {w : World} {kv : Value} {qs : List Nat} (h : w.ownsRow 0 62 1 kv qs.length (pcl qs)) {k : Nat} (hk : k < qs.length) : ∃ g c, kv = .slice (some ⟨g, 0, none⟩) qs.length c ∧ qs.length ≤ c ∧ c ≤ 9223372036854775807 ∧ g < w.heap.size ∧ w.cell? ⟨g, k, none⟩ = some (pv qs[k]) ∧ ∀ j, w.frozen? ⟨g, j, none⟩ = false := by
  obtain ⟨g, c, hv, hc, hm, hg, ha, hf⟩ := own_at h (by omega)
  have := ha _ _ (pcl_get qs k hk)
  rw [Nat.zero_add] at this
  exact ⟨g, c, hv, hc, by unfold maxLen at hm; omega, hg, this, hf⟩
theorem it_at {w : World} {iv : Value} {l : List It} (h : w.ownsRow 0 74 2 iv l.length (icl l)) {k : Nat} (hk : k < l.length) : ∃ g c, iv = .slice (some ⟨g, 0, none⟩) l.length c ∧ l.length ≤ c ∧ c ≤ 9223372036854775807 ∧ g < w.heap.size ∧ w.cell? ⟨g, k * 2, none⟩ = some (.string l[k].1) ∧ w.cell? ⟨g, k * 2 + 1, none⟩ = some (ev l[k].2) ∧ ∀ j, w.frozen? ⟨g, j, none⟩ = false := by
  obtain ⟨g, c, hv, hc, hm, hg, ha, hf⟩ := own_at h (by omega)
  obtain ⟨c0, c1⟩ := icl_get l k hk
  have a0 := ha _ _ c0
  have a1 := ha _ _ c1
  rw [Nat.zero_add] at a0 a1
  exact ⟨g, c, hv, hc, by unfold maxLen at hm; omega, hg, a0, a1, hf⟩
theorem leaf_any (p : Nat) (iv kv : Value) (l : List It) (qs : List Nat) (s : Int) (w : World) (h : FN w p iv kv l qs s) : Calls Try.prog 51 #[pv p] w fun x w' => x = .returned (.bool qs.isEmpty) ∧ w' = w := by
  obtain ⟨_, c1, _, _⟩ := h.nd.cells
  obtain ⟨ao, c, hv⟩ := row_slice h.kids
  rw [hv] at c1
  cases qs with
  | nil =>
    clear h hv
    go_enter Try.func51, Try.ntmps51
    go_wp2
    go_ret
    exact ⟨rfl, rfl⟩
  | cons q qs =>
    obtain ⟨n, hn⟩ : ∃ n, n = (q :: qs).length := ⟨_, rfl⟩
    have hn0 : ¬ (n : Int) = 0 := by rw [hn]; simp only [List.length_cons]; omega
    rw [← hn] at c1
    clear h hv hn
    go_enter Try.func51, Try.ntmps51
    go_wp2
    go_ret
    exact ⟨by have h9 : ¬ n = 0 := by omega
              simp [h9], rfl⟩
theorem kid_none (p i : Nat) (iv kv : Value) (l : List It) (s : Int) (w : World) (h : FN w p iv kv l [] s) : Calls Try.prog 31 #[pv p, .int .i64 i] w fun x w' => x = .returned (.pointer none) ∧ w' = w := by
  have q := leaf_any p iv kv l [] s w h
  clear h
  go_enter Try.func31, Try.ntmps31
  go_wp2_with (go_at_call 51; refine q.mono ?_; rintro x w1 ⟨rfl, rfl⟩)
  go_ret
  exact ⟨rfl, rfl⟩
theorem kid_some (p i : Nat) (iv kv : Value) (l : List It) (qs : List Nat) (s : Int) (w : World) (h : FN w p iv kv l qs s) (hi : i < qs.length) (hq : qs.length < 1000) : Calls Try.prog 31 #[pv p, .int .i64 i] w fun x w' => x = .returned (pv qs[i]) ∧ w' = w := by
  have q := leaf_any p iv kv l qs s w h
  rw [show qs.isEmpty = false by cases qs with | nil => simp at hi | cons => rfl] at q
  obtain ⟨_, c1, _, _⟩ := h.nd.cells
  obtain ⟨g, c, hv, hc, hm, hg, ha, _⟩ := kid_at h.kids hi
  rw [hv] at c1
  obtain ⟨y, hy⟩ : ∃ y, y = qs[i] := ⟨_, rfl⟩
  rw [← hy] at ha ⊢
  obtain ⟨n, hn⟩ : ∃ n, n = qs.length := ⟨_, rfl⟩
  rw [← hn] at c1 hi hc hq
  have h0 : (i : Int) < n := by omega
  clear h hv hy hn hg
  go_enter Try.func31, Try.ntmps31
  go_wp2_with (go_at_call 51; refine q.mono ?_; rintro x w1 ⟨rfl, rfl⟩)
  go_ret
  exact ⟨rfl, rfl⟩
theorem count_nil (w : World) : Calls Try.prog 32 #[.pointer none] w fun x w' => x = .returned (.int .i64 0) ∧ w' = w := by
  go_enter Try.func32, Try.ntmps32
  go_wp2
  go_ret
  exact ⟨rfl, rfl⟩
theorem count_any (p : Nat) (s : Int) (w : World) (h : w.cell? ⟨p, 2, none⟩ = some (.int .i64 s)) : Calls Try.prog 32 #[pv p] w fun x w' => x = .returned (.int .i64 s) ∧ w' = w := by
  go_enter Try.func32, Try.ntmps32
  go_wp2
  go_ret
  exact ⟨rfl, rfl⟩
theorem ND.setSz {w : World} {p : Nat} {iv kv : Value} {s s' : Int} (h : ND w p iv kv s) : ND (w.setCell ⟨p, 2, none⟩ (.int .i64 s')) p iv kv s' := by
  have := blk_set (i := 2) h (.int .i64 s'); unfold ND; simpa using this
theorem ND.setI {w : World} {p : Nat} {iv kv iv' : Value} {s : Int} (h : ND w p iv kv s) : ND (w.setCell ⟨p, 0, none⟩ iv') p iv' kv s := by
  have := blk_set (i := 0) h iv'; unfold ND; simpa using this
theorem ND.setK {w : World} {p : Nat} {iv kv kv' : Value} {s : Int} (h : ND w p iv kv s) : ND (w.setCell ⟨p, 1, none⟩ kv') p iv kv' s := by
  have := blk_set (i := 1) h kv'; unfold ND; simpa using this
theorem zsum_take (w : World) (qs : List Nat) (k : Nat) (hk : k < qs.length) : zsum w (qs.take (k + 1)) = zsum w (qs.take k) + zsz w qs[k] := by
  unfold zsum
  rw [List.take_succ_eq_append_getElem hk, List.map_append, List.sum_append]
  simp
theorem zsum_nonneg (w : World) (B : Int) : ∀ (qs : List Nat), (∀ q ∈ qs, 0 ≤ zsz w q) → 0 ≤ zsum w qs
  | [], _ => by simp [zsum]
  | q :: qs, h => by
    have := zsum_nonneg w B qs (fun x hx => h x (by simp [hx]))
    have := h q (by simp)
    unfold zsum at *
    simp only [List.map_cons, List.sum_cons]
    omega
theorem zsum_le (w : World) (qs : List Nat) (k : Nat) (h : ∀ q ∈ qs, 0 ≤ zsz w q) : zsum w (qs.take k) ≤ zsum w qs := by
  have h1 : zsum w (qs.take k) + zsum w (qs.drop k) = zsum w qs := by
    unfold zsum
    rw [← List.sum_append, ← List.map_append, List.take_append_drop]
  have := zsum_nonneg w 0 (qs.drop k) (fun q hq => h q (List.mem_of_mem_drop hq))
  omega
set_option maxHeartbeats 2000000 in
set_option maxRecDepth 100000 in
theorem recount_any (p : Nat) (iv kv : Value) (l : List It) (qs : List Nat) (s : Int) (w : World) (h : FN w p iv kv l qs s) (hz : ∀ q ∈ qs, w.cell? ⟨q, 2, none⟩ = some (.int .i64 (zsz w q)) ∧ 0 ≤ zsz w q ∧ q ≠ p) (hb : zsum w qs ≤ 1000000000000000000) (hl : l.length < 1000) (hq : qs.length < 1000) (hpi : iv.ownBlock ≠ some p) (hpk : kv.ownBlock ≠ some p) :
    Calls Try.prog 81 #[pv p] w fun x w' => x = .returned (.tuple #[]) ∧ FN w' p iv kv l qs (l.length + zsum w qs) ∧ Tch (fun i => i = p) w w' := by
  obtain ⟨ao, c, hv⟩ := row_slice h.its
  obtain ⟨ko, kc', hkv⟩ := row_slice h.kids
  obtain ⟨n, hn⟩ : ∃ n, n = l.length := ⟨_, rfl⟩
  obtain ⟨m, hm⟩ : ∃ m, m = qs.length := ⟨_, rfl⟩
  have HW : Hid (∀ W, Tch (fun i => i = p) w W → ∀ k (hk : k < qs.length), ∃ g, ko = some ⟨g, 0, none⟩ ∧ W.cell? ⟨g, k, none⟩ = some (pv qs[k]) ∧ W.cell? ⟨qs[k], 2, none⟩ = some (.int .i64 (zsz w qs[k]))) := fun W tW k hk => by
    obtain ⟨g, c, e, _, _, hg, ha, _⟩ := kid_at h.kids hk
    rw [hkv] at e
    injection e with e1
    have hgp : g ≠ p := fun e => hpk (by rw [hkv, e1, e]; rfl)
    obtain ⟨z1, z2, z3⟩ := hz qs[k] (List.getElem_mem hk)
    exact ⟨g, e1, by rw [tW.cell (p := ⟨g, k, none⟩) hg hgp]; exact ha, by rw [tW.cell (p := ⟨qs[k], 2, none⟩) (cell_lt z1) z3]; exact z1⟩
  have HR : Hid (∀ W (z : Int), Tch (fun i => i = p) w W → ND W p iv kv z → FN W p iv kv l qs z) := fun W z tW hnd => ⟨hnd, own_tch h.its tW (fun g e h2 => hpi (by rw [h2] at e; exact e)), own_tch h.kids tW (fun g e h2 => hpk (by rw [h2] at e; exact e))⟩
  have HZ : Hid (∀ q ∈ qs, 0 ≤ zsz w q) := fun q hq => (hz q hq).2.1
  obtain ⟨c0, c1, c2, f0⟩ := h.nd.cells
  have f2 := f0 2
  rw [hv, ← hn] at c0
  rw [hkv, ← hm] at c1
  have Hn : Hid (n = l.length) := hn
  have Hm : Hid (m = qs.length) := hm
  have hnI : (n : Int) < 1000 := by omega
  have hmI : (m : Int) < 1000 := by omega
  obtain ⟨w1, hw1⟩ : ∃ w1, w1 = w.setCell ⟨p, 2, none⟩ (.int .i64 n) := ⟨_, rfl⟩
  have t1 : Hid (Tch (fun i => i = p) w w1) := by rw [hw1]; exact Tch.setCell _ _ _ _ rfl
  have N1 : Hid (ND w1 p iv kv n) := by rw [hw1]; exact h.nd.setSz
  have c1' : w1.cell? ⟨p, 1, none⟩ = some (.slice ko m kc') := by have := N1.out.cells.2.1; rw [this, hkv, ← hm]
  have Hw1 : Hid _ := hw1
  have Hb : Hid _ := hb
  clear h hz hw1 hb hn hm f0 hl hq
  go_enter Try.func81, Try.ntmps81
  go_wp2_with fail
  have hw1 := Hw1.out
  rw [← hw1]
  clear hw1 c0 c1 c2 f2
  go_wp2_with fail
  go_loopw [17] (fun i wr => ∃ k : Nat, i = .int .i64 k ∧ k ≤ m ∧ Hid (ND wr p iv kv (n + zsum w (qs.take k)) ∧ Tch (fun i => i = p) w wr)) (fun i _ => m - (intOf i).toNat)
  case atStart => exact ⟨0, rfl, Nat.zero_le _, by
    refine ⟨?_, t1.out⟩
    have := N1.out
    simpa [zsum] using this⟩
  case round =>
    clear N1 t1 c1'
    obtain ⟨k, rfl, hk, H⟩ := hrel
    by_cases hlt : (k : Int) < m
    · have hkq : k < qs.length := by have := Hm.out; omega
      obtain ⟨g, rfl, a0, a1⟩ := HW.out _ H.out.2 k hkq
      obtain ⟨_, _, c2, f0⟩ := H.out.1.cells
      have f2 := f0 2
      clear f0
      obtain ⟨y, hy⟩ : ∃ y, y = qs[k] := ⟨_, rfl⟩
      obtain ⟨zy, hzy⟩ : ∃ zy, zy = zsz w y := ⟨_, rfl⟩
      rw [← hy] at a0 a1
      rw [← hzy] at a1
      obtain ⟨S, hS⟩ : ∃ S, S = zsum w (qs.take k) := ⟨_, rfl⟩
      have hS1 : 0 ≤ S := by rw [hS]; exact zsum_nonneg w 0 _ (fun q hq => HZ.out q (List.mem_of_mem_take hq))
      have hS2 : S + zy = zsum w (qs.take (k + 1)) := by rw [hS, hzy, hy]; exact (zsum_take w qs k hkq).symm
      have hS3 : S + zy ≤ 1000000000000000000 := by rw [hS2]; exact Int.le_trans (zsum_le w qs (k + 1) HZ.out) Hb.out
      have hzy0 : 0 ≤ zy := by rw [hzy, hy]; exact HZ.out _ (List.getElem_mem hkq)
      rw [← hS] at c2 H
      have HS2 : Hid (S + zy = zsum w (qs.take (k + 1))) := hS2
      clear hy hzy hS hS2
      go_wp2_with fail
      go_region
      go_wp2_with fail
      go_roundw
      case rel =>
        refine ⟨k + 1, rfl, by omega, ?_⟩
        refine ⟨?_, (H.out.2.setCellR _ _ rfl).drew⟩
        rw [← HS2.out, ← Int.add_assoc]
        exact ND.setSz (w := wr) H.out.1
      case measure => simp [intOf]; omega
    · obtain rfl : k = m := by omega
      have HF : Hid (FN wr p iv kv l qs (l.length + zsum w qs)) := by
        have := H.out.1
        rw [List.take_of_length_le (by have := Hm.out; omega), Hn.out] at this
        exact HR.out _ _ H.out.2 this
      go_wp2_with fail
      go_end0
      have h9 := HF.out
      rw [hv, hkv] at h9
      exact ⟨rfl, h9, H.out.2⟩
end Go.Proofs.Ytdbaafigmfclcaa
