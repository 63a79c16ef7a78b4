import Derived.Test.YtolobljlkdacjaaXRe9
/- The document's manager: Snapshot. -/
namespace Go.Proofs.Ytolobljlkdacjaa
open Go.RowKit Go Go.Sort

set_option maxHeartbeats 2000000 in
set_option maxRecDepth 100000 in
theorem rsnapshot_any (b : Nat) (ao : Option Addr) (c : Nat) (m : Mg) (L : List Nm) (w : World) (hnr : NR w b ao c L) (hm : Rel m L) (hc1 : w.cell? ⟨b, 1, none⟩ = some (.int .i64 m.nx)) :
    Calls Try.prog 59 #[.pointer (some ⟨b, 0, none⟩)] w fun x w' => SnapOut m w x w' := by
  obtain ⟨N, hN⟩ : ∃ N, N = w.heap.size := ⟨_, rfl⟩
  obtain ⟨w0, hw0⟩ : ∃ w0, w0 = w.alloc (.cells #[.int .i64 0, .int .i64 0, .slice none 0 0] 36) := ⟨_, rfl⟩
  have t0 : Tch (fun _ => False) w w0 := by rw [hw0]; exact Tch.alloc _ _ _
  have hY0 : w0.heap[N]? = some (.cells #[.int .i64 0, .int .i64 0, .slice none 0 0] 36 (0, 0)) := by rw [hw0, hN]; exact alloc_new _ _
  obtain ⟨C, hC⟩ : ∃ C, C = SC w0 m := ⟨_, rfl⟩
  have h0' : C [] none w0.drew := by rw [hC]; exact ⟨(Tch.refl _ _).drew, (fun q hq => by cases hq), (fun v hv => by cases hv), fun _ => by decide⟩
  have hK : ∀ s p W, C s p W → W.cell? ⟨b, 1, none⟩ = some (.int .i64 m.nx) := fun s p W hW => by
    rw [hC] at hW
    rw [(t0.trans' hW.1).cell (p := ⟨b, 1, none⟩) (cell_lt hc1) (fun h => h)]; exact hc1
  have hFl : ∀ s W, C s none W → C s (some (.pointer (some ⟨W.heap.size, 0, none⟩))) (W.alloc (.cells #[.int .i64 0, .int .i64 0, .slice none 0 0] 36)) := fun s W hW => by
    rw [hC] at hW ⊢
    obtain ⟨h1, _, h3, hl⟩ := hW
    refine ⟨h1.allocR _, fun q hq => ?_, fun v hv => own_tch (h3 v hv) (Tch.alloc (fun _ => False) _ _) (fun _ _ h => h), fun h => by cases h⟩
    cases hq
    refine ⟨_, rfl, h1.size, ?_, fun v hv e => ?_⟩
    · rw [alloc_new]
      congr 2
      split
      · have := hl rfl; simp at this
      · rfl
    · obtain ⟨cur, hc⟩ := own_blk (h3 v hv) e
      have := blk_lt hc
      omega
  have hop : ∀ p W, C [] p W → Calls Try.prog 57 #[.pointer (some ⟨b, 0, none⟩)] W fun x W' => ∃ v, x = .returned v ∧ C [v] p W' := fun p W hW => by
    rw [hC] at hW
    obtain ⟨h1, h2, _, _⟩ := hW
    have hop := ropen_any b ao c L W (hnr.no (t0.trans' h1)) hm.len
    rw [show fltN openP L = m.on from hm.opens] at hop
    refine hop.mono ?_
    rintro x W' ⟨⟨v, rfl, hv⟩, t⟩
    refine ⟨v, rfl, ?_⟩
    rw [hC]
    refine ⟨h1.trans' t, fun q hq => ?_, fun v' hv' => ?_, fun _ => by simp⟩
    · obtain ⟨pb, e, h4, h5, _⟩ := h2 q hq
      refine ⟨pb, e, h4, ?_, fun v' hv' e => ?_⟩
      · rw [t.block pb (blk_lt h5) (fun h => h)]; exact h5
      · simp only [List.head?_cons, Option.some.injEq] at hv'
        subst hv'
        have := row_ge hv e
        have := blk_lt h5
        omega
    · simp only [List.head?_cons, Option.some.injEq] at hv'
      subst hv'
      exact own_low hv h1.size
  have hsl : ∀ v p W, C [v] p W → ∃ o c, v = .slice o m.on.length c := fun v p W hW => by
    rw [hC] at hW
    exact row_slice (hW.2.2.1 v rfl)
  have hptr : ∀ s q W, C s (some q) W → ∃ pb, q = .pointer (some ⟨pb, 0, none⟩) := fun s q W hW => by
    rw [hC] at hW
    obtain ⟨pb, e, _⟩ := hW.2.1 q rfl
    exact ⟨pb, e⟩
  have hst : ∀ v u pb W, C [v] (some (.pointer (some ⟨pb, 0, none⟩))) W → (W.cell? ⟨pb, 0, none⟩ = some (.int .i64 0) ∧ W.cell? ⟨pb, 1, none⟩ = some (.int .i64 0) ∧ W.cell? ⟨pb, 2, none⟩ = some (.slice none 0 0)) ∧ (∀ j, W.frozen? ⟨pb, j, none⟩ = false) ∧ C [v, u] (some (.pointer (some ⟨pb, 0, none⟩))) (((W.setCell ⟨pb, 0, none⟩ (.int .i64 m.nx)).setCell ⟨pb, 1, none⟩ (.int .i64 m.nx)).setCell ⟨pb, 2, none⟩ v) := fun v u pb W hW => by
    rw [hC] at hW
    obtain ⟨h1, h2, h3, _⟩ := hW
    obtain ⟨pb', e, h4, h5, h6⟩ := h2 _ rfl
    injection e with e; injection e with e; injection e with e
    subst e
    refine ⟨⟨by rw [blk_cell h5]; rfl, by rw [blk_cell h5]; rfl, by rw [blk_cell h5]; rfl⟩, fun j => blk_frozen h5 j, ?_⟩
    rw [hC]
    have tE : Tch (fun i => i = pb) W (((W.setCell ⟨pb, 0, none⟩ (.int .i64 m.nx)).setCell ⟨pb, 1, none⟩ (.int .i64 m.nx)).setCell ⟨pb, 2, none⟩ v) := ((Tch.setCell (fun i => i = pb) W ⟨pb, 0, none⟩ _ rfl).setCellR ⟨pb, 1, none⟩ _ rfl).setCellR ⟨pb, 2, none⟩ _ rfl
    refine ⟨h1.trans tE (fun i hi e => by omega), fun q hq => ?_, fun v' hv' => own_tch (h3 v' hv') tE (fun g hg e => h6 v' hv' (by rw [hg, e])), fun h => by cases h⟩
    cases hq
    exact ⟨pb, rfl, h4, blk_set (blk_set (blk_set h5 _) _) _, fun v' hv' => h6 v' hv'⟩
  have HEND : Hid (∀ v u q W, C [v, u] (some q) W → ∃ pb, q = .pointer (some ⟨pb, 0, none⟩) ∧ w0.heap.size ≤ pb ∧ W.heap[pb]? = some (.cells #[.int .i64 m.nx, .int .i64 m.nx, v] 36 (0, 0)) ∧ v.ownBlock ≠ some pb ∧ W.ownsRow w0.heap.size 3 1 v m.on.length (icl m.on) ∧ Tch (fun _ => False) w0 W) := fun v u q W hW => by
    rw [hC] at hW
    obtain ⟨pb, e, h4, h5, h6⟩ := hW.2.1 q rfl
    exact ⟨pb, e, h4, h5, h6 v rfl, hW.2.2.1 v rfl, hW.1⟩
  have Hw0 : Hid _ := hw0
  have HN : Hid (N = w.heap.size) := hN
  have Ht0 : Hid _ := t0
  have HY0 : Hid _ := hY0
  have HS0 : Hid (w0.heap.size = N + 1) := by show _ = _; rw [hw0, hN]; simp
  obtain ⟨nx, hnx⟩ : ∃ nx, nx = m.nx := ⟨_, rfl⟩
  rw [← hnx] at hK hst HEND
  have Hnx : Hid (nx = m.nx) := hnx
  clear hC hnr hm hc1 hw0 hN t0 hY0 hnx
  go_enter Try.func59, Try.ntmps59
  go_wp2_with fail
  have hw0 := Hw0.out
  rw [← hw0]
  clear hw0
  refine wp_region_floo [9, 12] 11 _ C [0, 1, 2, 3, 4, 5, 6, 7, 8, 9, 10, 11, 12] (by kernel_rfl) (by kernel_rfl) rfl rfl (by rfl) (by kernel_rfl) (fun s a W hW b K Q hK' => ?_) h0' ?_
  · go_simp
    exact hK' _ _ (hFl s W hW)
  clear h0'
  refine floo_read rfl (by go_simp) (by rfl) (by rfl) ?_
  apply Exists.intro
  refine ⟨fun s' p' W hl hW b K Q hK' => ?_, fun K hK' => ?_⟩
  · have a1 := hK _ _ W hW
    go_simp
    exact hK' W hW
  go_simp
  refine hK' _ ?_
  clear hK' K
  refine floo_read rfl (by go_simp) (by rfl) (by rfl) ?_
  apply Exists.intro
  refine ⟨fun s' p' W hl hW b K Q hK' => ?_, fun K hK' => ?_⟩
  · have a1 := hK _ _ W hW
    go_simp
    exact hK' W hW
  go_simp
  refine hK' _ ?_
  clear hK' K
  refine floo_read rfl (by go_simp) (by rfl) (by rfl) ?_
  apply Exists.intro
  refine ⟨fun s' p' W hl hW b K Q hK' => ?_, fun K hK' => ?_⟩
  · have a1 := hK _ _ W hW
    go_simp
    exact hK' W hW
  go_simp
  refine hK' _ ?_
  clear hK' K
  refine floo_read rfl (by go_simp) (by rfl) (by rfl) ?_
  apply Exists.intro
  refine ⟨fun s' p' W hl hW b K Q hK' => ?_, fun K hK' => ?_⟩
  · have a1 := hK _ _ W hW
    go_simp
    exact hK' W hW
  go_simp
  refine hK' _ ?_
  clear hK' K
  refine floo_read rfl (by go_simp) (by rfl) (by rfl) ?_
  apply Exists.intro
  refine ⟨fun s' p' W hl hW b K Q hK' => ?_, fun K hK' => ?_⟩
  · have a1 := hK _ _ W hW
    go_simp
    exact hK' W hW
  go_simp
  refine hK' _ ?_
  clear hK' K
  refine floo_read rfl (by go_simp) (by rfl) (by rfl) ?_
  apply Exists.intro
  refine ⟨fun s' p' W hl hW b K Q hK' => ?_, fun K hK' => ?_⟩
  · have a1 := hK _ _ W hW
    go_simp
    exact hK' W hW
  go_simp
  refine hK' _ ?_
  clear hK' K
  refine floo_read rfl (by go_simp) (by rfl) (by rfl) ?_
  apply Exists.intro
  refine ⟨fun s' p' W hl hW b K Q hK' => ?_, fun K hK' => ?_⟩
  · have a1 := hK _ _ W hW
    go_simp
    exact hK' W hW
  go_simp
  refine hK' _ ?_
  clear hK' K
  refine floo_read rfl (by go_simp) (by rfl) (by rfl) ?_
  apply Exists.intro
  refine ⟨fun s' p' W hl hW b K Q hK' => ?_, fun K hK' => ?_⟩
  · have a1 := hK _ _ W hW
    go_simp
    exact hK' W hW
  go_simp
  refine hK' _ ?_
  clear hK' K
  refine floo_read rfl (by go_simp) (by rfl) (by rfl) ?_
  apply Exists.intro
  refine ⟨fun s' p' W hl hW b K Q hK' => ?_, fun K hK' => ?_⟩
  · have a1 := hK _ _ W hW
    go_simp
    exact hK' W hW
  go_simp
  refine hK' _ ?_
  clear hK' K
  refine floo_turn rfl (by go_simp) (by rfl) (fun p' hl W hW b K Q hK' => ?_) (fun u hu K hK' => ?_)
  · go_simp
    go_at_call 57
    refine (hop p' W hW).mono ?_
    rintro x w' ⟨y, rfl, h1⟩
    exact hK' y w' h1
  obtain ⟨vo, vc, rfl⟩ : ∃ o c, u = .slice o m.on.length c := by
    obtain ⟨p', W', _, hW'⟩ := hu
    exact hsl u p' W' hW'
  clear hu hop hsl
  go_simp
  refine hK' _ ?_
  clear hK' K
  refine floo_read rfl (by go_simp) (by rfl) (by rfl) ?_
  apply Exists.intro
  refine ⟨fun s' p' W hl hW b K Q hK' => ?_, fun K hK' => ?_⟩
  · have a1 := hK _ _ W hW
    go_simp
    exact hK' W hW
  go_simp
  refine hK' _ ?_
  clear hK' K
  refine floo_float rfl (by go_simp) (by rfl) (by rfl) (fun W hW b K Q hK' => ?_) (fun u hu K hK' => ?_)
  · go_simp
    exact hK' _ _ (hFl _ W hW)
  obtain ⟨pb, rfl⟩ : ∃ pb, u = .pointer (some ⟨pb, 0, none⟩) := by
    obtain ⟨s', W', hW'⟩ := hu
    exact hptr _ u W' hW'
  clear hu
  go_simp
  refine hK' _ ?_
  clear hK' K
  refine floo_turn rfl (by go_simp) (by rfl) (fun p' hl W hW b K Q hK' => ?_) (fun u hu K hK' => ?_)
  · obtain rfl := hl.some
    obtain ⟨⟨y0, y1, y2⟩, qf, qC⟩ := hst _ undef pb W hW
    have f0 := qf 0
    have f1 := qf 1
    have f2 := qf 2
    clear qf
    go_simp
    exact hK' _ _ qC
  clear hu
  go_simp
  refine hK' _ ?_
  clear hK' K
  refine floo_nil ?_
  intro w3 hw3
  obtain ⟨pb', e, h4, h5, h6, h7, h8⟩ := HEND.out _ _ _ w3 hw3
  injection e with e; injection e with e; injection e with e
  subst e
  clear hK hw3 hst hFl HEND hptr
  rename_i q1 q2
  clear q1 q2
  have hY : w3.heap[N]? = some (.cells #[.int .i64 0, .int .i64 0, .slice none 0 0] 36 (0, 0)) := by rw [h8.block N (blk_lt HY0.out) (fun h => h)]; exact HY0.out
  have hpN : pb ≠ N := by have := HS0.out; omega
  obtain ⟨z0, z1, z2⟩ : w3.cell? ⟨N, 0, none⟩ = some (.int .i64 0) ∧ w3.cell? ⟨N, 1, none⟩ = some (.int .i64 0) ∧ w3.cell? ⟨N, 2, none⟩ = some (.slice none 0 0) := ⟨by rw [blk_cell hY]; rfl, by rw [blk_cell hY]; rfl, by rw [blk_cell hY]; rfl⟩
  have zf := fun j => blk_frozen hY j
  obtain ⟨p0, p1, p2⟩ : w3.cell? ⟨pb, 0, none⟩ = some (.int .i64 nx) ∧ w3.cell? ⟨pb, 1, none⟩ = some (.int .i64 nx) ∧ w3.cell? ⟨pb, 2, none⟩ = some (.slice vo m.on.length vc) := ⟨by rw [blk_cell h5]; rfl, by rw [blk_cell h5]; rfl, by rw [blk_cell h5]; rfl⟩
  have pf := fun j => blk_frozen h5 j
  have f0 := zf 0; have f1 := zf 1; have f2 := zf 2; have g0 := pf 0
  have HFin : Hid (∀ W', Tch (fun i => i = N ∨ i = pb) w3 W' → W'.ownsRow w.heap.size 3 1 (.slice vo m.on.length vc) m.on.length (icl m.on) ∧ Tch (fun _ => False) w W') := fun W' t => by
    refine ⟨own_low (own_tch h7 t (fun g hg e => ?_)) Ht0.out.size, (Ht0.out.trans' h8).trans t (fun i hi e => ?_)⟩
    · rcases e with e | e
      · have := row_ge h7 hg
        have := HS0.out
        omega
      · exact h6 (by rw [hg, e])
    · have := HS0.out
      have := HN.out
      rcases e with e | e <;> omega
  have hrs : Try.f59.results = #[.cell 2 36] := by kernel_rfl
  rw [← HN.out]
  obtain hon | ⟨a, r, hon⟩ : m.on = [] ∨ ∃ a r, m.on = a :: r := by
    cases m.on with
    | nil => exact Or.inl rfl
    | cons a r => exact Or.inr ⟨a, r, rfl⟩
  · have HH : Hid (m.on.headD m.nx = nx) := by show _ = _; rw [hon, Hnx.out]; rfl
    have el : m.on.length = 0 := by rw [hon]; rfl
    have Hel : Hid _ := el
    rw [el] at p2 HFin ⊢
    clear h5 h6 h7 h8 hY zf pf hon el
    go_wp2_with fail
    refine bodyPost_ret (v := .agg #[.int .i64 nx, .int .i64 nx, .slice vo 0 vc]) (by simp only [results, hrs]; go_simp) rfl ?_
    have h1 := HFin.out _ ((((Tch.setCell (fun i => i = N ∨ i = pb) w3 ⟨N, 0, none⟩ (.int .i64 nx) (Or.inl rfl)).setCellR ⟨N, 1, none⟩ (.int .i64 nx) (Or.inl rfl)).setCellR ⟨N, 2, none⟩ (.slice vo 0 vc) (Or.inl rfl)))
    exact ⟨⟨.slice vo 0 vc, by rw [HH.out, Hnx.out], by rw [Hel.out]; exact h1.1⟩, h1.2⟩
  · have HH : Hid (m.on.headD m.nx = a) := by show _ = _; rw [hon]; rfl
    obtain ⟨k, hk⟩ : ∃ k, k = r.length := ⟨_, rfl⟩
    have el : m.on.length = k + 1 := by rw [hon, hk]; rfl
    have Hel : Hid _ := el
    rw [el] at p2 HFin h7 h6 ⊢
    obtain ⟨g, hg, hgc⟩ : ∃ g, vo = some ⟨g, 0, none⟩ ∧ w3.cell? ⟨g, 0, none⟩ = some (.int .i64 a) := by
      rcases h7.2 with ⟨_, h0⟩ | ⟨g, c, cur, hv, _, hgb, _, _, hs, ht⟩
      · omega
      · injection hv with hv
        refine ⟨g, hv, ?_⟩
        have hc := h7.cells (g := g) (by rw [hv]; rfl) 0 (.int .i64 a) (by rw [hon]; rfl)
        rw [add_plain] at hc
        exact hc
    subst hg
    have hgp : g ≠ pb := fun e => h6 (by rw [e]; rfl)
    clear h5 h6 h7 h8 hY zf pf hon el hk
    go_wp2_with fail
    refine bodyPost_ret (v := .agg #[.int .i64 a, .int .i64 nx, .slice (some ⟨g, 0, none⟩) (k + 1) vc]) (by simp only [results, hrs]; go_simp) rfl ?_
    have h1 := HFin.out _ ((((Tch.setCell (fun i => i = N ∨ i = pb) w3 ⟨pb, 0, none⟩ (.int .i64 a) (Or.inr rfl)).setCellR ⟨N, 0, none⟩ (.int .i64 a) (Or.inl rfl)).setCellR ⟨N, 1, none⟩ (.int .i64 nx) (Or.inl rfl)).setCellR ⟨N, 2, none⟩ (.slice (some ⟨g, 0, none⟩) (k + 1) vc) (Or.inl rfl))
    exact ⟨⟨.slice (some ⟨g, 0, none⟩) (k + 1) vc, by rw [HH.out, Hnx.out], by rw [Hel.out]; exact h1.1⟩, h1.2⟩
end Go.Proofs.Ytolobljlkdacjaa
