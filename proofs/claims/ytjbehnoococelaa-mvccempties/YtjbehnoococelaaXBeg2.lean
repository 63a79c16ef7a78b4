import Derived.Test.YtjbehnoococelaaXSurv
import Derived.Test.YtjbehnoococelaaFloO
import Derived.LaidEqlPtr
import Derived.Maps.Views
/- Snapshot. -/
namespace Go.Proofs.Ytjbehnoococelaa
open Go.RowKit Go Go.Sort

/-- What a Snapshot gives. -/
def SnapOut (m : Mg) (w : World) (x : Ending) (w' : World) : Prop := (∃ v', x = .returned (.agg #[.int .i64 (m.on.headD m.nx : Nat), .int .i64 m.nx, v']) ∧ w'.ownsRow w.heap.size 3 1 v' m.on.length (icl m.on)) ∧ Tch (fun _ => False) w w'

/-- The stages of the region. -/
def SC (w0 : World) (m : Mg) (s : List Value) (p : Option Value) (W : World) : Prop :=
  Tch (fun _ => False) w0 W ∧
  (∀ q, p = some q → ∃ pb, q = .pointer (some ⟨pb, 0, none⟩) ∧ w0.heap.size ≤ pb ∧ W.heap[pb]? = some (.cells (match s with
    | [v, _] => #[.int .i64 m.nx, .int .i64 m.nx, v]
    | _ => #[.int .i64 0, .int .i64 0, .slice none 0 0]) 27 (0, 0)) ∧ ∀ v, s.head? = some v → v.ownBlock ≠ some pb) ∧
  (∀ v, s.head? = some v → W.ownsRow w0.heap.size 3 1 v m.on.length (icl m.on)) ∧ (p = none → s.length < 2)

set_option maxHeartbeats 2000000 in
set_option maxRecDepth 100000 in
theorem snapshot_any (b : Nat) (m : Mg) (σ : Nat → Option Nat) (mb : Nat) (bl : Nat → Nat) (w : World) (h : MG w b m σ mb bl) :
    Calls Try.prog 6 #[.pointer (some ⟨b, 0, none⟩)] w fun x w' => SnapOut m w x w' := by
  obtain ⟨N, hN⟩ : ∃ N, N = w.heap.size := ⟨_, rfl⟩
  obtain ⟨w0, hw0⟩ : ∃ w0, w0 = w.alloc (.cells #[.int .i64 0, .int .i64 0, .slice none 0 0] 27) := ⟨_, rfl⟩
  have t0 : Tch (fun _ => False) w w0 := by rw [hw0]; exact Tch.alloc _ _ _
  have hY0 : w0.heap[N]? = some (.cells #[.int .i64 0, .int .i64 0, .slice none 0 0] 27 (0, 0)) := by rw [hw0, hN]; exact alloc_new _ _
  obtain ⟨C, hC⟩ : ∃ C, C = SC w0 m := ⟨_, rfl⟩
  have h0' : C [] none w0.drew := by rw [hC]; exact ⟨(Tch.refl _ _).drew, (fun q hq => by cases hq), (fun v hv => by cases hv), fun _ => by decide⟩
  have hK : ∀ s p W, C s p W → W.cell? ⟨b, 1, none⟩ = some (.int .i64 m.nx) := fun s p W hW => by
    rw [hC] at hW
    exact (h.no (t0.trans' hW.1)).c1
  have hFl : ∀ s W, C s none W → C s (some (.pointer (some ⟨W.heap.size, 0, none⟩))) (W.alloc (.cells #[.int .i64 0, .int .i64 0, .slice none 0 0] 27)) := fun s W hW => by
    rw [hC] at hW ⊢
    obtain ⟨h1, _, h3, hl⟩ := hW
    refine ⟨h1.allocR _, fun q hq => ?_, fun v hv => own_tch (h3 v hv) (Tch.alloc (fun _ => False) _ _) (fun _ _ h => h), fun h => by cases h⟩
    cases hq
    refine ⟨_, rfl, h1.size, ?_, fun v hv e => ?_⟩
    · rw [alloc_new]
      congr 2
      split
      · have := hl rfl; simp at this
      · rfl
    · obtain ⟨cur, hc⟩ := own_blk (h3 v hv) e
      have := blk_lt hc
      omega
  have hop : ∀ p W, C [] p W → Calls Try.prog 23 #[.pointer (some ⟨b, 0, none⟩)] W fun x W' => ∃ v, x = .returned v ∧ C [v] p W' := fun p W hW => by
    rw [hC] at hW
    obtain ⟨h1, h2, _, _⟩ := hW
    refine (open_any b m σ mb bl W (h.no (t0.trans' h1))).mono ?_
    rintro x W' ⟨⟨v, rfl, hv⟩, t⟩
    refine ⟨v, rfl, ?_⟩
    rw [hC]
    refine ⟨h1.trans' t, fun q hq => ?_, fun v' hv' => ?_, fun _ => by simp⟩
    · obtain ⟨pb, e, h4, h5, _⟩ := h2 q hq
      refine ⟨pb, e, h4, ?_, fun v' hv' e => ?_⟩
      · rw [t.block pb (blk_lt h5) (fun h => h)]; exact h5
      · simp only [List.head?_cons, Option.some.injEq] at hv'
        subst hv'
        have := row_ge hv e
        have := blk_lt h5
        omega
    · simp only [List.head?_cons, Option.some.injEq] at hv'
      subst hv'
      exact own_low hv h1.size
  have hsl : ∀ v p W, C [v] p W → ∃ o c, v = .slice o m.on.length c := fun v p W hW => by
    rw [hC] at hW
    exact row_slice (hW.2.2.1 v rfl)
  have hptr : ∀ s q W, C s (some q) W → ∃ pb, q = .pointer (some ⟨pb, 0, none⟩) := fun s q W hW => by
    rw [hC] at hW
    obtain ⟨pb, e, _⟩ := hW.2.1 q rfl
    exact ⟨pb, e⟩
  have hst : ∀ v u pb W, C [v] (some (.pointer (some ⟨pb, 0, none⟩))) W → (W.cell? ⟨pb, 0, none⟩ = some (.int .i64 0) ∧ W.cell? ⟨pb, 1, none⟩ = some (.int .i64 0) ∧ W.cell? ⟨pb, 2, none⟩ = some (.slice none 0 0)) ∧ (∀ j, W.frozen? ⟨pb, j, none⟩ = false) ∧ C [v, u] (some (.pointer (some ⟨pb, 0, none⟩))) (((W.setCell ⟨pb, 0, none⟩ (.int .i64 m.nx)).setCell ⟨pb, 1, none⟩ (.int .i64 m.nx)).setCell ⟨pb, 2, none⟩ v) := fun v u pb W hW => by
    rw [hC] at hW
    obtain ⟨h1, h2, h3, _⟩ := hW
    obtain ⟨pb', e, h4, h5, h6⟩ := h2 _ rfl
    injection e with e; injection e with e; injection e with e
    subst e
    refine ⟨⟨by rw [blk_cell h5]; rfl, by rw [blk_cell h5]; rfl, by rw [blk_cell h5]; rfl⟩, fun j => blk_frozen h5 j, ?_⟩
    rw [hC]
    have tE : Tch (fun i => i = pb) W (((W.setCell ⟨pb, 0, none⟩ (.int .i64 m.nx)).setCell ⟨pb, 1, none⟩ (.int .i64 m.nx)).setCell ⟨pb, 2, none⟩ v) := ((Tch.setCell (fun i => i = pb) W ⟨pb, 0, none⟩ _ rfl).setCellR ⟨pb, 1, none⟩ _ rfl).setCellR ⟨pb, 2, none⟩ _ rfl
    refine ⟨h1.trans tE (fun i hi e => by omega), fun q hq => ?_, fun v' hv' => own_tch (h3 v' hv') tE (fun g hg e => h6 v' hv' (by rw [hg, e])), fun h => by cases h⟩
    cases hq
    exact ⟨pb, rfl, h4, blk_set (blk_set (blk_set h5 _) _) _, fun v' hv' => h6 v' hv'⟩
  have HEND : Hid (∀ v u q W, C [v, u] (some q) W → ∃ pb, q = .pointer (some ⟨pb, 0, none⟩) ∧ w0.heap.size ≤ pb ∧ W.heap[pb]? = some (.cells #[.int .i64 m.nx, .int .i64 m.nx, v] 27 (0, 0)) ∧ v.ownBlock ≠ some pb ∧ W.ownsRow w0.heap.size 3 1 v m.on.length (icl m.on) ∧ Tch (fun _ => False) w0 W) := fun v u q W hW => by
    rw [hC] at hW
    obtain ⟨pb, e, h4, h5, h6⟩ := hW.2.1 q rfl
    exact ⟨pb, e, h4, h5, h6 v rfl, hW.2.2.1 v rfl, hW.1⟩
  have Hw0 : Hid _ := hw0
  have HN : Hid (N = w.heap.size) := hN
  have Ht0 : Hid _ := t0
  have HY0 : Hid _ := hY0
  have HS0 : Hid (w0.heap.size = N + 1) := by show _ = _; rw [hw0, hN]; simp
  obtain ⟨nx, hnx⟩ : ∃ nx, nx = m.nx := ⟨_, rfl⟩
  rw [← hnx] at hK hst HEND
  have Hnx : Hid (nx = m.nx) := hnx
  clear hC h hw0 hN t0 hY0 hnx
  go_enter Try.func6, Try.ntmps6
  go_wp2_with fail
  have hw0 := Hw0.out
  rw [← hw0]
  clear hw0
  refine wp_region_floo [9, 12] 11 _ C [0, 1, 2, 3, 4, 5, 6, 7, 8, 9, 10, 11, 12] (by kernel_rfl) (by kernel_rfl) rfl rfl (by rfl) (by kernel_rfl) (fun s a W hW b K Q hK' => ?_) h0' ?_
  · go_simp
    exact hK' _ _ (hFl s W hW)
  clear h0'
  refine floo_read rfl (by go_simp) (by rfl) (by rfl) ?_
  apply Exists.intro
  refine ⟨fun s' p' W hl hW b K Q hK' => ?_, fun K hK' => ?_⟩
  · have a1 := hK _ _ W hW
    go_simp
    exact hK' W hW
  go_simp
  refine hK' _ ?_
  clear hK' K
  refine floo_read rfl (by go_simp) (by rfl) (by rfl) ?_
  apply Exists.intro
  refine ⟨fun s' p' W hl hW b K Q hK' => ?_, fun K hK' => ?_⟩
  · have a1 := hK _ _ W hW
    go_simp
    exact hK' W hW
  go_simp
  refine hK' _ ?_
  clear hK' K
  refine floo_read rfl (by go_simp) (by rfl) (by rfl) ?_
  apply Exists.intro
  refine ⟨fun s' p' W hl hW b K Q hK' => ?_, fun K hK' => ?_⟩
  · have a1 := hK _ _ W hW
    go_simp
    exact hK' W hW
  go_simp
  refine hK' _ ?_
  clear hK' K
  refine floo_read rfl (by go_simp) (by rfl) (by rfl) ?_
  apply Exists.intro
  refine ⟨fun s' p' W hl hW b K Q hK' => ?_, fun K hK' => ?_⟩
  · have a1 := hK _ _ W hW
    go_simp
    exact hK' W hW
  go_simp
  refine hK' _ ?_
  clear hK' K
  refine floo_read rfl (by go_simp) (by rfl) (by rfl) ?_
  apply Exists.intro
  refine ⟨fun s' p' W hl hW b K Q hK' => ?_, fun K hK' => ?_⟩
  · have a1 := hK _ _ W hW
    go_simp
    exact hK' W hW
  go_simp
  refine hK' _ ?_
  clear hK' K
  refine floo_read rfl (by go_simp) (by rfl) (by rfl) ?_
  apply Exists.intro
  refine ⟨fun s' p' W hl hW b K Q hK' => ?_, fun K hK' => ?_⟩
  · have a1 := hK _ _ W hW
    go_simp
    exact hK' W hW
  go_simp
  refine hK' _ ?_
  clear hK' K
  refine floo_read rfl (by go_simp) (by rfl) (by rfl) ?_
  apply Exists.intro
  refine ⟨fun s' p' W hl hW b K Q hK' => ?_, fun K hK' => ?_⟩
  · have a1 := hK _ _ W hW
    go_simp
    exact hK' W hW
  go_simp
  refine hK' _ ?_
  clear hK' K
  refine floo_read rfl (by go_simp) (by rfl) (by rfl) ?_
  apply Exists.intro
  refine ⟨fun s' p' W hl hW b K Q hK' => ?_, fun K hK' => ?_⟩
  · have a1 := hK _ _ W hW
    go_simp
    exact hK' W hW
  go_simp
  refine hK' _ ?_
  clear hK' K
  refine floo_read rfl (by go_simp) (by rfl) (by rfl) ?_
  apply Exists.intro
  refine ⟨fun s' p' W hl hW b K Q hK' => ?_, fun K hK' => ?_⟩
  · have a1 := hK _ _ W hW
    go_simp
    exact hK' W hW
  go_simp
  refine hK' _ ?_
  clear hK' K
  refine floo_turn rfl (by go_simp) (by rfl) (fun p' hl W hW b K Q hK' => ?_) (fun u hu K hK' => ?_)
  · go_simp
    go_at_call 23
    refine (hop p' W hW).mono ?_
    rintro x w' ⟨y, rfl, h1⟩
    exact hK' y w' h1
  obtain ⟨vo, vc, rfl⟩ : ∃ o c, u = .slice o m.on.length c := by
    obtain ⟨p', W', _, hW'⟩ := hu
    exact hsl u p' W' hW'
  clear hu hop hsl
  go_simp
  refine hK' _ ?_
  clear hK' K
  refine floo_read rfl (by go_simp) (by rfl) (by rfl) ?_
  apply Exists.intro
  refine ⟨fun s' p' W hl hW b K Q hK' => ?_, fun K hK' => ?_⟩
  · have a1 := hK _ _ W hW
    go_simp
    exact hK' W hW
  go_simp
  refine hK' _ ?_
  clear hK' K
  refine floo_float rfl (by go_simp) (by rfl) (by rfl) (fun W hW b K Q hK' => ?_) (fun u hu K hK' => ?_)
  · go_simp
    exact hK' _ _ (hFl _ W hW)
  obtain ⟨pb, rfl⟩ : ∃ pb, u = .pointer (some ⟨pb, 0, none⟩) := by
    obtain ⟨s', W', hW'⟩ := hu
    exact hptr _ u W' hW'
  clear hu
  go_simp
  refine hK' _ ?_
  clear hK' K
  refine floo_turn rfl (by go_simp) (by rfl) (fun p' hl W hW b K Q hK' => ?_) (fun u hu K hK' => ?_)
  · obtain rfl := hl.some
    obtain ⟨⟨y0, y1, y2⟩, qf, qC⟩ := hst _ undef pb W hW
    have f0 := qf 0
    have f1 := qf 1
    have f2 := qf 2
    clear qf
    go_simp
    exact hK' _ _ qC
  clear hu
  go_simp
  refine hK' _ ?_
  clear hK' K
  refine floo_nil ?_
  intro w3 hw3
  obtain ⟨pb', e, h4, h5, h6, h7, h8⟩ := HEND.out _ _ _ w3 hw3
  injection e with e; injection e with e; injection e with e
  subst e
  clear hK hw3 hst hFl HEND hptr
  rename_i q1 q2
  clear q1 q2
  have hY : w3.heap[N]? = some (.cells #[.int .i64 0, .int .i64 0, .slice none 0 0] 27 (0, 0)) := by rw [h8.block N (blk_lt HY0.out) (fun h => h)]; exact HY0.out
  have hpN : pb ≠ N := by have := HS0.out; omega
  obtain ⟨z0, z1, z2⟩ : w3.cell? ⟨N, 0, none⟩ = some (.int .i64 0) ∧ w3.cell? ⟨N, 1, none⟩ = some (.int .i64 0) ∧ w3.cell? ⟨N, 2, none⟩ = some (.slice none 0 0) := ⟨by rw [blk_cell hY]; rfl, by rw [blk_cell hY]; rfl, by rw [blk_cell hY]; rfl⟩
  have zf := fun j => blk_frozen hY j
  obtain ⟨p0, p1, p2⟩ : w3.cell? ⟨pb, 0, none⟩ = some (.int .i64 nx) ∧ w3.cell? ⟨pb, 1, none⟩ = some (.int .i64 nx) ∧ w3.cell? ⟨pb, 2, none⟩ = some (.slice vo m.on.length vc) := ⟨by rw [blk_cell h5]; rfl, by rw [blk_cell h5]; rfl, by rw [blk_cell h5]; rfl⟩
  have pf := fun j => blk_frozen h5 j
  have f0 := zf 0; have f1 := zf 1; have f2 := zf 2; have g0 := pf 0
  have HFin : Hid (∀ W', Tch (fun i => i = N ∨ i = pb) w3 W' → W'.ownsRow w.heap.size 3 1 (.slice vo m.on.length vc) m.on.length (icl m.on) ∧ Tch (fun _ => False) w W') := fun W' t => by
    refine ⟨own_low (own_tch h7 t (fun g hg e => ?_)) Ht0.out.size, (Ht0.out.trans' h8).trans t (fun i hi e => ?_)⟩
    · rcases e with e | e
      · have := row_ge h7 hg
        have := HS0.out
        omega
      · exact h6 (by rw [hg, e])
    · have := HS0.out
      have := HN.out
      rcases e with e | e <;> omega
  have hrs : Try.f6.results = #[.cell 2 27] := by kernel_rfl
  rw [← HN.out]
  obtain hon | ⟨a, r, hon⟩ : m.on = [] ∨ ∃ a r, m.on = a :: r := by
    cases m.on with
    | nil => exact Or.inl rfl
    | cons a r => exact Or.inr ⟨a, r, rfl⟩
  · have HH : Hid (m.on.headD m.nx = nx) := by show _ = _; rw [hon, Hnx.out]; rfl
    have el : m.on.length = 0 := by rw [hon]; rfl
    have Hel : Hid _ := el
    rw [el] at p2 HFin ⊢
    clear h5 h6 h7 h8 hY zf pf hon el
    go_wp2_with fail
    refine bodyPost_ret (v := .agg #[.int .i64 nx, .int .i64 nx, .slice vo 0 vc]) (by simp only [results, hrs]; go_simp) rfl ?_
    have h1 := HFin.out _ ((((Tch.setCell (fun i => i = N ∨ i = pb) w3 ⟨N, 0, none⟩ (.int .i64 nx) (Or.inl rfl)).setCellR ⟨N, 1, none⟩ (.int .i64 nx) (Or.inl rfl)).setCellR ⟨N, 2, none⟩ (.slice vo 0 vc) (Or.inl rfl)))
    exact ⟨⟨.slice vo 0 vc, by rw [HH.out, Hnx.out], by rw [Hel.out]; exact h1.1⟩, h1.2⟩
  · have HH : Hid (m.on.headD m.nx = a) := by show _ = _; rw [hon]; rfl
    obtain ⟨k, hk⟩ : ∃ k, k = r.length := ⟨_, rfl⟩
    have el : m.on.length = k + 1 := by rw [hon, hk]; rfl
    have Hel : Hid _ := el
    rw [el] at p2 HFin h7 h6 ⊢
    obtain ⟨g, hg, hgc⟩ : ∃ g, vo = some ⟨g, 0, none⟩ ∧ w3.cell? ⟨g, 0, none⟩ = some (.int .i64 a) := by
      rcases h7.2 with ⟨_, h0⟩ | ⟨g, c, cur, hv, _, hgb, _, _, hs, ht⟩
      · omega
      · injection hv with hv
        refine ⟨g, hv, ?_⟩
        have hc := h7.cells (g := g) (by rw [hv]; rfl) 0 (.int .i64 a) (by rw [hon]; rfl)
        rw [add_plain] at hc
        exact hc
    subst hg
    have hgp : g ≠ pb := fun e => h6 (by rw [e]; rfl)
    clear h5 h6 h7 h8 hY zf pf hon el hk
    go_wp2_with fail
    refine bodyPost_ret (v := .agg #[.int .i64 a, .int .i64 nx, .slice (some ⟨g, 0, none⟩) (k + 1) vc]) (by simp only [results, hrs]; go_simp) rfl ?_
    have h1 := HFin.out _ ((((Tch.setCell (fun i => i = N ∨ i = pb) w3 ⟨pb, 0, none⟩ (.int .i64 a) (Or.inr rfl)).setCellR ⟨N, 0, none⟩ (.int .i64 a) (Or.inl rfl)).setCellR ⟨N, 1, none⟩ (.int .i64 nx) (Or.inl rfl)).setCellR ⟨N, 2, none⟩ (.slice (some ⟨g, 0, none⟩) (k + 1) vc) (Or.inl rfl))
    exact ⟨⟨.slice (some ⟨g, 0, none⟩) (k + 1) vc, by rw [HH.out, Hnx.out], by rw [Hel.out]; exact h1.1⟩, h1.2⟩
end Go.Proofs.Ytjbehnoococelaa
/- Sees. -/
namespace Go.Proofs.Ytjbehnoococelaa
open Go.RowKit Go Go.Sort

theorem field_num (po : Option Addr) (io : Int) (w : World) : (Instr.field 68 (.agg #[.pointer po, .int .i64 io]) 0).run Try.prog w = .ok (.pointer po) w := by kernel_rfl
theorem info_tx : (Try.prog.info? 73).map (fun i => (i.zero, i.size, i.bytes)) = some (some (.agg #[.int .i64 0, .int .i64 0, .slice none 0 0]), 3, 40) := by kernel_rfl
theorem eql_tx_same (a : Addr) (w : World) : (binOp .eql 66 (.pointer (some a)) (.pointer (some a))).run Try.prog w = .ok (.bool true) w := by
  obtain ⟨i0, hi, _⟩ := info_parts info_tx
  exact run_eql_ptr_same w a Try.underlying66 hi
theorem eql_tx_other {a b : Addr} {ca cb : Array Value} {ta tb : TypeId} (w : World) (hne : a ≠ b) (ha : w.heap[a.block]? = some (.cells ca ta (0, 0))) (hb : w.heap[b.block]? = some (.cells cb tb (0, 0))) : (binOp .eql 66 (.pointer (some a)) (.pointer (some b))).run Try.prog w = .ok (.bool false) w := by
  obtain ⟨i0, hi, _, hs, _⟩ := info_parts info_tx
  exact run_eql_ptr_other w Try.underlying66 hi (by rw [hs]; decide) hne ha hb
theorem eql_tx_nil (a : Addr) (w : World) : (binOp .eql 66 (.pointer (some a)) (.pointer none)).run Try.prog w = .ok (.bool false) w := by
  have h : ∀ d : Nat, (Op.equalIn (d + 1) 66 (.pointer (some a)) (.pointer none)).run Try.prog w = .ok false w := fun d => by
    simp [Op.equalIn, run_underlying Try.underlying66]
  simp only [binOp]
  simp [Op.equal, Op.maxDepth, h 9999]

def sameTx (o : Option (Tx × Int)) (t : Tx) : Bool := match o with
  | none => false
  | some (u, _) => decide (u.x = t.x)
def Mg.sees (m : Mg) (mn mx : Int) (l : List Int) (own x : Int) : Bool := match fnd m.tx x with
  | none => decide (1 ≤ x) && decide (x < mn)
  | some (t, i) => if sameTx (fnd m.tx own) t then decide (stE (some (t, i)) ≠ 4) else decide (stE (some (t, i)) = 3) && (decide ((t.x : Int) < mx) && !decide ((t.x : Int) ∈ l))

theorem sees_none (b : Nat) (m : Mg) (σ : Nat → Option Nat) (mb : Nat) (bl : Nat → Nat) (w : World) (h : MG w b m σ mb bl) (mn mx : Int) (l : List Int) (v : Value) (own x : Int) (h1 : -9223372036854775808 ≤ x) (h2 : x ≤ 9223372036854775807) (hf : fnd m.tx x = none) :
    Calls Try.prog 49 #[.pointer (some ⟨b, 0, none⟩), .agg #[.int .i64 mn, .int .i64 mx, v], .int .i64 own, .int .i64 x] w fun y w' => y = .returned (.bool (m.sees mn mx l own x)) ∧ Tch (fun _ => False) w w' := by
  obtain ⟨w0, hw0⟩ : ∃ w0, w0 = w.alloc (.cells #[.int .i64 mn, .int .i64 mx, v] 27) := ⟨_, rfl⟩
  have t0 : Tch (fun _ => False) w w0 := by rw [hw0]; exact Tch.alloc _ _ _
  have hY0 : w0.heap[w.heap.size]? = some (.cells #[.int .i64 mn, .int .i64 mx, v] 27 (0, 0)) := by rw [hw0]; exact alloc_new _ _
  have c0 := (h.no t0).c0
  have q := find_any b m σ mb bl x w0 (h.no t0) h1 h2
  rw [lk_none hf] at q
  have qs := fun W => known_any none W
  simp only [numV, Option.isSome_none] at q qs
  have HS : Hid (m.sees mn mx l own x = (decide (1 ≤ x) && decide (x < mn))) := by show _ = _; simp [Mg.sees, hf]
  have HY0 : Hid _ := hY0
  have Ht0 : Hid _ := t0
  rw [hw0] at c0
  clear h hf h1 h2 hY0 t0
  go_enter Try.func49, Try.ntmps49
  go_wp2_with fail
  rw [← hw0]
  refine q.mono ?_
  rintro y w1 ⟨rfl, t1⟩
  clear q hw0 c0
  have HT1 : Hid (Tch (fun _ => False) w0 w1) := t1
  clear t1
  go_wp2_with fail
  refine (qs _).mono ?_
  rintro y w2 ⟨rfl, t2⟩
  clear qs
  have T2 := (HT1.out.trans' (Tch.alloc _ _ _)).trans' t2
  have d0 : w2.cell? ⟨w.heap.size, 0, none⟩ = some (.int .i64 mn) := by rw [T2.cell (p := ⟨w.heap.size, 0, none⟩) (blk_lt HY0.out) (fun h => h), blk_cell HY0.out]; rfl
  have HT2 : Hid (Tch (fun _ => False) w w2) := Ht0.out.trans' T2
  clear t2 T2
  by_cases hx : 1 ≤ x
  · go_wp2
    go_ret
    exact ⟨by rw [HS.out]; simp [hx], HT2.out⟩
  · go_wp2
    go_ret
    exact ⟨by rw [HS.out, show decide (1 ≤ x) = false from decide_eq_false (by omega)]; rfl, HT2.out⟩

set_option maxHeartbeats 2000000 in
set_option maxRecDepth 100000 in
theorem sees_some (b : Nat) (m : Mg) (σ : Nat → Option Nat) (mb : Nat) (bl : Nat → Nat) (w : World) (h : MG w b m σ mb bl) (mn mx : Int) (l : List Int) (ao : Option Addr) (c : Nat) (hl : l.length ≤ 9223372036854775807) (hI : IR w ao l) (own x : Int) (h1 : -9223372036854775808 ≤ x) (h2 : x ≤ 9223372036854775807) (h3 : -9223372036854775808 ≤ own) (h4 : own ≤ 9223372036854775807) {t : Tx} {i : Int} (hf : fnd m.tx x = some (t, i)) :
    Calls Try.prog 49 #[.pointer (some ⟨b, 0, none⟩), .agg #[.int .i64 mn, .int .i64 mx, .slice ao l.length c], .int .i64 own, .int .i64 x] w fun y w' => y = .returned (.bool (m.sees mn mx l own x)) ∧ Tch (fun _ => False) w w' := by
  obtain ⟨w0, hw0⟩ : ∃ w0, w0 = w.alloc (.cells #[.int .i64 mn, .int .i64 mx, .slice ao l.length c] 27) := ⟨_, rfl⟩
  have t0 : Tch (fun _ => False) w w0 := by rw [hw0]; exact Tch.alloc _ _ _
  have hY0 : w0.heap[w.heap.size]? = some (.cells #[.int .i64 mn, .int .i64 mx, .slice ao l.length c] 27 (0, 0)) := by rw [hw0]; exact alloc_new _ _
  have c0 := (h.no t0).c0
  have q := find_any b m σ mb bl x w0 (h.no t0) h1 h2
  obtain ⟨hx, hi, h64, hst, hlk, htm⟩ := h.at hf
  rw [hlk] at q
  have qs := fun W => known_any (some (bl t.x, i)) W
  have qo := fun W (hW : Tch (fun _ => False) w W) => find_any b m σ mb bl own W (h.no hW) h3 h4
  have qst := fun W (hW : Tch (fun _ => False) w W) => state_some σ (bl t.x) t i W (hx.tch hW (fun _ _ h => h.elim) (fun _ _ h => h)) hi h64
  have qc := fun W (hW : Tch (fun _ => False) w W) => contains_any l ao c t.x W (hI.no hW) hl
  obtain ⟨n, hn⟩ : ∃ n, n = l.length := ⟨_, rfl⟩
  rw [← hn] at qc hY0 hw0 ⊢
  obtain ⟨po, io, hpo, hsm⟩ : ∃ po io, numV (lkB bl m.tx own) = .agg #[.pointer po, .int .i64 io] ∧ ∀ W, Tch (fun _ => False) w W → (binOp .eql 66 (.pointer (some ⟨bl t.x, 0, none⟩)) (.pointer po)).run Try.prog W = .ok (.bool (sameTx (fnd m.tx own) t)) W := by
    cases ho : fnd m.tx own with
    | none => exact ⟨none, 0, by simp [lkB, ho, numV], fun W _ => eql_tx_nil _ _⟩
    | some a =>
      obtain ⟨u, j⟩ := a
      refine ⟨some ⟨bl u.x, 0, none⟩, j, by simp [lkB, ho, numV], fun W tW => ?_⟩
      by_cases hu : u.x = t.x
      · rw [hu]
        have e : sameTx (some (u, j)) t = true := by simp [sameTx, hu]
        rw [e]
        exact eql_tx_same _ _
      · have e : sameTx (some (u, j)) t = false := by simp [sameTx, hu]
        rw [e]
        obtain ⟨_, a1, _⟩ := ((h.xs t htm).tch tW (fun _ _ h => h.elim) (fun _ _ h => h)).blk
        obtain ⟨_, a2, _⟩ := ((h.xs u (fnd_mem ho).1).tch tW (fun _ _ h => h.elim) (fun _ _ h => h)).blk
        refine eql_tx_other W (fun e => ?_) a1 a2
        injection e with e
        exact hu (h.inj t htm u (fnd_mem ho).1 e).symm
  obtain ⟨sm, hsm0⟩ : ∃ sm, sm = sameTx (fnd m.tx own) t := ⟨_, rfl⟩
  rw [← hsm0] at hsm
  rw [hpo] at qo
  obtain ⟨e, he⟩ : ∃ e, e = stE (some (t, i)) := ⟨_, rfl⟩
  have HS : Hid (m.sees mn mx l own x = if sm then decide (e ≠ 4) else decide (e = 3) && (decide ((t.x : Int) < mx) && !decide ((t.x : Int) ∈ l))) := by show _ = _; simp only [Mg.sees, hf, he, hsm0]
  rw [← he] at qst
  obtain ⟨tb, htb⟩ : ∃ tb, tb = bl t.x := ⟨_, rfl⟩
  rw [← htb] at q qs qst hsm hx
  simp only [numV, Option.isSome_some] at q qs qst
  obtain ⟨tx, htx⟩ : ∃ tx, tx = t.x := ⟨_, rfl⟩
  rw [← htx] at HS qc
  obtain ⟨cc, hcc⟩ : ∃ cc, cc = decide ((tx : Int) ∈ l) := ⟨_, rfl⟩
  rw [← hcc] at HS qc
  have HY0 : Hid _ := hY0
  have Ht0 : Hid _ := t0
  have Hx : Hid (XB w σ tb t) := hx
  have Htx : Hid (tx = t.x) := htx
  have Hqo : Hid _ := qo
  have Hqst : Hid _ := qst
  have Hqc : Hid _ := qc
  have Hm : Hid (MG w b m σ mb bl) := h
  have Hsm : Hid _ := hsm
  rw [hw0] at c0
  clear h hf h1 h2 h3 h4 hY0 t0 hx hi h64 hst hlk htm hI hl hn hpo he htb htx hcc qo qst qc hsm hsm0
  go_enter Try.func49, Try.ntmps49
  go_wp2_with fail
  rw [← hw0]
  refine q.mono ?_
  rintro y w1 ⟨rfl, t1⟩
  clear q hw0 c0
  have HT1 : Hid (Tch (fun _ => False) w0 w1) := t1
  clear t1
  go_wp2_with fail
  obtain ⟨w2, hw2⟩ : ∃ w2, w2 = w1.alloc (.cells #[.pointer (some ⟨tb, 0, none⟩), .int .i64 i] 68) := ⟨_, rfl⟩
  have hb : w2.heap[w1.heap.size]? = some (.cells #[.pointer (some ⟨tb, 0, none⟩), .int .i64 i] 68 (0, 0)) := by rw [hw2]; exact alloc_new _ _
  have HT2 : Hid (Tch (fun _ => False) w0 w2) := by show Tch _ _ _; rw [hw2]; exact HT1.out.trans' (Tch.alloc _ _ _)
  rw [← hw2]
  clear hw2
  refine (qs _).mono ?_
  rintro y w3 ⟨rfl, t3⟩
  clear qs
  obtain ⟨n1, hn1⟩ : ∃ n1, n1 = w1.heap.size := ⟨_, rfl⟩
  obtain ⟨n0, hn0⟩ : ∃ n0, n0 = w.heap.size := ⟨_, rfl⟩
  have F : ∀ W, Tch (fun _ => False) w3 W → (W.cell? ⟨n1, 0, none⟩ = some (.pointer (some ⟨tb, 0, none⟩)) ∧ W.cell? ⟨n1, 1, none⟩ = some (.int .i64 i)) ∧ (W.cell? ⟨n0, 0, none⟩ = some (.int .i64 mn) ∧ W.cell? ⟨n0, 1, none⟩ = some (.int .i64 mx) ∧ W.cell? ⟨n0, 2, none⟩ = some (.slice ao n c)) ∧ W.cell? ⟨b, 0, none⟩ = some (.map (some mb)) ∧ W.cell? ⟨tb, 0, none⟩ = some (.int .i64 tx) ∧ Tch (fun _ => False) w W := fun W tW => by
    have T := t3.trans' tW
    have T0 := HT2.out.trans' T
    have T00 := Ht0.out.trans' T0
    have b1 := hb
    have b0 := HY0.out
    rw [← hn1] at b1
    rw [← hn0] at b0
    have a1 := (T.block n1 (blk_lt b1) (fun h => h)).trans b1
    have a0 := (T0.block n0 (blk_lt b0) (fun h => h)).trans b0
    obtain ⟨v, e0, _⟩ := (Hx.out.tch T00 (fun _ _ h => h.elim) (fun _ _ h => h)).c
    refine ⟨⟨by rw [blk_cell a1]; rfl, by rw [blk_cell a1]; rfl⟩, ⟨by rw [blk_cell a0]; rfl, by rw [blk_cell a0]; rfl, by rw [blk_cell a0]; rfl⟩, (Hm.out.no T00).c0, ?_, T00⟩
    rw [Htx.out]; exact e0
  rw [← hn1, ← hn0]
  have HF : Hid _ := F
  obtain ⟨⟨a0, a1⟩, ⟨s0, s1, s2⟩, m0, x0, T3⟩ := F w3 (Tch.refl _ _)
  have k0 := cell_regrown a0; have k1 := cell_regrown m0
  have hcall : ∀ d os, Calls Try.prog 27 #[.map (some mb), .int .i64 own] (grow (redrawn w3 d) os) fun e w'' => e = .returned (.agg #[.pointer po, .int .i64 io]) ∧ ∃ p : Regrown, w'' = grow (redrawn w3 p.d) p.os := fun d os => Calls.tch_regrown_of (Hqo.out _ (T3.trans' (tch_regrown w3 ⟨d, os⟩)))
  have heq : ∀ (a : Regrown), (binOp .eql 66 (.pointer (some ⟨tb, 0, none⟩)) (.pointer po)).run Try.prog (grow (redrawn w3 a.d) a.os) = .ok (.bool sm) (grow (redrawn w3 a.d) a.os) := fun a => Hsm.out _ (T3.trans' (tch_regrown w3 a))
  have hfl := field_num po io
  clear F t3 hb hn1 hn0 T3 a1 s0 s1 s2 x0
  go_wp2_with fail
  refine wp_region_quiet_below (by kernel_rfl) (by kernel_rfl) ?_
  repeat (quiet_step ((go_at_call 27; exact hcall _ _)))
  refine wpQuiet_nil ?_
  rintro w4 ⟨pp, rfl⟩
  have tG := tch_regrown w3 pp
  obtain ⟨W, hW⟩ : ∃ W, W = grow (redrawn w3 pp.d) pp.os := ⟨_, rfl⟩
  rw [← hW] at tG ⊢
  clear hW k0 k1 hcall a0 m0 heq hfl
  obtain ⟨⟨a0, a1⟩, ⟨s0, s1, s2⟩, m0, x0, T4⟩ := HF.out W tG
  have HT4 : Hid (Tch (fun _ => False) w W) := T4
  cases sm with
  | true =>
    have Q := Hqst.out W T4
    clear s0 s1 s2 m0 x0 T4 tG
    go_wp2_with fail
    refine Q.mono ?_
    rintro y w5 ⟨rfl, t5⟩
    clear Q a0 a1
    have HT5 : Hid (Tch (fun _ => False) w w5) := HT4.out.trans' t5
    clear t5
    by_cases he4 : e = 4
    · subst he4
      go_wp2
      go_ret
      exact ⟨by rw [HS.out]; rfl, HT5.out⟩
    · have he1 : ((e : Int) == 4) = false := by simp; omega
      have heI : ¬ (e : Int) = 4 := by omega
      go_wp2
      go_ret
      exact ⟨by rw [HS.out]; simp [he4]; omega, HT5.out⟩
  | false =>
    have HS' : Hid (m.sees mn mx l own x = (decide (e = 3) && (decide ((tx : Int) < mx) && !cc))) := by show _ = _; rw [HS.out]; rfl
    have k0 := cell_regrown a0; have k1 := cell_regrown a1; have k2 := cell_regrown s1; have k3 := cell_regrown s2; have k4 := cell_regrown x0
    have hcall : ∀ d os, Calls Try.prog 56 #[.agg #[.pointer (some ⟨tb, 0, none⟩), .int .i64 i]] (grow (redrawn W d) os) fun e' w'' => e' = .returned (.int .i64 e) ∧ ∃ p : Regrown, w'' = grow (redrawn W p.d) p.os := fun d os => Calls.tch_regrown_of (Hqst.out _ (T4.trans' (tch_regrown W ⟨d, os⟩)))
    have hcon : ∀ d os, Calls Try.prog 59 #[.slice ao n c, .int .i64 tx] (grow (redrawn W d) os) fun e' w'' => e' = .returned (.bool cc) ∧ ∃ p : Regrown, w'' = grow (redrawn W p.d) p.os := fun d os => Calls.tch_regrown_of ((Hqc.out _ (T4.trans' (tch_regrown W ⟨d, os⟩))).mono (fun _ _ ⟨h1, h2⟩ => ⟨h1, by rw [h2]; exact Tch.refl _ _⟩))
    clear a0 a1 s0 s1 s2 m0 x0 T4 tG HS
    by_cases he3 : e = 3
    · subst he3
      have hcall' : ∀ d os, Calls Try.prog 56 #[.agg #[.pointer (some ⟨tb, 0, none⟩), .int .i64 i]] (grow (redrawn W d) os) fun e' w'' => e' = .returned (.int .i64 3) ∧ ∃ p : Regrown, w'' = grow (redrawn W p.d) p.os := hcall
      clear hcall
      by_cases hmx : (tx : Int) < mx
      · go_wp2_with fail
        refine wp_region_quiet_below (by kernel_rfl) (by kernel_rfl) ?_
        go_big_quiet_step (fail)
        go_big_quiet_step ((go_at_call 56; exact hcall' _ _))
        repeat (go_big_quiet_step (fail))
        go_big_quiet_step ((go_at_call 59; exact hcon _ _))
        repeat (go_big_quiet_step (fail))
        refine wpQuiet_nil ?_
        rintro w5 ⟨pp, rfl⟩
        have HT5 : Hid (Tch (fun _ => False) w (grow (redrawn W pp.d) pp.os)) := HT4.out.trans' (tch_regrown W pp)
        clear k0 k1 k2 k3 k4 hcall' hcon
        go_wp2
        go_ret
        exact ⟨by rw [HS'.out]; simp [hmx], HT5.out⟩
      · go_wp2_with fail
        have hmx2 : ¬ (tx : Int) < mx := by omega
        have hmx3 : decide ((tx : Int) < mx) = false := decide_eq_false hmx2
        refine wp_region_quiet_below (by kernel_rfl) (by kernel_rfl) ?_
        go_big_quiet_step (fail)
        go_big_quiet_step ((go_at_call 56; exact hcall' _ _))
        repeat (go_big_quiet_step (fail))
        refine wpQuiet_nil ?_
        rintro w5 ⟨pp, rfl⟩
        have HT5 : Hid (Tch (fun _ => False) w (grow (redrawn W pp.d) pp.os)) := HT4.out.trans' (tch_regrown W pp)
        clear k0 k1 k2 k3 k4 hcall' hcon
        go_wp2
        go_ret
        exact ⟨by rw [HS'.out, decide_eq_false (p := (tx : Int) < mx) (by omega)]; rfl, HT5.out⟩
    · have he1 : ((e : Int) == 3) = false := by simp; omega
      have heI : ¬ (e : Int) = 3 := by omega
      go_wp2_with fail
      refine wp_region_quiet_below (by kernel_rfl) (by kernel_rfl) ?_
      go_big_quiet_step (fail)
      go_big_quiet_step ((go_at_call 56; exact hcall _ _))
      repeat (go_big_quiet_step (fail))
      refine wpQuiet_nil ?_
      rintro w5 ⟨pp, rfl⟩
      have HT5 : Hid (Tch (fun _ => False) w (grow (redrawn W pp.d) pp.os)) := HT4.out.trans' (tch_regrown W pp)
      clear k0 k1 k2 k3 k4 hcall hcon
      go_wp2
      go_ret
      exact ⟨by rw [HS'.out]; simp [he3], HT5.out⟩
end Go.Proofs.Ytjbehnoococelaa
/- New, give, begin, Begin. -/
namespace Go.Proofs.Ytjbehnoococelaa
open Go.RowKit Go Go.Sort

/-- From w and σ on, to w' and σ': none but the manager's own blocks are turned, none changes its owner. -/
structure Stp (w : World) (σ : Nat → Option Nat) (w' : World) (σ' : Nat → Option Nat) : Prop where
  tch : Tch (fun i => σ i ≠ none) w w'
  ext : ∀ i, i < w.heap.size → σ' i = σ i
theorem Stp.refl (w : World) (σ : Nat → Option Nat) : Stp w σ w σ := ⟨Tch.refl _ _, fun _ _ => rfl⟩
theorem Stp.trans {w w' w'' : World} {σ σ' σ'' : Nat → Option Nat} (h : Stp w σ w' σ') (k : Stp w' σ' w'' σ'') : Stp w σ w'' σ'' :=
  ⟨h.tch.trans k.tch (fun i hi hs => by rw [h.ext i hi] at hs; exact hs), fun i hi => (k.ext i (Nat.lt_of_lt_of_le hi h.tch.size)).trans (h.ext i hi)⟩
theorem Stp.of_no {w w' : World} {σ : Nat → Option Nat} (h : Tch (fun _ => False) w w') : Stp w σ w' σ := ⟨h.mono (fun _ _ h => h.elim), fun _ _ => rfl⟩

/-- A manager at b that has none of the blocks F. -/
def MF (w : World) (b : Nat) (m : Mg) (F : Nat → Prop) : Prop := ∃ σ mb bl, MG w b m σ mb bl ∧ ∀ i, F i → σ i = none ∧ i < w.heap.size
abbrev Kept (F : Nat → Prop) (w w' : World) : Prop := Tch (fun i => ¬ F i) w w'
theorem MF.stp {w w' : World} {b : Nat} {m' : Mg} {σ σ' : Nat → Option Nat} {mb : Nat} {bl : Nat → Nat} {F : Nat → Prop} (hF : ∀ i, F i → σ i = none ∧ i < w.heap.size) (h' : MG w' b m' σ' mb bl) (s : Stp w σ w' σ') : MF w' b m' F ∧ Kept F w w' :=
  ⟨⟨σ', mb, bl, h', fun i hi => ⟨(s.ext i (hF i hi).2).trans (hF i hi).1, Nat.lt_of_lt_of_le (hF i hi).2 s.tch.size⟩⟩, s.tch.mono (fun i _ hs hf => hs (hF i hf).1)⟩
theorem MF.tch {w w' : World} {b : Nat} {m : Mg} {F S : Nat → Prop} (h : MF w b m F) (t : Tch S w w') (hS : ∀ i, i < w.heap.size → S i → F i) : MF w' b m F := by
  obtain ⟨σ, mb, bl, h, hF⟩ := h
  exact ⟨σ, mb, bl, h.tch t (fun i hi hs => (hF i (hS i hi hs)).1), fun i hi => ⟨(hF i hi).1, Nat.lt_of_lt_of_le (hF i hi).2 t.size⟩⟩
theorem MF.no {w w' : World} {b : Nat} {m : Mg} {F : Nat → Prop} (h : MF w b m F) (t : Tch (fun _ => False) w w') : MF w' b m F := h.tch t (fun _ _ h => h.elim)
theorem MF.fresh {w w' : World} {b : Nat} {m : Mg} {F : Nat → Prop} (h : MF w b m F) (t : Tch (fun _ => False) w w') : MF w' b m (fun i => F i ∨ w.heap.size ≤ i ∧ i < w'.heap.size) := by
  obtain ⟨σ, mb, bl, h, hF⟩ := h
  refine ⟨σ, mb, bl, h.no t, fun i hi => ?_⟩
  rcases hi with hi | ⟨h1, h2⟩
  · exact ⟨(hF i hi).1, Nat.lt_of_lt_of_le (hF i hi).2 t.size⟩
  · refine ⟨?_, h2⟩
    cases hs : σ i with
    | none => rfl
    | some a => have := h.lt i (by rw [hs]; exact fun h => by cases h); omega
theorem MF.mono {w : World} {b : Nat} {m : Mg} {F G : Nat → Prop} (h : MF w b m F) (hG : ∀ i, G i → F i) : MF w b m G := by
  obtain ⟨σ, mb, bl, h, hF⟩ := h
  exact ⟨σ, mb, bl, h, fun i hi => hF i (hG i hi)⟩
theorem MF.wf {w : World} {b : Nat} {m : Mg} {F : Nat → Prop} (h : MF w b m F) : Wf m := by
  obtain ⟨σ, mb, bl, h, hF⟩ := h
  exact h.wf

theorem new_bad (n : Int) (w : World) (h : n < 1 ∨ 2147483648 < n) : Calls Try.prog 20 #[.int .i64 n] w fun x w' => x = .returned (.tuple #[.pointer none, .int .i64 1]) ∧ w' = w := by
  by_cases h1 : n < 1
  · go_enter Try.func20, Try.ntmps20
    go_wp2
    go_ret2
    exact ⟨rfl, rfl⟩
  · have h2 : 2147483648 < n := by omega
    clear h
    go_enter Try.func20, Try.ntmps20
    go_wp2
    go_ret2
    exact ⟨rfl, rfl⟩
theorem new_ok (n : Nat) (w : World) (h1 : 1 ≤ n) (h2 : n ≤ 2147483648) : Calls Try.prog 20 #[.int .i64 n] w fun x w' => (∃ b, x = .returned (.tuple #[.pointer (some ⟨b, 0, none⟩), .int .i64 0]) ∧ w.heap.size ≤ b ∧ ∀ F, (∀ i, F i → i < w.heap.size) → MF w' b ⟨n, [], []⟩ F) ∧ Tch (fun _ => False) w w' := by
  have h1' : ¬ (n : Int) < 1 := by omega
  have h2' : ¬ (2147483648 : Int) < n := by omega
  obtain ⟨w0, hw0⟩ : ∃ w0, w0 = w.alloc (.map #[] 0) := ⟨_, rfl⟩
  have t0 : Tch (fun _ => False) w w0 := by rw [hw0]; exact Tch.alloc _ _ _
  have hs0 : w0.heap.size = w.heap.size + 1 := by rw [hw0]; simp
  obtain ⟨w1, hw1⟩ : ∃ w1, w1 = w0.alloc (.cells #[.map (some w.heap.size), .int .i64 n, .slice none 0 0] 64) := ⟨_, rfl⟩
  have t1 : Tch (fun _ => False) w0 w1 := by rw [hw1]; exact Tch.alloc _ _ _
  have hs1 : w1.heap.size = w.heap.size + 2 := by rw [hw1]; simp [hs0]
  have hM : w1.ownsMap Try.prog 3 numElem w.heap.size 0 (.map []) := by
    have h0 : w0.ownsMap Try.prog 3 numElem w.heap.size 0 (.map []) := by rw [hw0]; exact World.ownsMap_made w Try.prog 3 numElem
    exact ownsMap_tch h0 t1 (fun h => h)
  have hb : w1.heap[w.heap.size + 1]? = some (.cells #[.map (some w.heap.size), .int .i64 n, .slice none 0 0] 64 (0, 0)) := by rw [hw1, ← hs0]; exact alloc_new _ _
  have HF : Hid (∀ F, (∀ i, F i → i < w.heap.size) → MF w1 (w.heap.size + 1) ⟨n, [], []⟩ F) := fun F hF => by
    refine ⟨fun i => if i = w.heap.size ∨ i = w.heap.size + 1 then some (w.heap.size + 1) else none, w.heap.size, fun _ => 0, ⟨?_, ⟨_, hb, ⟨rfl, Or.inl ⟨rfl, rfl⟩⟩, fun g hg => by cases hg⟩, by simp, by simp, ⟨0, _, Nat.zero_le _, hM, fun k zd => rfl⟩, (fun t ht => by cases ht), (fun t ht => by cases ht), (fun t ht => by cases ht), fun i hi => ?_⟩, fun i hi => ?_⟩
    · exact ⟨h1, h2, (fun t ht => by cases ht), (fun t ht => by cases ht), (fun t ht => by cases ht), (fun t ht => by cases ht), (fun t ht => by cases ht), List.Pairwise.nil, List.Pairwise.nil, (fun t ht => by cases ht), rfl⟩
    · have hi' : (if i = w.heap.size ∨ i = w.heap.size + 1 then some (w.heap.size + 1) else none) ≠ none := hi
      split at hi'
      · omega
      · exact absurd rfl hi'
    · have := hF i hi
      exact ⟨if_neg (by omega), by omega⟩
  have HT : Hid (Tch (fun _ => False) w w1) := t0.trans' t1
  have Hw1 : Hid (w1 = (w.alloc (.map #[] 0)).alloc (.cells #[.map (some w.heap.size), .int .i64 n, .slice none 0 0] 64)) := by show _ = _; rw [hw1, hw0]
  clear hb hM hs1 hs0 t0 t1 hw1 hw0 h1 h2
  have hmm := @run_makeMap Try.prog
  go_enter Try.func20, Try.ntmps20
  go_wp2
  have hw1 := Hw1.out
  rw [← hw1]
  clear hw1
  go_ret2
  exact ⟨⟨_, rfl, Nat.le_succ _, HF.out⟩, HT.out⟩

theorem give_any (b : Nat) (m : Mg) (σ : Nat → Option Nat) (mb : Nat) (bl : Nat → Nat) (w : World) (h : MG w b m σ mb bl) : Calls Try.prog 25 #[.pointer (some ⟨b, 0, none⟩)] w fun x w' => x = .returned (.int .i64 m.nx) ∧ w' = w.setCell ⟨b, 1, none⟩ (.int .i64 (m.nx + 1 : Nat)) := by
  have c1 := h.c1
  have f1 := h.fz 1
  have hn := h.wf.n2
  obtain ⟨nx, hnx⟩ : ∃ nx, nx = m.nx := ⟨_, rfl⟩
  rw [← hnx] at c1 hn ⊢
  clear h hnx
  go_enter Try.func25, Try.ntmps25
  go_wp2
  go_ret
  exact ⟨rfl, rfl⟩
end Go.Proofs.Ytjbehnoococelaa
/- begin, Begin. -/
namespace Go.Proofs.Ytjbehnoococelaa
open Go.RowKit Go Go.Sort

theorem begin_any (mb n : Nat) (D : DataW Unit) (k : Int) (w : World) (hD : w.ownsMap Try.prog 3 numElem mb n D) (hn : n ≤ 2147483648) (h1 : -9223372036854775808 ≤ k) (h2 : k ≤ 9223372036854775807) :
    Calls Try.prog 26 #[.map (some mb), .int .i64 k] w fun x w' => x = .returned (.tuple #[]) ∧ w'.ownsMap Try.prog 3 numElem mb (n + 1) (D.put (.int .i64 k) (encN (w.heap.size, -1))) ∧ w'.heap[w.heap.size]? = some (.cells #[.int .i64 k, .int .i64 1, .slice none 0 0] 73 (0, 0)) ∧ Tch (fun i => i = mb) w w' := by
  obtain ⟨w0, hw0⟩ : ∃ w0, w0 = w.alloc (.cells #[.int .i64 k, .int .i64 1, .slice none 0 0] 73) := ⟨_, rfl⟩
  have t0 : Tch (fun _ => False) w w0 := by rw [hw0]; exact Tch.alloc _ _ _
  have hb : w0.heap[w.heap.size]? = some (.cells #[.int .i64 k, .int .i64 1, .slice none 0 0] 73 (0, 0)) := by rw [hw0]; exact alloc_new _ _
  have hl := hD.lt
  obtain ⟨w1, hrun, hD1, hg1⟩ := (ownsMap_tch hD t0 (fun h => h)).update law_int Try.underlying62 (by unfold maxLen; omega) (Maps.keyOf_int_mk Try.underlying3 (int_wf h1 h2)) (numElem_some w.heap.size (-1))
  have HD1 : Hid _ := hD1
  have t1 : Tch (fun i => i = mb) w0 w1 := Tch.of_grown hg1 (fun g hg => by cases hg; rfl)
  have HB : Hid (w1.heap[w.heap.size]? = some (.cells #[.int .i64 k, .int .i64 1, .slice none 0 0] 73 (0, 0))) := by
    show _ = _
    rw [t1.block _ (blk_lt hb) (by omega)]; exact hb
  have HT : Hid (Tch (fun i => i = mb) w w1) := (t0.mono (fun _ _ h => h.elim)).trans' t1
  rw [hw0] at hrun
  simp only [numV] at hrun
  clear hD hD1 hg1 t1 hb t0 hl hw0
  go_enter Try.func26, Try.ntmps26
  go_wp2
  go_end0
  exact ⟨rfl, HD1.out, HB.out, HT.out⟩

def Mg.begin (m : Mg) : Mg := ⟨m.nx + 1, m.on ++ [m.nx], m.tx ++ [⟨m.nx, 1, []⟩]⟩
theorem Wf.begin {m : Mg} (h : Wf m) (hn : m.nx ≤ 2147483647) : Wf m.begin := by
  have n1 := h.n1
  refine ⟨by show 1 ≤ m.nx + 1; omega, by show m.nx + 1 ≤ _; omega, ?_, ?_, ?_, ?_, ?_, ?_, ?_, ?_, ?_⟩
  all_goals simp only [Mg.begin]
  · intro t ht
    rcases List.mem_append.1 ht with ht | ht
    · have := h.lo t ht; omega
    · obtain rfl := List.mem_singleton.1 ht; exact ⟨n1, by simp⟩
  · intro t ht p hp
    rcases List.mem_append.1 ht with ht | ht
    · have := h.pl t ht p hp; omega
    · obtain rfl := List.mem_singleton.1 ht; cases hp
  · intro t ht
    rcases List.mem_append.1 ht with ht | ht
    · exact h.st t ht
    · obtain rfl := List.mem_singleton.1 ht; exact ⟨by simp, by simp⟩
  · intro t ht
    rcases List.mem_append.1 ht with ht | ht
    · exact h.ln t ht
    · obtain rfl := List.mem_singleton.1 ht; simp
  · intro t ht i p hp
    rcases List.mem_append.1 ht with ht | ht
    · exact h.ar t ht i p hp
    · obtain rfl := List.mem_singleton.1 ht; simp at hp
  · rw [List.pairwise_append]
    refine ⟨h.up, by simp, fun t ht u hu => ?_⟩
    obtain rfl := List.mem_singleton.1 hu
    exact (h.lo t ht).2
  · rw [List.pairwise_append]
    refine ⟨h.ap, by simp, fun t ht u hu p hp => ?_⟩
    obtain rfl := List.mem_singleton.1 hu
    have := (h.pl t ht p hp).2
    exact ⟨by simp only; omega, fun q hq => by cases hq⟩
  · intro t ht
    rcases List.mem_append.1 ht with ht | ht
    · exact h.pu t ht
    · obtain rfl := List.mem_singleton.1 ht; exact List.Pairwise.nil
  · rw [List.filter_append, List.map_append, ← h.on]; simp
theorem fnd_begin {m : Mg} (h : Wf m) (k : Int) : fnd m.begin.tx k = if k = m.nx then some (⟨m.nx, 1, []⟩, -1) else fnd m.tx k := by
  simp only [Mg.begin]
  rw [fnd_snoc]
  by_cases hk : k = m.nx
  · rw [if_pos hk]
    have : fnd m.tx k = none := fnd_no (fun t ht => ⟨by have := (h.lo t ht).2; omega, fun p hp => by have := (h.pl t ht p hp).2; omega⟩)
    rw [this]
    simp [fnd, hk]
  · rw [if_neg hk]
    cases hf : fnd m.tx k with
    | some a => rfl
    | none => simp only [fnd, idx]; rw [if_neg (fun e => hk e.symm)]

theorem key_int (k : Int) : Go.WideAt.IsKeyLit (Lit.int .i64 k) := trivial
theorem MG.begin {w w' : World} {b : Nat} {m : Mg} {σ : Nat → Option Nat} {mb : Nat} {bl : Nat → Nat} (h : MG w b m σ mb bl) (hn : m.nx ≤ 2147483647) {ov v' : Value} {nn : Nat} {D : DataW Unit}
    (hov : ∀ g, ov.ownBlock = some g → σ g = some b) (hD : ∀ k zd, D.atKey (.int .i64 k) zd = atE (lkB bl m.tx k) zd) (hm : Maps.IsMap D) (hnn : nn ≤ m.nx)
    (T : Tch (fun i => i = b ∨ i = mb ∨ ov.ownBlock = some i) w w')
    (hB : w'.heap[b]? = some (.cells #[.map (some mb), .int .i64 (m.nx + 1 : Nat), v'] 64 (0, 0))) (hv : w'.ownsRow 0 3 1 v' (m.on.length + 1) (icl m.on ++ [.int .i64 m.nx]))
    (hvb : ∀ g, v'.ownBlock = some g → ov.ownBlock = some g ∨ w.heap.size < g) (hD' : w'.ownsMap Try.prog 3 numElem mb (nn + 1) (D.put (.int .i64 m.nx) (encN (w.heap.size, -1))))
    (hX : w'.heap[w.heap.size]? = some (.cells #[.int .i64 m.nx, .int .i64 1, .slice none 0 0] 73 (0, 0))) : ∃ σ' bl', MG w' b m.begin σ' mb bl' ∧ Stp w σ w' σ' := by
  have hbl := h.bl'
  have hml := h.ml
  have hSσ : ∀ i, (i = b ∨ i = mb ∨ ov.ownBlock = some i) → σ i = some b := fun i hi => by
    rcases hi with rfl | rfl | hi
    · exact h.lb
    · exact h.lm
    · exact hov i hi
  obtain ⟨σ', hσ'⟩ : ∃ σ' : Nat → Option Nat, σ' = fun i => if i < w.heap.size then σ i else if i = w.heap.size then some w.heap.size else if v'.ownBlock = some i then some b else none := ⟨_, rfl⟩
  have s1 : ∀ i, i < w.heap.size → σ' i = σ i := fun i hi => by rw [hσ']; exact if_pos hi
  have s2 : σ' w.heap.size = some w.heap.size := by rw [hσ']; simp
  have s3 : ∀ i, w.heap.size < i → σ' i = if v'.ownBlock = some i then some b else none := fun i hi => by rw [hσ']; simp only; rw [if_neg (by omega), if_neg (by omega)]
  clear hσ'
  obtain ⟨bl', hbl'⟩ : ∃ bl' : Nat → Nat, bl' = fun x => if x = m.nx then w.heap.size else bl x := ⟨_, rfl⟩
  have b1 : bl' m.nx = w.heap.size := by rw [hbl']; simp
  have b2 : ∀ t ∈ m.tx, bl' t.x = bl t.x := fun t ht => by rw [hbl']; simp only; rw [if_neg (by have := (h.wf.lo t ht).2; omega)]
  clear hbl'
  have hsl := blk_lt hX
  refine ⟨σ', bl', ⟨h.wf.begin hn, ⟨v', hB, ?_, ?_⟩, ?_, ?_, ⟨nn + 1, _, by show nn + 1 ≤ m.nx + 1; omega, hD', ?_⟩, ?_, ?_, ?_, ?_⟩, ⟨?_, s1⟩⟩
  · simp only [Mg.begin, icl_snoc, List.length_append, List.length_cons, List.length_nil]
    exact hv
  · intro g hg
    rcases hvb g hg with hg' | hg'
    · have h1 := hov g hg'
      rw [s1 g (h.lt g (by rw [h1]; exact fun e => by cases e)), h1]
    · rw [s3 g hg', if_pos hg]
  · rw [s1 b hbl]; exact h.lb
  · rw [s1 mb hml]; exact h.lm
  · intro k zd
    simp only [lkB]
    rw [fnd_begin h.wf]
    by_cases hk : k = m.nx
    · rw [if_pos hk, hk]
      rw [Maps.atKey_put_same hm (key_int _)]
      simp [atE, b1]
    · rw [if_neg hk, Maps.atKey_put_other (fun e => hk (by injection e)), hD]
      cases hf : fnd m.tx k with
      | none => simp [lkB, hf, atE]
      | some a => simp only [lkB, hf, Option.map_some, b2 a.1 (fnd_mem hf).1]
  · intro t ht
    rcases List.mem_append.1 ht with ht | ht
    · rw [b2 t ht]
      refine (h.xs t ht).tch T (fun i hi hs e => ?_) (fun i hi e => by rw [s1 i hi]; exact e)
      rw [hSσ i hs] at e
      injection e with e
      exact h.nb t ht e.symm
    · obtain rfl := List.mem_singleton.1 ht
      show XB w' σ' (bl' m.nx) _
      rw [b1]
      exact ⟨s2, ⟨_, hX, ⟨rfl, Or.inl ⟨rfl, rfl⟩⟩, fun g hg => by cases hg⟩⟩
  · intro t ht u hu
    rcases List.mem_append.1 ht with ht | ht <;> rcases List.mem_append.1 hu with hu | hu
    · rw [b2 t ht, b2 u hu]; exact h.inj t ht u hu
    · obtain rfl := List.mem_singleton.1 hu
      intro e
      have e' : bl' t.x = bl' m.nx := e
      rw [b2 t ht, b1] at e'
      have := (h.xs t ht).lt
      omega
    · obtain rfl := List.mem_singleton.1 ht
      intro e
      have e' : bl' m.nx = bl' u.x := e
      rw [b2 u hu, b1] at e'
      have := (h.xs u hu).lt
      omega
    · obtain rfl := List.mem_singleton.1 ht
      obtain rfl := List.mem_singleton.1 hu
      intro _; rfl
  · intro t ht
    rcases List.mem_append.1 ht with ht | ht
    · rw [b2 t ht]; exact h.nb t ht
    · obtain rfl := List.mem_singleton.1 ht
      show bl' m.nx ≠ b
      rw [b1]; omega
  · intro i hi
    rcases Nat.lt_trichotomy i w.heap.size with h1 | h1 | h1
    · rw [s1 i h1] at hi
      exact Nat.lt_of_lt_of_le h1 T.size
    · rw [h1]; exact hsl
    · rw [s3 i h1] at hi
      split at hi
      · rename_i hg
        obtain ⟨cur, hc⟩ := own_blk hv hg
        exact blk_lt hc
      · exact absurd rfl hi
  · exact T.mono (fun i hi hs e => by rw [hSσ i hs] at e; cases e)
set_option maxHeartbeats 1000000 in
set_option maxRecDepth 100000 in
theorem begin_ok (b : Nat) (m : Mg) (σ : Nat → Option Nat) (mb : Nat) (bl : Nat → Nat) (w : World) (h : MG w b m σ mb bl) (hn : m.nx ≤ 2147483647) :
    Calls Try.prog 7 #[.pointer (some ⟨b, 0, none⟩)] w fun x w' => x = .returned (.tuple #[.int .i64 m.nx, .int .i64 0]) ∧ ∃ σ' bl', MG w' b m.begin σ' mb bl' ∧ Stp w σ w' σ' := by
  obtain ⟨i0, hi, hz0, hz1, hz2⟩ := info_parts info_int
  have qn := noneLeft_any b m σ mb bl w h
  rw [decide_eq_false (by omega)] at qn
  have qg := give_any b m σ mb bl w h
  obtain ⟨ov, hb, hon, hlab⟩ := h.blk
  obtain ⟨nn, D, hnn, hD, hkD⟩ := h.mp
  have hbl := h.bl'
  have hml := h.ml
  have hne := h.mne
  have hol := on_le h.wf
  obtain ⟨w1, hw1⟩ : ∃ w1, w1 = w.setCell ⟨b, 1, none⟩ (.int .i64 (m.nx + 1 : Nat)) := ⟨_, rfl⟩
  rw [← hw1] at qg
  have t1 : Tch (fun i => i = b) w w1 := by rw [hw1]; exact Tch.setCell _ _ _ _ rfl
  have hs1 : w1.heap.size = w.heap.size := by rw [hw1]; simp [World.setCell]
  have hb1 : w1.heap[b]? = some (.cells #[.map (some mb), .int .i64 (m.nx + 1 : Nat), ov] 64 (0, 0)) := by rw [hw1]; exact blk_set hb _
  have hovb : ∀ g, ov.ownBlock = some g → g ≠ b := fun g hg e => by
    obtain ⟨cur, hc⟩ := own_blk hon hg
    rw [e, hb] at hc
    cases hc
  have hovm : ∀ g, ov.ownBlock = some g → g ≠ mb := fun g hg e => by
    obtain ⟨cur, hc⟩ := own_blk hon hg
    obtain ⟨es, clock, hh, _⟩ := hD
    rw [e, hh] at hc
    cases hc
  have hovl : ∀ g, ov.ownBlock = some g → g < w.heap.size := fun g hg => by
    obtain ⟨cur, hc⟩ := own_blk hon hg
    exact blk_lt hc
  have hD1 := ownsMap_tch hD t1 hne
  have hon1 := own_tch hon t1 hovb
  have qb := begin_any mb nn D m.nx w1 hD1 (by have := h.wf.n2; omega) (by omega) (by omega)
  have c0 : w1.cell? ⟨b, 0, none⟩ = some (.map (some mb)) := by rw [blk_cell hb1]; rfl
  obtain ⟨nx, hnx⟩ : ∃ nx, nx = m.nx := ⟨_, rfl⟩
  obtain ⟨ln, hln⟩ : ∃ ln, ln = m.on.length := ⟨_, rfl⟩
  rw [← hln] at hon1 hol
  have Hln : Hid (ln = m.on.length) := hln
  rw [← hnx] at qg qb hn hb1 ⊢
  have Hnx : Hid (nx = m.nx) := hnx
  have Hh : Hid (MG w b m σ mb bl) := h
  have Hb1 : Hid _ := hb1
  have Hon1 : Hid _ := hon1
  have Ht1 : Hid _ := t1
  have Hs1 : Hid _ := hs1
  have HkD : Hid _ := hkD
  have Hov : Hid ((∀ g, ov.ownBlock = some g → g ≠ b) ∧ (∀ g, ov.ownBlock = some g → g ≠ mb) ∧ (∀ g, ov.ownBlock = some g → g < w.heap.size) ∧ ∀ g, ov.ownBlock = some g → σ g = some b) := ⟨hovb, hovm, hovl, hlab⟩
  have HD : Hid (w.ownsMap Try.prog 3 numElem mb nn D) := hD
  have Hm : Hid (mb ≠ b ∧ b < w.heap.size ∧ mb < w.heap.size ∧ nn ≤ m.nx) := ⟨hne, hbl, hml, hnn⟩
  clear h hb hon hlab hD hkD hbl hml hne hovb hovm hovl hD1 hb1 hon1 t1 hs1 hnn hw1 hnx hln
  go_enter Try.func7, Try.ntmps7
  go_wp2_with fail
  refine qn.mono ?_
  rintro x w' ⟨rfl, hw'⟩
  obtain rfl := hw'.symm
  clear qn
  go_wp2_with fail
  refine qg.mono ?_
  rintro x w' ⟨rfl, hw'⟩
  obtain rfl := hw'.symm
  clear qg
  go_wp2_with fail
  refine qb.mono ?_
  rintro x w2 ⟨rfl, hD2, hb2, t2⟩
  clear qb c0
  have hbm : b ≠ mb := fun e => Hm.out.1 e.symm
  have hB2 : w2.heap[b]? = some (.cells #[.map (some mb), .int .i64 (nx + 1 : Nat), ov] 64 (0, 0)) := by rw [t2.block b (by rw [Hs1.out]; exact Hm.out.2.1) hbm]; exact Hb1.out
  have hon2 := own_tch Hon1.out t2 Hov.out.2.1
  have c2 : w2.cell? ⟨b, 2, none⟩ = some ov := by rw [blk_cell hB2]; rfl
  obtain ⟨oo, oc, rfl⟩ := row_slice hon2
  obtain ⟨w3, hw3⟩ : ∃ w3, w3 = w2.alloc (.cells #[.int .i64 nx] 3) := ⟨_, rfl⟩
  have t3 : Tch (fun _ => False) w2 w3 := by rw [hw3]; exact Tch.alloc _ _ _
  have Hon3 : Hid (w3.ownsRow 0 3 1 (.slice oo ln oc) ln (icl m.on)) := own_tch hon2 t3 (fun _ _ h => h)
  have Hcl : Hid (∀ j u, ([.int .i64 nx] : List Value)[j]? = some u → w3.cell? ((⟨w2.heap.size, 0, none⟩ : Addr).add j) = some u) := fun j u hu => by
    have hb3 : w3.heap[w2.heap.size]? = some (.cells #[.int .i64 nx] 3 (0, 0)) := by rw [hw3]; exact alloc_new _ _
    rw [add_plain, blk_cell hb3]
    cases j with
    | zero => simpa using hu
    | succ j => simp at hu
  have HB3 : Hid (w3.heap[b]? = some (.cells #[.map (some mb), .int .i64 (nx + 1 : Nat), .slice oo ln oc] 64 (0, 0))) := by show _ = _; rw [t3.block b (blk_lt hB2) (fun h => h)]; exact hB2
  have Hw3 : Hid _ := hw3
  have Ht3 : Hid _ := t3
  have Ht2 : Hid _ := t2
  have HD2 : Hid _ := hD2
  have Hb2 : Hid _ := hb2
  clear hw3 t3 hon2 hB2 t2 hD2 hb2
  go_wp2_with (at_builtin; have hw3 := Hw3.out; rw [← hw3]; clear hw3; refine wpList_append_keeps _ rfl _ _ 22 rfl 0 3 i0 (.int .i64 0) 1 8 Try.underlying22 hi hz0 hz1 hz2 rfl (by decide) (.slice oo ln oc) ln (icl m.on) rfl Hon3.out ⟨w2.heap.size, 0, none⟩ 1 1 [.int .i64 nx] rfl rfl Hcl.out (fun u hu => by simp at hu; subst hu; rfl) (by unfold maxLen; omega) (by omega) (Nat.zero_le _) ?_; intro v4 w4 hown4 hgr4 hat4 _; obtain ⟨o4, c4, hv4⟩ := row_slice hown4; subst hv4; have HO4 : Hid (w4.ownsRow 0 3 1 (.slice o4 (ln + 1) c4) (ln + 1) (icl m.on ++ [.int .i64 nx])) := hown4; have HG4 : Hid _ := hgr4; have HA4 : Hid _ := hat4; have HB4 : Hid (w4.heap[b]? = some (.cells #[.map (some mb), .int .i64 (nx + 1 : Nat), .slice oo ln oc] 64 (0, 0))) := (by show _ = _; rw [(grown_at (Tch.refl (fun _ => False) w3) hgr4).block b (blk_lt HB3.out) (fun e => Hov.out.1 b e rfl)]; exact HB3.out); have d2 : w4.cell? ⟨b, 2, none⟩ = some (.slice oo ln oc) := (by rw [blk_cell HB4.out]; rfl); have f2 := blk_frozen HB4.out 2; clear hown4 hgr4 hat4 c2)
  have HFin : Hid (∃ σ' bl', MG (w4.setCell ⟨b, 2, none⟩ (.slice o4 (ln + 1) c4)) b m.begin σ' mb bl' ∧ Stp w σ (w4.setCell ⟨b, 2, none⟩ (.slice o4 (ln + 1) c4)) σ') := by
    obtain ⟨hne, hbw, hmw, hnn⟩ := Hm.out
    obtain ⟨ov1, ov2, ov3, ov4⟩ := Hov.out
    have hs1 := Hs1.out
    have tA : Tch (fun i => i = b ∨ i = mb ∨ (Value.slice oo ln oc).ownBlock = some i) w w1 := Ht1.out.mono (fun i _ e => Or.inl e)
    have tB : Tch (fun i => i = b ∨ i = mb ∨ (Value.slice oo ln oc).ownBlock = some i) w w2 := tA.trans Ht2.out (fun i _ e => Or.inr (Or.inl e))
    have tC : Tch (fun i => i = b ∨ i = mb ∨ (Value.slice oo ln oc).ownBlock = some i) w w3 := tB.trans Ht3.out (fun i _ e => e.elim)
    have tD : Tch (fun i => i = b ∨ i = mb ∨ (Value.slice oo ln oc).ownBlock = some i) w w4 := tC.trans (grown_at (Tch.refl (fun _ => False) w3) HG4.out) (fun i _ e => Or.inr (Or.inr e))
    have tE : Tch (fun i => i = b) w4 (w4.setCell ⟨b, 2, none⟩ (.slice o4 (ln + 1) c4)) := Tch.setCell _ _ _ _ rfl
    have tF := tD.trans tE (fun i _ e => Or.inl e)
    have hon4 := HO4.out
    have hsz2 : w.heap.size < w2.heap.size := by rw [← hs1]; exact blk_lt Hb2.out
    have hs3 : w2.heap.size < w3.heap.size := by rw [Hw3.out]; simp
    have hvb : ∀ g, (Value.slice o4 (ln + 1) c4).ownBlock = some g → (Value.slice oo ln oc).ownBlock = some g ∨ w.heap.size < g := fun g hg => by
      rcases HA4.out with e | e
      · rw [e] at hg; exact Or.inl hg
      · rw [e] at hg
        injection hg with hg
        omega
    have hgb : ∀ g, (Value.slice o4 (ln + 1) c4).ownBlock = some g → g ≠ b := fun g hg e => by
      rcases hvb g hg with h1 | h1
      · exact ov1 g h1 e
      · omega
    have hX := Hb2.out
    rw [hs1] at hX
    have nX : ∀ i, ¬ (w.heap.size = i ∧ i < w.heap.size) := fun i h => by omega
    have hX3 := (Ht3.out.block w.heap.size hsz2 (fun h => h)).trans hX
    have hX4 := ((grown_at (Tch.refl (fun _ => False) w3) HG4.out).block w.heap.size (by omega) (fun e => by have := ov3 _ e; omega)).trans hX3
    have hX5 := (tE.block w.heap.size (blk_lt hX4) (by omega)).trans hX4
    have hD2 := HD2.out
    rw [hs1] at hD2
    have hD3 := ownsMap_tch hD2 Ht3.out (fun h => h)
    have hD4 := ownsMap_tch hD3 (grown_at (Tch.refl (fun _ => False) w3) HG4.out) (fun e => ov2 _ e rfl)
    have hD5 := ownsMap_tch hD4 tE hne
    have hnx := Hnx.out
    have hln := Hln.out
    subst hnx
    subst hln
    exact Hh.out.begin hn (ov := .slice oo m.on.length oc) ov4 HkD.out HD.out.isMap hnn tF (blk_set HB4.out _) (own_tch hon4 tE hgb) hvb hD5 hX5
  go_ret2
  exact ⟨rfl, HFin.out⟩
theorem begin_no (b : Nat) (m : Mg) (σ : Nat → Option Nat) (mb : Nat) (bl : Nat → Nat) (w : World) (h : MG w b m σ mb bl) (hn : 2147483647 < m.nx) :
    Calls Try.prog 7 #[.pointer (some ⟨b, 0, none⟩)] w fun x w' => x = .returned (.tuple #[.int .i64 0, .int .i64 73]) ∧ w' = w := by
  have qn := noneLeft_any b m σ mb bl w h
  rw [decide_eq_true (by omega)] at qn
  clear h hn
  go_enter Try.func7, Try.ntmps7
  go_wp2_with fail
  refine qn.mono ?_
  rintro x w' ⟨rfl, hw'⟩
  obtain rfl := hw'.symm
  clear qn
  go_wp2
  go_ret2
  exact ⟨rfl, rfl⟩
end Go.Proofs.Ytjbehnoococelaa
