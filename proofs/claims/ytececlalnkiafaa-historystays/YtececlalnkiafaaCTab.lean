import Derived.Test.YtececlalnkiafaaCCopy
import Derived.Test.YtececlalnkiafaaCRight3
/- Tables in the world; copied. -/
namespace Go.Proofs.Ytececlalnkiafaa
open Go.RowKit Go

theorem row_ge {w : World} {base : Nat} {t : TypeId} {sz n : Nat} {v : Value} {xs : List Value} (h : w.ownsRow base t sz v n xs) {k : Nat} (hk : v.ownBlock = some k) : base ≤ k := (h.lt k hk).1
theorem own_low {W : World} {N N' sz n : Nat} {t : TypeId} {v : Value} {xs : List Value} (h : W.ownsRow N t sz v n xs) (hN : N' ≤ N) : W.ownsRow N' t sz v n xs := by
  obtain ⟨h1, h2⟩ := h
  refine ⟨h1, ?_⟩
  rcases h2 with h2 | ⟨g, c, cur, hv, hb, hr⟩
  · exact Or.inl h2
  · exact Or.inr ⟨g, c, cur, hv, Nat.le_trans hN hb, hr⟩
theorem ceq_nil_no (ad : Addr) (n c : Nat) (w : World) : (binOp .eql 34 (.slice (some ad) n c) (.slice none 0 0)).run Try.prog w = .ok (.bool false) w := Lib.run_eql_slice_some_nil w ad n c Try.underlying34
theorem ceq_nil_yes (w : World) : (binOp .eql 34 (.slice none 0 0) (.slice none 0 0)).run Try.prog w = .ok (.bool true) w := Lib.run_eql_slice_nil_nil w 0 0 Try.underlying34

set_option maxHeartbeats 1000000 in
set_option maxRecDepth 100000 in
theorem sclone_any (l : List Col) (ao : Option Addr) (c : Nat) (w : World) (h : SL w ao (ccl l)) (hno : ao = none → l = [] ∧ c = 0) (hlen : l.length * 32 ≤ 140737488351232) :
    Calls Try.prog 42 #[.slice ao l.length c] w fun x w' => (∃ v, x = .returned v ∧ w'.ownsRow w.heap.size 80 3 v l.length (ccl l)) ∧ Tch (fun _ => False) w w' := by
  cases ao with
  | none =>
    obtain ⟨rfl, rfl⟩ := hno rfl
    have he := ceq_nil_yes
    clear h
    go_enter Try.func42, Try.ntmps42
    go_wp2
    go_ret
    exact ⟨⟨_, rfl, rfl, Or.inl ⟨rfl, rfl⟩⟩, Tch.refl _ _⟩
  | some ad =>
    obtain ⟨i0, hi, hz0, hz1, hz2⟩ := info_parts info_col
    have he := ceq_nil_no ad l.length c
    obtain ⟨w0, hw0⟩ : ∃ w0, w0 = w.alloc (.cells #[] 80) := ⟨_, rfl⟩
    have t0 : Tch (fun _ => False) w w0 := by rw [hw0]; exact Tch.alloc _ _ _
    have hown : w0.ownsRow w.heap.size 80 3 (.slice (some ⟨w.heap.size, 0, none⟩) 0 0) 0 [] := ⟨rfl, Or.inr ⟨w.heap.size, 0, #[], rfl, Nat.le_refl _, by rw [hw0]; exact alloc_new _ _, Nat.le_refl _, by unfold maxLen; omega, rfl, rfl⟩⟩
    have Hcl : Hid (∀ j u, (ccl l)[j]? = some u → w0.cell? (ad.add j) = some u) := fun j u hu => by
      obtain ⟨g, o, e, ha⟩ := h.no t0 (by rintro e; rw [e] at hu; simp at hu)
      injection e with e
      subst e
      rw [add_plain]; exact ha j u hu
    have Hown : Hid (w0.ownsRow w.heap.size 80 3 (.slice (some ⟨w.heap.size, 0, none⟩) 0 0) 0 []) := hown
    have Hw0 : Hid _ := hw0
    have Hsz : Hid (w.heap.size ≤ w0.heap.size) := t0.size
    clear h hown hw0
    go_enter Try.func42, Try.ntmps42
    go_wp2_with (at_builtin; have hw0 := Hw0.out; rw [← hw0]; clear hw0; refine wpList_append_keeps _ rfl _ _ 34 rfl w.heap.size 80 i0 (.agg #[.string ⟨#[]⟩, .int .i64 0, .bool false]) 3 32 Try.underlying34 hi hz0 hz1 hz2 rfl (by decide) (.slice (some ⟨w.heap.size, 0, none⟩) 0 0) 0 [] rfl Hown.out ad l.length c (ccl l) rfl (ccl_len l) Hcl.out (ccl_one l) (by unfold maxLen; omega) (by omega) Hsz.out ?_; intro v1 w1 hown1 hgr1 hat1 _; have HF : Hid (w1.ownsRow w.heap.size 80 3 v1 l.length (ccl l)) := (by have h1 := hown1; rw [Nat.zero_add, List.nil_append] at h1; exact h1); have HT : Hid (Tch (fun _ => False) w w1) := (t0.trans (grown_at (Tch.refl (fun _ => False) w0) hgr1) (fun i hi e => by have := row_ge Hown.out e; omega)); obtain ⟨o1, c1, hv1⟩ := row_slice HF.out; subst hv1)
    go_ret
    exact ⟨⟨_, rfl, HF.out⟩, HT.out⟩
set_option maxHeartbeats 1000000 in
set_option maxRecDepth 100000 in
theorem copied_any (t : Tbl) (ao : Option Addr) (c : Nat) (w : World) (h : SL w ao (ccl t.cols)) (hno : ao = none → t.cols = [] ∧ c = 0) (hlen : t.cols.length * 32 ≤ 140737488351232) :
    Calls Try.prog 23 #[tA t.id t.ver t.nm (.slice ao t.cols.length c) t.key] w fun x w' => (∃ v, x = .returned (tA t.id t.ver t.nm v t.key) ∧ w'.ownsRow w.heap.size 80 3 v t.cols.length (ccl t.cols)) ∧ Tch (fun _ => False) w w' := by
  obtain ⟨N, hN⟩ : ∃ N, N = w.heap.size := ⟨_, rfl⟩
  obtain ⟨w0, hw0⟩ : ∃ w0, w0 = (w.alloc (.cells #[.int .i64 t.id, .int .i64 t.ver, .string t.nm, .slice ao t.cols.length c, .int .i64 t.key] 36)).alloc (.cells #[.int .i64 0, .int .i64 0, .string ⟨#[]⟩, .slice none 0 0, .int .i64 0] 36) := ⟨_, rfl⟩
  have t0 : Tch (fun _ => False) w w0 := by rw [hw0]; exact (Tch.alloc _ _ _).allocR _
  have q1 := sclone_any t.cols ao c w0 (h.no t0) hno hlen
  have Hw0 : Hid _ := hw0
  have HN : Hid (N = w.heap.size) := hN
  clear h hw0 hN
  go_enter Try.func23, Try.ntmps23
  go_wp2_with fail
  rw [← HN.out]
  have hw0 := Hw0.out
  rw [← hw0]
  clear hw0
  refine q1.mono ?_
  rintro x w1 ⟨⟨v, rfl, hv⟩, t1⟩
  clear q1
  obtain ⟨vo, vc, hvv⟩ := row_slice hv
  subst hvv
  have hs0 : w0.heap.size = N + 2 := by rw [Hw0.out, World.size_alloc, World.size_alloc, HN.out]
  have hX : w1.heap[N]? = some (.cells #[.int .i64 t.id, .int .i64 t.ver, .string t.nm, .slice ao t.cols.length c, .int .i64 t.key] 36 (0, 0)) := by
    rw [t1.block N (by omega) (fun h => h), Hw0.out, HN.out]
    exact (Tch.alloc (fun _ => False) _ _).block _ (by simp) (fun h => h) |>.trans (alloc_new _ _)
  have hY : w1.heap[N + 1]? = some (.cells #[.int .i64 0, .int .i64 0, .string ⟨#[]⟩, .slice none 0 0, .int .i64 0] 36 (0, 0)) := by
    rw [t1.block (N + 1) (by omega) (fun h => h), Hw0.out, HN.out, ← World.size_alloc]; exact alloc_new _ _
  obtain ⟨x0, x1, x2, x3, x4⟩ : w1.cell? ⟨N, 0, none⟩ = some (.int .i64 t.id) ∧ w1.cell? ⟨N, 1, none⟩ = some (.int .i64 t.ver) ∧ w1.cell? ⟨N, 2, none⟩ = some (.string t.nm) ∧ w1.cell? ⟨N, 3, none⟩ = some (.slice ao t.cols.length c) ∧ w1.cell? ⟨N, 4, none⟩ = some (.int .i64 t.key) := ⟨by rw [blk_cell hX]; rfl, by rw [blk_cell hX]; rfl, by rw [blk_cell hX]; rfl, by rw [blk_cell hX]; rfl, by rw [blk_cell hX]; rfl⟩
  obtain ⟨y0, y1, y2, y3, y4⟩ : w1.cell? ⟨N + 1, 0, none⟩ = some (.int .i64 0) ∧ w1.cell? ⟨N + 1, 1, none⟩ = some (.int .i64 0) ∧ w1.cell? ⟨N + 1, 2, none⟩ = some (.string ⟨#[]⟩) ∧ w1.cell? ⟨N + 1, 3, none⟩ = some (.slice none 0 0) ∧ w1.cell? ⟨N + 1, 4, none⟩ = some (.int .i64 0) := ⟨by rw [blk_cell hY]; rfl, by rw [blk_cell hY]; rfl, by rw [blk_cell hY]; rfl, by rw [blk_cell hY]; rfl, by rw [blk_cell hY]; rfl⟩
  have f3 := blk_frozen hX 3
  have g0 := blk_frozen hY 0; have g1 := blk_frozen hY 1; have g2 := blk_frozen hY 2; have g3 := blk_frozen hY 3; have g4 := blk_frozen hY 4
  have HV : Hid (∀ W, Tch (fun i => i = N ∨ i = N + 1) w1 W → W.ownsRow w.heap.size 80 3 (.slice vo t.cols.length vc) t.cols.length (ccl t.cols)) := fun W tW => own_low (own_tch hv tW (fun g e h => by have := row_ge hv e; omega)) t0.size
  have HT : Hid (∀ W, Tch (fun i => i = N ∨ i = N + 1) w1 W → Tch (fun _ => False) w W) := fun W tW => (t0.trans' t1).trans tW (fun i hi h => by have := HN.out; omega)
  clear hX hY hv hs0
  go_wp2_with fail
  have hrs : Try.f23.results = #[.cell 2 36] := by kernel_rfl
  refine bodyPost_ret (v := tA t.id t.ver t.nm (.slice vo t.cols.length vc) t.key) (by simp only [results, hrs]; go_simp) rfl ⟨⟨.slice vo t.cols.length vc, rfl, HV.out _ ?_⟩, HT.out _ ?_⟩
  all_goals exact (((((Tch.setCell (fun i => i = N ∨ i = N + 1) w1 ⟨N, 3, none⟩ _ (Or.inl rfl)).setCellR ⟨N + 1, 0, none⟩ _ (Or.inr rfl)).setCellR ⟨N + 1, 1, none⟩ _ (Or.inr rfl)).setCellR ⟨N + 1, 2, none⟩ _ (Or.inr rfl)).setCellR ⟨N + 1, 3, none⟩ _ (Or.inr rfl)).setCellR ⟨N + 1, 4, none⟩ _ (Or.inr rfl)
end Go.Proofs.Ytececlalnkiafaa
