import Derived.Test.YtnjiiebjdpipjaaTMap4
/- The document's map: Delete, the keys. -/
namespace Go.Proofs.Ytnjiiebjdpipjaa
open Go.RowKit Go

set_option maxHeartbeats 4000000 in
set_option maxRecDepth 100000 in
theorem del_reg0 (W : World) (mb g n r c : Nat) (A : Addr) (xs : List Value) (old : GV) (z0 : W.cell? ⟨mb, 0, none⟩ = some (.slice (some ⟨g, 0, none⟩) n c)) (zf : W.frozen? ⟨mb, 0, none⟩ = false) (Hne : Hid (mb ≠ g)) (hA : (if c = r + 1 then some (⟨g, 0, none⟩ : Addr) else some ⟨g, r + 1, none⟩) = some A)
    (HD : Hid (∀ W2, Tch (fun _ => False) W W2 → ∃ w', (Builtin.append_ #[35, 35] 35 #[.slice (some ⟨g, 0, none⟩) r c, .slice (some A) (n - (r + 1)) (c - (r + 1))]).run Try.prog W2 = .ok (.slice (some ⟨g, 0, none⟩) (r + (n - (r + 1))) c) w' ∧ w'.ownsRow 0 9 1 (.slice (some ⟨g, 0, none⟩) (r + (n - (r + 1))) c) (r + (n - (r + 1))) xs ∧ Tch (fun i => i = g) W w'))
    (hi1 : (0 : Int) ≤ (r : Int) + 1) (hi2 : (r : Int) + 1 ≤ n) (hi3 : ((r : Int) + 1).toNat = r + 1) (hi4 : (r : Int) ≤ c) (hpw : IntKind.i64.wrap ((r : Int) + 1) = (r : Int) + 1)
    {T : Array Value} (hf : F55 T (pv mb) (.int .i64 r) (ev old)) (Q0 : Exit → Act → World → Prop)
    (Hexit : Hid (∀ (T' : Array Value) (w1 : World), F55 T' (pv mb) (.int .i64 r) (ev old) → w1.ownsRow 0 9 1 (.slice (some ⟨g, 0, none⟩) (r + (n - (r + 1))) c) (r + (n - (r + 1))) xs → Tch (fun i => i = g) W w1 → Q0 .normal ⟨T', []⟩ (w1.setCell ⟨mb, 0, none⟩ (.slice (some ⟨g, 0, none⟩) (r + (n - (r + 1))) c)))) :
    Code.wp Try.prog delReg0 Q0 ⟨T, []⟩ W := by
  refine hf.use (P := fun T => Code.wp Try.prog delReg0 Q0 ⟨T, []⟩ W) ?_
  clear hf T
  intro u
  conv => arg 2; whnf
  obtain ⟨C, hC⟩ : ∃ C : List Value → World → Prop, C = fun s W2 => match s with
    | [] => Tch (fun _ => False) W W2
    | [y] => y = .slice (some ⟨g, 0, none⟩) (r + (n - (r + 1))) c ∧ W2.ownsRow 0 9 1 (.slice (some ⟨g, 0, none⟩) (r + (n - (r + 1))) c) (r + (n - (r + 1))) xs ∧ Tch (fun i => i = g) W W2
    | _ => False := ⟨_, rfl⟩
  have hK : ∀ s W2, C s W2 → W2.cell? ⟨mb, 0, none⟩ = some (.slice (some ⟨g, 0, none⟩) n c) ∧ True := fun s W2 h => by
    rw [hC] at h
    match s, h with
    | [], h => exact ⟨(Tch.cell h (p := ⟨mb, 0, none⟩) (cell_lt z0) (fun h => h)).trans z0, trivial⟩
    | [_], ⟨_, _, h⟩ => exact ⟨(Tch.cell h (p := ⟨mb, 0, none⟩) (cell_lt z0) (fun e => Hne.out e)).trans z0, trivial⟩
  have h2s : ∀ y W2, C [y] W2 → y = .slice (some ⟨g, 0, none⟩) (r + (n - (r + 1))) c := fun y W2 h => by
    rw [hC] at h
    exact h.1
  have Hfin : Hid (∀ y W2, C [y] W2 → W2.ownsRow 0 9 1 (.slice (some ⟨g, 0, none⟩) (r + (n - (r + 1))) c) (r + (n - (r + 1))) xs ∧ Tch (fun i => i = g) W W2) := fun y W2 h => by
    rw [hC] at h
    exact h.2
  have h2 : ∀ W2, C [] W2 → ∃ w', (Builtin.append_ #[35, 35] 35 #[.slice (some ⟨g, 0, none⟩) r c, .slice (some A) (n - (r + 1)) (c - (r + 1))]).run Try.prog W2 = .ok (.slice (some ⟨g, 0, none⟩) (r + (n - (r + 1))) c) w' ∧ C [.slice (some ⟨g, 0, none⟩) (r + (n - (r + 1))) c] w' := fun W2 tW => by
    rw [hC] at tW
    obtain ⟨w', hr, hR⟩ := HD.out W2 tW
    exact ⟨w', hr, by rw [hC]; exact ⟨rfl, hR⟩⟩
  have h0' : C [] W.drew := by rw [hC]; exact (Tch.refl _ _).drew
  have HZ : Hid (∀ W2, Tch (fun i => i = g) W W2 → W2.cell? ⟨mb, 0, none⟩ = some (.slice (some ⟨g, 0, none⟩) n c) ∧ W2.frozen? ⟨mb, 0, none⟩ = false) := fun W2 t => ⟨(t.cell (p := ⟨mb, 0, none⟩) (cell_lt z0) (fun e => Hne.out e)).trans z0, (t.frozen (p := ⟨mb, 0, none⟩) (cell_lt z0) (fun e => Hne.out e)).trans zf⟩
  clear hC HD zf
  refine wp_region_ordv [14] C 17 [0, 1, 2, 3, 4, 5, 6, 7, 8, 9, 10, 11, 12, 13, 14, 15, 16] (by kernel_rfl) (by kernel_rfl) h0' ?_
  clear h0' z0
  refine ordv_read rfl (by go_simp) (by rfl) ?_
  apply Exists.intro
  refine ⟨fun s' Wy hW b K Q hK' => ?_, fun K hK' => ?_⟩
  · obtain ⟨y0, -⟩ := hK _ Wy hW
    go_simp
    exact hK' Wy hW
  go_simp
  refine hK' _ ?_
  clear hK' K
  refine ordv_read rfl (by go_simp) (by rfl) ?_
  apply Exists.intro
  refine ⟨fun s' Wy hW b K Q hK' => ?_, fun K hK' => ?_⟩
  · obtain ⟨y0, -⟩ := hK _ Wy hW
    go_simp
    exact hK' Wy hW
  go_simp
  refine hK' _ ?_
  clear hK' K
  refine ordv_read rfl (by go_simp) (by rfl) ?_
  apply Exists.intro
  refine ⟨fun s' Wy hW b K Q hK' => ?_, fun K hK' => ?_⟩
  · obtain ⟨y0, -⟩ := hK _ Wy hW
    go_simp
    exact hK' Wy hW
  go_simp
  refine hK' _ ?_
  clear hK' K
  refine ordv_read rfl (by go_simp) (by rfl) ?_
  apply Exists.intro
  refine ⟨fun s' Wy hW b K Q hK' => ?_, fun K hK' => ?_⟩
  · obtain ⟨y0, -⟩ := hK _ Wy hW
    go_simp
    exact hK' Wy hW
  go_simp
  refine hK' _ ?_
  clear hK' K
  refine ordv_read rfl (by go_simp) (by rfl) ?_
  apply Exists.intro
  refine ⟨fun s' Wy hW b K Q hK' => ?_, fun K hK' => ?_⟩
  · obtain ⟨y0, -⟩ := hK _ Wy hW
    go_simp
    exact hK' Wy hW
  go_simp
  refine hK' _ ?_
  clear hK' K
  refine ordv_read rfl (by go_simp) (by rfl) ?_
  apply Exists.intro
  refine ⟨fun s' Wy hW b K Q hK' => ?_, fun K hK' => ?_⟩
  · obtain ⟨y0, -⟩ := hK _ Wy hW
    go_simp
    exact hK' Wy hW
  go_simp
  refine hK' _ ?_
  clear hK' K
  refine ordv_read rfl (by go_simp) (by rfl) ?_
  apply Exists.intro
  refine ⟨fun s' Wy hW b K Q hK' => ?_, fun K hK' => ?_⟩
  · obtain ⟨y0, -⟩ := hK _ Wy hW
    go_simp
    exact hK' Wy hW
  go_simp
  refine hK' _ ?_
  clear hK' K
  refine ordv_read rfl (by go_simp) (by rfl) ?_
  apply Exists.intro
  refine ⟨fun s' Wy hW b K Q hK' => ?_, fun K hK' => ?_⟩
  · obtain ⟨y0, -⟩ := hK _ Wy hW
    go_simp
    exact hK' Wy hW
  go_simp
  refine hK' _ ?_
  clear hK' K
  refine ordv_read rfl (by go_simp) (by rfl) ?_
  apply Exists.intro
  refine ⟨fun s' Wy hW b K Q hK' => ?_, fun K hK' => ?_⟩
  · obtain ⟨y0, -⟩ := hK _ Wy hW
    go_simp
    exact hK' Wy hW
  go_simp
  refine hK' _ ?_
  clear hK' K
  refine ordv_read rfl (by go_simp) (by rfl) ?_
  apply Exists.intro
  refine ⟨fun s' Wy hW b K Q hK' => ?_, fun K hK' => ?_⟩
  · obtain ⟨y0, -⟩ := hK _ Wy hW
    go_simp
    exact hK' Wy hW
  go_simp
  refine hK' _ ?_
  clear hK' K
  refine ordv_read rfl (by go_simp) (by rfl) ?_
  apply Exists.intro
  refine ⟨fun s' Wy hW b K Q hK' => ?_, fun K hK' => ?_⟩
  · obtain ⟨y0, -⟩ := hK _ Wy hW
    go_simp
    exact hK' Wy hW
  go_simp
  refine hK' _ ?_
  clear hK' K
  refine ordv_read rfl (by go_simp) (by rfl) ?_
  apply Exists.intro
  refine ⟨fun s' Wy hW b K Q hK' => ?_, fun K hK' => ?_⟩
  · obtain ⟨y0, -⟩ := hK _ Wy hW
    go_simp
    exact hK' Wy hW
  go_simp
  refine hK' _ ?_
  clear hK' K
  refine ordv_read rfl (by go_simp) (by rfl) ?_
  apply Exists.intro
  refine ⟨fun s' Wy hW b K Q hK' => ?_, fun K hK' => ?_⟩
  · obtain ⟨y0, -⟩ := hK _ Wy hW
    go_simp
    exact hK' Wy hW
  go_simp
  refine hK' _ ?_
  clear hK' K
  refine ordv_read rfl (by go_simp) (by rfl) ?_
  apply Exists.intro
  refine ⟨fun s' Wy hW b K Q hK' => ?_, fun K hK' => ?_⟩
  · obtain ⟨y0, -⟩ := hK _ Wy hW
    go_simp
    exact hK' Wy hW
  go_simp
  refine hK' _ ?_
  clear hK' K
  refine ordv_turn rfl (by go_simp) (by rfl) (fun Wy hW => ?_) (fun y hy K hK' => ?_)
  · obtain ⟨w', hr, h3⟩ := h2 Wy hW
    exact yv_append (.tmp 26) (.tmp 33) 35 rfl (.slice (some ⟨g, 0, none⟩) r c) (.slice (some A) (n - (r + 1)) (c - (r + 1))) rfl rfl hr h3
  obtain rfl : y = .slice (some ⟨g, 0, none⟩) (r + (n - (r + 1))) c := by
    obtain ⟨W', hW'⟩ := hy
    exact h2s y W' hW'
  clear hy h2 h2s
  go_simp
  refine hK' _ ?_
  clear hK' K
  refine ordv_read rfl (by go_simp) (by rfl) ?_
  apply Exists.intro
  refine ⟨fun s' Wy hW b K Q hK' => ?_, fun K hK' => ?_⟩
  · obtain ⟨y0, -⟩ := hK _ Wy hW
    go_simp
    exact hK' Wy hW
  go_simp
  refine hK' _ ?_
  clear hK' K
  refine ordv_read rfl (by go_simp) (by rfl) ?_
  apply Exists.intro
  refine ⟨fun s' Wy hW b K Q hK' => ?_, fun K hK' => ?_⟩
  · obtain ⟨y0, -⟩ := hK _ Wy hW
    go_simp
    exact hK' Wy hW
  go_simp
  refine hK' _ ?_
  clear hK' K
  refine ordv_nil ?_
  intro w1 hw9
  obtain ⟨g1, g2⟩ := Hfin.out _ _ hw9
  obtain ⟨f3, f4⟩ := HZ.out w1 g2
  have G1 : Hid _ := g1
  have G2 : Hid _ := g2
  clear Hfin hK hw9 C HZ g1 g2
  go_wp2_with fail
  refine Hexit.out _ w1 ?_ G1.out G2.out
  exact ⟨rfl, rfl, rfl, rfl⟩
end Go.Proofs.Ytnjiiebjdpipjaa
