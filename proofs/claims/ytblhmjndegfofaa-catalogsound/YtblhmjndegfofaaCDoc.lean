import Derived.Test.YtblhmjndegfofaaCDo0
import Derived.Test.YtblhmjndegfofaaFloO
/- does, a creation. -/
namespace Go.Proofs.Ytblhmjndegfofaa
open Go.RowKit Go

set_option maxHeartbeats 4000000 in
set_option maxRecDepth 100000 in
theorem does_create (b : Nat) (d : Dd) (E : Int) (F : Nat → Prop) (L' : List Tbl) (g' : Int) (w : World) (hd : d.ok) (hb : b < w.heap.size) (hk : pk d.k 4 < 2)
    (hq : ∀ W g (G : Nat → Prop), Tch (fun _ => False) w W → (∀ i, G i → w.heap.size ≤ i ∧ i < W.heap.size) → At W g 0 (ccl (dCols d)) → w.heap.size ≤ g → Calls Try.prog 8 #[.pointer (some ⟨b, 0, none⟩), .string (nmS (pk d.nm 6)), .slice (some ⟨g, 0, none⟩) 2 2, .int .i64 (pk d.m 3 : Nat)] W fun y w' => Shp E y ∧ DO (fun i => F i ∨ G i) b L' g' W w') :
    Calls Try.prog 17 #[.pointer (some ⟨b, 0, none⟩), .agg #[.int .i64 d.k, .int .i64 d.nm, .int .i64 d.n, .int .i64 d.m]] w fun x w' => x = .returned (.int .i64 E) ∧ DO F b L' g' w w' := by
  obtain ⟨N, hN⟩ : ∃ N, N = w.heap.size := ⟨_, rfl⟩
  obtain ⟨w0, hw0⟩ : ∃ w0, w0 = (w.alloc (.cells #[.int .i64 d.k, .int .i64 d.nm, .int .i64 d.n, .int .i64 d.m] 56)).alloc (.cells #[.int .i64 1, .int .i64 2, .int .i64 3] 3) := ⟨_, rfl⟩
  have t0 : Tch (fun _ => False) w w0 := by rw [hw0]; exact (Tch.alloc _ _ _).allocR _
  have hs0 : w0.heap.size = N + 2 := by rw [hw0, World.size_alloc, World.size_alloc, hN]
  have hX : w0.heap[N]? = some (.cells #[.int .i64 d.k, .int .i64 d.nm, .int .i64 d.n, .int .i64 d.m] 56 (0, 0)) := by
    rw [hw0, hN]; exact (Tch.alloc (fun _ => False) _ _).block _ (by simp) (fun h => h) |>.trans (alloc_new _ _)
  have hY : w0.heap[N + 1]? = some (.cells #[.int .i64 1, .int .i64 2, .int .i64 3] 3 (0, 0)) := by
    rw [hw0, hN, ← World.size_alloc]; exact alloc_new _ _
  obtain ⟨K, hK⟩ : ∃ K, K = pk d.m 3 := ⟨_, rfl⟩
  obtain ⟨K1, hK1⟩ : ∃ K1, K1 = pk d.n 3 := ⟨_, rfl⟩
  have hK3 : K < 3 := by rw [hK]; unfold pk; omega
  have hK13 : K1 < 3 := by rw [hK1]; unfold pk; omega
  obtain ⟨cs, hcs⟩ : ∃ cs : List Value, cs = [.string ⟨#[105, 100]⟩, .int .i64 ((K1 : Int) + 1), .bool false, .string (nmS (pk d.m 6)), .int .i64 ((K : Int) + 1), .bool (decide (d.n.tmod 2 = 0))] := ⟨_, rfl⟩
  have hcc : ccl (dCols d) = cs := by rw [hcs, hK, hK1]; rfl
  have HS : Hid (∀ W, Tch (fun i => i = b) w0 W → (W.cell? ⟨N, 1, none⟩ = some (.int .i64 d.nm) ∧ W.cell? ⟨N, 2, none⟩ = some (.int .i64 d.n) ∧ W.cell? ⟨N, 3, none⟩ = some (.int .i64 d.m)) ∧ W.cell? ⟨N + 1, K, none⟩ = some (.int .i64 ((K : Int) + 1)) ∧ W.cell? ⟨N + 1, K1, none⟩ = some (.int .i64 ((K1 : Int) + 1))) := fun W tW => by
    have h1 : W.heap[N]? = _ := (tW.block N (blk_lt hX) (by omega)).trans hX
    have h2 : W.heap[N + 1]? = _ := (tW.block (N + 1) (blk_lt hY) (by omega)).trans hY
    refine ⟨⟨by rw [blk_cell h1]; rfl, by rw [blk_cell h1]; rfl, by rw [blk_cell h1]; rfl⟩, ?_, ?_⟩
    · rw [blk_cell h2]
      rcases (by omega : K = 0 ∨ K = 1 ∨ K = 2) with rfl | rfl | rfl <;> rfl
    · rw [blk_cell h2]
      rcases (by omega : K1 = 0 ∨ K1 = 1 ∨ K1 = 2) with rfl | rfl | rfl <;> rfl
  have Hnm : Hid (∀ c, i64 c → ∀ W, Calls Try.prog 11 #[.int .i64 c] W fun x w' => x = .returned (.string (nmS (pk c 6))) ∧ Tch (fun _ => False) W w') := fun c hc W => nameK_any c hc.1 hc.2 W
  have Hp3 : Hid (∀ W, Calls Try.prog 18 #[.int .i64 d.m, .int .i64 3] W fun x w' => x = .returned (.int .i64 (K : Nat)) ∧ w' = W) := fun W => by rw [hK]; exact pk3_any d.m hd.2.2.2.1 hd.2.2.2.2 W
  have Hp31 : Hid (∀ W, Calls Try.prog 18 #[.int .i64 d.n, .int .i64 3] W fun x w' => x = .returned (.int .i64 (K1 : Nat)) ∧ w' = W) := fun W => by rw [hK1]; exact pk3_any d.n hd.2.2.1.1 hd.2.2.1.2 W
  have hkI : (K : Int) < 3 := by omega
  have hkI1 : (K1 : Int) < 3 := by omega
  rw [← hK, hcc] at hq
  have q0 := pk4_any d.k hd.1.1 hd.1.2 w0
  obtain ⟨k4, hk4⟩ : ∃ k4, k4 = pk d.k 4 := ⟨_, rfl⟩
  rw [← hk4] at q0 hk
  obtain ⟨Bx, hBx⟩ : ∃ Bx : Option Value → (Nat → Prop) → World → Prop, Bx = fun p G W => ∀ v, p = some v → ∃ mb, v = .pointer (some ⟨mb, 0, none⟩) ∧ w0.heap.size ≤ mb ∧ G mb ∧ ∃ xs : Array Value, xs.size = 5 ∧ W.heap[mb]? = some (.cells xs 29 (0, 0)) := ⟨_, rfl⟩
  have hBt : ∀ p G W W', Bx p G W → Tch (fun i => i = b) W W' → Bx p G W' := fun p G W W' h t => by
    rw [hBx] at h ⊢
    intro v hv
    obtain ⟨mb, e, h1, h2, xs, h3, h4⟩ := h v hv
    exact ⟨mb, e, h1, h2, xs, h3, (t.block mb (blk_lt h4) (by have := t0.size; omega)).trans h4⟩
  have hBn : ∀ G W, Bx none G W := fun G W => by rw [hBx]; intro v hv; cases hv
  have hBa : ∀ (G : Nat → Prop) (W : World), w0.heap.size ≤ W.heap.size → G W.heap.size → Bx (some (.pointer (some ⟨W.heap.size, 0, none⟩))) G (W.alloc (.cells #[.int .i64 0, .int .i64 0, .string ⟨#[]⟩, .slice none 0 0, .int .i64 0] 29)) := fun G W hs hG => by
    rw [hBx]
    intro v hv
    injection hv with hv
    exact ⟨W.heap.size, hv.symm, hs, hG, _, rfl, alloc_new _ _⟩
  obtain ⟨CAx, hCAx⟩ : ∃ CAx : (Nat → Prop) → World → Prop, CAx = fun G W => ∃ P to tc, CA W (fun i => F i ∨ G i) b L' g' P to tc := ⟨_, rfl⟩
  have hCAt : ∀ G W W', CAx G W → Tch (fun _ => False) W W' → CAx G W' := fun G W W' h t => by
    rw [hCAx] at h ⊢
    obtain ⟨P, to, tc, h⟩ := h
    exact ⟨P, to, tc, h.tch t (fun _ _ h => h.elim)⟩
  have hCAf : ∀ (G G' : Nat → Prop) (W : World), CAx G W → (∀ i, i < W.heap.size → G' i → F i ∨ G i) → CAx G' W := fun G G' W h hG => by
    rw [hCAx] at h ⊢
    obtain ⟨P, to, tc, h⟩ := h
    exact ⟨P, to, tc, h.fresh (fun i hi h2 => h2.elim Or.inl (hG i hi))⟩
  have hCAs : ∀ (G : Nat → Prop) mb W W', CAx G W → G mb → Tch (fun i => i = mb) W W' → CAx G W' := fun G mb W W' h hG t => by
    rw [hCAx] at h ⊢
    obtain ⟨P, to, tc, h⟩ := h
    exact ⟨P, to, tc, h.tch t (fun i _ e => Or.inr (e ▸ hG))⟩
  obtain ⟨Gp, hGp⟩ : ∃ Gp : Option Value → Nat → Prop, Gp = fun p i => p = some (.pointer (some ⟨i, 0, none⟩)) := ⟨_, rfl⟩
  obtain ⟨C, hC⟩ : ∃ C : List Value → Option Value → World → Prop, C = fun s p W => (Tch (fun i => i = b) w0 W ∧ ∀ v, p = some v → ∃ mb, v = .pointer (some ⟨mb, 0, none⟩)) ∧ match s with
    | [] => Tch (fun _ => False) w0 W ∧ Bx p (fun _ => True) W
    | [y] => Tch (fun _ => False) w0 W ∧ Bx p (fun _ => True) W ∧ ∃ g, y = .slice (some ⟨g, 0, none⟩) 2 2 ∧ At W g 0 cs ∧ w0.heap.size ≤ g ∧ g < W.heap.size
    | [_, y] => Shp E (.returned y) ∧ Bx p (Gp p) W ∧ CAx (Gp p) W
    | [_, _, _] => CAx (fun _ => False) W
    | _ => False := ⟨_, rfl⟩
  have hKK : ∀ s p (W : World), C s p W → Tch (fun i => i = b) w0 W := fun s p W h => by
    rw [hC] at h
    exact h.1.1
  have hK : ∀ s p W, C s p W → _ := fun s p W h => HS.out W (hKK s p W h)
  have hCt : ∀ s p W W', C s p W → Tch (fun _ => False) W W' → C s p W' := fun s p W W' h t => by
    rw [hC] at h ⊢
    have tb : Tch (fun i => i = b) W W' := t.mono (fun _ _ h => h.elim)
    refine ⟨⟨h.1.1.trans' tb, h.1.2⟩, ?_⟩
    have h2 := h.2
    rcases s with _ | ⟨y, _ | ⟨z, _ | ⟨u, _ | ⟨u2, s⟩⟩⟩⟩
    · exact ⟨h2.1.trans' t, hBt _ _ _ _ h2.2 tb⟩
    · obtain ⟨h3, h4, g, e, h5, h6, h7⟩ := h2
      exact ⟨h3.trans' t, hBt _ _ _ _ h4 tb, g, e, h5.tch t (fun _ h => h), h6, Nat.lt_of_lt_of_le h7 t.size⟩
    · exact ⟨h2.1, hBt _ _ _ _ h2.2.1 tb, hCAt _ _ _ h2.2.2 t⟩
    · exact hCAt _ _ _ h2 t
    · exact h2.elim
  have hFl : ∀ s (W : World), C s none W → C s (some (.pointer (some ⟨W.heap.size, 0, none⟩))) (W.alloc (.cells #[.int .i64 0, .int .i64 0, .string ⟨#[]⟩, .slice none 0 0, .int .i64 0] 29)) := fun s W h => by
    rw [hC] at h ⊢
    refine ⟨⟨h.1.1.allocR _, fun v hv => ⟨_, by injection hv with hv; exact hv.symm⟩⟩, ?_⟩
    have h2 := h.2
    have hsz := h.1.1.size
    have hal : ∀ o, Tch (fun _ => False) W (W.alloc o) := fun o => Tch.alloc _ _ _
    have hfr : ∀ i, i < W.heap.size → Gp (some (.pointer (some ⟨W.heap.size, 0, none⟩))) i → F i ∨ Gp none i := fun i hi e => by
      rw [hGp] at e
      injection e with e; injection e with e; injection e with e; injection e with e
      omega
    have hself : Gp (some (.pointer (some ⟨W.heap.size, 0, none⟩))) W.heap.size := by rw [hGp]
    rcases s with _ | ⟨y, _ | ⟨z, _ | ⟨u, _ | ⟨u2, s⟩⟩⟩⟩
    · exact ⟨h2.1.allocR _, hBa _ _ hsz trivial⟩
    · obtain ⟨h3, h4, g, e, h5, h6, h7⟩ := h2
      exact ⟨h3.allocR _, hBa _ _ hsz trivial, g, e, h5.tch (hal _) (fun _ h => h), h6, by rw [World.size_alloc]; omega⟩
    · exact ⟨h2.1, hBa _ _ hsz hself, hCAt _ _ _ (hCAf _ _ _ h2.2.2 hfr) (hal _)⟩
    · exact hCAt _ _ _ h2 (hal _)
    · exact h2.elim
  have h0' : C [] none w0.drew := by rw [hC]; exact ⟨⟨(Tch.refl _ _).drew, fun v hv => by cases hv⟩, (Tch.refl _ _).drew, hBn _ _⟩
  have h25 : ∀ p (W : World), C [] p W → C [.slice (some ⟨W.heap.size, 0, none⟩) 2 2] p (W.alloc (.cells cs.toArray 34)) := fun p W h => by
    rw [hC] at h ⊢
    have hsz := h.1.1.size
    exact ⟨⟨h.1.1.allocR _, h.1.2⟩, h.2.1.allocR _, hBt _ _ _ _ h.2.2 (Tch.alloc _ _ _), W.heap.size, rfl, blk_at (alloc_new W (.cells cs.toArray 34)), hsz, by rw [World.size_alloc]; omega⟩
  have hsh : ∀ y p W, C [y] p W → ∃ g, y = .slice (some ⟨g, 0, none⟩) 2 2 := fun y p W h => by
    rw [hC] at h
    obtain ⟨_, _, _, g, h1, _⟩ := h
    exact ⟨g, h1⟩
  have hcall : ∀ g p W, C [.slice (some ⟨g, 0, none⟩) 2 2] p W → Calls Try.prog 8 #[.pointer (some ⟨b, 0, none⟩), .string (nmS (pk d.nm 6)), .slice (some ⟨g, 0, none⟩) 2 2, .int .i64 (K : Nat)] W fun x w' => ∃ y, x = .returned y ∧ C [.slice (some ⟨g, 0, none⟩) 2 2, y] p w' := fun g p W h => by
    rw [hC] at h
    obtain ⟨h1, h2, h3, g', e, h4, h5, h6⟩ := h
    have e2 : g = g' := by simpa using e
    subst e2
    refine (hq W g (Gp p) (t0.trans' h2) (fun i hi => ?_) h4 (by have := t0.size; omega)).mono ?_
    · rw [hGp] at hi
      rw [hBx] at h3
      obtain ⟨mb, e, h5, _, xs, _, h6⟩ := h3 _ hi
      injection e with e; injection e with e; injection e with e
      subst e
      have := t0.size
      exact ⟨by omega, blk_lt h6⟩
    rintro x w' ⟨⟨i, j, s, vo, vn, vc, kk, rfl⟩, hca, t⟩
    refine ⟨_, rfl, ?_⟩
    rw [hC]
    refine ⟨⟨h1.1.trans' t, h1.2⟩, ⟨_, _, _, _, _, _, _, rfl⟩, ?_, by rw [hCAx]; exact hca⟩
    rw [hBx] at h3 ⊢
    intro v hv
    obtain ⟨mb, e, h5, _, xs, h7, h8⟩ := h3 v hv
    exact ⟨mb, e, h5, by rw [hGp, hv, e], xs, h7, (t.block mb (blk_lt h8) (by have := t0.size; omega)).trans h8⟩
  have hshp : ∀ x y p W, C [x, y] p W → Shp E (.returned y) := fun x y p W h => by
    rw [hC] at h
    exact h.2.1
  have hptr : ∀ s v W, C s (some v) W → ∃ mb, v = .pointer (some ⟨mb, 0, none⟩) := fun s v W h => by
    rw [hC] at h
    exact h.1.2 v rfl
  have hst : ∀ x y z mb (W : World), C [x, y] (some (.pointer (some ⟨mb, 0, none⟩))) W → ((∃ u, W.cell? ⟨mb, 0, none⟩ = some u) ∧ (∃ u, W.cell? ⟨mb, 1, none⟩ = some u) ∧ (∃ u, W.cell? ⟨mb, 2, none⟩ = some u) ∧ (∃ u, W.cell? ⟨mb, 3, none⟩ = some u) ∧ (∃ u, W.cell? ⟨mb, 4, none⟩ = some u)) ∧ (∀ j, W.frozen? ⟨mb, j, none⟩ = false) ∧ ∀ v0 v1 v2 v3 v4, C [x, y, z] (some (.pointer (some ⟨mb, 0, none⟩))) (((((W.setCell ⟨mb, 0, none⟩ v0).setCell ⟨mb, 1, none⟩ v1).setCell ⟨mb, 2, none⟩ v2).setCell ⟨mb, 3, none⟩ v3).setCell ⟨mb, 4, none⟩ v4) := fun x y z mb W h => by
    rw [hC] at h
    obtain ⟨h1, _, h3, h4⟩ := h
    rw [hBx] at h3
    obtain ⟨mb', e, h5, h6, xs, h7, h8⟩ := h3 _ rfl
    injection e with e; injection e with e; injection e with e
    subst e
    have hc : ∀ j, j < 5 → ∃ u, W.cell? ⟨mb, j, none⟩ = some u := fun j hj => ⟨xs[j]'(by omega), by rw [blk_cell h8]; exact Array.getElem?_eq_getElem _⟩
    refine ⟨⟨hc 0 (by omega), hc 1 (by omega), hc 2 (by omega), hc 3 (by omega), hc 4 (by omega)⟩, fun j => blk_frozen h8 j, fun v0 v1 v2 v3 v4 => ?_⟩
    rw [hC]
    have tE : Tch (fun i => i = mb) W (((((W.setCell ⟨mb, 0, none⟩ v0).setCell ⟨mb, 1, none⟩ v1).setCell ⟨mb, 2, none⟩ v2).setCell ⟨mb, 3, none⟩ v3).setCell ⟨mb, 4, none⟩ v4) := ((((Tch.setCell (fun i => i = mb) W ⟨mb, 0, none⟩ _ rfl).setCellR ⟨mb, 1, none⟩ _ rfl).setCellR ⟨mb, 2, none⟩ _ rfl).setCellR ⟨mb, 3, none⟩ _ rfl).setCellR ⟨mb, 4, none⟩ _ rfl
    exact ⟨⟨h1.1.trans tE (fun i hi e => by omega), h1.2⟩, hCAf _ _ _ (hCAs _ mb _ _ h4 h6 tE) (fun i _ h => h.elim)⟩
  have HEND : Hid (∀ x y z p W, C [x, y, z] p W → DO F b L' g' w W) := fun x y z p W h => by
    rw [hC] at h
    obtain ⟨h1, h2⟩ := h
    rw [hCAx] at h2
    obtain ⟨P, to, tc, h2⟩ := h2
    exact ⟨⟨P, to, tc, h2.fresh (fun i _ h => Or.inl h)⟩, (t0.mono (fun _ _ h => h.elim)).trans' h1.1⟩
  have Hw0 : Hid _ := hw0
  have HN : Hid (N = w.heap.size) := hN
  have Hd : Hid _ := hd
  have Hcs : Hid _ := hcs
  clear hcc hcs
  clear hC hBx hBt hBn hBa hCAx hCAt hCAf hCAs hGp Gp CAx Bx hN hw0 t0 hq hd hX hY hK1 hK3 hK13 hk4 hs0 hb
  rename_i hKp
  clear hKp
  go_enter Try.func17, Try.ntmps17
  go_wp2_with fail
  have hw0 := Hw0.out
  rw [← hw0]
  clear hw0
  refine q0.mono ?_
  rintro y w1 ⟨rfl, hw1⟩
  obtain rfl := hw1.symm
  clear hw1 q0
  have hcase : k4 = 0 ∨ k4 = 1 := by omega
  clear hk
  rcases hcase with rfl | rfl
  all_goals
    go_wp2_with fail
    rw [← HN.out]
    refine wp_region_floo [25, 29, 34] 33 _ C [0, 1, 2, 3, 4, 5, 6, 7, 8, 9, 10, 11, 12, 13, 14, 15, 16, 17, 18, 19, 20, 21, 22, 23, 24, 26, 27, 28, 25, 29, 30, 31, 32, 33, 34, 35] (by kernel_rfl) (by kernel_rfl) rfl rfl (by rfl) (by kernel_rfl) (fun s a W hW b K Q hK' => ?_) h0' ?_
    · go_simp
      exact hK' _ _ (hFl s W hW)
    clear h0'
    refine floo_read rfl (by go_simp) (by rfl) (by rfl) ?_
    apply Exists.intro
    refine ⟨fun s' p' W hl hW b K Q hK' => ?_, fun K hK' => ?_⟩
    · obtain ⟨⟨a1, a2, a3⟩, a4, a5⟩ := hK _ _ W hW
      go_simp
      exact hK' W hW
    go_simp
    refine hK' _ ?_
    clear hK' K
    refine floo_read rfl (by go_simp) (by rfl) (by rfl) ?_
    apply Exists.intro
    refine ⟨fun s' p' W hl hW b K Q hK' => ?_, fun K hK' => ?_⟩
    · obtain ⟨⟨a1, a2, a3⟩, a4, a5⟩ := hK _ _ W hW
      go_simp
      exact hK' W hW
    go_simp
    refine hK' _ ?_
    clear hK' K
    refine floo_read rfl (by go_simp) (by rfl) (by rfl) ?_
    apply Exists.intro
    refine ⟨fun s' p' W hl hW b K Q hK' => ?_, fun K hK' => ?_⟩
    · obtain ⟨⟨a1, a2, a3⟩, a4, a5⟩ := hK _ _ W hW
      go_simp
      exact hK' W hW
    go_simp
    refine hK' _ ?_
    clear hK' K
    refine floo_read rfl (by go_simp) (by rfl) (by rfl) ?_
    refine ⟨.string (nmS (pk d.nm 6)), fun s' p' W hl hW b K Q hK' => ?_, fun K hK' => ?_⟩
    · go_simp
      go_at_call 11
      refine (Hnm.out _ Hd.out.2.1 W).mono ?_
      rintro x w' ⟨rfl, t1⟩
      exact hK' w' (hCt _ _ W w' hW t1)
    go_simp
    refine hK' _ ?_
    clear hK' K
    refine floo_read rfl (by go_simp) (by rfl) (by rfl) ?_
    apply Exists.intro
    refine ⟨fun s' p' W hl hW b K Q hK' => ?_, fun K hK' => ?_⟩
    · obtain ⟨⟨a1, a2, a3⟩, a4, a5⟩ := hK _ _ W hW
      go_simp
      exact hK' W hW
    go_simp
    refine hK' _ ?_
    clear hK' K
    refine floo_read rfl (by go_simp) (by rfl) (by rfl) ?_
    apply Exists.intro
    refine ⟨fun s' p' W hl hW b K Q hK' => ?_, fun K hK' => ?_⟩
    · obtain ⟨⟨a1, a2, a3⟩, a4, a5⟩ := hK _ _ W hW
      go_simp
      exact hK' W hW
    go_simp
    refine hK' _ ?_
    clear hK' K
    refine floo_read rfl (by go_simp) (by rfl) (by rfl) ?_
    apply Exists.intro
    refine ⟨fun s' p' W hl hW b K Q hK' => ?_, fun K hK' => ?_⟩
    · obtain ⟨⟨a1, a2, a3⟩, a4, a5⟩ := hK _ _ W hW
      go_simp
      exact hK' W hW
    go_simp
    refine hK' _ ?_
    clear hK' K
    refine floo_read rfl (by go_simp) (by rfl) (by rfl) ?_
    refine ⟨.int .i64 (K1 : Nat), fun s' p' W hl hW b K Q hK' => ?_, fun K hK' => ?_⟩
    · go_simp
      go_at_call 18
      refine (Hp31.out W).mono ?_
      rintro x w' ⟨rfl, hw'⟩
      rw [hw']
      exact hK' W hW
    go_simp
    refine hK' _ ?_
    clear hK' K
    refine floo_read rfl (by go_simp) (by rfl) (by rfl) ?_
    apply Exists.intro
    refine ⟨fun s' p' W hl hW b K Q hK' => ?_, fun K hK' => ?_⟩
    · obtain ⟨⟨a1, a2, a3⟩, a4, a5⟩ := hK _ _ W hW
      go_simp
      exact hK' W hW
    go_simp
    refine hK' _ ?_
    clear hK' K
    refine floo_read rfl (by go_simp) (by rfl) (by rfl) ?_
    apply Exists.intro
    refine ⟨fun s' p' W hl hW b K Q hK' => ?_, fun K hK' => ?_⟩
    · obtain ⟨⟨a1, a2, a3⟩, a4, a5⟩ := hK _ _ W hW
      go_simp
      exact hK' W hW
    go_simp
    refine hK' _ ?_
    clear hK' K
    refine floo_read rfl (by go_simp) (by rfl) (by rfl) ?_
    apply Exists.intro
    refine ⟨fun s' p' W hl hW b K Q hK' => ?_, fun K hK' => ?_⟩
    · obtain ⟨⟨a1, a2, a3⟩, a4, a5⟩ := hK _ _ W hW
      go_simp
      exact hK' W hW
    go_simp
    refine hK' _ ?_
    clear hK' K
    refine floo_read rfl (by go_simp) (by rfl) (by rfl) ?_
    apply Exists.intro
    refine ⟨fun s' p' W hl hW b K Q hK' => ?_, fun K hK' => ?_⟩
    · obtain ⟨⟨a1, a2, a3⟩, a4, a5⟩ := hK _ _ W hW
      go_simp
      exact hK' W hW
    go_simp
    refine hK' _ ?_
    clear hK' K
    refine floo_read rfl (by go_simp) (by rfl) (by rfl) ?_
    apply Exists.intro
    refine ⟨fun s' p' W hl hW b K Q hK' => ?_, fun K hK' => ?_⟩
    · obtain ⟨⟨a1, a2, a3⟩, a4, a5⟩ := hK _ _ W hW
      go_simp
      exact hK' W hW
    go_simp
    refine hK' _ ?_
    clear hK' K
    refine floo_read rfl (by go_simp) (by rfl) (by rfl) ?_
    refine ⟨.string (nmS (pk d.m 6)), fun s' p' W hl hW b K Q hK' => ?_, fun K hK' => ?_⟩
    · go_simp
      go_at_call 11
      refine (Hnm.out _ Hd.out.2.2.2 W).mono ?_
      rintro x w' ⟨rfl, t1⟩
      exact hK' w' (hCt _ _ W w' hW t1)
    go_simp
    refine hK' _ ?_
    clear hK' K
    refine floo_read rfl (by go_simp) (by rfl) (by rfl) ?_
    apply Exists.intro
    refine ⟨fun s' p' W hl hW b K Q hK' => ?_, fun K hK' => ?_⟩
    · obtain ⟨⟨a1, a2, a3⟩, a4, a5⟩ := hK _ _ W hW
      go_simp
      exact hK' W hW
    go_simp
    refine hK' _ ?_
    clear hK' K
    refine floo_read rfl (by go_simp) (by rfl) (by rfl) ?_
    apply Exists.intro
    refine ⟨fun s' p' W hl hW b K Q hK' => ?_, fun K hK' => ?_⟩
    · obtain ⟨⟨a1, a2, a3⟩, a4, a5⟩ := hK _ _ W hW
      go_simp
      exact hK' W hW
    go_simp
    refine hK' _ ?_
    clear hK' K
    refine floo_read rfl (by go_simp) (by rfl) (by rfl) ?_
    apply Exists.intro
    refine ⟨fun s' p' W hl hW b K Q hK' => ?_, fun K hK' => ?_⟩
    · obtain ⟨⟨a1, a2, a3⟩, a4, a5⟩ := hK _ _ W hW
      go_simp
      exact hK' W hW
    go_simp
    refine hK' _ ?_
    clear hK' K
    refine floo_read rfl (by go_simp) (by rfl) (by rfl) ?_
    refine ⟨.int .i64 (K : Nat), fun s' p' W hl hW b K Q hK' => ?_, fun K hK' => ?_⟩
    · go_simp
      go_at_call 18
      refine (Hp3.out W).mono ?_
      rintro x w' ⟨rfl, hw'⟩
      rw [hw']
      exact hK' W hW
    go_simp
    refine hK' _ ?_
    clear hK' K
    refine floo_read rfl (by go_simp) (by rfl) (by rfl) ?_
    apply Exists.intro
    refine ⟨fun s' p' W hl hW b K Q hK' => ?_, fun K hK' => ?_⟩
    · obtain ⟨⟨a1, a2, a3⟩, a4, a5⟩ := hK _ _ W hW
      go_simp
      exact hK' W hW
    go_simp
    refine hK' _ ?_
    clear hK' K
    refine floo_read rfl (by go_simp) (by rfl) (by rfl) ?_
    apply Exists.intro
    refine ⟨fun s' p' W hl hW b K Q hK' => ?_, fun K hK' => ?_⟩
    · obtain ⟨⟨a1, a2, a3⟩, a4, a5⟩ := hK _ _ W hW
      go_simp
      exact hK' W hW
    go_simp
    refine hK' _ ?_
    clear hK' K
    refine floo_read rfl (by go_simp) (by rfl) (by rfl) ?_
    apply Exists.intro
    refine ⟨fun s' p' W hl hW b K Q hK' => ?_, fun K hK' => ?_⟩
    · obtain ⟨⟨a1, a2, a3⟩, a4, a5⟩ := hK _ _ W hW
      go_simp
      exact hK' W hW
    go_simp
    refine hK' _ ?_
    clear hK' K
    refine floo_read rfl (by go_simp) (by rfl) (by rfl) ?_
    apply Exists.intro
    refine ⟨fun s' p' W hl hW b K Q hK' => ?_, fun K hK' => ?_⟩
    · obtain ⟨⟨a1, a2, a3⟩, a4, a5⟩ := hK _ _ W hW
      go_simp
      exact hK' W hW
    go_simp
    refine hK' _ ?_
    clear hK' K
    refine floo_read rfl (by go_simp) (by rfl) (by rfl) ?_
    apply Exists.intro
    refine ⟨fun s' p' W hl hW b K Q hK' => ?_, fun K hK' => ?_⟩
    · obtain ⟨⟨a1, a2, a3⟩, a4, a5⟩ := hK _ _ W hW
      go_simp
      exact hK' W hW
    go_simp
    refine hK' _ ?_
    clear hK' K
    refine floo_read rfl (by go_simp) (by rfl) (by rfl) ?_
    apply Exists.intro
    refine ⟨fun s' p' W hl hW b K Q hK' => ?_, fun K hK' => ?_⟩
    · obtain ⟨⟨a1, a2, a3⟩, a4, a5⟩ := hK _ _ W hW
      go_simp
      exact hK' W hW
    go_simp
    refine hK' _ ?_
    clear hK' K
    refine floo_read rfl (by go_simp) (by rfl) (by rfl) ?_
    apply Exists.intro
    refine ⟨fun s' p' W hl hW b K Q hK' => ?_, fun K hK' => ?_⟩
    · obtain ⟨⟨a1, a2, a3⟩, a4, a5⟩ := hK _ _ W hW
      go_simp
      exact hK' W hW
    go_simp
    refine hK' _ ?_
    clear hK' K
    refine floo_read rfl (by go_simp) (by rfl) (by rfl) ?_
    apply Exists.intro
    refine ⟨fun s' p' W hl hW b K Q hK' => ?_, fun K hK' => ?_⟩
    · obtain ⟨⟨a1, a2, a3⟩, a4, a5⟩ := hK _ _ W hW
      go_simp
      exact hK' W hW
    go_simp
    refine hK' _ ?_
    clear hK' K
    refine floo_read rfl (by go_simp) (by rfl) (by rfl) ?_
    apply Exists.intro
    refine ⟨fun s' p' W hl hW b K Q hK' => ?_, fun K hK' => ?_⟩
    · obtain ⟨⟨a1, a2, a3⟩, a4, a5⟩ := hK _ _ W hW
      go_simp
      exact hK' W hW
    go_simp
    refine hK' _ ?_
    clear hK' K
    refine floo_read rfl (by go_simp) (by rfl) (by rfl) ?_
    refine ⟨.int .i64 (K : Nat), fun s' p' W hl hW b K Q hK' => ?_, fun K hK' => ?_⟩
    · go_simp
      go_at_call 18
      refine (Hp3.out W).mono ?_
      rintro x w' ⟨rfl, hw'⟩
      rw [hw']
      exact hK' W hW
    go_simp
    refine hK' _ ?_
    clear hK' K
    refine floo_turn rfl (by go_simp) (by rfl) (fun p' hl W hW b K Q hK' => ?_) (fun u hu K hK' => ?_)
    · have h1 := h25 p' W hW
      rw [Hcs.out] at h1
      go_simp
      exact hK' _ _ h1
    obtain ⟨g, rfl⟩ : ∃ g, u = .slice (some ⟨g, 0, none⟩) 2 2 := by
      obtain ⟨p', W', _, hW'⟩ := hu
      exact hsh u p' W' hW'
    clear hu h25 hsh
    go_simp
    refine hK' _ ?_
    clear hK' K
    refine floo_turn rfl (by go_simp) (by rfl) (fun p' hl W hW b K Q hK' => ?_) (fun u hu K hK' => ?_)
    · go_simp
      go_at_call 8
      refine (hcall g p' W hW).mono ?_
      rintro x w' ⟨y, rfl, h1⟩
      exact hK' y w' h1
    obtain ⟨i, j, s, vo, vn, vc, kk, hsu⟩ : Shp E (.returned u) := by
      obtain ⟨p', W', _, hW'⟩ := hu
      exact hshp _ u p' W' hW'
    injection hsu with hsu
    subst hsu
    clear hu hcall hshp
    go_simp
    refine hK' _ ?_
    clear hK' K
    refine floo_read rfl (by go_simp) (by rfl) (by rfl) ?_
    apply Exists.intro
    refine ⟨fun s' p' W hl hW b K Q hK' => ?_, fun K hK' => ?_⟩
    · go_simp
      exact hK' W hW
    go_simp
    refine hK' _ ?_
    clear hK' K
    refine floo_read rfl (by go_simp) (by rfl) (by rfl) ?_
    apply Exists.intro
    refine ⟨fun s' p' W hl hW b K Q hK' => ?_, fun K hK' => ?_⟩
    · go_simp
      exact hK' W hW
    go_simp
    refine hK' _ ?_
    clear hK' K
    refine floo_read rfl (by go_simp) (by rfl) (by rfl) ?_
    apply Exists.intro
    refine ⟨fun s' p' W hl hW b K Q hK' => ?_, fun K hK' => ?_⟩
    · go_simp
      exact hK' W hW
    go_simp
    refine hK' _ ?_
    clear hK' K
    refine floo_float rfl (by go_simp) (by rfl) (by rfl) (fun W hW b K Q hK' => ?_) (fun u hu K hK' => ?_)
    · go_simp
      exact hK' _ _ (hFl _ W hW)
    obtain ⟨mb, rfl⟩ : ∃ mb, u = .pointer (some ⟨mb, 0, none⟩) := by
      obtain ⟨s', W', hW'⟩ := hu
      exact hptr _ u W' hW'
    clear hu
    go_simp
    refine hK' _ ?_
    clear hK' K
    refine floo_turn rfl (by go_simp) (by rfl) (fun p' hl W hW b K Q hK' => ?_) (fun u hu K hK' => ?_)
    · obtain rfl := hl.some
      obtain ⟨⟨⟨y0, q0⟩, ⟨y1, q1⟩, ⟨y2, q2⟩, ⟨y3, q3⟩, ⟨y4, q4⟩⟩, qf, qC⟩ := hst _ _ undef mb W hW
      have f0 := qf 0
      have f1 := qf 1
      have f2 := qf 2
      have f3 := qf 3
      have f4 := qf 4
      clear qf
      go_simp
      exact hK' _ _ (qC _ _ _ _ _)
    clear hu
    go_simp
    refine hK' _ ?_
    clear hK' K
    refine floo_read rfl (by go_simp) (by rfl) (by rfl) ?_
    apply Exists.intro
    refine ⟨fun s' p' W hl hW b K Q hK' => ?_, fun K hK' => ?_⟩
    · go_simp
      exact hK' W hW
    go_simp
    refine hK' _ ?_
    clear hK' K
    refine floo_nil ?_
    intro w3 hw3
    have Hx : Hid (DO F b L' g' w w3) := HEND.out _ _ _ _ w3 hw3
    clear hK hKK hCt hw3 hst hFl HEND hptr
    go_wp2_with fail
    go_ret
    exact ⟨rfl, Hx.out⟩
end Go.Proofs.Ytblhmjndegfofaa
