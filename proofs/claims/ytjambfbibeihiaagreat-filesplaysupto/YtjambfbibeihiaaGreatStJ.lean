import Derived.Test.YtjambfbibeihiaaGreatStI
/- A step: Load of what Files tells: the walk. -/
namespace Go.Proofs.YtjambfbibeihiaaGreat
set_option maxRecDepth 100000
open Go.RowKit Go.ChangeMaps Go.Sort

section
variable (bb T k db rb : Nat) (d : Dsk) (c N M : Int) (tw : Bool) (nm S : ByteArray) (lo : Option Addr) (ln lc : Nat) (hN wN hF wF : Value) (ω : Nat → Nat) (w : World)

theorem CW.fresh {w : World} {ω : Nat → Nat} {bb T k db rb b rb2 : Nat} {pc oc : Array Value} {hN wN hF wF : Value} {dA dR D : Dsk} {W W' : World} {ω' ω'' : Nat → Nat} (h : CW w ω bb T k db rb pc oc hN wN hF wF dA dR W ω') (hk : 1 ≤ k ∧ k ≤ 3) (hp : PR W' ω'' k b rb2 D) (t : Tch (fun _ => False) W W') (e : Ev (fun i => i = 0 ∨ i = k ∨ i = k + 1) W ω' W' ω'') (hold : ∀ i, i < W.heap.size → ω'' i = ω' i) : CW w ω bb T k b rb2 pc oc hN wN hF wF D D W' ω'' := by
  obtain ⟨c0, c1, c2⟩ := h.cl
  obtain ⟨rc, hr, hz⟩ := h.b2
  refine ⟨h.ev.trans (e.mono (fun i h => ?_)), hp.df, hp.rf, h.bo.ev e (fun i h1 _ h => by omega), ⟨by rw [hold _ (blk_lt h.b0)]; exact c0, by rw [hold _ (blk_lt h.b1)]; exact c1, by rw [hold _ (blk_lt hr)]; exact c2⟩, (t.block _ (blk_lt h.b0) (fun h => h)).trans h.b0, (t.block _ (blk_lt h.b1) (fun h => h)).trans h.b1, ⟨rc, (t.block _ (blk_lt hr) (fun h => h)).trans hr, hz⟩, h.k0.same t hold h.ev.tch.size⟩
  rcases h with h | h | h
  · exact Or.inl h
  · exact Or.inr (Or.inl h)
  · exact Or.inr (Or.inr (Or.inl h))
theorem CW.stay {w : World} {ω : Nat → Nat} {bb T k db rb : Nat} {pc oc : Array Value} {hN wN hF wF : Value} {dA dR : Dsk} {W W' : World} {ω' : Nat → Nat} (h : CW w ω bb T k db rb pc oc hN wN hF wF dA dR W ω') (hk : 1 ≤ k ∧ k ≤ 3) (t : Tch (fun _ => False) W W') : CW w ω bb T k db rb pc oc hN wN hF wF dA dR W' (ext ω' W.heap.size 0) := by
  obtain ⟨rc, hr, hz⟩ := h.b2
  exact h.zero hk (fun _ => False) t (fun i _ e => e.elim) ⟨rc, (t.block _ (blk_lt hr) (fun h => h)).trans hr, hz⟩ (fun _ h => h.elim)

set_option maxHeartbeats 4000000 in
theorem step_18 (hb : BO w ω bb T hN wN hF wF) (hp : PR w ω k db rb d) (hk : 1 ≤ k ∧ k ≤ 3) (hl : d.m.length + 20 ≤ 1099511627776) (hc1 : 1 ≤ c ∧ c ≤ 1000000000) :
    Calls Tryz.prog 6 #[pairV db rb c, .pointer (some ⟨bb, 0, none⟩), opV 18 N M tw nm S lo ln lc] w fun x w' => ∃ db' rb' c', x = .returned (.tuple #[pairV db' rb' c', .bool true]) ∧ (1 ≤ c' ∧ c' ≤ 1000000000) ∧ Stepped w ω bb T k d w' db' rb' := by
  have hBd := Bd.of hp.df (by omega)
  have hla : ∀ p ∈ d.m, p.2.la ≤ p.2.bs.length ∧ p.2.bs.length ≤ 9223372036854775807 := fun p hq => by
    have h1 := hBd.room
    have h2 := hBd.cap
    have h3 : p.2.bs.length ≤ d.used := sumF_mem lenF hq
    exact ⟨hBd.la p hq, by omega⟩
  have hls : lens (rbs d.m) d.m.length ≤ 4611686018427387904 := by
    have h1 := lens_rbs d.m d.m.length (Nat.le_refl _)
    have h2 := sumTo_le d.m d.m.length
    have h3 := hBd.room
    have h4 := hBd.cap
    have h5 : sumL lenF d.m = d.used := rfl
    omega
  obtain ⟨w0, hw0⟩ : ∃ w0, w0 = ((w.alloc (.cells (pairC db rb c) 26)).alloc (.cells (opC 18 N M tw nm S lo ln lc) 41)).alloc (.cells #[.pointer none, .pointer none, .int .i64 0] 26) := ⟨_, rfl⟩
  have h0 := CW.start (pc := pairC db rb c) (oc := opC 18 N M tw nm S lo ln lc) hp hb hk
  rw [← hw0] at h0
  obtain ⟨rv0, acts0, hR0, _⟩ := h0.rf
  obtain ⟨C, hC⟩ : ∃ C : List Value → Option Value → World → Prop, C = fun s p W => CF w0 N d.m.length (rnm d.m) (rbs d.m) s p W ∧ (s.length ≤ 2 ∨ p ≠ none) := ⟨_, rfl⟩
  have hc : ∀ s p W, C s p W → W.cell? ⟨w.heap.size, 1, none⟩ = some (.pointer (some ⟨rb, 0, none⟩)) ∧ W.cell? ⟨w.heap.size + 1, 1, none⟩ = some (.int .i64 N) := fun s p W h => by
    rw [hC] at h
    have t := h.1.1
    have k0 := (t.block _ (blk_lt h0.b0) (fun h => h)).trans h0.b0
    have k1 := (t.block _ (blk_lt h0.b1) (fun h => h)).trans h0.b1
    exact ⟨by rw [blk_cell k0]; rfl, by rw [blk_cell k1]; rfl⟩
  have HF1 : ∀ p W, C [] p W → Calls Tryz.prog 30 #[.pointer (some ⟨rb, 0, none⟩)] W fun x w' => ∃ u, x = .returned u ∧ C [u] p w' := fun p W h => by
    rw [hC] at h
    refine (rfiles_row rb d rv0 acts0 W (hR0.no h.1.1) (by omega) hla).mono ?_
    rintro x w' ⟨ao, cp, rfl, ho, t⟩
    refine ⟨_, rfl, ?_⟩
    rw [hC]
    refine ⟨h.1.files (fls_row ho) (fun e => ?_) t, Or.inl (by simp)⟩
    rcases ho.2 with ⟨g1, g2⟩ | ⟨g, cap, cur, g1, _⟩
    · simp only [Value.slice.injEq] at g1; exact ⟨g2, g1.2.2⟩
    · simp only [Value.slice.injEq] at g1; rw [e] at g1; cases g1.1
  have hv1 : ∀ u p W, C [u] p W → ∃ ao cp, u = .slice ao d.m.length cp := fun u p W h => by
    rw [hC] at h
    obtain ⟨⟨_, _, _, _, _, h1, _⟩, _⟩ := h
    obtain ⟨ao, cp, e, _⟩ := h1 u rfl
    exact ⟨ao, cp, e⟩
  have HL1 : ∀ ao cp p W, C [.slice ao d.m.length cp] p W → Calls Tryz.prog 4 #[.int .i64 N, .slice ao d.m.length cp] W fun x w' => ∃ u, x = .returned u ∧ C [.slice ao d.m.length cp, u] p w' := fun ao cp p W h => by
    rw [hC] at h
    obtain ⟨ao', cp', e, hfl, hnl⟩ := h.1.2.choose_spec.choose_spec.2.2.1 _ rfl
    simp only [Value.slice.injEq, true_and] at e
    obtain ⟨rfl, rfl⟩ := e
    refine (loads_any N ao d.m.length cp (rnm d.m) (rbs d.m) W hfl hnl (by omega) hls).mono ?_
    rintro x w' ⟨dv, rv, rfl, ⟨e, hbo⟩, t⟩
    refine ⟨_, rfl, ?_⟩
    rw [hC]
    exact ⟨h.1.loads hbo t, Or.inl (by simp)⟩
  have hu1 : ∀ v u p W, C [v, u] p W → u = .tuple #[.agg #[.pointer none, .pointer none, .int .i64 N], .bool true] ∨ ∃ b rb2, u = .tuple #[.agg #[.pointer (some ⟨b, 0, none⟩), .pointer (some ⟨rb2, 0, none⟩), .int .i64 N], .bool true] := fun v u p W h => by
    rw [hC] at h
    obtain ⟨⟨_, _, _, _, _, _, h1⟩, _⟩ := h
    obtain ⟨dv, rv, e, hbb⟩ := h1 v u [] rfl
    rcases hbb with ⟨e1, e2⟩ | ⟨_, _, _, b, rb2, _, e1, e2, _⟩
    · left; rw [e, e1, e2]
    · right; exact ⟨b, rb2, by rw [e, e1, e2]⟩
  have HA1 : ∀ s W, C s none W → C s (some (.pointer (some ⟨W.heap.size, 0, none⟩))) (W.alloc (.cells #[.pointer none, .pointer none, .int .i64 0] 26)) := fun s W h => by
    rw [hC] at h ⊢
    exact ⟨h.1.box (h.2.elim id (fun e => absurd rfl e)), Or.inr (by simp)⟩
  have hp1 : ∀ s v W, C s (some v) W → ∃ mb, v = .pointer (some ⟨mb, 0, none⟩) := fun s v W h => by
    rw [hC] at h
    obtain ⟨⟨_, _, _, _, hpp, _⟩, _⟩ := h
    rcases hpp with ⟨e, _⟩ | ⟨mb, _, e, _⟩
    · cases e
    · exact ⟨mb, by simpa using e⟩
  have HS1 : ∀ v dv rv x mb W, C [v, .tuple #[.agg #[dv, rv, .int .i64 N], .bool true]] (some (.pointer (some ⟨mb, 0, none⟩))) W → C [v, .tuple #[.agg #[dv, rv, .int .i64 N], .bool true], x] (some (.pointer (some ⟨mb, 0, none⟩))) (((W.setCell ⟨mb, 0, none⟩ dv).setCell ⟨mb, 1, none⟩ rv).setCell ⟨mb, 2, none⟩ (.int .i64 N)) ∧ ((∃ y, W.cell? ⟨mb, 0, none⟩ = some y) ∧ (∃ y, W.cell? ⟨mb, 1, none⟩ = some y) ∧ ∃ y, W.cell? ⟨mb, 2, none⟩ = some y) ∧ ∀ j, W.frozen? ⟨mb, j, none⟩ = false := fun v dv rv x mb W h => by
    rw [hC] at h
    obtain ⟨h1, h2⟩ := h.1.store (x := x)
    refine ⟨?_, h2⟩
    rw [hC]
    exact ⟨h1, Or.inr (by simp)⟩
  have s0 : C [] none w0.drew := by rw [hC]; exact ⟨CF.start, Or.inl (by simp)⟩
  have HEND : Hid (∀ s p W, C s p W → CF w0 N d.m.length (rnm d.m) (rbs d.m) s p W) := fun s p W h => by rw [hC] at h; exact h.1
  have H0 : Hid _ := h0
  clear hC hb hp h0 hR0 hla hls hBd
  rw [hw0] at s0
  go_enter Tryz.func6, Tryz.ntmps6
  go_wp2_with fail
  refine wp_region_flo [4, 5, 10] 9 _ C (by kernel_rfl) (by kernel_rfl) (by kernel_rfl) rfl rfl (by rfl) (by kernel_rfl) (fun s a W hW b K Q hK => ?_) s0 ?_
  · go_simp
    exact hK _ _ (HA1 s W hW)
  clear s0
  iterate 4 (refine flo_read (by go_simp) (by rfl) (by rfl) ?_
             apply Exists.intro
             refine ⟨fun s' p' W hl hW b K Q hK => ?_, fun K hK => ?_⟩
             obtain ⟨q0, q1⟩ := hc _ _ W hW
             go_simp
             exact hK W hW
             go_simp
             refine hK _ ?_
             clear hK K)
  refine flo_turn (by go_simp) (by rfl) (fun p' hl W hW b K Q hK => ?_) (fun u hu K hK => ?_)
  · go_simp
    go_at_call 30
    refine (HF1 p' W hW).mono ?_
    rintro x w' ⟨u, rfl, h1⟩
    exact hK u w' h1
  obtain ⟨p', Wu, _, hWu⟩ := hu
  obtain ⟨ao, cp, rfl⟩ := hv1 u p' Wu hWu
  clear hWu
  go_simp
  refine hK _ ?_
  clear hK K
  refine flo_turn (by go_simp) (by rfl) (fun p' hl W hW b K Q hK => ?_) (fun u hu K hK => ?_)
  · go_simp
    go_at_call 4
    refine (HL1 ao cp p' W hW).mono ?_
    rintro x w' ⟨u, rfl, h1⟩
    exact hK u w' h1
  obtain ⟨p2, Wu2, _, hWu2⟩ := hu
  have hu2 := hu1 _ u p2 Wu2 hWu2
  clear hWu2 hu1
  obtain ⟨dv, rv, rfl, hdr⟩ : ∃ dv rv, u = .tuple #[.agg #[dv, rv, .int .i64 N], .bool true] ∧ ((dv = .pointer none ∧ rv = .pointer none) ∨ ∃ b rb2, dv = .pointer (some ⟨b, 0, none⟩) ∧ rv = .pointer (some ⟨rb2, 0, none⟩)) := by
    rcases hu2 with h | ⟨b, rb2, h⟩
    · exact ⟨_, _, h, Or.inl ⟨rfl, rfl⟩⟩
    · exact ⟨_, _, h, Or.inr ⟨b, rb2, rfl, rfl⟩⟩
  clear hu2
  have HDR : Hid _ := hdr
  clear hdr
  go_simp
  refine hK _ ?_
  clear hK K
  iterate 3 (refine flo_read (by go_simp) (by rfl) (by rfl) ?_
             apply Exists.intro
             refine ⟨fun s' p' W hl hW b K Q hK => ?_, fun K hK => ?_⟩
             go_simp
             exact hK W hW
             go_simp
             refine hK _ ?_
             clear hK K)
  refine flo_float (by go_simp) (by rfl) (by rfl) (fun W hW b K Q hK => ?_) (fun u hu K hK => ?_)
  · go_simp
    exact hK _ _ (HA1 _ W hW)
  obtain ⟨s', Wu, hWu⟩ := hu
  obtain ⟨mb, rfl⟩ := hp1 _ _ _ hWu
  clear hWu
  go_simp
  refine hK _ ?_
  clear hK K
  refine flo_turn (by go_simp) (by rfl) (fun p' hl W hW b K Q hK => ?_) (fun x hx K hK => ?_)
  · obtain rfl := hl.some
    obtain ⟨q1, ⟨⟨y0, q2⟩, ⟨y1, q3⟩, ⟨y2, q4⟩⟩, q5⟩ := HS1 _ _ _ undef mb W hW
    have q6 := q5 0
    have q7 := q5 1
    have q8 := q5 2
    clear q5
    rcases HDR with ⟨rfl, rfl⟩ | ⟨b1, rb1, rfl, rfl⟩
    · go_simp
      exact hK _ _ q1
    · go_simp
      exact hK _ _ q1
  clear hx
  go_simp
  refine hK _ ?_
  clear hK K
  refine flo_read (by go_simp) (by rfl) (by rfl) ?_
  apply Exists.intro
  refine ⟨fun s' p' W hl hW b K Q hK => ?_, fun K hK => ?_⟩
  · go_simp
    exact hK W hW
  go_simp
  refine hK _ ?_
  clear hK K
  refine flo_nil ?_
  intro w8 h8
  have h9 : CF w0 N d.m.length (rnm d.m) (rbs d.m) [.slice ao d.m.length cp, .tuple #[.agg #[dv, rv, .int .i64 N], .bool true], x] (some (.pointer (some ⟨mb, 0, none⟩))) w8 := HEND.out _ _ _ h8
  clear h8 HEND hc HF1 HL1 hv1 HA1 hp1 HS1
  obtain ⟨t0, B, mbs, hB, hpp, _, hu⟩ := h9
  rcases hpp with ⟨e, _⟩ | ⟨mb', e1, e2, hmb, bc, hbx, _, hbc⟩
  · cases e
  simp only [Option.some.injEq, Value.pointer.injEq, Addr.mk.injEq, and_true] at e2
  subst e2
  obtain rfl := hbc _ _ _ _ rfl
  obtain ⟨dv', rv', e3, hBB⟩ := hu _ _ _ rfl
  simp only [Value.tuple.injEq, Array.mk.injEq, List.cons.injEq, Value.agg.injEq, and_true] at e3
  obtain ⟨rfl, rfl⟩ := e3
  subst e1
  clear hu hbc C
  have r0 : w8.cell? ⟨mb, 0, none⟩ = some dv := by rw [blk_cell hbx]; rfl
  have r1 : w8.cell? ⟨mb, 1, none⟩ = some rv := by rw [blk_cell hbx]; rfl
  have r2 : w8.cell? ⟨mb, 2, none⟩ = some (.int .i64 N) := by rw [blk_cell hbx]; rfl
  clear hbx
  rcases HDR with ⟨rfl, rfl⟩ | ⟨b, rb2, rfl, rfl⟩
  · have h5 := H0.out.stay hk t0
    clear hBB t0 hB hmb
    obtain ⟨⟨q0, q1, q2⟩, ⟨⟨y0, g0⟩, ⟨y1, g1⟩, ⟨y2, g2⟩⟩, gf⟩ := h5.cells
    have gf0 := gf 0
    have gf1 := gf 1
    have gf2 := gf 2
    have HP : Hid _ := h5.put hk (.pointer (some ⟨db, 0, none⟩)) (.pointer (some ⟨rb, 0, none⟩)) (.int .i64 c)
    clear H0 h5 gf
    go_wp2
    refine bodyPost_ret (res_step HP.out.2 true _ rfl rfl) rfl ?_
    exact ⟨db, rb, c, rfl, hc1, HP.out.1.stepped ⟨by omega, id⟩⟩
  · obtain ⟨ω8, kc, hNk, hok, hPR, _, E8, hold⟩ := BB.pair (k := k) (ω := ext ω w.heap.size 0) hB hmb hBB t0
    have h5 := H0.out.fresh hk hPR t0 E8 hold
    have hN2 : 1 ≤ N ∧ N ≤ 1000000000 := by
      have g1 := hok.1
      have g2 := hok.2
      omega
    have hlen := length_mk3 (rnm d.m) (rbs d.m) d.m.length
    have HLN : Hid ((mkD kc (mk3 (rnm d.m) (rbs d.m) d.m.length d.m.length)).m.length ≤ d.m.length + 1) := by
      show (mk3 (rnm d.m) (rbs d.m) d.m.length d.m.length).length ≤ d.m.length + 1
      omega
    have HNK : Hid (Nok (mkD kc (mk3 (rnm d.m) (rbs d.m) d.m.length d.m.length))) := nok_mk3 hok.ok
    clear hBB t0 hB hmb hPR E8 hold hNk hok hlen
    obtain ⟨⟨y0, g0⟩, ⟨y1, g1⟩, ⟨y2, g2⟩⟩ : (∃ y, w8.cell? ⟨w.heap.size + 2, 0, none⟩ = some y) ∧ (∃ y, w8.cell? ⟨w.heap.size + 2, 1, none⟩ = some y) ∧ ∃ y, w8.cell? ⟨w.heap.size + 2, 2, none⟩ = some y := by
      obtain ⟨rc, hr, hz⟩ := h5.b2
      exact ⟨⟨rc[0], by rw [blk_cell hr]; exact Array.getElem?_eq_getElem _⟩, ⟨rc[1], by rw [blk_cell hr]; exact Array.getElem?_eq_getElem _⟩, ⟨rc[2], by rw [blk_cell hr]; exact Array.getElem?_eq_getElem _⟩⟩
    have gf : ∀ j, w8.frozen? ⟨w.heap.size + 2, j, none⟩ = false := by
      obtain ⟨rc, hr, hz⟩ := h5.b2
      exact fun j => blk_frozen hr j
    have gf0 := gf 0
    have gf1 := gf 1
    have gf2 := gf 2
    have HP : Hid _ := h5.put hk (.pointer (some ⟨b, 0, none⟩)) (.pointer (some ⟨rb2, 0, none⟩)) (.int .i64 N)
    clear H0 h5 gf
    go_wp2
    refine bodyPost_ret (res_step HP.out.2 true _ rfl rfl) rfl ?_
    exact ⟨b, rb2, N, rfl, hN2, HP.out.1.stepped ⟨HLN.out, fun _ => HNK.out⟩⟩
end
end Go.Proofs.YtjambfbibeihiaaGreat
