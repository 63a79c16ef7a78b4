import Derived.Test.YteaagnlhkopgdaaGreatDoorLL1
import Derived.Test.YteaagnlhkopgdaaGreatDoorCRow
set_option maxHeartbeats 1000000
set_option maxRecDepth 100000
namespace Go.Proofs.YteaagnlhkopgdaaGreatDoor.C
open Go.RowKit Go
def MVb (W : World) (v : Value) (cs : List Value) (P : Nat → Nat → Prop) : Prop := ∃ ao m c, v = .slice ao m c ∧ m ≤ 1099511627776 ∧ (0 < m → ∃ g, ao = some ⟨g, 0, none⟩ ∧ g < W.heap.size ∧ P g m ∧ At W g 0 (rep m cs))
theorem MVb.up {W W' : World} {v : Value} {cs : List Value} {P P' : Nat → Nat → Prop} (h : MVb W v cs P) (hsz : W.heap.size ≤ W'.heap.size) (hP : ∀ g m, g < W.heap.size → P g m → P' g m ∧ ∀ j, j < m * cs.length → W'.cell? ⟨g, j, none⟩ = W.cell? ⟨g, j, none⟩) : MVb W' v cs P' := by
  obtain ⟨ao, m, c, hv, hm, h⟩ := h
  refine ⟨ao, m, c, hv, hm, fun h0 => ?_⟩
  obtain ⟨g, ha, hg, hp, hc⟩ := h h0
  obtain ⟨h1, h2⟩ := hP g m hg hp
  refine ⟨g, ha, by omega, h1, fun j u hu => ?_⟩
  have hj : j < m * cs.length := by rw [← rep_len]; exact (List.getElem?_eq_some_iff.1 hu).1
  rw [Nat.zero_add, h2 j hj]
  simpa using hc j u hu
theorem MVb.of {W : World} {base n : Nat} {e : TypeId} {v : Value} {cs : List Value} {P : Nat → Nat → Prop} (h : W.ownsRow base e cs.length v n (rep n cs)) (hn : n ≤ 1099511627776) (hP : ∀ g, v.ownBlock = some g → P g n) : MVb W v cs P := by
  obtain ⟨ao, c, rfl⟩ := row_slice h
  refine ⟨ao, n, c, rfl, hn, fun h0 => ?_⟩
  obtain ⟨g, rfl, hg, ha⟩ := own_at h h0
  exact ⟨g, rfl, hg, hP g rfl, ha⟩
structure LSb (le : TypeId) (W : World) (F : Nat → Prop) (b : Nat) (mk : Nat → List Value) (A : List Value) (rv : Value) : Prop where
  all : W.ownsRow 0 le 1 rv A.length A
  ag : ∀ g, rv.ownBlock = some g → g ≠ b ∧ ¬ F g
  mv : ∀ j (hj : j < A.length), MVb W A[j] (mk j) (fun g _ => g ≠ b ∧ ¬ F g ∧ rv.ownBlock ≠ some g)
structure LGb (le e : TypeId) (W : World) (F : Nat → Prop) (b : Nat) (mk : Nat → List Value) (A : List Value) (rv x : Value) (cs : List Value) (nx : Nat) : Prop where
  all : W.ownsRow 0 le 1 rv A.length A
  xr : W.ownsRow 0 e cs.length x nx (rep nx cs)
  ag : ∀ g, rv.ownBlock = some g → g ≠ b ∧ ¬ F g
  xg : ∀ g, x.ownBlock = some g → rv.ownBlock ≠ some g ∧ g ≠ b ∧ ¬ F g
  mv : ∀ j (hj : j < A.length), MVb W A[j] (mk j) (fun g m => g ≠ b ∧ ¬ F g ∧ rv.ownBlock ≠ some g ∧ (x.ownBlock = some g → m ≤ nx))
theorem LSb.tch {S : Nat → Prop} {le : TypeId} {W W' : World} {F : Nat → Prop} {b : Nat} {mk : Nat → List Value} {A : List Value} {rv : Value} (h : LSb le W F b mk A rv) (t : Tch S W W') (hS : ∀ i, S i → i = b ∨ F i) : LSb le W' F b mk A rv := by
  refine ⟨own_tch h.all t (fun g e hs => ?_), h.ag, fun j hj => (h.mv j hj).up t.size (fun g m hg hP => ⟨hP, fun k _ => t.cell (p := ⟨g, k, none⟩) hg (fun hs => (hS g hs).elim hP.1 hP.2.1)⟩)⟩
  exact (hS g hs).elim (h.ag g e).1 (h.ag g e).2
theorem LSb.fresh {le : TypeId} {W : World} {F F' : Nat → Prop} {b : Nat} {mk : Nat → List Value} {A : List Value} {rv : Value} (h : LSb le W F b mk A rv) (hF : ∀ i, i < W.heap.size → F' i → F i) : LSb le W F' b mk A rv := by
  refine ⟨h.all, fun g e => ⟨(h.ag g e).1, fun hf => (h.ag g e).2 (hF g (h.all.lt g e).2 hf)⟩, fun j hj => (h.mv j hj).up (Nat.le_refl _) (fun g m hg hP => ⟨⟨hP.1, fun hf => hP.2.1 (hF g hg hf), hP.2.2⟩, fun _ _ => rfl⟩)⟩
theorem LSb.enter {le e : TypeId} {W : World} {F : Nat → Prop} {b n : Nat} {mk : Nat → List Value} {A : List Value} {rv x : Value} {cs : List Value} (h : LSb le W (fun i => F i ∨ x.ownBlock = some i) b mk A rv) (hx : W.ownsRow 0 e cs.length x n (rep n cs)) (hg : ∀ g, x.ownBlock = some g → g ≠ b ∧ ¬ F g) : LGb le e W F b mk A rv x cs n :=
  ⟨h.all, hx, fun g e => ⟨(h.ag g e).1, fun hf => (h.ag g e).2 (Or.inl hf)⟩, fun g e => ⟨fun e2 => (h.ag g e2).2 (Or.inr e), hg g e⟩, fun j hj => (h.mv j hj).up (Nat.le_refl _) (fun _ _ _ hP => ⟨⟨hP.1, fun hf => hP.2.1 (Or.inl hf), hP.2.2, fun e => absurd (Or.inr e) hP.2.1⟩, fun _ _ => rfl⟩)⟩
theorem LGb.leave {le e : TypeId} {W : World} {F : Nat → Prop} {b n : Nat} {mk : Nat → List Value} {A : List Value} {rv x : Value} {cs : List Value} (h : LGb le e W F b mk A rv x cs n) : LSb le W F b mk A rv :=
  ⟨h.all, h.ag, fun j hj => (h.mv j hj).up (Nat.le_refl _) (fun _ _ _ hP => ⟨⟨hP.1, hP.2.1, hP.2.2.1⟩, fun _ _ => rfl⟩)⟩
theorem LGb.tch {S : Nat → Prop} {le e : TypeId} {W W' : World} {F : Nat → Prop} {b n : Nat} {mk : Nat → List Value} {A : List Value} {rv x : Value} {cs : List Value} (h : LGb le e W F b mk A rv x cs n) (t : Tch S W W') (hS : ∀ i, S i → i = b ∨ F i) : LGb le e W' F b mk A rv x cs n := by
  refine ⟨own_tch h.all t (fun g e hs => (hS g hs).elim (h.ag g e).1 (h.ag g e).2), own_tch h.xr t (fun g e hs => (hS g hs).elim (h.xg g e).2.1 (h.xg g e).2.2), h.ag, h.xg, fun j hj => (h.mv j hj).up t.size (fun g m hg hP => ⟨hP, fun k _ => t.cell (p := ⟨g, k, none⟩) hg (fun hs => (hS g hs).elim hP.1 hP.2.1)⟩)⟩
theorem LGb.one {le e : TypeId} {W W1 w1 : World} {F : Nat → Prop} {b nx : Nat} {mk : Nat → List Value} {A : List Value} {rv x rv' : Value} {cs : List Value} (h : LGb le e W F b mk A rv x cs nx) (t : Tch (fun _ => False) W W1) (hgr : W1.grownBy w1 rv.ownBlock) (hown : w1.ownsRow 0 le 1 rv' (A.length + 1) (A ++ [x])) (hat : rv'.ownBlock = rv.ownBlock ∨ rv'.ownBlock = some W1.heap.size) (hmk : mk A.length = cs) (hnx : nx ≤ 1099511627776) (hb : b < W.heap.size) (hF : ∀ i, F i → i < W.heap.size) :
    LGb le e w1 F b mk (A ++ [x]) rv' x cs nx := by
  have T := grown_at t hgr
  have hne : ∀ g, g < W.heap.size → rv.ownBlock ≠ some g → rv'.ownBlock ≠ some g := fun g hg h1 h2 => by
    rcases hat with e | e
    · exact h1 (e ▸ h2)
    · rw [e] at h2; injection h2 with h2; have := t.size; omega
  have hxlt : ∀ g, x.ownBlock = some g → g < W.heap.size := fun g e => (h.xr.lt g e).2
  have xr' := own_tch h.xr T (fun g e e2 => (h.xg g e).1 e2)
  refine ⟨by rw [List.length_append]; exact hown, xr', fun g e => ?_, fun g e => ⟨hne g (hxlt g e) (h.xg g e).1, (h.xg g e).2⟩, fun j hj => ?_⟩
  · rcases hat with e1 | e1
    · rw [e1] at e; exact h.ag g e
    · rw [e1] at e; injection e with e
      have := t.size
      exact ⟨by omega, fun hf => by have := hF g hf; omega⟩
  · rw [List.length_append, List.length_singleton] at hj
    rcases Nat.lt_or_ge j A.length with hjl | hjl
    · rw [List.getElem_append_left hjl]
      exact (h.mv j hjl).up T.size (fun g m hg hP => ⟨⟨hP.1, hP.2.1, hne g hg hP.2.2.1, hP.2.2.2⟩, fun k _ => T.cell (p := ⟨g, k, none⟩) hg hP.2.2.1⟩)
    · obtain rfl : j = A.length := by omega
      rw [List.getElem_append_right (Nat.le_refl _)]
      simp only [Nat.sub_self, List.getElem_cons_zero]
      rw [hmk]
      exact MVb.of xr' hnx (fun g e => ⟨(h.xg g e).2.1, (h.xg g e).2.2, hne g (hxlt g e) (h.xg g e).1, fun _ => Nat.le_refl _⟩)
theorem LGb.two {le e : TypeId} {W W1 w1 : World} {F : Nat → Prop} {b nx : Nat} {mk : Nat → List Value} {A : List Value} {rv x x' : Value} {cs : List Value} (h : LGb le e W F b mk A rv x cs nx) (t : Tch (fun _ => False) W W1) (hgr : W1.grownBy w1 x.ownBlock) (hown : w1.ownsRow 0 e cs.length x' (nx + 1) (rep (nx + 1) cs)) (hat : x'.ownBlock = x.ownBlock ∨ x'.ownBlock = some W1.heap.size)
    (hk : ∀ b j, b < W1.heap.size → (x.ownBlock = some b → j < nx * cs.length) → w1.cell? ⟨b, j, none⟩ = W1.cell? ⟨b, j, none⟩) (hb : b < W.heap.size) (hF : ∀ i, F i → i < W.heap.size) (hmk : ∀ j, (mk j).length = cs.length) : LGb le e w1 F b mk A rv x' cs (nx + 1) := by
  have T := grown_at t hgr
  have hne : ∀ g, g < W.heap.size → x.ownBlock ≠ some g → x'.ownBlock ≠ some g := fun g hg h1 h2 => by
    rcases hat with e | e
    · exact h1 (e ▸ h2)
    · rw [e] at h2; injection h2 with h2; have := t.size; omega
  refine ⟨own_tch h.all T (fun g e e2 => (h.xg g e2).1 e), hown, h.ag, fun g e => ?_, fun j hj => ?_⟩
  · rcases hat with e1 | e1
    · rw [e1] at e; exact h.xg g e
    · rw [e1] at e
      injection e with e
      have := t.size
      exact ⟨fun e2 => by have := (h.all.lt _ e2).2; omega, by omega, fun hf => by have := hF g hf; omega⟩
  · refine (h.mv j hj).up T.size (fun g m hg hP => ⟨⟨hP.1, hP.2.1, hP.2.2.1, fun e => ?_⟩, fun k hkm => ?_⟩)
    · by_cases hx : x.ownBlock = some g
      · have := hP.2.2.2 hx; omega
      · exact absurd e (hne g hg hx)
    · rw [hk g k (Nat.lt_of_lt_of_le hg t.size) (fun e => by
        have h1 := hP.2.2.2 e
        rw [hmk] at hkm
        exact Nat.lt_of_lt_of_le hkm (Nat.mul_le_mul_right _ h1))]
      exact t.cell (p := ⟨g, k, none⟩) hg (fun h => h)
theorem LSb.read {le : TypeId} {W : World} {F : Nat → Prop} {b : Nat} {mk : Nat → List Value} {A : List Value} {rv : Value} (h : LSb le W F b mk A rv) : ∃ ao c, rv = .slice ao A.length c ∧ ∀ j, j < A.length → ∃ G xo m xc, ao = some ⟨G, 0, none⟩ ∧ W.cell? ⟨G, j, none⟩ = some (.slice xo m xc) ∧ m ≤ 1099511627776 ∧ ∀ q, q < m → ∃ g, xo = some ⟨g, 0, none⟩ ∧ ∀ i u, (mk j)[i]? = some u → W.cell? ⟨g, q * (mk j).length + i, none⟩ = some u := by
  obtain ⟨ao, c, hv⟩ := row_slice h.all
  refine ⟨ao, c, hv, fun j hj => ?_⟩
  have hall := h.all
  rw [hv] at hall
  obtain ⟨G, rfl, _, hG⟩ := own_at hall (by omega)
  obtain ⟨xo, m, xc, hx, hm, hg⟩ := h.mv j hj
  refine ⟨G, xo, m, xc, rfl, ?_, hm, fun q hq => ?_⟩
  · have := hG j _ (List.getElem?_eq_getElem hj)
    rw [Nat.zero_add, hx] at this
    exact this
  · obtain ⟨g, e, _, _, ha⟩ := hg (by omega)
    refine ⟨g, e, fun i u hu => ?_⟩
    have hi : i < (mk j).length := (List.getElem?_eq_some_iff.1 hu).1
    have := ha (q * (mk j).length + i) u (by rw [rep_get (mk j) m q i hq hi]; exact hu)
    rwa [Nat.zero_add] at this
end Go.Proofs.YteaagnlhkopgdaaGreatDoor.C
namespace Go.Proofs.YteaagnlhkopgdaaGreatDoor.C
open Go.RowKit Go
theorem lrow_any (b : Nat) (cur : Array Value) (A : List Value) (rv v : Value) (n : Nat) (xs : List Value) (F : Nat → Prop) (w : World)
    (hb : w.heap[b]? = some (.cells cur 44 (0, 0))) (hs : cur.size = 6) (hc2 : cur[1]? = some rv)
    (hL : LSb 26 w (fun i => F i ∨ v.ownBlock = some i) b mkR A rv) (hv : w.ownsRow 0 52 3 v n xs) (hn : n ≤ 1000000000000) (hg : ∀ g, v.ownBlock = some g → g ≠ b ∧ ¬ F g)
    (hF : ∀ i, F i → i < w.heap.size) (hA : A.length ≤ 100000000) (h14 : A.length % 14 = 0) :
    Calls Tryz.prog 46 #[.pointer (some ⟨b, 0, none⟩), v] w fun x w' => x = .returned (.tuple #[]) ∧ (∃ rv' A', A'.length = A.length + 14 ∧ w'.heap[b]? = some (.cells (cur.setIfInBounds 1 rv') 44 (0, 0)) ∧ LSb 26 w' F b mkR A' rv') ∧ Tch (fun i => i = b ∨ rv.ownBlock = some i ∨ v.ownBlock = some i) w w' := by
  obtain ⟨i0, hi0, hz0, hz1, hz2⟩ := info_parts info_val
  obtain ⟨i1, hi1, hy0, hy1, hy2⟩ := info_parts info_row
  obtain ⟨vo, vc, rfl⟩ := row_slice hv
  obtain ⟨ro, rc, hrv⟩ := row_slice hL.all
  obtain ⟨M, hM⟩ : ∃ M : Int, M = -5 - (A.length : Int) := ⟨_, rfl⟩
  obtain ⟨N, hN⟩ : ∃ N, N = w.heap.size := ⟨_, rfl⟩
  obtain ⟨w0, hw0⟩ : ∃ w0, w0 = w.alloc (.cells #[.int .i64 M, .int .i64 0, .string ⟨#[]⟩] 52) := ⟨_, rfl⟩
  obtain ⟨cs, hcs⟩ : ∃ cs : List Value, cs = [.int .i64 M, .int .i64 0, .string ⟨#[]⟩] := ⟨_, rfl⟩
  have t0 : Tch (fun _ => False) w w0 := by rw [hw0]; exact Tch.alloc _ _ _
  have hbN : b < N := by rw [hN]; exact blk_lt hb
  have hN0 : w0.heap.size = N + 1 := by rw [hw0, hN, World.size_alloc]
  have hmk : ∀ j, A.length ≤ j → j < A.length + 14 → mkR j = cs := fun j h1 h2 => by
    rw [hcs, hM]; unfold mkR; rw [show j / 14 * 14 = A.length by omega]
  have HL0 : Hid (LSb 26 w (fun i => (F i ∨ i = N) ∨ (Value.slice vo n vc).ownBlock = some i) b mkR A rv) := hL.fresh (fun i hi h => by
    rcases h with (h | h) | h
    · exact Or.inl h
    · omega
    · exact Or.inr h)
  have HB0 : Hid (w0.cell? ⟨N, 0, none⟩ = some (.int .i64 M) ∧ w0.cell? ⟨N, 1, none⟩ = some (.int .i64 0) ∧ w0.cell? ⟨N, 2, none⟩ = some (.string ⟨#[]⟩)) := by
    have q := box_cells w (.int .i64 M) (.int .i64 0) (.string ⟨#[]⟩) 52
    rw [← hw0, ← hN] at q
    exact q
  have HVb : Hid (∀ g, (Value.slice vo n vc).ownBlock = some g → g ≠ b ∧ ¬ F g ∧ g < N) := fun g e => ⟨(hg g e).1, (hg g e).2, by rw [hN]; exact (hv.lt g e).2⟩
  have HV0 : Hid (MC 52 w0 (.slice vo n vc) n cs 0) := (MC.of hv).tch t0 (fun _ _ h => h)
  have Hb0 : Hid (w0.heap[b]? = some (.cells cur 44 (0, 0))) := by show _ = _; rw [t0.block b (blk_lt hb) (fun h => h)]; exact hb
  have cb2 : w.cell? ⟨b, 1, none⟩ = some (.slice ro A.length rc) := by rw [blk_cell hb, hc2, hrv]
  have Hmk : Hid _ := hmk
  have Hcs : Hid _ := hcs
  have HM : Hid _ := hM
  have Hw0 : Hid _ := hw0
  have HN : Hid (N = w.heap.size) := hN
  have HrvE : Hid _ := hrv
  have Ht0 : Hid _ := t0
  have HFw : Hid _ := hF
  have hAI : (A.length : Int) ≤ 100000000 := by omega
  have hMw : IntKind.i64.wrap (-5 - (A.length : Int)) = M := by rw [hM]; exact wrap_of (by omega) (by omega)
  have HN0 : Hid (w0.heap.size = N + 1) := hN0
  clear hb hv hL hcs hw0 hN hrv t0 hmk hF hg hM hN0 hA h14
  go_enter Tryz.func46, Tryz.ntmps46
  go_wp2_with fail
  rw [← HN.out]
  have hw0 := Hw0.out
  rw [← hw0]
  clear hw0 cb2 hMw
  go_loopw [5] (fun i wr => ∃ q : Nat, i = .int .i64 q ∧ q ≤ n ∧ Hid (MC 52 wr (.slice vo n vc) n cs q) ∧ Hid (Tch (fun i => (Value.slice vo n vc).ownBlock = some i) w0 wr)) (fun i _ => n - (intOf i).toNat)
  case atStart => exact ⟨0, rfl, by omega, HV0, Tch.refl _ _⟩
  case round =>
    obtain ⟨q, rfl, hq, HC, HT⟩ := hrel
    by_cases hqn : (q : Int) < n
    · rcases HC.out with ⟨_, h0⟩ | ⟨g, c, cu, hvv, hh, hnc, hcm, hsz, htk⟩
      · omega
      · injection hvv with e1 e2 e3
        subst e1 e3
        have hqc : q < vc := by omega
        obtain ⟨⟨y0, e0⟩, ⟨y1, e1⟩, ⟨y2, e2⟩, hf⟩ := set3_cells hh hsz hqc (.int .i64 M) (.int .i64 0)
        have f0 := hf (q * 3); have f1 := hf (q * 3 + 1); have f2 := hf (q * 3 + 2)
        have hNg : ¬ (Value.slice (some ⟨g, 0, none⟩) n vc).ownBlock = some N := fun e => by have := (HVb.out N e).2.2; omega
        have b0 : wr.cell? ⟨N, 0, none⟩ = some (.int .i64 M) := by rw [HT.out.cell (p := ⟨N, 0, none⟩) (by have := HN0.out; show N < _; omega) hNg]; exact HB0.out.1
        have b1 : wr.cell? ⟨N, 1, none⟩ = some (.int .i64 0) := by rw [HT.out.cell (p := ⟨N, 1, none⟩) (by have := HN0.out; show N < _; omega) hNg]; exact HB0.out.2.1
        have b2 : wr.cell? ⟨N, 2, none⟩ = some (.string ⟨#[]⟩) := by rw [HT.out.cell (p := ⟨N, 2, none⟩) (by have := HN0.out; show N < _; omega) hNg]; exact HB0.out.2.2
        have HC2 : Hid (MC 52 (((wr.setCell ⟨g, q * 3, none⟩ (.int .i64 M)).setCell ⟨g, q * 3 + 1, none⟩ (.int .i64 0)).setCell ⟨g, q * 3 + 2, none⟩ (.string ⟨#[]⟩)) (.slice (some ⟨g, 0, none⟩) n vc) n cs (q + 1)) := by
          refine Or.inr ⟨g, vc, _, rfl, blk_set (blk_set (blk_set hh _) _) _, hnc, hcm, by simp [hsz], ?_⟩
          have h1 := Hcs.out
          rw [h1] at htk ⊢
          exact mark_step cu q vc _ _ _ hsz hqc htk
        have HT2 : Hid (Tch (fun i => (Value.slice (some ⟨g, 0, none⟩) n vc).ownBlock = some i) w0 (((wr.setCell ⟨g, q * 3, none⟩ (.int .i64 M)).setCell ⟨g, q * 3 + 1, none⟩ (.int .i64 0)).setCell ⟨g, q * 3 + 2, none⟩ (.string ⟨#[]⟩))) := ((Tch.setCellR HT.out ⟨g, q * 3, none⟩ _ rfl).setCellR ⟨g, q * 3 + 1, none⟩ _ rfl).setCellR ⟨g, q * 3 + 2, none⟩ _ rfl
        clear hh hf hsz htk hNg HC HT
        go_wp2_with fail
        go_roundw
        case rel => exact ⟨q + 1, by go_num, by omega, HC2, HT2⟩
        case measure => simp [intOf]; omega
    · obtain rfl : q = n := by omega
      obtain ⟨wV, hwV⟩ : ∃ wV, wV = wr := ⟨_, rfl⟩
      subst hwV
      have HLG : Hid (LGb 26 52 wV (fun i => F i ∨ i = N) b mkR A rv (.slice vo q vc) cs q) := by
        have h1 : LSb 26 wV (fun i => (F i ∨ i = N) ∨ (Value.slice vo q vc).ownBlock = some i) b mkR A rv := (HL0.out.tch Ht0.out (fun _ h => h.elim)).tch HT.out (fun i h => Or.inr (Or.inr h))
        exact h1.enter (HC.out.own (by rw [Hcs.out]; rfl)) (fun g e => ⟨(HVb.out g e).1, fun h => h.elim (HVb.out g e).2.1 (fun h => by have := (HVb.out g e).2.2; omega)⟩)
      have HbV : Hid (wV.heap[b]? = some (.cells cur 44 (0, 0))) := by show _ = _; rw [HT.out.block b (blk_lt Hb0.out) (fun e => (HVb.out b e).1 rfl)]; exact Hb0.out
      have HTV : Hid (Tch (fun i => i = b ∨ rv.ownBlock = some i ∨ (Value.slice vo q vc).ownBlock = some i) w wV) := (Ht0.out.mono (fun _ _ h => h.elim)).trans' (HT.out.mono (fun i _ h => Or.inr (Or.inr h)))
      have HBV : Hid (wV.cell? ⟨N, 0, none⟩ = some (.int .i64 M) ∧ wV.cell? ⟨N, 1, none⟩ = some (.int .i64 0) ∧ wV.cell? ⟨N, 2, none⟩ = some (.string ⟨#[]⟩)) := by
        have hNg : ¬ (Value.slice vo q vc).ownBlock = some N := fun e => by have := (HVb.out N e).2.2; omega
        have hlt : N < w0.heap.size := by have := HN0.out; omega
        exact ⟨(HT.out.cell (p := ⟨N, 0, none⟩) hlt hNg).trans HB0.out.1, (HT.out.cell (p := ⟨N, 1, none⟩) hlt hNg).trans HB0.out.2.1, (HT.out.cell (p := ⟨N, 2, none⟩) hlt hNg).trans HB0.out.2.2⟩
      have HNV : Hid (N < wV.heap.size) := by have := HN0.out; have := HT.out.size; show N < _; omega
      have Hrv2 : Hid (cur.setIfInBounds 1 rv = cur) := by
        show _ = _
        apply Array.ext_getElem?
        intro i
        by_cases h : i = 1
        · subst h; rw [Array.getElem?_setIfInBounds_self_of_lt (by omega), hc2]
        · rw [Array.getElem?_setIfInBounds_ne (by omega)]
      clear HC HT HL0 HV0 HB0 Ht0 Hb0 hqn hq
      go_wp2_with fail
      go_loopw [1, 6] (fun x i wr => ∃ (k nx : Nat) (A' : List Value) (rv' : Value), i = .int .i64 k ∧ k ≤ 14 ∧ (A'.length ≤ 100000014 ∧ Hid (A'.length = A.length + k)) ∧ nx ≤ 1000000000000 + k ∧ Hid (LGb 26 52 wr (fun i => F i ∨ i = N) b mkR A' rv' x cs nx) ∧ Hid (wr.heap[b]? = some (.cells (cur.setIfInBounds 1 rv') 44 (0, 0))) ∧ Hid (wr.cell? ⟨N, 0, none⟩ = some (.int .i64 M) ∧ wr.cell? ⟨N, 1, none⟩ = some (.int .i64 0) ∧ wr.cell? ⟨N, 2, none⟩ = some (.string ⟨#[]⟩)) ∧ Hid (N < wr.heap.size) ∧ Hid ((∀ g, rv'.ownBlock = some g → rv.ownBlock = some g ∨ N < g) ∧ ∀ g, x.ownBlock = some g → (Value.slice vo q vc).ownBlock = some g ∨ N < g) ∧ Hid (Tch (fun i => i = b ∨ rv.ownBlock = some i ∨ (Value.slice vo q vc).ownBlock = some i) w wr)) (fun _ i _ => 14 - (intOf i).toNat)
      case atStart => exact ⟨0, q, A, rv, rfl, by omega, ⟨by omega, rfl⟩, by omega, HLG, by show _ = _; rw [Hrv2.out]; exact HbV.out, HBV, HNV, ⟨fun g e => Or.inl e, fun g e => Or.inl e⟩, HTV⟩
      case round =>
        clear HLG HbV HBV HNV HTV Hrv2
        obtain ⟨k, nx, A', rv', rfl, hk, ⟨hA', HA'⟩, hnx, HG, Hb, HBx, HNs, HO, HT⟩ := hrel
        by_cases hk14 : (k : Int) < 14
        · obtain ⟨ro', rc', hrv'⟩ := row_slice HG.out.all
          subst hrv'
          obtain ⟨xo, xc, hxv⟩ := row_slice HG.out.xr
          subst hxv
          have cb2 : wr.cell? ⟨b, 1, none⟩ = some (.slice ro' A'.length rc') := by rw [blk_cell Hb.out, Array.getElem?_setIfInBounds_self_of_lt (by omega)]
          have fb2 := blk_frozen Hb.out 1
          have HF2 : Hid (∀ i, (F i ∨ i = N) → i < wr.heap.size) := fun i h => by
            rcases h with h | h
            · have := HFw.out i h; have := HN.out; have := HNs.out; omega
            · have := HNs.out; omega
          have Hbl : Hid (b < wr.heap.size) := blk_lt Hb.out
          have Hcs3 : Hid (cs.length = 3) := by show _ = _; rw [Hcs.out]; rfl
          go_wp2_with (first
            | (at_builtin; refine wpList_append_keeps _ rfl _ _ 39 rfl 0 26 i1 (.slice none 0 0) 1 24 Tryz.underlying39 hi1 hy0 hy1 hy2 rfl (by decide) (.slice ro' A'.length rc') A'.length A' rfl (own_tch HG.out.all (Tch.alloc (fun _ => False) _ _) (fun _ _ h => h)) ⟨wr.heap.size, 0, none⟩ 1 1 [.slice xo nx xc] rfl rfl (World.news_of_block (alloc_new _ _)) (by simp [Value.oneCell']) (by unfold maxLen; omega) (by omega) (Nat.zero_le _) ?_
               intro v1 w1 hown1 hgr1 hat1 _
               have HG1 : Hid _ := HG.out.one (Tch.alloc _ _ _) hgr1 hown1 hat1 (Hmk.out _ (by have := HA'.out; omega) (by have := HA'.out; omega)) (by omega) Hbl.out HF2.out
               have T1 := grown_at (Tch.alloc (fun _ => False) wr _) hgr1
               have Hb1 : Hid (w1.heap[b]? = some (.cells (cur.setIfInBounds 1 (.slice ro' A'.length rc')) 44 (0, 0))) := (T1.block b Hbl.out (fun e => (HG.out.ag b e).1 rfl)).trans Hb.out
               have hNn : ¬ (Value.slice ro' A'.length rc').ownBlock = some N := fun e => (HG.out.ag N e).2 (Or.inr rfl)
               have HBx1 : Hid (w1.cell? ⟨N, 0, none⟩ = some (.int .i64 M) ∧ w1.cell? ⟨N, 1, none⟩ = some (.int .i64 0) ∧ w1.cell? ⟨N, 2, none⟩ = some (.string ⟨#[]⟩)) := ⟨(T1.cell (p := ⟨N, 0, none⟩) HNs.out hNn).trans HBx.out.1, (T1.cell (p := ⟨N, 1, none⟩) HNs.out hNn).trans HBx.out.2.1, (T1.cell (p := ⟨N, 2, none⟩) HNs.out hNn).trans HBx.out.2.2⟩
               obtain ⟨ro1, rc1, hv1⟩ := row_slice hown1
               subst hv1
               have HG2 : Hid (LGb 26 52 (w1.setCell ⟨b, 1, none⟩ (.slice ro1 (A'.length + 1) rc1)) (fun i => F i ∨ i = N) b mkR (A' ++ [.slice xo nx xc]) (.slice ro1 (A'.length + 1) rc1) (.slice xo nx xc) cs nx) := HG1.out.tch (Tch.setCell (fun i => i = b) w1 ⟨b, 1, none⟩ _ rfl) (fun i h => Or.inl h)
               have Hb2 : Hid ((w1.setCell ⟨b, 1, none⟩ (.slice ro1 (A'.length + 1) rc1)).heap[b]? = some (.cells (cur.setIfInBounds 1 (.slice ro1 (A'.length + 1) rc1)) 44 (0, 0))) := by
                 show _ = _
                 rw [blk_set Hb1.out, Array.setIfInBounds_setIfInBounds]
               have b0 : (w1.setCell ⟨b, 1, none⟩ (.slice ro1 (A'.length + 1) rc1)).cell? ⟨N, 0, none⟩ = some (.int .i64 M) := by rw [World.cell?_setCell_other (h := by intro e; injection e; omega)]; exact HBx1.out.1
               have b1 : (w1.setCell ⟨b, 1, none⟩ (.slice ro1 (A'.length + 1) rc1)).cell? ⟨N, 1, none⟩ = some (.int .i64 0) := by rw [World.cell?_setCell_other (h := by intro e; injection e; omega)]; exact HBx1.out.2.1
               have b2 : (w1.setCell ⟨b, 1, none⟩ (.slice ro1 (A'.length + 1) rc1)).cell? ⟨N, 2, none⟩ = some (.string ⟨#[]⟩) := by rw [World.cell?_setCell_other (h := by intro e; injection e; omega)]; exact HBx1.out.2.2
               have T2 : Tch (fun i => i = b ∨ (Value.slice ro' A'.length rc').ownBlock = some i) wr (w1.setCell ⟨b, 1, none⟩ (.slice ro1 (A'.length + 1) rc1)) := (T1.mono (fun _ _ h => Or.inr h)).setCellR ⟨b, 1, none⟩ _ (Or.inl rfl)
               have HO2 : Hid (∀ g, (Value.slice ro1 (A'.length + 1) rc1).ownBlock = some g → rv.ownBlock = some g ∨ N < g) := fun g e => by
                 rcases hat1 with e1 | e1
                 · exact HO.out.1 g (e1 ▸ e)
                 · rw [e1] at e; injection e with e; rw [World.size_alloc] at e; have := HNs.out; right; omega
               have HF3 : Hid (∀ i, (F i ∨ i = N) → i < (w1.setCell ⟨b, 1, none⟩ (.slice ro1 (A'.length + 1) rc1)).heap.size) := fun i h => Nat.lt_of_lt_of_le (HF2.out i h) T2.size
               have Hbl3 : Hid (b < (w1.setCell ⟨b, 1, none⟩ (.slice ro1 (A'.length + 1) rc1)).heap.size) := blk_lt Hb2.out
               have HNW : Hid (∀ j u, ([.int .i64 M, .int .i64 0, .string ⟨#[]⟩] : List Value)[j]? = some u → ((w1.setCell ⟨b, 1, none⟩ (.slice ro1 (A'.length + 1) rc1)).alloc (.cells #[.int .i64 M, .int .i64 0, .string ⟨#[]⟩] 52)).cell? ((⟨w1.heap.size, 0, none⟩ : Addr).add j) = some u) := fun j u hu => by
                 have h1 := World.news_of_block (alloc_new (w1.setCell ⟨b, 1, none⟩ (.slice ro1 (A'.length + 1) rc1)) (.cells #[.int .i64 M, .int .i64 0, .string ⟨#[]⟩] 52)) j u hu
                 rwa [World.size_setCell] at h1
               have cb3 : w1.cell? ⟨b, 1, none⟩ = some (.slice ro' A'.length rc') := by rw [blk_cell Hb1.out, Array.getElem?_setIfInBounds_self_of_lt (by omega)]
               have fb3 := blk_frozen Hb1.out 1
               clear cb2 fb2)
            | (at_builtin; refine wpList_append_keeps _ rfl _ _ 26 rfl 0 52 i0 (.agg #[.int .i64 0, .int .i64 0, .string ⟨#[]⟩]) 3 32 Tryz.underlying26 hi0 hz0 hz1 hz2 rfl (by decide) (.slice xo nx xc) nx (rep nx cs) rfl (own_tch (by have := HG2.out.xr; rw [Hcs3.out] at this; exact this) (Tch.alloc (fun _ => False) _ _) (fun _ _ h => h)) ⟨w1.heap.size, 0, none⟩ 1 1 [.int .i64 M, .int .i64 0, .string ⟨#[]⟩] rfl rfl HNW.out (by simp [Value.oneCell']) (by unfold maxLen; omega) (by omega) (Nat.zero_le _) ?_
               intro v2 w3 hown2 hgr2 hat2 hk2
               have hown3 : w3.ownsRow 0 52 cs.length v2 (nx + 1) (rep (nx + 1) cs) := by
                 rw [Hcs3.out, rep_succ, Hcs.out]; rw [Hcs.out] at hown2; exact hown2
               have HG3 : Hid _ := HG2.out.two (Tch.alloc _ _ _) hgr2 hown3 hat2 (by rw [Hcs3.out]; exact hk2) Hbl3.out HF3.out (fun j => by rw [Hcs3.out]; rfl)
               have T3 := grown_at (Tch.alloc (fun _ => False) _ _) hgr2
               have Hb3 : Hid (w3.heap[b]? = some (.cells (cur.setIfInBounds 1 (.slice ro1 (A'.length + 1) rc1)) 44 (0, 0))) := (T3.block b Hbl3.out (fun e => (HG2.out.xg b e).2.1 rfl)).trans Hb2.out
               have hNx : ¬ (Value.slice xo nx xc).ownBlock = some N := fun e => (HG2.out.xg N e).2.2 (Or.inr rfl)
               have hNlt : N < (w1.setCell ⟨b, 1, none⟩ (.slice ro1 (A'.length + 1) rc1)).heap.size := HF3.out N (Or.inr rfl)
               have HBx3 : Hid (w3.cell? ⟨N, 0, none⟩ = some (.int .i64 M) ∧ w3.cell? ⟨N, 1, none⟩ = some (.int .i64 0) ∧ w3.cell? ⟨N, 2, none⟩ = some (.string ⟨#[]⟩)) := ⟨(T3.cell (p := ⟨N, 0, none⟩) hNlt hNx).trans b0, (T3.cell (p := ⟨N, 1, none⟩) hNlt hNx).trans b1, (T3.cell (p := ⟨N, 2, none⟩) hNlt hNx).trans b2⟩
               have HN3 : Hid (N < w3.heap.size) := Nat.lt_of_lt_of_le hNlt T3.size
               have HO3 : Hid (∀ g, v2.ownBlock = some g → (Value.slice vo q vc).ownBlock = some g ∨ N < g) := fun g e => by
                 rcases hat2 with e1 | e1
                 · exact HO.out.2 g (e1 ▸ e)
                 · rw [e1] at e; injection e with e; rw [World.size_alloc] at e; right; omega
               have HT3 : Hid (Tch (fun i => i = b ∨ rv.ownBlock = some i ∨ (Value.slice vo q vc).ownBlock = some i) w w3) := (HT.out.trans T2 (fun i hi h => by
                 rcases h with h | h
                 · exact Or.inl h
                 · rcases HO.out.1 i h with h | h
                   · exact Or.inr (Or.inl h)
                   · have := HN.out; omega)).trans T3 (fun i hi h => by
                 rcases HO.out.2 i h with h | h
                 · exact Or.inr (Or.inr h)
                 · have := HN.out; omega)
               obtain ⟨xo2, xc2, hv2⟩ := row_slice hown2
               subst hv2
               clear b0 b1 b2 cb3 fb3))
          exact ⟨⟨k + 1, nx + 1, A' ++ [.slice xo nx xc], .slice ro1 (A'.length + 1) rc1, by go_num, by omega, ⟨by have := HA'.out; simp; omega, by show _ = _; rw [List.length_append, HA'.out]; rfl⟩, by omega, HG3, Hb3, HBx3, HN3, ⟨HO2.out, HO3.out⟩, HT3⟩, by simp [intOf]; omega⟩
        · go_wp2_with fail
          go_end0
          exact ⟨rfl, ⟨rv', A', by have := HA'.out; omega, Hb.out, HG.out.leave.fresh (fun i _ h => Or.inl h)⟩, HT.out⟩
end Go.Proofs.YteaagnlhkopgdaaGreatDoor.C
