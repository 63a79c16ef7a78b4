import Derived.Test.YtolamjipigfocaaCPutP
import Derived.Test.YtolamjipigfocaaCRef12
/- The document's catalog with a table more, with one in another's place. -/
namespace Go.Proofs.Ytolamjipigfocaa
open Go.RowKit Go

theorem BL_snoc {z v : Value} {P : List (Tbl × Value)} {t : Tbl} {g : Nat} (h : BL z (P ++ [(t, v)]) g) : z.ownBlock = some g ∨ (∃ i, ∃ (hi : i < P.length), P[i].2.ownBlock = some g) ∨ v.ownBlock = some g := by
  rcases h with e | ⟨i, hi, e⟩
  · exact Or.inl e
  · rw [List.length_append, List.length_singleton] at hi
    rcases Nat.lt_or_ge i P.length with hl' | hl'
    · rw [List.getElem_append_left hl'] at e; exact Or.inr (Or.inl ⟨i, hl', e⟩)
    · obtain rfl : i = P.length := by omega
      simp only [List.getElem_append_right (Nat.le_refl _), Nat.sub_self, List.getElem_cons_zero] at e
      exact Or.inr (Or.inr e)
theorem RO.bl_lt {W : World} {base b : Nat} {L : List Tbl} {nx : Int} {P : List (Tbl × Value)} {tv : Value} (h : RO W base b L nx P tv) {g : Nat} (hg : BL tv P g) : g < W.heap.size ∧ g ≠ b := by
  rcases hg with e | ⟨i, hi, e⟩
  · exact ⟨(h.to.own.lt g e).2, fun e2 => h.nb.1 (by rw [← e2]; exact e)⟩
  · exact ⟨((h.to.col i hi).lt g e).2, fun e2 => h.nb.2 i hi (by rw [← e2]; exact e)⟩
theorem RO.app {w3 W W' : World} {d : Nat} {L : List Tbl} {nx nx' : Int} {P : List (Tbl × Value)} {to : Option Addr} {tc : Nat} {t : Tbl} {v z : Value} (h : RO w3 0 d L nx P (.slice to P.length tc)) (tW : Tch (fun i => (Value.slice to P.length tc).ownBlock = some i) w3 W) (hTO : TO W 0 z (P ++ [(t, v)])) (hat : z.ownBlock = (Value.slice to P.length tc).ownBlock ∨ ∃ g, z.ownBlock = some g ∧ w3.heap.size ≤ g) (hv : ∀ g, v.ownBlock = some g → w3.heap.size ≤ g) (hb : W'.heap[d]? = some (.cells #[z, .int .i64 nx'] 57 (0, 0))) (tE : Tch (fun i => i = d) W W') :
    RO W' 0 d (L ++ [t]) nx' (P ++ [(t, v)]) z ∧ (∀ g, BL z (P ++ [(t, v)]) g → BL (.slice to P.length tc) P g ∨ w3.heap.size ≤ g) ∧ Tch (fun i => i = d ∨ BL (.slice to P.length tc) P i) w3 W' := by
  have hsp : ∀ g, BL z (P ++ [(t, v)]) g → BL (.slice to P.length tc) P g ∨ w3.heap.size ≤ g := fun g hg => by
    rcases BL_snoc hg with e | e | e
    · rcases hat with e2 | ⟨g', e2, hg'⟩
      · exact Or.inl (Or.inl (by rw [← e2]; exact e))
      · rw [e2] at e; injection e with e; exact Or.inr (by omega)
    · exact Or.inl (Or.inr e)
    · exact Or.inr (hv g e)
  have hdl := blk_lt h.blk
  have hnb : ¬ BL z (P ++ [(t, v)]) d := fun hg => by
    rcases hsp d hg with h1 | h1
    · exact (h.bl_lt h1).2 rfl
    · omega
  refine ⟨⟨hb, Nat.zero_le _, by rw [List.map_append, h.eq]; rfl, hTO.tch2 tE (fun g e e2 => hnb (Or.inl (by rw [← e2]; exact e))) (fun i hi g e e2 => hnb (Or.inr ⟨i, hi, by rw [← e2]; exact e⟩)), fun e => hnb (Or.inl e), fun i hi e => hnb (Or.inr ⟨i, hi, e⟩)⟩, hsp, ?_⟩
  exact (tW.mono (fun _ _ h => Or.inr (Or.inl h))).trans' (tE.mono (fun _ _ h => Or.inl h))
theorem RO.tch {S : Nat → Prop} {W W' : World} {b : Nat} {L : List Tbl} {nx : Int} {P : List (Tbl × Value)} {tv : Value} (h : RO W 0 b L nx P tv) (t : Tch S W W') (hS : ∀ i, i < W.heap.size → (i = b ∨ BL tv P i) → ¬ S i) : RO W' 0 b L nx P tv :=
  ⟨by rw [t.block b (blk_lt h.blk) (hS b (blk_lt h.blk) (Or.inl rfl))]; exact h.blk, h.ge, h.eq, h.to.tch2 t (fun g e => hS g (h.to.own.lt g e).2 (Or.inr (Or.inl e))) (fun i hi g e => hS g ((h.to.col i hi).lt g e).2 (Or.inr (Or.inr ⟨i, hi, e⟩))), h.nb⟩
/-- What a Put of the document's gives. -/
def RPut (b : Nat) (E : Int) (L' : List Tbl) (n' : Int) (P : List (Tbl × Value)) (tv : Value) (w : World) (x : Ending) (w' : World) : Prop :=
  x = .returned (.int .i64 E) ∧ (E = 0 → ∃ P' tv', RO w' 0 b L' n' P' tv' ∧ (∀ g, BL tv' P' g → BL tv P g ∨ w.heap.size ≤ g) ∧ Tch (fun i => i = b ∨ BL tv P i) w w') ∧ (E ≠ 0 → Tch (fun _ => False) w w')
end Go.Proofs.Ytolamjipigfocaa
/- The document's Put: rput_no. -/
namespace Go.Proofs.Ytolamjipigfocaa
open Go.RowKit Go

set_option maxHeartbeats 4000000 in
set_option maxRecDepth 100000 in
theorem rput_no (b : Nat) (L : List Tbl) (gv : Int) (P : List (Tbl × Value)) (tv : Value) (t : Tbl) (ao : Option Addr) (c : Nat) (w : World) (h : RO w 0 b L (gv + 1) P tv) (ht : SL w ao (ccl t.cols)) (hno : ao = none → t.cols = [] ∧ c = 0) (hl : P.length ≤ 16) (h0 : 0 ≤ gv) (h1 : gv ≤ 2147483647) (hEE : putE L gv t ≠ 0) :
    Calls Try.prog 50 #[.pointer (some ⟨b, 0, none⟩), tA t.id t.ver t.nm (.slice ao t.cols.length c) t.key] w fun x w' => RPut b (putE L gv t) (putL L t) (putG L gv t + 1) P tv w x w' := by
  obtain ⟨i0, hi0, hz0, hz1, hz2⟩ := info_parts info_tbl
  obtain ⟨to, tc, htv⟩ := row_slice h.to.own
  subst htv
  obtain ⟨N, hN⟩ : ∃ N, N = w.heap.size := ⟨_, rfl⟩
  obtain ⟨w0, hw0⟩ : ∃ w0, w0 = w.alloc (.cells #[.int .i64 t.id, .int .i64 t.ver, .string t.nm, .slice ao t.cols.length c, .int .i64 t.key] 36) := ⟨_, rfl⟩
  have t0 : Tch (fun _ => False) w w0 := by rw [hw0]; exact Tch.alloc _ _ _
  have hX : w0.heap[N]? = some (.cells #[.int .i64 t.id, .int .i64 t.ver, .string t.nm, .slice ao t.cols.length c, .int .i64 t.key] 36 (0, 0)) := by rw [hw0, hN]; exact alloc_new _ _
  have hbN : b < N := by rw [hN]; exact blk_lt h.blk
  have H0 : Hid (RO w0 0 b L (gv + 1) P (.slice to P.length tc)) := h.tch t0 (fun _ _ _ h => h)
  have HQ : Hid (∀ W, Tch (fun _ => False) w0 W → W.heap[N]? = some (.cells #[.int .i64 t.id, .int .i64 t.ver, .string t.nm, .slice ao t.cols.length c, .int .i64 t.key] 36 (0, 0)) ∧ RO W 0 b L (gv + 1) P (.slice to P.length tc) ∧ SL W ao (ccl t.cols)) := fun W tW => ⟨by rw [tW.block N (blk_lt hX) (fun h => h)]; exact hX, H0.out.tch tW (fun _ _ _ h => h), (ht.no t0).no tW⟩
  have HC : Hid (∀ W, Tch (fun _ => False) w0 W → (W.cell? ⟨N, 0, none⟩ = some (.int .i64 t.id) ∧ W.cell? ⟨N, 1, none⟩ = some (.int .i64 t.ver) ∧ W.cell? ⟨N, 2, none⟩ = some (.string t.nm) ∧ W.cell? ⟨N, 3, none⟩ = some (.slice ao t.cols.length c) ∧ W.cell? ⟨N, 4, none⟩ = some (.int .i64 t.key)) ∧ W.cell? ⟨b, 0, none⟩ = some (.slice to P.length tc) ∧ W.cell? ⟨b, 1, none⟩ = some (.int .i64 (gv + 1))) := fun W tW => by
    obtain ⟨a1, a3, _⟩ := HQ.out W tW
    exact ⟨⟨by rw [blk_cell a1]; rfl, by rw [blk_cell a1]; rfl, by rw [blk_cell a1]; rfl, by rw [blk_cell a1]; rfl, by rw [blk_cell a1]; rfl⟩, by rw [blk_cell a3.blk]; rfl, by rw [blk_cell a3.blk]; rfl⟩
  have Hq1 : Hid (∀ W, Tch (fun _ => False) w0 W → Calls Try.prog 57 #[.pointer (some ⟨b, 0, none⟩), .int .i64 t.id] W fun x w' => x = .returned (.int .i64 (posP (fun u => decide (u.id = t.id)) P)) ∧ w' = W) := fun W tW => rat_any b to tc P _ t.id W (HC.out W tW).2.1 (HQ.out W tW).2.1.tl (by omega)
  have Hq2 : Hid (∀ W, Tch (fun _ => False) w0 W → Calls Try.prog 41 #[.pointer (some ⟨b, 0, none⟩), .string t.nm] W fun x w' => x = .returned (.int .i64 (posP (fun u => decide (u.nm = t.nm)) P)) ∧ w' = W) := fun W tW => rplace_any b to tc P _ t.nm W (HC.out W tW).2.1 (HQ.out W tW).2.1.tl (by omega)
  obtain ⟨r1, hr1⟩ : ∃ r1, r1 = posP (fun u => decide (u.id = t.id)) P := ⟨_, rfl⟩
  obtain ⟨r2, hr2⟩ : ∃ r2, r2 = posP (fun u => decide (u.nm = t.nm)) P := ⟨_, rfl⟩
  rw [← hr1] at Hq1
  rw [← hr2] at Hq2
  have hLl : L.length = P.length := by rw [← h.eq]; simp
  have HPE : Hid (putE L gv t = if rightE t ≠ 0 then rightE t else if r1 < 0 ∧ t.id ≠ gv + 1 then 52 else if 0 ≤ r2 ∧ r2 ≠ r1 then 51 else if r1 < 0 ∧ P.length = 16 then 53 else 0) := by
    show _ = _
    unfold putE
    rw [hr1, hr2, posP_L, posP_L, h.eq, hLl]
  have HPL : Hid (putL L t = if r1 < 0 then L ++ [t] else L.set r1.toNat t) := by
    show _ = _
    unfold putL
    rw [hr1, posP_L, h.eq]
  have HPG : Hid (putG L gv t = if r1 < 0 then gv + 1 else gv) := by
    show _ = _
    unfold putG
    rw [hr1, posP_L, h.eq]
  have q1 := rright_any t ao c w0 (ht.no t0)
  obtain ⟨E, hE⟩ : ∃ E, E = putE L gv t := ⟨_, rfl⟩
  have HE : Hid (E = putE L gv t) := hE
  have Hw0 : Hid _ := hw0
  have HN : Hid (N = w.heap.size) := hN
  have Ht0 : Hid (Tch (fun _ => False) w w0) := t0
  have H : Hid (RO w 0 b L (gv + 1) P (.slice to P.length tc)) := h
  have _u := hno
  have _u2 := h0
  have _u3 := h1
  have _u4 := hi0
  have _u5 := hz0
  have _u6 := hz1
  have _u7 := hz2
  clear _u _u2 _u3 _u4 _u5 _u6 _u7
  have HE0 : Hid (E ≠ 0) := by show _ ≠ _; rw [hE]; exact hEE
  have HErr : Hid (∀ W E', Tch (fun _ => False) w0 W → E = E' → RPut b (putE L gv t) (putL L t) (putG L gv t + 1) P (.slice to P.length tc) w (.returned (.int .i64 E')) W) := fun W E' tW e => by
    rw [← e, ← HE.out]
    exact ⟨rfl, fun e2 => absurd e2 HE0.out, fun _ => Ht0.out.trans' tW⟩
  obtain ⟨R, hR⟩ : ∃ R, R = rightE t := ⟨_, rfl⟩
  rw [← hR] at q1 HPE
  rw [← hE] at HPE
  clear hEE hR
  clear h hw0 hN hX ht t0 hr1 hr2 hE
  obtain ⟨⟨x0, x1, x2, x3, x4⟩, d0, d1⟩ := HC.out w0 (Tch.refl _ _)
  go_enter Try.func50, Try.ntmps50
  go_wp2_with fail
  rw [← HN.out]
  have hw0 := Hw0.out
  rw [← hw0]
  clear hw0
  refine q1.mono ?_
  rintro y w1 ⟨rfl, t1⟩
  clear q1 x0 x1 x2 x3 x4 d0 d1
  by_cases hR0 : R = 0
  · subst hR0
    have hPE := HPE.out
    rw [if_neg (by simp)] at hPE
    obtain ⟨⟨x0, x1, x2, x3, x4⟩, d0, d1⟩ := HC.out w1 t1
    have q2 := Hq1.out w1 t1
    have q3 := Hq2.out w1 t1
    go_wp2_with fail
    refine q2.mono ?_
    rintro y wy ⟨rfl, hwy⟩
    obtain rfl := hwy.symm
    clear hwy q2
    go_wp2_with fail
    refine q3.mono ?_
    rintro y wy ⟨rfl, hwy⟩
    obtain rfl := hwy.symm
    clear hwy q3
    by_cases h52 : r1 < 0
    · have h52' : ¬ (0 : Int) ≤ r1 := by omega
      by_cases hid : t.id = gv + 1
      · rw [if_neg (by omega)] at hPE
        have hb1 : (t.id != gv + 1) = false := by simpa using hid
        clear hid
        by_cases h51 : 0 ≤ r2
        · rw [if_pos ⟨h51, by omega⟩] at hPE
          have HE5 : Hid (E = 51) := hPE
          clear hPE HPE
          go_wp2_with fail
          go_quiet (fail)
          have HF : Hid _ := HErr.out (w1.drewN nq) 51 (t1.drewN _) HE5.out
          go_wp2_with fail
          go_ret
          exact HF.out
        · rw [if_neg (by omega)] at hPE
          have h16 : P.length = 16 := by
            refine Classical.byContradiction fun e => ?_
            rw [if_neg (by omega)] at hPE
            exact HE0.out hPE
          rw [if_pos ⟨h52, h16⟩] at hPE
          have HE5 : Hid (E = 53) := hPE
          have h16b : (16 : Int) ≤ P.length := by omega
          clear hPE HPE h16
          go_wp2_with fail
          go_quiet (fail)
          have HF : Hid _ := HErr.out (w1.drewN nq) 53 (t1.drewN _) HE5.out
          obtain ⟨_, d0, d1⟩ := HC.out (w1.drewN nq) (t1.drewN _)
          go_wp2_with fail
          go_ret
          exact HF.out
      · rw [if_pos ⟨h52, hid⟩] at hPE
        have hb1 : (t.id != gv + 1) = true := by simpa using hid
        have HE5 : Hid (E = 52) := hPE
        clear hPE HPE hid
        go_wp2_with fail
        go_quiet (fail)
        have HF : Hid _ := HErr.out (w1.drewN nq) 52 (t1.drewN _) HE5.out
        go_wp2_with fail
        go_ret
        exact HF.out
    · rw [if_neg (by omega)] at hPE
      have h51 : 0 ≤ r2 ∧ r2 ≠ r1 := by
        refine Classical.byContradiction fun e => ?_
        rw [if_neg e, if_neg (by omega)] at hPE
        exact HE0.out hPE
      rw [if_pos h51] at hPE
      have HE5 : Hid (E = 51) := hPE
      have hne : (r2 != r1) = true := by simpa using h51.2
      have h510 : 0 ≤ r2 := h51.1
      have h520 : 0 ≤ r1 := by omega
      have HF : Hid _ := HErr.out w1 51 t1 HE5.out
      clear hPE HPE h51 h52
      go_wp2_with fail
      go_ret
      exact HF.out
  · have hPE := HPE.out
    rw [if_pos hR0] at hPE
    have HF : Hid _ := HErr.out w1 R t1 hPE
    have hb4 : (R != 0) = true := by simpa using hR0
    clear hPE HPE hR0
    go_wp2_with fail
    go_ret
    exact HF.out
end Go.Proofs.Ytolamjipigfocaa
/- The document's Put: rput_new. -/
namespace Go.Proofs.Ytolamjipigfocaa
open Go.RowKit Go

set_option maxHeartbeats 4000000 in
set_option maxRecDepth 100000 in
theorem rput_new (b : Nat) (L : List Tbl) (gv : Int) (P : List (Tbl × Value)) (tv : Value) (t : Tbl) (ao : Option Addr) (c : Nat) (w : World) (h : RO w 0 b L (gv + 1) P tv) (ht : SL w ao (ccl t.cols)) (hno : ao = none → t.cols = [] ∧ c = 0) (hl : P.length ≤ 16) (h0 : 0 ≤ gv) (h1 : gv ≤ 2147483647) (hEE : putE L gv t = 0) (hnew : posP (fun u => decide (u.id = t.id)) P < 0) :
    Calls Try.prog 50 #[.pointer (some ⟨b, 0, none⟩), tA t.id t.ver t.nm (.slice ao t.cols.length c) t.key] w fun x w' => RPut b (putE L gv t) (putL L t) (putG L gv t + 1) P tv w x w' := by
  obtain ⟨i0, hi0, hz0, hz1, hz2⟩ := info_parts info_tbl
  obtain ⟨to, tc, htv⟩ := row_slice h.to.own
  subst htv
  obtain ⟨N, hN⟩ : ∃ N, N = w.heap.size := ⟨_, rfl⟩
  obtain ⟨w0, hw0⟩ : ∃ w0, w0 = w.alloc (.cells #[.int .i64 t.id, .int .i64 t.ver, .string t.nm, .slice ao t.cols.length c, .int .i64 t.key] 36) := ⟨_, rfl⟩
  have t0 : Tch (fun _ => False) w w0 := by rw [hw0]; exact Tch.alloc _ _ _
  have hX : w0.heap[N]? = some (.cells #[.int .i64 t.id, .int .i64 t.ver, .string t.nm, .slice ao t.cols.length c, .int .i64 t.key] 36 (0, 0)) := by rw [hw0, hN]; exact alloc_new _ _
  have hbN : b < N := by rw [hN]; exact blk_lt h.blk
  have H0 : Hid (RO w0 0 b L (gv + 1) P (.slice to P.length tc)) := h.tch t0 (fun _ _ _ h => h)
  have HQ : Hid (∀ W, Tch (fun _ => False) w0 W → W.heap[N]? = some (.cells #[.int .i64 t.id, .int .i64 t.ver, .string t.nm, .slice ao t.cols.length c, .int .i64 t.key] 36 (0, 0)) ∧ RO W 0 b L (gv + 1) P (.slice to P.length tc) ∧ SL W ao (ccl t.cols)) := fun W tW => ⟨by rw [tW.block N (blk_lt hX) (fun h => h)]; exact hX, H0.out.tch tW (fun _ _ _ h => h), (ht.no t0).no tW⟩
  have HC : Hid (∀ W, Tch (fun _ => False) w0 W → (W.cell? ⟨N, 0, none⟩ = some (.int .i64 t.id) ∧ W.cell? ⟨N, 1, none⟩ = some (.int .i64 t.ver) ∧ W.cell? ⟨N, 2, none⟩ = some (.string t.nm) ∧ W.cell? ⟨N, 3, none⟩ = some (.slice ao t.cols.length c) ∧ W.cell? ⟨N, 4, none⟩ = some (.int .i64 t.key)) ∧ W.cell? ⟨b, 0, none⟩ = some (.slice to P.length tc) ∧ W.cell? ⟨b, 1, none⟩ = some (.int .i64 (gv + 1))) := fun W tW => by
    obtain ⟨a1, a3, _⟩ := HQ.out W tW
    exact ⟨⟨by rw [blk_cell a1]; rfl, by rw [blk_cell a1]; rfl, by rw [blk_cell a1]; rfl, by rw [blk_cell a1]; rfl, by rw [blk_cell a1]; rfl⟩, by rw [blk_cell a3.blk]; rfl, by rw [blk_cell a3.blk]; rfl⟩
  have Hq1 : Hid (∀ W, Tch (fun _ => False) w0 W → Calls Try.prog 57 #[.pointer (some ⟨b, 0, none⟩), .int .i64 t.id] W fun x w' => x = .returned (.int .i64 (posP (fun u => decide (u.id = t.id)) P)) ∧ w' = W) := fun W tW => rat_any b to tc P _ t.id W (HC.out W tW).2.1 (HQ.out W tW).2.1.tl (by omega)
  have Hq2 : Hid (∀ W, Tch (fun _ => False) w0 W → Calls Try.prog 41 #[.pointer (some ⟨b, 0, none⟩), .string t.nm] W fun x w' => x = .returned (.int .i64 (posP (fun u => decide (u.nm = t.nm)) P)) ∧ w' = W) := fun W tW => rplace_any b to tc P _ t.nm W (HC.out W tW).2.1 (HQ.out W tW).2.1.tl (by omega)
  obtain ⟨r1, hr1⟩ : ∃ r1, r1 = posP (fun u => decide (u.id = t.id)) P := ⟨_, rfl⟩
  obtain ⟨r2, hr2⟩ : ∃ r2, r2 = posP (fun u => decide (u.nm = t.nm)) P := ⟨_, rfl⟩
  rw [← hr1] at Hq1
  rw [← hr2] at Hq2
  have hLl : L.length = P.length := by rw [← h.eq]; simp
  have HPE : Hid (putE L gv t = if rightE t ≠ 0 then rightE t else if r1 < 0 ∧ t.id ≠ gv + 1 then 52 else if 0 ≤ r2 ∧ r2 ≠ r1 then 51 else if r1 < 0 ∧ P.length = 16 then 53 else 0) := by
    show _ = _
    unfold putE
    rw [hr1, hr2, posP_L, posP_L, h.eq, hLl]
  have HPL : Hid (putL L t = if r1 < 0 then L ++ [t] else L.set r1.toNat t) := by
    show _ = _
    unfold putL
    rw [hr1, posP_L, h.eq]
  have HPG : Hid (putG L gv t = if r1 < 0 then gv + 1 else gv) := by
    show _ = _
    unfold putG
    rw [hr1, posP_L, h.eq]
  have q1 := rright_any t ao c w0 (ht.no t0)
  obtain ⟨E, hE⟩ : ∃ E, E = putE L gv t := ⟨_, rfl⟩
  have HE : Hid (E = putE L gv t) := hE
  have Hw0 : Hid _ := hw0
  have HN : Hid (N = w.heap.size) := hN
  have Ht0 : Hid (Tch (fun _ => False) w w0) := t0
  have H : Hid (RO w 0 b L (gv + 1) P (.slice to P.length tc)) := h
  have HE0 : Hid (putE L gv t = 0) := hEE
  have hPE := HPE.out
  rw [hEE] at hPE
  have hR0 : rightE t = 0 := by
    refine Classical.byContradiction fun e => ?_
    rw [if_pos e] at hPE
    exact e hPE.symm
  rw [if_neg (by simp [hR0])] at hPE
  have h52 : ¬ (r1 < 0 ∧ t.id ≠ gv + 1) := fun e => by rw [if_pos e] at hPE; simp at hPE
  rw [if_neg h52] at hPE
  have h51 : ¬ (0 ≤ r2 ∧ r2 ≠ r1) := fun e => by rw [if_pos e] at hPE; simp at hPE
  rw [if_neg h51] at hPE
  have h53 : ¬ (r1 < 0 ∧ P.length = 16) := fun e => by rw [if_pos e] at hPE; simp at hPE
  rw [hR0] at q1
  have h8 := (right_len hR0).2
  have Hcp : Hid (∀ W, Tch (fun _ => False) w0 W → Calls Try.prog 28 #[tA t.id t.ver t.nm (.slice ao t.cols.length c) t.key] W fun x w' => (∃ v, x = .returned (tA t.id t.ver t.nm v t.key) ∧ w'.ownsRow W.heap.size 43 3 v t.cols.length (ccl t.cols)) ∧ Tch (fun _ => False) W w') := fun W tW => rcopied_any t ao c W (HQ.out W tW).2.2 hno (by omega)
  clear hEE hPE HPE hR0
  rw [← hr1] at hnew
  have hid : t.id = gv + 1 := Classical.byContradiction fun e => h52 ⟨hnew, e⟩
  have hb1 : (t.id != gv + 1) = false := by simpa using hid
  have hr2n' : ¬ (0 : Int) ≤ r2 := fun e => h51 ⟨by omega, by omega⟩
  have hr1n' : ¬ (0 : Int) ≤ r1 := by omega
  have h16b : ¬ (16 : Int) ≤ P.length := fun e => h53 ⟨hnew, by omega⟩
  have HPL2 : Hid (putL L t = L ++ [t] ∧ putG L gv t = gv + 1) := ⟨by rw [HPL.out, if_pos hnew], by rw [HPG.out, if_pos hnew]⟩
  have h11 : gv + 1 + 1 ≤ 2147483649 := by omega
  clear h52 h51 h53 hid h8 HPL HPG
  clear h hw0 hN hX ht t0 hr1 hr2 hE
  obtain ⟨⟨x0, x1, x2, x3, x4⟩, d0, d1⟩ := HC.out w0 (Tch.refl _ _)
  go_enter Try.func50, Try.ntmps50
  go_wp2_with fail
  rw [← HN.out]
  have hw0 := Hw0.out
  rw [← hw0]
  clear hw0
  refine q1.mono ?_
  rintro y w1 ⟨rfl, t1⟩
  clear q1 x0 x1 x2 x3 x4 d0 d1
  obtain ⟨⟨x0, x1, x2, x3, x4⟩, d0, d1⟩ := HC.out w1 t1
  have q2 := Hq1.out w1 t1
  have q3 := Hq2.out w1 t1
  go_wp2_with fail
  refine q2.mono ?_
  rintro y wy ⟨rfl, hwy⟩
  obtain rfl := hwy.symm
  clear hwy q2
  go_wp2_with fail
  refine q3.mono ?_
  rintro y wy ⟨rfl, hwy⟩
  obtain rfl := hwy.symm
  clear hwy q3
  go_wp2_with fail
  go_quiet (fail)
  obtain ⟨w3, hw3⟩ : ∃ w3, w3 = w1.drewN nq := ⟨_, rfl⟩
  have V3 : Tch (fun _ => False) w0 w3 := by rw [hw3]; exact t1.drewN _
  rw [← hw3]
  clear x0 x1 x2 x3 x4 d0 d1 hw3 t1
  have HR3 : Hid (RO w3 0 b L (gv + 1) P (.slice to P.length tc)) := (HQ.out w3 V3).2.1
  have hX3 := (HQ.out w3 V3).1
  have Hcel3 : Hid (∀ W, Tch (fun i => (Value.slice to P.length tc).ownBlock = some i) w3 W → (W.cell? ⟨N, 0, none⟩ = some (.int .i64 t.id) ∧ W.cell? ⟨N, 1, none⟩ = some (.int .i64 t.ver) ∧ W.cell? ⟨N, 2, none⟩ = some (.string t.nm) ∧ W.cell? ⟨N, 3, none⟩ = some (.slice ao t.cols.length c) ∧ W.cell? ⟨N, 4, none⟩ = some (.int .i64 t.key)) ∧ W.cell? ⟨b, 0, none⟩ = some (.slice to P.length tc)) := fun W tW => by
    have a1 : W.heap[N]? = some (.cells #[.int .i64 t.id, .int .i64 t.ver, .string t.nm, .slice ao t.cols.length c, .int .i64 t.key] 36 (0, 0)) := by rw [tW.block N (blk_lt hX3) (fun e => by have := (H.out.to.own.lt N e).2; have := HN.out; omega)]; exact hX3
    have a2 : W.heap[b]? = some (.cells #[.slice to P.length tc, .int .i64 (gv + 1)] 57 (0, 0)) := by rw [tW.block b (blk_lt HR3.out.blk) HR3.out.nb.1]; exact HR3.out.blk
    exact ⟨⟨by rw [blk_cell a1]; rfl, by rw [blk_cell a1]; rfl, by rw [blk_cell a1]; rfl, by rw [blk_cell a1]; rfl, by rw [blk_cell a1]; rfl⟩, by rw [blk_cell a2]; rfl⟩
  have Hcp3 : Hid (∀ W, Tch (fun _ => False) w3 W → Calls Try.prog 28 #[tA t.id t.ver t.nm (.slice ao t.cols.length c) t.key] W fun x w' => (∃ v, x = .returned (tA t.id t.ver t.nm v t.key) ∧ w'.ownsRow W.heap.size 43 3 v t.cols.length (ccl t.cols)) ∧ Tch (fun _ => False) W w') := fun W tW => Hcp.out W (V3.trans' tW)
  have HV3 : Hid (Tch (fun _ => False) w0 w3) := V3
  obtain ⟨⟨x0, x1, x2, x3, x4⟩, d0, d1⟩ := HC.out w3 V3
  clear V3 hX3
  go_wp2_with fail
  clear x0 x1 x2 x3 x4 d0 d1
  obtain ⟨C, hC⟩ : ∃ C : List Value → World → Prop, C = fun s W => match s with
    | [] => Tch (fun _ => False) w3 W
    | [y] => Tch (fun _ => False) w3 W ∧ ∃ vo vc, y = tA t.id t.ver t.nm (.slice vo t.cols.length vc) t.key ∧ W.ownsRow w3.heap.size 43 3 (.slice vo t.cols.length vc) t.cols.length (ccl t.cols)
    | [y, y2] => Tch (fun _ => False) w3 W ∧ ∃ vo vc g, y = tA t.id t.ver t.nm (.slice vo t.cols.length vc) t.key ∧ y2 = .slice (some ⟨g, 0, none⟩) 1 1 ∧ W.ownsRow w3.heap.size 43 3 (.slice vo t.cols.length vc) t.cols.length (ccl t.cols) ∧ At W g 0 (tcs (t, .slice vo t.cols.length vc))
    | [y, _, z] => Tch (fun i => (Value.slice to P.length tc).ownBlock = some i) w3 W ∧ ∃ vo vc o5 c5, y = tA t.id t.ver t.nm (.slice vo t.cols.length vc) t.key ∧ z = .slice o5 (P.length + 1) c5 ∧ TO W 0 z (P ++ [(t, .slice vo t.cols.length vc)]) ∧ (z.ownBlock = (Value.slice to P.length tc).ownBlock ∨ ∃ g, z.ownBlock = some g ∧ w3.heap.size ≤ g) ∧ ∀ g, (Value.slice vo t.cols.length vc).ownBlock = some g → w3.heap.size ≤ g
    | _ => False := ⟨_, rfl⟩
  have hK : ∀ s W, C s W → (W.cell? ⟨N, 0, none⟩ = some (.int .i64 t.id) ∧ W.cell? ⟨N, 1, none⟩ = some (.int .i64 t.ver) ∧ W.cell? ⟨N, 2, none⟩ = some (.string t.nm) ∧ W.cell? ⟨N, 3, none⟩ = some (.slice ao t.cols.length c) ∧ W.cell? ⟨N, 4, none⟩ = some (.int .i64 t.key)) ∧ W.cell? ⟨b, 0, none⟩ = some (.slice to P.length tc) := fun s W h => by
    refine Hcel3.out W ?_
    rw [hC] at h
    match s, h with
    | [], h => exact Tch.mono h (fun _ _ h => h.elim)
    | [_], h => exact h.1.mono (fun _ _ h => h.elim)
    | [_, _], h => exact h.1.mono (fun _ _ h => h.elim)
    | [_, _, _], h => exact h.1
  have h6 : ∀ W, C [] W → Calls Try.prog 28 #[tA t.id t.ver t.nm (.slice ao t.cols.length c) t.key] W fun x w' => ∃ vo vc, x = .returned (tA t.id t.ver t.nm (.slice vo t.cols.length vc) t.key) ∧ C [tA t.id t.ver t.nm (.slice vo t.cols.length vc) t.key] w' := fun W h => by
    rw [hC] at h ⊢
    refine (Hcp3.out W h).mono ?_
    rintro x w' ⟨⟨v, rfl, hv⟩, t'⟩
    obtain ⟨vo, vc, rfl⟩ := row_slice hv
    exact ⟨vo, vc, rfl, Tch.trans' h t', vo, vc, rfl, own_low hv (Tch.size h)⟩
  have h7 : ∀ vo vc W, C [tA t.id t.ver t.nm (.slice vo t.cols.length vc) t.key] W → C [tA t.id t.ver t.nm (.slice vo t.cols.length vc) t.key, .slice (some ⟨W.heap.size, 0, none⟩) 1 1] (W.alloc (.cells #[.int .i64 t.id, .int .i64 t.ver, .string t.nm, .slice vo t.cols.length vc, .int .i64 t.key] 36)) := fun vo vc W h => by
    rw [hC] at h ⊢
    obtain ⟨tW, vo', vc', e, hv⟩ := h
    have e' : vo = vo' ∧ vc = vc' := by simpa using e
    obtain ⟨rfl, rfl⟩ := e'
    exact ⟨tW.allocR _, vo, vc, W.heap.size, rfl, rfl, own_tch hv (Tch.alloc (fun _ => False) _ _) (fun _ _ h => h), blk_at (alloc_new W (.cells (tcs (t, .slice vo t.cols.length vc)).toArray 36))⟩
  have h8' : ∀ vo vc g W, C [tA t.id t.ver t.nm (.slice vo t.cols.length vc) t.key, .slice (some ⟨g, 0, none⟩) 1 1] W → ∃ o5 c5 w', (Builtin.append_ #[37, 37] 37 #[.slice to P.length tc, .slice (some ⟨g, 0, none⟩) 1 1]).run Try.prog W = .ok (.slice o5 (P.length + 1) c5) w' ∧ C [tA t.id t.ver t.nm (.slice vo t.cols.length vc) t.key, .slice (some ⟨g, 0, none⟩) 1 1, .slice o5 (P.length + 1) c5] w' := fun vo vc g W h => by
    rw [hC] at h
    obtain ⟨tW, vo', vc', g', e, e2, hv, hg⟩ := h
    have e' : vo = vo' ∧ vc = vc' := by simpa using e
    obtain ⟨rfl, rfl⟩ := e'
    have e2' : g = g' := by simpa using e2
    subst e2'
    have hTO := HR3.out.to.tch tW (fun _ _ _ h => h)
    obtain ⟨v', w', hr, hown, hgr, hat, _⟩ := run_append_keeps (P := Try.prog) W 0 37 37 36 i0 (.agg #[.int .i64 0, .int .i64 0, .string ⟨#[]⟩, .slice none 0 0, .int .i64 0]) 5 64 Try.underlying37 hi0 hz0 hz1 hz2 rfl (by decide) (.slice to P.length tc) P.length (tcl P) hTO.own ⟨g, 0, none⟩ 1 1 (tcs (t, .slice vo t.cols.length vc)) rfl (fun j u hu => by rw [add_plain]; exact hg j u hu) (by simp [tcs, Value.oneCell']) (by unfold maxLen; omega) (by omega) (Nat.zero_le _)
    obtain ⟨o5, c5, rfl⟩ := row_slice hown
    refine ⟨o5, c5, w', hr, ?_⟩
    rw [hC]
    refine ⟨(tW.mono (fun _ _ h => h.elim)).trans' (grown_at (Tch.refl (fun _ => False) W) hgr), vo, vc, o5, c5, rfl, rfl, ?_, hat.imp id (fun e => ⟨_, e, tW.size⟩), fun g e => (hv.lt g e).1⟩
    exact hTO.snoc (M := w3.heap.size) hv (Nat.zero_le _) (fun g hg => (HR3.out.bl_lt hg).1) hgr (by rw [tcl_append]; exact hown) hat
  have h0' : C [] w3.drew := by rw [hC]; exact (Tch.refl _ _).drew
  have hsh1 : ∀ y W, C [y] W → ∃ vo vc, y = tA t.id t.ver t.nm (.slice vo t.cols.length vc) t.key := fun y W h => by
    rw [hC] at h
    obtain ⟨_, vo, vc, e, _⟩ := h
    exact ⟨vo, vc, e⟩
  have hsh2 : ∀ x y W, C [x, y] W → ∃ g, y = .slice (some ⟨g, 0, none⟩) 1 1 := fun x y W h => by
    rw [hC] at h
    obtain ⟨_, vo, vc, g, _, e, _⟩ := h
    exact ⟨g, e⟩
  have hsh3 : ∀ x y z W, C [x, y, z] W → ∃ o5 c5, z = .slice o5 (P.length + 1) c5 := fun x y z W h => by
    rw [hC] at h
    obtain ⟨_, vo, vc, o5, c5, _, e, _⟩ := h
    exact ⟨o5, c5, e⟩
  have Hfin : Hid (∀ x y z W, C [x, y, z] W → Tch (fun i => (Value.slice to P.length tc).ownBlock = some i) w3 W ∧ ∃ v, TO W 0 z (P ++ [(t, v)]) ∧ (z.ownBlock = (Value.slice to P.length tc).ownBlock ∨ ∃ g, z.ownBlock = some g ∧ w3.heap.size ≤ g) ∧ ∀ g, v.ownBlock = some g → w3.heap.size ≤ g) := fun x y z W h => by
    rw [hC] at h
    obtain ⟨h1, vo, vc, o5, c5, _, _, h2, h3, h4⟩ := h
    exact ⟨h1, _, h2, h3, h4⟩
  clear hC
  refine wp_region_ordv [6, 7, 8] C 9 [0, 1, 2, 3, 4, 5, 6, 7, 8] (by kernel_rfl) (by kernel_rfl) h0' ?_
  clear h0'
  refine ordv_read rfl (by go_simp) (by rfl) ?_
  apply Exists.intro
  refine ⟨fun s' W hW b K Q hK' => ?_, fun K hK' => ?_⟩
  · obtain ⟨⟨x0, x1, x2, x3, x4⟩, d0⟩ := hK _ W hW
    go_simp
    exact hK' W hW
  go_simp
  refine hK' _ ?_
  clear hK' K
  refine ordv_read rfl (by go_simp) (by rfl) ?_
  apply Exists.intro
  refine ⟨fun s' W hW b K Q hK' => ?_, fun K hK' => ?_⟩
  · obtain ⟨⟨x0, x1, x2, x3, x4⟩, d0⟩ := hK _ W hW
    go_simp
    exact hK' W hW
  go_simp
  refine hK' _ ?_
  clear hK' K
  refine ordv_read rfl (by go_simp) (by rfl) ?_
  apply Exists.intro
  refine ⟨fun s' W hW b K Q hK' => ?_, fun K hK' => ?_⟩
  · obtain ⟨⟨x0, x1, x2, x3, x4⟩, d0⟩ := hK _ W hW
    go_simp
    exact hK' W hW
  go_simp
  refine hK' _ ?_
  clear hK' K
  refine ordv_read rfl (by go_simp) (by rfl) ?_
  apply Exists.intro
  refine ⟨fun s' W hW b K Q hK' => ?_, fun K hK' => ?_⟩
  · obtain ⟨⟨x0, x1, x2, x3, x4⟩, d0⟩ := hK _ W hW
    go_simp
    exact hK' W hW
  go_simp
  refine hK' _ ?_
  clear hK' K
  refine ordv_read rfl (by go_simp) (by rfl) ?_
  apply Exists.intro
  refine ⟨fun s' W hW b K Q hK' => ?_, fun K hK' => ?_⟩
  · obtain ⟨⟨x0, x1, x2, x3, x4⟩, d0⟩ := hK _ W hW
    go_simp
    exact hK' W hW
  go_simp
  refine hK' _ ?_
  clear hK' K
  refine ordv_read rfl (by go_simp) (by rfl) ?_
  apply Exists.intro
  refine ⟨fun s' W hW b K Q hK' => ?_, fun K hK' => ?_⟩
  · obtain ⟨⟨x0, x1, x2, x3, x4⟩, d0⟩ := hK _ W hW
    go_simp
    exact hK' W hW
  go_simp
  refine hK' _ ?_
  clear hK' K
  refine ordv_turn rfl (by go_simp) (by rfl) (fun W hW b K Q hK' => ?_) (fun u hu K hK' => ?_)
  · go_simp
    go_at_call 28
    refine (h6 W hW).mono ?_
    rintro x w' ⟨vo, vc, rfl, h1⟩
    exact hK' _ w' h1
  obtain ⟨vo, vc, rfl⟩ : ∃ vo vc, u = tA t.id t.ver t.nm (.slice vo t.cols.length vc) t.key := by
    obtain ⟨W', hW'⟩ := hu
    exact hsh1 u W' hW'
  clear hu h6
  go_simp
  refine hK' _ ?_
  clear hK' K
  refine ordv_turn rfl (by go_simp) (by rfl) (fun W hW b K Q hK' => ?_) (fun u hu K hK' => ?_)
  · go_simp
    exact hK' _ _ (h7 vo vc W hW)
  obtain ⟨g, rfl⟩ : ∃ g, u = .slice (some ⟨g, 0, none⟩) 1 1 := by
    obtain ⟨W', hW'⟩ := hu
    exact hsh2 _ u W' hW'
  clear hu h7
  go_simp
  refine hK' _ ?_
  clear hK' K
  refine ordv_turn rfl (by go_simp) (by rfl) (fun W hW => ?_) (fun u hu K hK' => ?_)
  · obtain ⟨to', tc', w', hr, h1⟩ := h8' vo vc g W hW
    exact yv_append (.tmp 57) (.tmp 60) 37 rfl (.slice to P.length tc) (.slice (some ⟨g, 0, none⟩) 1 1) rfl rfl hr h1
  obtain ⟨o5, c5, rfl⟩ : ∃ o5 c5, u = .slice o5 (P.length + 1) c5 := by
    obtain ⟨W', hW'⟩ := hu
    exact hsh3 _ _ u W' hW'
  clear hu h8' hsh1 hsh2 hsh3
  go_simp
  refine hK' _ ?_
  clear hK' K
  refine ordv_nil ?_
  intro w5 hw5
  obtain ⟨T5, v5, hTO5, hat5, hv5⟩ := Hfin.out _ _ _ w5 hw5
  clear hK hw5 Hfin
  have hB5 : w5.heap[b]? = some (.cells #[.slice to P.length tc, .int .i64 (gv + 1)] 57 (0, 0)) := by rw [T5.block b (blk_lt HR3.out.blk) HR3.out.nb.1]; exact HR3.out.blk
  have u0 : w5.cell? ⟨b, 0, none⟩ = some (.slice to P.length tc) := by rw [blk_cell hB5]; rfl
  have u1 : w5.cell? ⟨b, 1, none⟩ = some (.int .i64 (gv + 1)) := by rw [blk_cell hB5]; rfl
  have f0 := blk_frozen hB5 0
  have f1 := blk_frozen hB5 1
  have HFin : Hid (∀ W', W' = (w5.setCell ⟨b, 0, none⟩ (.slice o5 (P.length + 1) c5)).setCell ⟨b, 1, none⟩ (.int .i64 (gv + 1 + 1)) → RPut b (putE L gv t) (putL L t) (putG L gv t + 1) P (.slice to P.length tc) w (.returned (.int .i64 0)) W') := fun W' hW' => by
    have tE : Tch (fun i => i = b) w5 W' := by rw [hW']; exact (Tch.setCell (fun i => i = b) w5 ⟨b, 0, none⟩ _ rfl).setCellR ⟨b, 1, none⟩ _ rfl
    have hb' : W'.heap[b]? = some (.cells #[.slice o5 (P.length + 1) c5, .int .i64 (gv + 1 + 1)] 57 (0, 0)) := by rw [hW', blk_set (blk_set hB5 _) _]; rfl
    obtain ⟨g1, g2, g3⟩ := HR3.out.app T5 hTO5 hat5 hv5 hb' tE
    have t03 := Ht0.out.trans' HV3.out
    rw [HE0.out, HPL2.out.1, HPL2.out.2]
    exact ⟨rfl, fun _ => ⟨_, _, g1, fun g hg => (g2 g hg).imp id (fun h => by have := t03.size; omega), (t03.mono (fun _ _ h => h.elim)).trans' g3⟩, fun e => absurd rfl e⟩
  clear hB5 T5 hTO5 hat5 hv5
  go_wp2_with fail
  go_ret
  exact HFin.out _ rfl
end Go.Proofs.Ytolamjipigfocaa
