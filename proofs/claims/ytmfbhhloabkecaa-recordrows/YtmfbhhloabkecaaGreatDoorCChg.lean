import Derived.Test.YtmfbhhloabkecaaGreatDoorCAdd
set_option maxHeartbeats 4000000
set_option maxRecDepth 100000
namespace Go.Proofs.YtmfbhhloabkecaaGreatDoor.C
open Go.RowKit Go
abbrev zA : Value := tA 0 0 ⟨#[]⟩ (.slice none 0 0) 0
theorem next_any (b : Nat) (gv : Int) (w : World) (h : w.cell? ⟨b, 1, none⟩ = some (.int .i64 gv)) (h0 : 0 ≤ gv) (h1 : gv ≤ 2147483648) :
    Calls Tryz.prog 10 #[.pointer (some ⟨b, 0, none⟩)] w fun x w' => x = .returned (.int .i64 (gv + 1)) ∧ w' = w := by
  go_enter Tryz.func10, Tryz.ntmps10
  go_wp2
  go_ret
  exact ⟨rfl, rfl⟩
def creT (gv : Int) (nm : ByteArray) (cols : List Col) (key : Int) : Tbl := ⟨gv + 1, 1, nm, cols, key⟩
def creE (L : List Tbl) (gv : Int) (nm : ByteArray) (cols : List Col) (key : Int) : Int :=
  if nmOk nm = false then 50 else if L.any (fun t => decide (t.nm = nm)) then 51 else if L.length = 16 ∨ gv = 2147483647 then 53 else rightE (creT gv nm cols key)
def DX (W : World) (base d : Nat) : Prop := ∃ tv gv n xs, W.heap[d]? = some (.cells #[tv, .int .i64 gv] 60 (0, 0)) ∧ base ≤ d ∧ W.ownsRow base 29 5 tv n xs ∧ tv.ownBlock ≠ some d ∧ n ≤ 17
def OnOut (base d : Nat) (E : Int) (T : World → Value → Prop) (L : List Tbl) (gv : Int) (x : Ending) (w' : World) : Prop :=
  (E = 0 → ∃ v P tv, x = .returned (.tuple #[v, .int .i64 0]) ∧ T w' v ∧ CO w' base d L gv P tv) ∧ (E ≠ 0 → x = .returned (.tuple #[zA, .int .i64 E]) ∧ DX w' base d)
theorem CO.tch {S : Nat → Prop} {W W' : World} {base d : Nat} {L : List Tbl} {gv : Int} {P : List (Tbl × Value)} {tv : Value} (h : CO W base d L gv P tv) (t : Tch S W W') (hS : ∀ i, base ≤ i → i < W.heap.size → ¬ S i) : CO W' base d L gv P tv :=
  ⟨by rw [t.block d (blk_lt h.blk) (hS d h.ge (blk_lt h.blk))]; exact h.blk, h.ge, h.eq, h.to.tch t hS, h.nb⟩
theorem posP_any (f : Tbl → Bool) (P : List (Tbl × Value)) : (decide (0 ≤ posP f P)) = (P.map Prod.fst).any f := by
  rcases posP_cases f P with ⟨h1, h2⟩ | ⟨k, hk, h1, h2, _⟩
  · rw [h1]
    symm
    show _ = false
    rw [List.any_eq_false]
    intro x hx
    obtain ⟨i, hi, rfl⟩ := List.getElem_of_mem hx
    rw [List.length_map] at hi
    simpa using h2 i hi
  · rw [h1, show decide ((0 : Int) ≤ k) = true by simp]
    symm
    rw [List.any_eq_true]
    exact ⟨P[k].1, by simpa using ⟨P[k].2, List.getElem_mem hk⟩, h2⟩
theorem res_pair {fn : Func} {tmps : Array Value} {W : World} {B k j : Nat} {E : Int} {a b c d e : Value} (hrs : fn.results = #[.cell k 29, .tmp j]) (hk : tmps[k]?.getD undef = .pointer (some ⟨B, 0, none⟩)) (hj : tmps[j]?.getD undef = .int .i64 E)
    (c0 : W.cell? ⟨B, 0, none⟩ = some a) (c1 : W.cell? ⟨B, 1, none⟩ = some b) (c2 : W.cell? ⟨B, 2, none⟩ = some c) (c3 : W.cell? ⟨B, 3, none⟩ = some d) (c4 : W.cell? ⟨B, 4, none⟩ = some e) :
    (results fn tmps).run Tryz.prog W = .ok (.tuple #[.agg #[a, b, c, d, e], .int .i64 E]) W := by
  simp only [results, hrs]
  go_simp
theorem creationOn_any (base d : Nat) (L : List Tbl) (gv : Int) (P : List (Tbl × Value)) (tv : Value) (nm : ByteArray) (cols : List Col) (ao : Option Addr) (c : Nat) (key : Int) (w : World) (h : CO w base d L gv P tv) (ht : SL w ao (ccl cols)) (hno : ao = none → cols = [] ∧ c = 0) (hcap : cols.length ≤ c) (hcl : cols.length ≤ 9223372036854775807) (hl : P.length ≤ 16) (h0 : 0 ≤ gv) (h1 : gv ≤ 2147483647) (hbase : base ≤ w.heap.size) :
    Calls Tryz.prog 25 #[.agg #[.string nm, .slice ao cols.length c, .int .i64 key], .pointer (some ⟨d, 0, none⟩)] w fun x w' => OnOut base d (creE L gv nm cols key) (fun _ v => v = tA (gv + 1) 1 nm (.slice ao cols.length c) key) (L ++ [creT gv nm cols key]) (gv + 1) x w' ∧ Tch (fun i => base ≤ i) w w' := by
  obtain ⟨to, tc, htv⟩ := row_slice h.to.own
  subst htv
  obtain ⟨N, hN⟩ : ∃ N, N = w.heap.size := ⟨_, rfl⟩
  obtain ⟨w0, hw0⟩ : ∃ w0, w0 = (w.alloc (.cells #[.string nm, .slice ao cols.length c, .int .i64 key] 64)).alloc (.cells #[.int .i64 0, .int .i64 0, .string ⟨#[]⟩, .slice none 0 0, .int .i64 0] 29) := ⟨_, rfl⟩
  have t0 : Tch (fun _ => False) w w0 := by rw [hw0]; exact (Tch.alloc _ _ _).allocR _
  have hs0 : w0.heap.size = N + 2 := by rw [hw0, World.size_alloc, World.size_alloc, hN]
  have hX : w0.heap[N]? = some (.cells #[.string nm, .slice ao cols.length c, .int .i64 key] 64 (0, 0)) := by
    rw [hw0, hN]; exact (Tch.alloc (fun _ => False) _ _).block _ (by simp) (fun h => h) |>.trans (alloc_new _ _)
  have hY : w0.heap[N + 1]? = some (.cells #[.int .i64 0, .int .i64 0, .string ⟨#[]⟩, .slice none 0 0, .int .i64 0] 29 (0, 0)) := by
    rw [hw0, hN, ← World.size_alloc]; exact alloc_new _ _
  have hdN : d < N := by rw [hN]; exact blk_lt h.blk
  have H0 : Hid (CO w0 base d L gv P (.slice to P.length tc)) := h.tch t0 (fun _ _ _ h => h)
  have HQ : Hid (∀ W, Tch (fun _ => False) w0 W → W.heap[N]? = some (.cells #[.string nm, .slice ao cols.length c, .int .i64 key] 64 (0, 0)) ∧ W.heap[N + 1]? = some (.cells #[.int .i64 0, .int .i64 0, .string ⟨#[]⟩, .slice none 0 0, .int .i64 0] 29 (0, 0)) ∧ CO W base d L gv P (.slice to P.length tc) ∧ SL W ao (ccl cols)) := fun W tW => ⟨by rw [tW.block N (blk_lt hX) (fun h => h)]; exact hX, by rw [tW.block (N + 1) (blk_lt hY) (fun h => h)]; exact hY, H0.out.tch tW (fun _ _ _ h => h), (ht.no t0).no tW⟩
  have HC : Hid (∀ W, Tch (fun _ => False) w0 W → Tch (fun _ => False) w0 W ∧ (W.cell? ⟨N, 0, none⟩ = some (.string nm) ∧ W.cell? ⟨N, 1, none⟩ = some (.slice ao cols.length c) ∧ W.cell? ⟨N, 2, none⟩ = some (.int .i64 key)) ∧ W.cell? ⟨d, 0, none⟩ = some (.slice to P.length tc) ∧ W.cell? ⟨d, 1, none⟩ = some (.int .i64 gv)) := fun W tW => by
    obtain ⟨a1, a2, a3, _⟩ := HQ.out W tW
    exact ⟨tW, ⟨by rw [blk_cell a1]; rfl, by rw [blk_cell a1]; rfl, by rw [blk_cell a1]; rfl⟩, by rw [blk_cell a3.blk]; rfl, by rw [blk_cell a3.blk]; rfl⟩
  have HZ : Hid (∀ W, Tch (fun _ => False) w0 W → (W.cell? ⟨N + 1, 0, none⟩ = some (.int .i64 0) ∧ W.cell? ⟨N + 1, 1, none⟩ = some (.int .i64 0) ∧ W.cell? ⟨N + 1, 2, none⟩ = some (.string ⟨#[]⟩) ∧ W.cell? ⟨N + 1, 3, none⟩ = some (.slice none 0 0) ∧ W.cell? ⟨N + 1, 4, none⟩ = some (.int .i64 0)) ∧ ∀ j, W.frozen? ⟨N + 1, j, none⟩ = false) := fun W tW => by
    obtain ⟨a1, a2, a3, _⟩ := HQ.out W tW
    exact ⟨⟨by rw [blk_cell a2]; rfl, by rw [blk_cell a2]; rfl, by rw [blk_cell a2]; rfl, by rw [blk_cell a2]; rfl, by rw [blk_cell a2]; rfl⟩, fun j => blk_frozen a2 j⟩
  have HErr : Hid (∀ W, Tch (fun _ => False) w0 W → ∀ E, E ≠ 0 → creE L gv nm cols key = E → ∀ W', W' = ((((W.setCell ⟨N + 1, 0, none⟩ (.int .i64 0)).setCell ⟨N + 1, 1, none⟩ (.int .i64 0)).setCell ⟨N + 1, 2, none⟩ (.string ⟨#[]⟩)).setCell ⟨N + 1, 3, none⟩ (.slice none 0 0)).setCell ⟨N + 1, 4, none⟩ (.int .i64 0) → (∀ tmps : Array Value, tmps[4]?.getD undef = .pointer (some ⟨N + 1, 0, none⟩) → tmps[5]?.getD undef = .int .i64 E → (results Tryz.f25 tmps).run Tryz.prog W' = .ok (.tuple #[zA, .int .i64 E]) W') ∧ OnOut base d (creE L gv nm cols key) (fun _ v => v = tA (gv + 1) 1 nm (.slice ao cols.length c) key) (L ++ [creT gv nm cols key]) (gv + 1) (.returned (.tuple #[zA, .int .i64 E])) W' ∧ Tch (fun i => base ≤ i) w W') := fun W tW E hE0 hE W' hW' => by
    obtain ⟨_, a2, a3, _⟩ := HQ.out W tW
    have tE : Tch (fun i => i = N + 1) W W' := by rw [hW']; exact ((((Tch.setCell (fun i => i = N + 1) W ⟨N + 1, 0, none⟩ _ rfl).setCellR ⟨N + 1, 1, none⟩ _ rfl).setCellR ⟨N + 1, 2, none⟩ _ rfl).setCellR ⟨N + 1, 3, none⟩ _ rfl).setCellR ⟨N + 1, 4, none⟩ _ rfl
    have hb : W'.heap[N + 1]? = some (.cells #[.int .i64 0, .int .i64 0, .string ⟨#[]⟩, .slice none 0 0, .int .i64 0] 29 (0, 0)) := by
      rw [hW', blk_set (blk_set (blk_set (blk_set (blk_set a2 _) _) _) _) _]; rfl
    have hrs : Tryz.f25.results = #[.cell 4 29, .tmp 5] := by kernel_rfl
    refine ⟨fun tmps h4 h5 => res_pair hrs h4 h5 (by rw [blk_cell hb]; rfl) (by rw [blk_cell hb]; rfl) (by rw [blk_cell hb]; rfl) (by rw [blk_cell hb]; rfl) (by rw [blk_cell hb]; rfl), ⟨fun e => absurd (hE.symm.trans e) hE0, fun _ => ⟨by rw [hE], ?_⟩⟩, ?_⟩
    · exact ⟨.slice to P.length tc, gv, P.length, tcl P, by rw [tE.block d (blk_lt a3.blk) (by omega)]; exact a3.blk, a3.ge, own_tch a3.to.own tE (fun g e e2 => by have := (h.to.own.lt g e).2; omega), a3.nb.1, by omega⟩
    · exact ((t0.trans' tW).mono (T := fun i => base ≤ i) (fun _ _ h => h.elim)).trans tE (fun i hi e => by omega)
  have Hw0 : Hid _ := hw0
  have HN : Hid (N = w.heap.size) := hN
  have HcN : Hid (∀ i (hi : i < P.length) g, P[i].2.ownBlock = some g → g < N) := fun i hi g e => by rw [hN]; exact ((h.to.col i hi).lt g e).2
  have HtN : Hid (∀ g, (Value.slice to P.length tc).ownBlock = some g → g < N) := fun g e => by rw [hN]; exact (h.to.own.lt g e).2
  have Ht0 : Hid (Tch (fun _ => False) w w0) := t0
  have HL : Hid (P.map Prod.fst = L) := h.eq
  clear h hw0 hN hX hY ht t0
  obtain ⟨_, ⟨x0, x1, x2⟩, d0, d1⟩ := HC.out w0 (Tch.refl _ _)
  obtain ⟨⟨z0, z1, z2, z3, z4⟩, hzf⟩ := HZ.out w0 (Tch.refl _ _)
  have g0 := hzf 0; have g1 := hzf 1; have g2 := hzf 2; have g3 := hzf 3; have g4 := hzf 4
  have q1 := isName_any nm w0
  go_enter Tryz.func25, Tryz.ntmps25
  go_wp2_with fail
  rw [← HN.out]
  have hw0 := Hw0.out
  rw [← hw0]
  clear hw0 hzf
  cases hn : nmOk nm
  · rw [hn] at q1
    have HE : Hid (creE L gv nm cols key = 50) := if_pos hn
    clear hn
    refine q1.mono ?_
    rintro y w1 ⟨rfl, hw1⟩
    obtain rfl := hw1.symm
    clear hw1 q1
    go_wp2_with fail
    refine bodyPost_ret ((HErr.out w0 (Tch.refl _ _) 50 (by decide) HE.out _ rfl).1 _ ?_ ?_) rfl (HErr.out w0 (Tch.refl _ _) 50 (by decide) HE.out _ rfl).2 <;> rfl
  · rw [hn] at q1
    have Hn : Hid (nmOk nm = true) := hn
    clear hn
    have q2 := nm3_any d to tc P _ nm w0 d0 (H0.out.to.toTL) hl
    obtain ⟨r, hr⟩ : ∃ r, r = posP (fun t => decide (t.nm = nm)) P := ⟨_, rfl⟩
    rw [← hr] at q2
    have hpa := posP_any (fun t => decide (t.nm = nm)) P
    rw [← hr] at hpa
    have Hpa : Hid (decide (0 ≤ r) = L.any (fun t => decide (t.nm = nm))) := by show _ = _; rw [hpa, HL.out]
    clear hr hpa
    refine q1.mono ?_
    rintro y w1 ⟨rfl, hw1⟩
    obtain rfl := hw1.symm
    clear hw1 q1
    go_wp2_with fail
    refine q2.mono ?_
    rintro y w1 ⟨rfl, t1⟩
    clear q2 x0 x1 x2 d0 d1 z0 z1 z2 z3 z4 g0 g1 g2 g3 g4
    obtain ⟨_, ⟨x0, x1, x2⟩, d0, d1⟩ := HC.out w1 t1
    obtain ⟨⟨z0, z1, z2, z3, z4⟩, hzf⟩ := HZ.out w1 t1
    have g0 := hzf 0; have g1 := hzf 1; have g2 := hzf 2; have g3 := hzf 3; have g4 := hzf 4
    clear hzf
    by_cases hr0 : 0 ≤ r
    · have HE : Hid (creE L gv nm cols key = 51) := by
        show _ = _
        unfold creE
        rw [if_neg (by rw [Hn.out]; simp), if_pos (by rw [← Hpa.out]; simp [hr0])]
      go_wp2_with fail
      refine bodyPost_ret ((HErr.out w1 t1 51 (by decide) HE.out _ rfl).1 _ ?_ ?_) rfl (HErr.out w1 t1 51 (by decide) HE.out _ rfl).2 <;> rfl
    · have Hany : Hid (L.any (fun t => decide (t.nm = nm)) = false) := by show _ = _; rw [← Hpa.out]; simp [hr0]
      have HPL : Hid (P.length = L.length) := by show _ = _; rw [← HL.out]; simp
      have HE0 : Hid (¬ (L.length = 16 ∨ gv = 2147483647) → creE L gv nm cols key = rightE (creT gv nm cols key)) := fun hh => by
        unfold creE
        rw [if_neg (by rw [Hn.out]; simp), if_neg (by rw [Hany.out]; simp), if_neg hh]
      have HE53 : Hid ((L.length = 16 ∨ gv = 2147483647) → creE L gv nm cols key = 53) := fun hh => by
        unfold creE
        rw [if_neg (by rw [Hn.out]; simp), if_neg (by rw [Hany.out]; simp), if_pos hh]
      clear Hpa Hn Hany
      by_cases h16 : (P.length : Int) = 16
      · have HE : Hid _ := HE53.out (Or.inl (by have := HPL.out; omega))
        have h16b : ((P.length : Int) == 16) = true := by simpa using h16
        clear h16
        go_wp2_with fail
        refine bodyPost_ret ((HErr.out w1 t1 53 (by decide) HE.out _ rfl).1 _ ?_ ?_) rfl (HErr.out w1 t1 53 (by decide) HE.out _ rfl).2 <;> rfl
      · have h16b : ((P.length : Int) == 16) = false := beq_eq_false_iff_ne.2 h16
        by_cases hgm : gv = 2147483647
        · have HE : Hid _ := HE53.out (Or.inr hgm)
          have hgb : (gv == 2147483647) = true := by simpa using hgm
          clear hgm h16
          go_wp2_with fail
          refine bodyPost_ret ((HErr.out w1 t1 53 (by decide) HE.out _ rfl).1 _ ?_ ?_) rfl (HErr.out w1 t1 53 (by decide) HE.out _ rfl).2 <;> rfl
        · have HE : Hid _ := HE0.out (by have := HPL.out; omega)
          have hgb : (gv == 2147483647) = false := beq_eq_false_iff_ne.2 hgm
          have hP16 : P.length ≤ 15 := by omega
          clear HE53 HE0 h16 hgm
          have Hq3 : Hid (∀ W, Tch (fun _ => False) w0 W → Calls Tryz.prog 10 #[.pointer (some ⟨d, 0, none⟩)] W fun x w' => x = .returned (.int .i64 (gv + 1)) ∧ w' = W) := fun W tW => next_any d gv W (HC.out W tW).2.2.2 h0 (by omega)
          obtain ⟨B, hB⟩ : ∃ B, B = w1.heap.size := ⟨_, rfl⟩
          obtain ⟨w2, hw2⟩ : ∃ w2, w2 = (w1.alloc (.cells #[.int .i64 (gv + 1), .int .i64 1, .string nm, .slice ao cols.length c, .int .i64 key] 29)).drew := ⟨_, rfl⟩
          have HT2 : Hid (Tch (fun _ => False) w0 w2) := by show Tch _ _ _; rw [hw2]; exact (t1.allocR _).drew
          have hb2 : w2.heap[B]? = some (.cells #[.int .i64 (gv + 1), .int .i64 1, .string nm, .slice ao cols.length c, .int .i64 key] 29 (0, 0)) := by rw [hw2, hB]; exact alloc_new w1 _
          have HB2 : Hid (∀ W, Tch (fun i => i = d ∨ (Value.slice to P.length tc).ownBlock = some i) w2 W → W.cell? ⟨B, 0, none⟩ = some (.int .i64 (gv + 1)) ∧ W.cell? ⟨B, 1, none⟩ = some (.int .i64 1) ∧ W.cell? ⟨B, 2, none⟩ = some (.string nm) ∧ W.cell? ⟨B, 3, none⟩ = some (.slice ao cols.length c) ∧ W.cell? ⟨B, 4, none⟩ = some (.int .i64 key)) := fun W tW => by
            have hBn : ¬ (B = d ∨ (Value.slice to P.length tc).ownBlock = some B) := fun hh => by
              have h3 := t1.size
              rcases hh with hh | hh
              · omega
              · have := (World.ownsRow.lt H0.out.to.own B hh).2; omega
            have h3 : W.heap[B]? = some (.cells #[.int .i64 (gv + 1), .int .i64 1, .string nm, .slice ao cols.length c, .int .i64 key] 29 (0, 0)) := by rw [tW.block B (blk_lt hb2) hBn]; exact hb2
            exact ⟨by rw [blk_cell h3]; rfl, by rw [blk_cell h3]; rfl, by rw [blk_cell h3]; rfl, by rw [blk_cell h3]; rfl, by rw [blk_cell h3]; rfl⟩
          have Hw2 : Hid _ := hw2
          have HB : Hid (B = w1.heap.size) := hB
          clear hw2 hb2 hB
          go_wp2_with fail
          go_region_held3 (fun W => Tch (fun _ => False) w0 W ∧ (W.cell? ⟨N, 0, none⟩ = some (.string nm) ∧ W.cell? ⟨N, 1, none⟩ = some (.slice ao cols.length c) ∧ W.cell? ⟨N, 2, none⟩ = some (.int .i64 key)) ∧ W.cell? ⟨d, 0, none⟩ = some (.slice to P.length tc) ∧ W.cell? ⟨d, 1, none⟩ = some (.int .i64 gv))
            ((refine HC.out _ ?_; first | assumption | exact Tch.drew (by assumption) | exact Tch.allocR (by assumption) _ | exact Tch.allocR (Tch.drew (by assumption)) _))
            ((go_at_call 10; refine (Hq3.out _ (show _ ∧ _ by assumption).1).mono ?_; rintro y w2 ⟨rfl, hw2⟩; obtain rfl := hw2.symm; clear hw2))
          all_goals
            rw [← Hw2.out]
            clear x0 x1 x2 d0 d1 z0 z1 z2 z3 z4 g0 g1 g2 g3 g4
            obtain ⟨⟨z0, z1, z2, z3, z4⟩, hzf⟩ := HZ.out w2 HT2.out
            have g0 := hzf 0; have g1 := hzf 1; have g2 := hzf 2; have g3 := hzf 3; have g4 := hzf 4
            obtain ⟨y0, y1, y2, y3, y4⟩ := HB2.out w2 (Tch.refl _ _)
            clear hzf
            have q4 : Calls Tryz.prog 26 #[tA (gv + 1) 1 nm (.slice ao cols.length c) key] w2 (fun x w' => x = .returned (.int .i64 (rightE (creT gv nm cols key))) ∧ Tch (fun _ => False) w2 w') := right_any (creT gv nm cols key) ao c w2 (HQ.out w2 HT2.out).2.2.2 hcap hcl
            obtain ⟨E, hEq⟩ : ∃ E, E = rightE (creT gv nm cols key) := ⟨_, rfl⟩
            rw [← hEq] at q4
            have HEq : Hid (E = rightE (creT gv nm cols key)) := hEq
            clear hEq
            rw [← HB.out]
            go_wp2_with fail
            refine q4.mono ?_
            rintro y w3 ⟨rfl, t3⟩
            clear q4 z0 z1 z2 z3 z4 g0 g1 g2 g3 g4 y0 y1 y2 y3 y4
            have T3 : Tch (fun _ => False) w0 w3 := HT2.out.trans' t3
            obtain ⟨⟨z0, z1, z2, z3, z4⟩, hzf⟩ := HZ.out w3 T3
            have g0 := hzf 0; have g1 := hzf 1; have g2 := hzf 2; have g3 := hzf 3; have g4 := hzf 4
            obtain ⟨y0, y1, y2, y3, y4⟩ := HB2.out w3 (t3.mono (fun _ _ h => h.elim))
            clear hzf
            by_cases hE0 : E = 0
            · subst hE0
              obtain ⟨_, _, hCO3, hSL3⟩ := HQ.out w3 T3
              have hHE := HE.out
              rw [← HEq.out] at hHE
              have HE00 : Hid (creE L gv nm cols key = 0) := hHE
              have q5 := add_any base d L gv P (.slice to P.length tc) (creT gv nm cols key) ao c w3 hCO3 ⟨hSL3, hno, hcap⟩ (right_len HEq.out.symm).2 hl (by have := Ht0.out.size; have := T3.size; omega)
              clear hCO3 hSL3 hHE
              go_wp2_with fail
              refine q5.mono ?_
              rintro y w4 ⟨rfl, ⟨P', tv', hCO4, hPl, hBL4⟩, t4⟩
              clear q5 y0 y1 y2 y3 y4
              obtain ⟨y0, y1, y2, y3, y4⟩ := HB2.out w4 ((t3.mono (fun _ _ h => h.elim)).trans' t4)
              have hNn : ¬ (N + 1 = d ∨ (Value.slice to P.length tc).ownBlock = some (N + 1)) := fun hh => by
                rcases hh with hh | hh
                · omega
                · have := HtN.out _ hh; omega
              have hY4 : w4.heap[N + 1]? = some (.cells #[.int .i64 0, .int .i64 0, .string ⟨#[]⟩, .slice none 0 0, .int .i64 0] 29 (0, 0)) := by
                rw [t4.block (N + 1) (blk_lt (HQ.out w3 T3).2.1) hNn]; exact (HQ.out w3 T3).2.1
              clear z0 z1 z2 z3 z4 g0 g1 g2 g3 g4
              obtain ⟨z0, z1, z2, z3, z4⟩ : w4.cell? ⟨N + 1, 0, none⟩ = some (.int .i64 0) ∧ w4.cell? ⟨N + 1, 1, none⟩ = some (.int .i64 0) ∧ w4.cell? ⟨N + 1, 2, none⟩ = some (.string ⟨#[]⟩) ∧ w4.cell? ⟨N + 1, 3, none⟩ = some (.slice none 0 0) ∧ w4.cell? ⟨N + 1, 4, none⟩ = some (.int .i64 0) := ⟨by rw [blk_cell hY4]; rfl, by rw [blk_cell hY4]; rfl, by rw [blk_cell hY4]; rfl, by rw [blk_cell hY4]; rfl, by rw [blk_cell hY4]; rfl⟩
              have g0 := blk_frozen hY4 0; have g1 := blk_frozen hY4 1; have g2 := blk_frozen hY4 2; have g3 := blk_frozen hY4 3; have g4 := blk_frozen hY4 4
              have HFin : Hid (∀ W', W' = ((((w4.setCell ⟨N + 1, 0, none⟩ (.int .i64 (gv + 1))).setCell ⟨N + 1, 1, none⟩ (.int .i64 1)).setCell ⟨N + 1, 2, none⟩ (.string nm)).setCell ⟨N + 1, 3, none⟩ (.slice ao cols.length c)).setCell ⟨N + 1, 4, none⟩ (.int .i64 key) → (∀ tmps : Array Value, tmps[4]?.getD undef = .pointer (some ⟨N + 1, 0, none⟩) → tmps[5]?.getD undef = .int .i64 0 → (results Tryz.f25 tmps).run Tryz.prog W' = .ok (.tuple #[tA (gv + 1) 1 nm (.slice ao cols.length c) key, .int .i64 0]) W') ∧ OnOut base d (creE L gv nm cols key) (fun _ v => v = tA (gv + 1) 1 nm (.slice ao cols.length c) key) (L ++ [creT gv nm cols key]) (gv + 1) (.returned (.tuple #[tA (gv + 1) 1 nm (.slice ao cols.length c) key, .int .i64 0])) W' ∧ Tch (fun i => base ≤ i) w W') := fun W' hW' => by
                have tE : Tch (fun i => i = N + 1) w4 W' := by rw [hW']; exact ((((Tch.setCell (fun i => i = N + 1) w4 ⟨N + 1, 0, none⟩ _ rfl).setCellR ⟨N + 1, 1, none⟩ _ rfl).setCellR ⟨N + 1, 2, none⟩ _ rfl).setCellR ⟨N + 1, 3, none⟩ _ rfl).setCellR ⟨N + 1, 4, none⟩ _ rfl
                have hb : W'.heap[N + 1]? = some (.cells #[.int .i64 (gv + 1), .int .i64 1, .string nm, .slice ao cols.length c, .int .i64 key] 29 (0, 0)) := by
                  rw [hW', blk_set (blk_set (blk_set (blk_set (blk_set hY4 _) _) _) _) _]; rfl
                have hrs : Tryz.f25.results = #[.cell 4 29, .tmp 5] := by kernel_rfl
                refine ⟨fun tmps h4 h5 => res_pair hrs h4 h5 (by rw [blk_cell hb]; rfl) (by rw [blk_cell hb]; rfl) (by rw [blk_cell hb]; rfl) (by rw [blk_cell hb]; rfl) (by rw [blk_cell hb]; rfl), ⟨fun _ => ⟨_, P', tv', rfl, rfl, ?_⟩, fun e => absurd HE00.out e⟩, ?_⟩
                · have hN1 : ∀ g, BL tv' P' g → g ≠ N + 1 := fun g hg e => by
                    have h3 := T3.size
                    rcases hBL4 g hg with (h | ⟨i, hi, h⟩) | h
                    · have := HtN.out g h; omega
                    · have := HcN.out i hi g h; omega
                    · omega
                  refine ⟨by rw [tE.block d (blk_lt hCO4.blk) (by omega)]; exact hCO4.blk, hCO4.ge, hCO4.eq, ⟨own_tch hCO4.to.own tE (fun g e => hN1 g (Or.inl e)), fun i hi => own_tch (hCO4.to.col i hi) tE (fun g e => hN1 g (Or.inr ⟨i, hi, e⟩)), hCO4.to.sep, hCO4.to.dis⟩, hCO4.nb⟩
                · have h1 : Tch (fun i => base ≤ i) w w3 := (Ht0.out.trans' T3).mono (fun _ _ h => h.elim)
                  have h2 : Tch (fun i => base ≤ i) w3 w4 := t4.mono (fun i _ h => by
                    rcases h with h | h
                    · have := H0.out.ge; omega
                    · exact (World.ownsRow.lt H0.out.to.own i h).1)
                  exact (h1.trans' h2).trans tE (fun i hi e => by have := HN.out; omega)
              clear hCO4 hY4
              go_wp2_with fail
              refine bodyPost_ret ((HFin.out _ rfl).1 _ ?_ ?_) rfl (HFin.out _ rfl).2 <;> rfl
            · have hHE : creE L gv nm cols key = E := by rw [HE.out, ← HEq.out]
              have HHE : Hid (creE L gv nm cols key = E) := hHE
              have HE0 : Hid (E ≠ 0) := hE0
              have hb4 : (E != 0) = true := by simpa using hE0
              clear hE0 hHE
              go_wp2_with fail
              refine bodyPost_ret ((HErr.out w3 T3 E HE0.out HHE.out _ rfl).1 _ ?_ ?_) rfl (HErr.out w3 T3 E HE0.out HHE.out _ rfl).2 <;> rfl
end Go.Proofs.YtmfbhhloabkecaaGreatDoor.C
namespace Go.Proofs.YtmfbhhloabkecaaGreatDoor.C
open Go.RowKit Go
theorem clear_own {W : World} {base n : Nat} {v : Value} {xs : List Value} (h : W.ownsRow base 29 5 v n xs) : ∃ W', (∀ ty, (Builtin.clear_ #[35] ty #[v]).run Tryz.prog W = .ok (.tuple #[]) W') ∧ Tch (fun i => v.ownBlock = some i) W W' := by
  obtain ⟨i0, hi0, hz0, hz1, hz2⟩ := info_parts info_tbl
  rcases h.2 with ⟨rfl, rfl⟩ | ⟨g, cap, cur, rfl, hb, hg, hnc, hcm, hcs, htk⟩
  · exact ⟨W, fun ty => by simp [Builtin.clear_, run_underlying Tryz.underlying35], Tch.refl _ _⟩
  · rcases Nat.eq_zero_or_pos n with rfl | hn
    · exact ⟨W, fun ty => by simp [Builtin.clear_, run_underlying Tryz.underlying35], Tch.refl _ _⟩
    · obtain ⟨zs, hzs⟩ : ∃ zs, zs = (Builtin.zeroCells (Value.agg #[.int .i64 0, .int .i64 0, .string ⟨#[]⟩, .slice none 0 0, .int .i64 0]).cells n).toList := ⟨_, rfl⟩
      have hzl : zs.length = n * 5 := by rw [hzs]; simp [Builtin.zeroCells, Value.cells]
      have hz1' : ∀ u ∈ zs, u.oneCell' = true := fun u hu => by
        rw [hzs] at hu
        simp only [Builtin.zeroCells, Value.cells, Array.toList_map, List.mem_map] at hu
        obtain ⟨k, _, rfl⟩ := hu
        have h5 : k % 5 < 5 := by omega
        show (#[Value.int .i64 0, .int .i64 0, .string ⟨#[]⟩, .slice none 0 0, .int .i64 0][k % 5]!).oneCell' = true
        rcases (by omega : k % 5 = 0 ∨ k % 5 = 1 ∨ k % 5 = 2 ∨ k % 5 = 3 ∨ k % 5 = 4) with e | e | e | e | e <;> rw [e] <;> rfl
      have hst := run_storeCells_at Tryz.prog g 0 29 zs 0 cur W hg (by simp; omega) hz1'
      obtain ⟨m, rfl⟩ : ∃ m, n = m + 1 := ⟨n - 1, by omega⟩
      refine ⟨W.setRow g (cur.toList.take 0 ++ zs ++ cur.toList.drop (0 + zs.length)).toArray, fun ty => ?_, ⟨rfl, rfl, rfl, by simp [World.setRow], fun k _ hk => setRow_other W g k _ (fun e => hk (by rw [e]; rfl))⟩⟩
      simp only [Builtin.clear_]
      simp [run_underlying Tryz.underlying35, zeroValue, typeInfo, hi0, hz0, ← hzs, hst]
def ChgOut (F : Nat → Prop) (b : Nat) (E : Int) (t0 : Tbl) (L' : List Tbl) (g' : Int) (w : World) (x : Ending) (w' : World) : Prop :=
  (E = 0 → ∃ v P to tc, x = .returned (.tuple #[tA t0.id t0.ver t0.nm v t0.key, .int .i64 0]) ∧ w'.ownsRow w.heap.size 43 3 v t0.cols.length (ccl t0.cols) ∧ CA w' (fun i => F i ∨ v.ownBlock = some i) b L' g' P to tc ∧ Tch (fun i => i = b) w w') ∧
  (E ≠ 0 → x = .returned (.tuple #[zA, .int .i64 E]) ∧ Tch (fun _ => False) w w')
def TX (b RB : Nat) (t0 : Tbl) (w' : World) (v : Value) : Prop := ∃ co cc, v = tA t0.id t0.ver t0.nm (.slice co t0.cols.length cc) t0.key ∧ SL w' co (ccl t0.cols) ∧ (co = none → t0.cols = [] ∧ cc = 0) ∧ ∀ g o, co = some ⟨g, o, none⟩ → t0.cols ≠ [] → g ≠ b ∧ g ≠ RB
theorem TO.tl' {W : World} {base : Nat} {F : Nat → Prop} {to : Option Addr} {tc : Nat} {P : List (Tbl × Value)} (h : TO W base (.slice to P.length tc) P) (hF : ∀ g, BL (.slice to P.length tc) P g → ¬ F g) : TL W F to P := by
  refine ⟨own_sl h.own, fun _ g o e => hF g (Or.inl (by rw [e]; rfl)), fun i hi => ?_⟩
  obtain ⟨co, cc, hck⟩ := own_ck (h.col i hi)
  exact ⟨co, cc, hck.eq, hck.sl, hck.no, hck.cap, fun hne g o e => ⟨hF g (Or.inr ⟨i, hi, by rw [hck.eq, e]; rfl⟩), (hck.nf hne g o e).2⟩⟩
theorem change_create (b : Nat) (L : List Tbl) (gv : Int) (P : List (Tbl × Value)) (to : Option Addr) (tc : Nat) (F : Nat → Prop) (nm : ByteArray) (ao : Option Addr) (n c : Nat) (key : Int) (E : Int) (t0 : Tbl) (L' : List Tbl) (g' : Int) (w : World) (h : CA w F b L gv P to tc) (hl : P.length ≤ 16) (h8 : ∀ i (hi : i < P.length), P[i].1.cols.length ≤ 8) (ht8 : t0.cols.length ≤ 8) (hF : ∀ i, F i → i < w.heap.size)
    (hon : ∀ W d Q tv, Tch (fun _ => False) w W → w.heap.size + 1 ≤ W.heap.size → Q.length = P.length → CO W (w.heap.size + 1) d L gv Q tv → Calls Tryz.prog 25 #[.agg #[.string nm, .slice ao n c, .int .i64 key], .pointer (some ⟨d, 0, none⟩)] W fun x w' => OnOut (w.heap.size + 1) d E (TX b w.heap.size t0) L' g' x w' ∧ Tch (fun i => w.heap.size + 1 ≤ i) W w') :
    Calls Tryz.prog 24 #[.pointer (some ⟨b, 0, none⟩), .func (.func 25) #[.agg #[.string nm, .slice ao n c, .int .i64 key]] #[]] w fun x w' => ChgOut F b E t0 L' g' w x w' := by
  obtain ⟨N, hN⟩ : ∃ N, N = w.heap.size := ⟨_, rfl⟩
  obtain ⟨w0, hw0⟩ : ∃ w0, w0 = w.alloc (.cells #[.int .i64 0, .int .i64 0, .string ⟨#[]⟩, .slice none 0 0, .int .i64 0] 29) := ⟨_, rfl⟩
  have t00 : Tch (fun _ => False) w w0 := by rw [hw0]; exact Tch.alloc _ _ _
  have hs0 : w0.heap.size = N + 1 := by rw [hw0, World.size_alloc, hN]
  have hY : w0.heap[N]? = some (.cells #[.int .i64 0, .int .i64 0, .string ⟨#[]⟩, .slice none 0 0, .int .i64 0] 29 (0, 0)) := by rw [hw0, hN]; exact alloc_new _ _
  have q1 := clone_any b L gv P to tc F w0 (h.tch t00 (fun _ _ h => h.elim)) hl h8
  rw [hs0] at q1
  have hPL : P.length = L.length := by rw [← h.eq]; simp
  have hbN : b < N := by rw [hN]; exact blk_lt h.blk
  have Hb : Hid (∀ W, Tch (fun _ => False) w W → W.heap[b]? = some (.cells #[.slice to P.length tc, .int .i64 gv] 60 (0, 0))) := fun W tW => (h.tch tW (fun _ _ h => h.elim)).blk
  have HY : Hid (w0.heap[N]? = some (.cells #[.int .i64 0, .int .i64 0, .string ⟨#[]⟩, .slice none 0 0, .int .i64 0] 29 (0, 0))) := hY
  have Hw0 : Hid _ := hw0
  have HN : Hid (N = w.heap.size) := hN
  have Ht0 : Hid (Tch (fun _ => False) w w0) := t00
  have Hs0 : Hid (w0.heap.size = N + 1) := hs0
  have Hnb : Hid (¬ F b) := h.nb
  have HPL : Hid (P.length = L.length) := hPL
  have Hon : Hid _ := hon
  have HF : Hid _ := hF
  clear h hw0 hN hY t00 hs0 hPL hon h8 hF
  go_enter Tryz.func24, Tryz.ntmps24
  go_wp2_with fail
  rw [← HN.out]
  have hw0 := Hw0.out
  rw [← hw0]
  clear hw0
  refine q1.mono ?_
  rintro x w1 ⟨⟨d, tv, Q, rfl, hCO⟩, t1⟩
  clear q1
  have hQl : Q.length = P.length := by have h1 := congrArg List.length hCO.eq; rw [List.length_map] at h1; rw [h1, HPL.out]
  have q2 := Hon.out w1 d Q tv (Ht0.out.trans' t1) (by have := t1.size; have := Hs0.out; have := HN.out; omega) hQl (by rw [← HN.out]; exact hCO)
  rw [← HN.out] at q2
  have HdN : Hid (N < d ∧ d < w1.heap.size) := ⟨by have := hCO.ge; show N < d; omega, blk_lt hCO.blk⟩
  clear hCO
  go_wp2_with fail
  refine q2.mono ?_
  rintro x w2 ⟨hO, t2⟩
  clear q2
  have T2 : Tch (fun _ => False) w w2 := (Ht0.out.trans' t1).trans t2 (fun i hi h => by have := HN.out; omega)
  have hY2 : w2.heap[N]? = some (.cells #[.int .i64 0, .int .i64 0, .string ⟨#[]⟩, .slice none 0 0, .int .i64 0] 29 (0, 0)) := by
    rw [t2.block N (Nat.lt_of_lt_of_le (blk_lt HY.out) t1.size) (by omega), t1.block N (blk_lt HY.out) (fun h => h)]; exact HY.out
  have HY2 : Hid (w2.heap[N]? = some (.cells #[.int .i64 0, .int .i64 0, .string ⟨#[]⟩, .slice none 0 0, .int .i64 0] 29 (0, 0))) := hY2
  have HT2 : Hid (Tch (fun _ => False) w w2) := T2
  have hrs : Tryz.f24.results = #[.cell 4 29, .tmp 5] := by kernel_rfl
  have Hrs : Hid _ := hrs
  clear hY2 T2 hrs
  by_cases hE : E = 0
  · subst hE
    obtain ⟨v, Pd, tvd, rfl, ⟨co, cc, rfl, hsl, hno, hnb⟩, hCO2⟩ := hO.1 rfl
    clear hO
    obtain ⟨tdo, tdc, htd⟩ := row_slice hCO2.to.own
    subst htd
    have d0 : w2.cell? ⟨d, 0, none⟩ = some (.slice tdo Pd.length tdc) := by rw [blk_cell hCO2.blk]; rfl
    have d1 : w2.cell? ⟨d, 1, none⟩ = some (.int .i64 g') := by rw [blk_cell hCO2.blk]; rfl
    have hb2 := Hb.out w2 HT2.out
    have b0 : w2.cell? ⟨b, 0, none⟩ = some (.slice to P.length tc) := by rw [blk_cell hb2]; rfl
    have b1 : w2.cell? ⟨b, 1, none⟩ = some (.int .i64 gv) := by rw [blk_cell hb2]; rfl
    have f0 := blk_frozen hb2 0
    have f1 := blk_frozen hb2 1
    obtain ⟨B, hB⟩ : ∃ B, B = w2.heap.size := ⟨_, rfl⟩
    obtain ⟨w3, hw3⟩ : ∃ w3, w3 = w2.alloc (.cells #[.int .i64 t0.id, .int .i64 t0.ver, .string t0.nm, .slice co t0.cols.length cc, .int .i64 t0.key] 29) := ⟨_, rfl⟩
    have t3 : Tch (fun _ => False) w2 w3 := by rw [hw3]; exact Tch.alloc _ _ _
    have key3 : ∀ i j v, w2.cell? ⟨i, j, none⟩ = some v → w3.cell? ⟨i, j, none⟩ = some v := fun i j v hv => (t3.cell (p := ⟨i, j, none⟩) (cell_lt hv) (fun h => h)).trans hv
    have keyf : ∀ i j, i < w2.heap.size → w3.frozen? ⟨i, j, none⟩ = w2.frozen? ⟨i, j, none⟩ := fun i j hi => t3.frozen (p := ⟨i, j, none⟩) hi (fun h => h)
    have hbl2 : b < w2.heap.size := blk_lt hb2
    have e0 := key3 _ _ _ d0; have e1 := key3 _ _ _ d1; have c0 := key3 _ _ _ b0; have c1 := key3 _ _ _ b1
    have h0 : w3.frozen? ⟨b, 0, none⟩ = false := (keyf b 0 hbl2).trans f0
    have h1 : w3.frozen? ⟨b, 1, none⟩ = false := (keyf b 1 hbl2).trans f1
    have hbx3 : w3.heap[B]? = some (.cells #[.int .i64 t0.id, .int .i64 t0.ver, .string t0.nm, .slice co t0.cols.length cc, .int .i64 t0.key] 29 (0, 0)) := by rw [hw3, hB]; exact alloc_new _ _
    obtain ⟨w4, hw4⟩ : ∃ w4, w4 = (w3.setCell ⟨b, 0, none⟩ (.slice tdo Pd.length tdc)).setCell ⟨b, 1, none⟩ (.int .i64 g') := ⟨_, rfl⟩
    have t4 : Tch (fun i => i = b) w3 w4 := by rw [hw4]; exact (Tch.setCell (fun i => i = b) w3 ⟨b, 0, none⟩ _ rfl).setCellR ⟨b, 1, none⟩ _ rfl
    have hBb : B ≠ b := by omega
    have hbx4 : w4.heap[B]? = some (.cells #[.int .i64 t0.id, .int .i64 t0.ver, .string t0.nm, .slice co t0.cols.length cc, .int .i64 t0.key] 29 (0, 0)) := by rw [t4.block B (blk_lt hbx3) hBb]; exact hbx3
    have hb4 : w4.heap[b]? = some (.cells #[.slice tdo Pd.length tdc, .int .i64 g'] 60 (0, 0)) := by
      have hb3 : w3.heap[b]? = some (.cells #[.slice to P.length tc, .int .i64 gv] 60 (0, 0)) := by rw [t3.block b hbl2 (fun h => h)]; exact hb2
      rw [hw4, blk_set (blk_set hb3 _) _]; rfl
    obtain ⟨x0, x1, x2, x3, x4⟩ : w4.cell? ⟨B, 0, none⟩ = some (.int .i64 t0.id) ∧ w4.cell? ⟨B, 1, none⟩ = some (.int .i64 t0.ver) ∧ w4.cell? ⟨B, 2, none⟩ = some (.string t0.nm) ∧ w4.cell? ⟨B, 3, none⟩ = some (.slice co t0.cols.length cc) ∧ w4.cell? ⟨B, 4, none⟩ = some (.int .i64 t0.key) := ⟨by rw [blk_cell hbx4]; rfl, by rw [blk_cell hbx4]; rfl, by rw [blk_cell hbx4]; rfl, by rw [blk_cell hbx4]; rfl, by rw [blk_cell hbx4]; rfl⟩
    have T24 : Tch (fun i => i = b) w2 w4 := (t3.mono (fun _ _ h => h.elim)).trans' t4
    have hsl4 : SL w4 co (ccl t0.cols) := by
      by_cases hc : t0.cols = []
      · rw [hc]; exact SL.nil _ _
      · exact hsl.tch T24 (fun g o e => (hnb g o e hc).1)
    have q5 := copied_any t0 co cc w4 hsl4 hno (by omega)
    have Hw3 : Hid _ := hw3
    have Hw4 : Hid _ := hw4
    have HB : Hid (B = w2.heap.size) := hB
    rw [hw4] at x0 x1 x2 x3 x4
    rw [hw3] at e0 e1 c0 c1 h0 h1
    rw [hw3, hB] at x0 x1 x2 x3 x4
    have HT24 : Hid (Tch (fun i => i = b) w2 w4) := T24
    have Hb4 : Hid (w4.heap[b]? = some (.cells #[.slice tdo Pd.length tdc, .int .i64 g'] 60 (0, 0))) := hb4
    have HCO2 : Hid _ := hCO2
    clear hw3 hw4 hB hbx3 hbx4 hb4 hb2 key3 keyf t3 t4 T24 hsl4 hsl hno hnb d0 d1 b0 b1 f0 f1 hCO2 hbl2 hBb
    go_wp2_with fail
    have hw3 := Hw3.out
    rw [← hw3]
    have hw4 := Hw4.out
    rw [← hw4]
    clear hw3 hw4 x0 x1 x2 x3 x4 e0 e1 c0 c1 h0 h1
    refine q5.mono ?_
    rintro y w5 ⟨⟨v5, rfl, hv5⟩, t5⟩
    clear q5
    obtain ⟨vo, vc, hvv⟩ := row_slice hv5
    subst hvv
    have hY5 : w5.heap[N]? = some (.cells #[.int .i64 0, .int .i64 0, .string ⟨#[]⟩, .slice none 0 0, .int .i64 0] 29 (0, 0)) := by
      rw [t5.block N (Nat.lt_of_lt_of_le (blk_lt HY2.out) HT24.out.size) (fun h => h), HT24.out.block N (blk_lt HY2.out) (by omega)]; exact HY2.out
    obtain ⟨z0, z1, z2, z3, z4⟩ : w5.cell? ⟨N, 0, none⟩ = some (.int .i64 0) ∧ w5.cell? ⟨N, 1, none⟩ = some (.int .i64 0) ∧ w5.cell? ⟨N, 2, none⟩ = some (.string ⟨#[]⟩) ∧ w5.cell? ⟨N, 3, none⟩ = some (.slice none 0 0) ∧ w5.cell? ⟨N, 4, none⟩ = some (.int .i64 0) := ⟨by rw [blk_cell hY5]; rfl, by rw [blk_cell hY5]; rfl, by rw [blk_cell hY5]; rfl, by rw [blk_cell hY5]; rfl, by rw [blk_cell hY5]; rfl⟩
    have f0 := blk_frozen hY5 0; have f1 := blk_frozen hY5 1; have f2 := blk_frozen hY5 2; have f3 := blk_frozen hY5 3; have f4 := blk_frozen hY5 4
    have HFin : Hid (∀ W', W' = ((((w5.setCell ⟨N, 0, none⟩ (.int .i64 t0.id)).setCell ⟨N, 1, none⟩ (.int .i64 t0.ver)).setCell ⟨N, 2, none⟩ (.string t0.nm)).setCell ⟨N, 3, none⟩ (.slice vo t0.cols.length vc)).setCell ⟨N, 4, none⟩ (.int .i64 t0.key) → (∀ tmps : Array Value, tmps[4]?.getD undef = .pointer (some ⟨N, 0, none⟩) → tmps[5]?.getD undef = .int .i64 0 → (results Tryz.f24 tmps).run Tryz.prog W' = .ok (.tuple #[tA t0.id t0.ver t0.nm (.slice vo t0.cols.length vc) t0.key, .int .i64 0]) W') ∧ ChgOut F b 0 t0 L' g' w (.returned (.tuple #[tA t0.id t0.ver t0.nm (.slice vo t0.cols.length vc) t0.key, .int .i64 0])) W') := fun W' hW' => by
      have tE : Tch (fun i => i = N) w5 W' := by rw [hW']; exact ((((Tch.setCell (fun i => i = N) w5 ⟨N, 0, none⟩ _ rfl).setCellR ⟨N, 1, none⟩ _ rfl).setCellR ⟨N, 2, none⟩ _ rfl).setCellR ⟨N, 3, none⟩ _ rfl).setCellR ⟨N, 4, none⟩ _ rfl
      have hb : W'.heap[N]? = some (.cells #[.int .i64 t0.id, .int .i64 t0.ver, .string t0.nm, .slice vo t0.cols.length vc, .int .i64 t0.key] 29 (0, 0)) := by
        rw [hW', blk_set (blk_set (blk_set (blk_set (blk_set hY5 _) _) _) _) _]; rfl
      have hsz4 := HT24.out.size
      have hsz2 := HT2.out.size
      have hNw := HN.out
      have h2N : N < w2.heap.size := blk_lt HY2.out
      have hCO := HCO2.out
      have hTO : TO W' (N + 1) (.slice tdo Pd.length tdc) Pd := ((hCO.to.tch HT24.out (fun i hi _ h => by omega)).tch t5 (fun _ _ _ h => h)).tch tE (fun i hi _ h => by omega)
      refine ⟨fun tmps h4 h5 => res_pair Hrs.out h4 h5 (by rw [blk_cell hb]; rfl) (by rw [blk_cell hb]; rfl) (by rw [blk_cell hb]; rfl) (by rw [blk_cell hb]; rfl) (by rw [blk_cell hb]; rfl), fun _ => ⟨.slice vo t0.cols.length vc, Pd, tdo, tdc, rfl, ?_, ⟨?_, hCO.eq, hTO.tl' (fun g hg hf => ?_), fun hf => ?_⟩, ?_⟩, fun e => absurd rfl e⟩
      · exact own_low (own_tch hv5 tE (fun g e h => by have := (hv5.lt g e).1; omega)) (by omega)
      · rw [tE.block b (Nat.lt_of_lt_of_le (blk_lt Hb4.out) t5.size) (by omega), t5.block b (blk_lt Hb4.out) (fun h => h)]; exact Hb4.out
      · have hgb : N + 1 ≤ g ∧ g < w2.heap.size := by
          rcases hg with hg | ⟨i, hi, hg⟩
          · exact hCO.to.own.lt g hg
          · exact (hCO.to.col i hi).lt g hg
        rcases hf with (hf | hf) | hf
        · have := HF.out g hf; omega
        · have := (hv5.lt g hf).1; omega
        · omega
      · rcases hf with hf | hf
        · exact Hnb.out hf
        · have := (hv5.lt b hf).1; omega
      · exact ((HT2.out.mono (T := fun i => i = b) (fun _ _ h => h.elim)).trans' (HT24.out.trans' (t5.mono (fun _ _ h => h.elim)))).trans tE (fun i hi h => by omega)
    clear hv5 hY5
    go_wp2_with fail
    refine bodyPost_ret ((HFin.out _ rfl).1 _ ?_ ?_) rfl (HFin.out _ rfl).2 <;> rfl
  · obtain ⟨rfl, tvx, gvx, nx, xsx, hbx, hgx, hox, hnx, _⟩ := hO.2 hE
    obtain ⟨w3, hcl, t3⟩ := clear_own hox
    have d0 : w2.cell? ⟨d, 0, none⟩ = some tvx := by rw [blk_cell hbx]; rfl
    obtain ⟨txo, txc, htx⟩ := row_slice hox
    subst htx
    have hb4 : (E != 0) = true := by simpa using hE
    have HE : Hid (E ≠ 0) := hE
    have Hox : Hid (∀ g, (Value.slice txo nx txc).ownBlock = some g → N + 1 ≤ g ∧ g < w2.heap.size) := fun g e => hox.lt g e
    have Ht3 : Hid _ := t3
    obtain ⟨w2a, hw2a⟩ : ∃ w2a, w2a = w2.alloc (.cells #[.int .i64 0, .int .i64 0, .string ⟨#[]⟩, .slice none 0 0, .int .i64 0] 29) := ⟨_, rfl⟩
    have ta : Tch (fun _ => False) w2 w2a := by rw [hw2a]; exact Tch.alloc _ _ _
    obtain ⟨w4, hcl4, t4⟩ := clear_own (own_tch hox ta (fun _ _ h => h))
    have d0a : w2a.cell? ⟨d, 0, none⟩ = some (.slice txo nx txc) := (ta.cell (p := ⟨d, 0, none⟩) (cell_lt d0) (fun h => h)).trans d0
    rw [hw2a] at d0a hcl4
    have hY4 : w4.heap[N]? = some (.cells #[.int .i64 0, .int .i64 0, .string ⟨#[]⟩, .slice none 0 0, .int .i64 0] 29 (0, 0)) := by
      rw [t4.block N (Nat.lt_of_lt_of_le (blk_lt HY2.out) ta.size) (fun e => by have := (Hox.out N e).1; omega), ta.block N (blk_lt HY2.out) (fun h => h)]; exact HY2.out
    obtain ⟨z0, z1, z2, z3, z4⟩ : w4.cell? ⟨N, 0, none⟩ = some (.int .i64 0) ∧ w4.cell? ⟨N, 1, none⟩ = some (.int .i64 0) ∧ w4.cell? ⟨N, 2, none⟩ = some (.string ⟨#[]⟩) ∧ w4.cell? ⟨N, 3, none⟩ = some (.slice none 0 0) ∧ w4.cell? ⟨N, 4, none⟩ = some (.int .i64 0) := ⟨by rw [blk_cell hY4]; rfl, by rw [blk_cell hY4]; rfl, by rw [blk_cell hY4]; rfl, by rw [blk_cell hY4]; rfl, by rw [blk_cell hY4]; rfl⟩
    have f0 := blk_frozen hY4 0; have f1 := blk_frozen hY4 1; have f2 := blk_frozen hY4 2; have f3 := blk_frozen hY4 3; have f4 := blk_frozen hY4 4
    have HFin : Hid (∀ W', W' = ((((w4.setCell ⟨N, 0, none⟩ (.int .i64 0)).setCell ⟨N, 1, none⟩ (.int .i64 0)).setCell ⟨N, 2, none⟩ (.string ⟨#[]⟩)).setCell ⟨N, 3, none⟩ (.slice none 0 0)).setCell ⟨N, 4, none⟩ (.int .i64 0) → (∀ tmps : Array Value, tmps[4]?.getD undef = .pointer (some ⟨N, 0, none⟩) → tmps[5]?.getD undef = .int .i64 E → (results Tryz.f24 tmps).run Tryz.prog W' = .ok (.tuple #[zA, .int .i64 E]) W') ∧ ChgOut F b E t0 L' g' w (.returned (.tuple #[zA, .int .i64 E])) W') := fun W' hW' => by
      have tE : Tch (fun i => i = N) w4 W' := by rw [hW']; exact ((((Tch.setCell (fun i => i = N) w4 ⟨N, 0, none⟩ _ rfl).setCellR ⟨N, 1, none⟩ _ rfl).setCellR ⟨N, 2, none⟩ _ rfl).setCellR ⟨N, 3, none⟩ _ rfl).setCellR ⟨N, 4, none⟩ _ rfl
      have hb : W'.heap[N]? = some (.cells #[.int .i64 0, .int .i64 0, .string ⟨#[]⟩, .slice none 0 0, .int .i64 0] 29 (0, 0)) := by
        rw [hW', blk_set (blk_set (blk_set (blk_set (blk_set hY4 _) _) _) _) _]; rfl
      refine ⟨fun tmps h4 h5 => res_pair Hrs.out h4 h5 (by rw [blk_cell hb]; rfl) (by rw [blk_cell hb]; rfl) (by rw [blk_cell hb]; rfl) (by rw [blk_cell hb]; rfl) (by rw [blk_cell hb]; rfl), fun e => absurd e HE.out, fun _ => ⟨rfl, ?_⟩⟩
      have hNw := HN.out
      exact ((HT2.out.trans' ta).trans t4 (fun i hi e => by have := (Hox.out i e).1; omega)).trans tE (fun i hi h => by omega)
    clear hY4 hE d0 hcl t3 hbx hox ta t4 hw2a
    go_wp2_with fail
    refine bodyPost_ret ((HFin.out _ rfl).1 _ ?_ ?_) rfl (HFin.out _ rfl).2 <;> rfl
end Go.Proofs.YtmfbhhloabkecaaGreatDoor.C
