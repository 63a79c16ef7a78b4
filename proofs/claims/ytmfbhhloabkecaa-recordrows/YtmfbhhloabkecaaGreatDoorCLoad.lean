import Derived.Test.YtmfbhhloabkecaaGreatDoorCWlaw
/- Load of tables that may be loaded. -/
namespace Go.Proofs.YtmfbhhloabkecaaGreatDoor.C
open Go.RowKit Go

set_option maxHeartbeats 2000000 in
set_option maxRecDepth 100000 in
theorem wtl_ok (b : Nat) (to : Option Addr) (tc : Nat) (P : List (Tbl × Value)) (F : Nat → Prop) (gv : Int) (t : Tbl) (ao : Option Addr) (c : Nat) (next : Int) (w : World) (hb : w.cell? ⟨b, 0, none⟩ = some (.slice to P.length tc)) (hb1 : w.cell? ⟨b, 1, none⟩ = some (.int .i64 gv)) (hT : TL w F to P) (hl : P.length ≤ 16)
    (ht : SL w ao (ccl t.cols)) (hc : t.cols.length ≤ c) (h8 : t.cols.length ≤ 8) (hr : rightE t = 0) (h0 : 0 ≤ gv) (h1 : gv ≤ 2147483648) (hid : gv + 1 ≤ t.id) (hnx : t.id < next) (hpos : posP (fun u => decide (u.nm = t.nm)) P = -1) :
    Calls Tryz.prog 240 #[.pointer (some ⟨b, 0, none⟩), tA t.id t.ver t.nm (.slice ao t.cols.length c) t.key, .int .i64 next] w fun x w' => x = .returned (.int .i64 0) ∧ Tch (fun _ => False) w w' := by
  obtain ⟨N, hN⟩ : ∃ N, N = w.heap.size := ⟨_, rfl⟩
  obtain ⟨n, hn⟩ : ∃ n, n = t.cols.length := ⟨_, rfl⟩
  obtain ⟨w0, hw0⟩ : ∃ w0, w0 = w.alloc (.cells #[.int .i64 t.id, .int .i64 t.ver, .string t.nm, .slice ao n c, .int .i64 t.key] 29) := ⟨_, rfl⟩
  have t0 : Tch (fun _ => False) w w0 := by rw [hw0]; exact Tch.alloc _ _ _
  have hX : w0.heap[N]? = some (.cells #[.int .i64 t.id, .int .i64 t.ver, .string t.nm, .slice ao n c, .int .i64 t.key] 29 (0, 0)) := by rw [hw0, hN]; exact alloc_new _ _
  have q1 := right_any t ao c w0 (ht.no t0) hc (by omega)
  rw [hr, ← hn] at q1
  have HB : Hid (∀ W, Tch (fun _ => False) w0 W → (W.cell? ⟨N, 0, none⟩ = some (.int .i64 t.id) ∧ W.cell? ⟨N, 1, none⟩ = some (.int .i64 t.ver) ∧ W.cell? ⟨N, 2, none⟩ = some (.string t.nm) ∧ W.cell? ⟨N, 3, none⟩ = some (.slice ao n c) ∧ W.cell? ⟨N, 4, none⟩ = some (.int .i64 t.key)) ∧ W.cell? ⟨b, 1, none⟩ = some (.int .i64 gv)) := fun W tW => by
    have h2 : W.heap[N]? = _ := (tW.block N (blk_lt hX) (fun h => h)).trans hX
    exact ⟨⟨by rw [blk_cell h2]; rfl, by rw [blk_cell h2]; rfl, by rw [blk_cell h2]; rfl, by rw [blk_cell h2]; rfl, by rw [blk_cell h2]; rfl⟩, by rw [(t0.trans' tW).cell (p := ⟨b, 1, none⟩) (cell_lt hb1) (fun h => h)]; exact hb1⟩
  have Hq2 : Hid (∀ W, Tch (fun _ => False) w0 W → Calls Tryz.prog 60 #[.pointer (some ⟨b, 0, none⟩), .string t.nm] W fun x w' => x = .returned (.int .i64 (-1)) ∧ Tch (fun _ => False) W w') := fun W tW => by
    have q := nm3_any b to tc P F t.nm W (by rw [(t0.trans' tW).cell (p := ⟨b, 0, none⟩) (cell_lt hb) (fun h => h)]; exact hb) (hT.tch (t0.trans' tW) (fun _ _ h => h.elim)) hl
    rw [hpos] at q
    exact q
  obtain ⟨⟨c0, c1, c2, c3, c4⟩, _⟩ := HB.out w0 (Tch.refl _ _)
  rw [hw0, hN] at c0 c1 c2 c3 c4
  have Hw0 : Hid _ := hw0
  have HN : Hid (N = w.heap.size) := hN
  have Ht0 : Hid (Tch (fun _ => False) w w0) := t0
  have hi1 : ¬ t.id < gv + 1 := by omega
  have hi2 : ¬ next ≤ t.id := by omega
  rw [← hn]
  clear hw0 hN hX t0 ht hT hb hb1 hpos hr hn h8 hc hid hnx
  go_enter Tryz.func240, Tryz.ntmps240
  go_wp2_with fail
  have hw0 := Hw0.out
  rw [← hw0]
  rw [← HN.out]
  clear hw0 c0 c1 c2 c3 c4
  refine q1.mono ?_
  rintro x w1 ⟨rfl, t1⟩
  clear q1
  obtain ⟨⟨c0, c1, c2, c3, c4⟩, g1⟩ := HB.out w1 t1
  have Hnx : Hid (∀ nq : Nat, Calls Tryz.prog 10 #[.pointer (some ⟨b, 0, none⟩)] (w1.drewN nq) fun x w' => x = .returned (.int .i64 (gv + 1)) ∧ w' = w1.drewN nq) := fun nq => next_any b gv (w1.drewN nq) g1 h0 h1
  go_wp2_with fail
  have hi3 : ¬ t.id < gv + 1 := by omega
  have hi4 : ¬ next ≤ t.id := by omega
  go_quiet ((go_at_call 10; exact Calls.quiet_of_same (Hnx.out _)))
  have q2 := Hq2.out (w1.drewN nq) (t1.drewN _)
  have HTq : Hid (Tch (fun _ => False) w0 (w1.drewN nq)) := t1.drewN _
  obtain ⟨⟨_, _, e2, _, _⟩, _⟩ := HB.out (w1.drewN nq) (t1.drewN _)
  clear c0 c1 c2 c3 c4 g1 t1
  go_wp2_with fail
  refine q2.mono ?_
  rintro x w2 ⟨rfl, t2⟩
  clear q2 e2
  go_wp2_with fail
  go_ret
  exact ⟨rfl, (Ht0.out.trans' HTq.out).trans' t2⟩
/-- What Load gives. -/
def LoadOut (L : List Tbl) (base : Nat) (gv : Int) (x : Ending) (w' : World) : Prop := ∃ d P tv, x = .returned (.tuple #[.pointer (some ⟨d, 0, none⟩), .int .i64 0]) ∧ CO w' base d L gv P tv
/-- Tables that may be loaded. -/
structure LD (l : List (Tbl × Value)) (next : Int) : Prop where
  len : l.length ≤ 16
  cols : ∀ i (hi : i < l.length), l[i].1.cols.length ≤ 8
  right : ∀ i (hi : i < l.length), rightE l[i].1 = 0
  ids : ∀ i (hi : i < l.length), 1 ≤ l[i].1.id ∧ l[i].1.id < next
  rise : ∀ i j (hi : i < l.length) (hj : j < l.length), i < j → l[i].1.id < l[j].1.id
  nms : ∀ i j (hi : i < l.length) (hj : j < l.length), i < j → l[i].1.nm ≠ l[j].1.nm

set_option maxHeartbeats 4000000 in
set_option maxRecDepth 100000 in
theorem load_ok (l : List (Tbl × Value)) (lo : Option Addr) (lc : Nat) (F : Nat → Prop) (next : Int) (w : World) (hT : TL w F lo l) (hD : LD l next) (h1 : 1 ≤ next) (h2 : next ≤ 2147483648) :
    Calls Tryz.prog 237 #[.slice lo l.length lc, .int .i64 next] w fun x w' => LoadOut (l.map Prod.fst) w.heap.size (next - 1) x w' ∧ Tch (fun _ => False) w w' := by
  obtain ⟨n, hn⟩ : ∃ n, n = l.length := ⟨_, rfl⟩
  obtain ⟨N, hN⟩ : ∃ N, N = w.heap.size := ⟨_, rfl⟩
  have q1 := new_any w
  obtain ⟨w1, hw1⟩ : ∃ w1, w1 = w.alloc (.cells #[.slice none 0 0, .int .i64 0] 60) := ⟨_, rfl⟩
  rw [← hw1, ← hN] at q1
  have t1 : Tch (fun _ => False) w w1 := by rw [hw1]; exact Tch.alloc _ _ _
  have hb1 : w1.heap[N]? = some (.cells #[.slice none 0 0, .int .i64 0] 60 (0, 0)) := by rw [hw1, hN]; exact alloc_new _ _
  have HCO1 : Hid (CO w1 N N [] 0 [] (.slice none 0 0)) := ⟨hb1, Nat.le_refl _, rfl, ⟨World.ownsRow_nil _ _ _ _, fun i hi => by simp at hi, fun i hi => by simp at hi, fun i j hi => by simp at hi⟩, by simp [Value.ownBlock], fun i hi => by simp at hi⟩
  have Ht1 : Hid (Tch (fun _ => False) w w1) := t1
  have HN : Hid (N = w.heap.size) := hN
  have Hn : Hid (n = l.length) := hn
  have HD : Hid (LD l next) := hD
  have HT : Hid (TL w F lo l) := hT
  have hn16 : ¬ (16 : Int) < n := by have := hD.len; omega
  have hx1 : ¬ next < 1 := by omega
  have hx2 : ¬ (2147483648 : Int) < next := by omega
  have hnI : n ≤ 16 := by omega
  rw [← hn]
  clear hT hD hN hn t1 hb1 hw1
  go_enter Tryz.func237, Tryz.ntmps237
  go_wp2_with fail
  refine q1.mono ?_
  rintro y w1' ⟨rfl, hw1'⟩
  obtain rfl := hw1'.symm
  clear q1 hw1'
  go_wp2_with fail
  go_loopw [24] (fun iv wr => ∃ (k : Nat) (P : List (Tbl × Value)) (tv : Value) (gv : Int), iv = .int .i64 k ∧ k ≤ n ∧ Hid (CO wr N N ((l.take k).map Prod.fst) gv P tv ∧ (0 ≤ gv ∧ gv ≤ 2147483648) ∧ ∀ hk : k < l.length, gv + 1 ≤ l[k].1.id) ∧ Hid (Tch (fun i => N ≤ i) w1 wr)) (fun iv _ => n - (intOf iv).toNat)
  case atStart => exact ⟨0, [], _, 0, rfl, by omega, ⟨HCO1.out, ⟨by omega, by omega⟩, fun hk => by have := (HD.out.ids 0 hk).1; omega⟩, Tch.refl _ _⟩
  case round =>
    clear HCO1
    obtain ⟨k, P, tv, gv, rfl, hk, HC, HTr⟩ := hrel
    obtain ⟨wV, hwV⟩ : ∃ wV, wV = wr := ⟨_, rfl⟩
    subst hwV
    by_cases hlt : (k : Int) < n
    · have hkl : k < l.length := by have := Hn.out; omega
      have hTw : Tch (fun i => N ≤ i) w wV := (Ht1.out.mono (fun _ _ h => h.elim)).trans' HTr.out
      have hTL := HT.out.tch (S := fun _ => False) (W' := w) (Tch.refl _ _) (fun _ _ h => h.elim)
      have hTV : TL wV F lo l := HT.out.tch (hTw.mono (T := fun _ => False) (fun i hi h => by have h3 : N ≤ i := h; have := HN.out; omega)) (fun _ _ h => h.elim)
      obtain ⟨g, o, rfl, c0, c1, c2, c3, c4⟩ := hTV.at k hkl
      obtain ⟨co, cc, hck⟩ := hTV.col k hkl
      obtain ⟨t, ht⟩ : ∃ t, t = l[k].1 := ⟨_, rfl⟩
      have hck2 : l[k].2 = .slice co t.cols.length cc := by rw [ht]; exact hck.eq
      rw [hck2] at c3
      rw [← ht] at c0 c1 c2 c4
      obtain ⟨m, hm⟩ : ∃ m, m = t.cols.length := ⟨_, rfl⟩
      rw [← hm] at c3
      obtain ⟨to, tc, rfl⟩ := row_slice HC.out.1.to.own
      obtain ⟨w2, hw2⟩ : ∃ w2, w2 = wV.alloc (.cells #[.int .i64 t.id, .int .i64 t.ver, .string t.nm, .slice co m cc, .int .i64 t.key] 29) := ⟨_, rfl⟩
      obtain ⟨M, hM⟩ : ∃ M, M = wV.heap.size := ⟨_, rfl⟩
      have t2 : Tch (fun _ => False) wV w2 := by rw [hw2]; exact Tch.alloc _ _ _
      have hb2 : w2.heap[M]? = some (.cells #[.int .i64 t.id, .int .i64 t.ver, .string t.nm, .slice co m cc, .int .i64 t.key] 29 (0, 0)) := by rw [hw2, hM]; exact alloc_new _ _
      have hPl : P.length = k := by
        have h3 := congrArg List.length HC.out.1.eq
        rw [List.length_map, List.length_map, List.length_take] at h3
        omega
      have hPi : ∀ i (hi : i < P.length), P[i].1 = (l[i]'(by omega)).1 := fun i hi => by
        have h3 : (P.map Prod.fst)[i]? = ((l.take k).map Prod.fst)[i]? := by rw [HC.out.1.eq]
        rw [List.getElem?_map, List.getElem?_map, List.getElem?_eq_getElem hi, List.getElem?_take, if_pos (by omega), List.getElem?_eq_getElem (by omega)] at h3
        simpa using h3
      have hpos : posP (fun u => decide (u.nm = t.nm)) P = -1 := posP_none (fun i hi => by
        rw [hPi i hi, ht]
        exact decide_eq_false (HD.out.nms i k (by omega) hkl (by omega)))
      have hCO2 := HC.out.1.tch t2 (fun _ _ _ h => h)
      have hck3 : SL w2 co (ccl t.cols) := by rw [ht]; exact hck.sl.no t2
      have hcap : t.cols.length ≤ cc := by rw [ht]; exact hck.cap
      have hno : co = none → t.cols = [] ∧ cc = 0 := by rw [ht]; exact hck.no
      have h8 : t.cols.length ≤ 8 := by rw [ht]; exact HD.out.cols k hkl
      have hid : gv + 1 ≤ t.id := by rw [ht]; exact HC.out.2.2 hkl
      have hnx : t.id < next := by rw [ht]; exact (HD.out.ids k hkl).2
      have q2 := wtl_ok N to tc P _ gv t co cc next w2 (by rw [blk_cell hCO2.blk]; rfl) (by rw [blk_cell hCO2.blk]; rfl) hCO2.to.toTL (by omega) hck3 hcap h8 (by rw [ht]; exact HD.out.right k hkl) HC.out.2.1.1 HC.out.2.1.2 hid hnx hpos
      rw [← hm] at q2
      have Hq3 : Hid (∀ W, Tch (fun _ => False) w2 W → Calls Tryz.prog 61 #[.pointer (some ⟨N, 0, none⟩), tA t.id t.ver t.nm (.slice co m cc) t.key] W fun x w' => x = .returned (.tuple #[]) ∧ (∃ P' tv', CO w' N N (((l.take k).map Prod.fst) ++ [t]) t.id P' tv' ∧ P'.length = P.length + 1 ∧ ∀ g, BL tv' P' g → BL (.slice to P.length tc) P g ∨ W.heap.size ≤ g) ∧ Tch (fun i => i = N ∨ (Value.slice to P.length tc).ownBlock = some i) W w') := fun W tW => by
        have q := add_any N N ((l.take k).map Prod.fst) gv P (.slice to P.length tc) t co cc W (hCO2.tch tW (fun _ _ _ h => h)) ⟨hck3.no tW, hno, hcap⟩ h8 (by omega) (by have := hTw.size; have := (t2.trans' tW).size; have := HN.out; omega)
        rw [← hm] at q
        exact q
      have Hcell : Hid (∀ W, Tch (fun _ => False) w2 W → W.cell? ⟨M, 0, none⟩ = some (.int .i64 t.id) ∧ W.cell? ⟨M, 1, none⟩ = some (.int .i64 t.ver) ∧ W.cell? ⟨M, 2, none⟩ = some (.string t.nm) ∧ W.cell? ⟨M, 3, none⟩ = some (.slice co m cc) ∧ W.cell? ⟨M, 4, none⟩ = some (.int .i64 t.key)) := fun W tW => by
        have h3 : W.heap[M]? = _ := (tW.block M (blk_lt hb2) (fun h => h)).trans hb2
        exact ⟨by rw [blk_cell h3]; rfl, by rw [blk_cell h3]; rfl, by rw [blk_cell h3]; rfl, by rw [blk_cell h3]; rfl, by rw [blk_cell h3]; rfl⟩
      have Hstep : Hid (∀ W W' P' tv', Tch (fun _ => False) w2 W → CO W' N N (((l.take k).map Prod.fst) ++ [t]) t.id P' tv' → Tch (fun i => i = N ∨ (Value.slice to P.length tc).ownBlock = some i) W W' → (CO W' N N ((l.take (k + 1)).map Prod.fst) t.id P' tv' ∧ (0 ≤ t.id ∧ t.id ≤ 2147483648) ∧ ∀ hk : k + 1 < l.length, t.id + 1 ≤ l[k + 1].1.id) ∧ Tch (fun i => N ≤ i) w1 W') := fun W W' P' tv' tW hc tw => by
        refine ⟨⟨?_, ⟨by have := HC.out.2.1.1; omega, by omega⟩, fun hk2 => ?_⟩, ?_⟩
        · rw [List.take_succ_eq_append_getElem hkl, List.map_append]
          have e : [l[k]].map Prod.fst = [t] := by rw [ht]; rfl
          rw [e]; exact hc
        · have := HD.out.rise k (k + 1) hkl hk2 (by omega)
          rw [ht]; omega
        · refine (HTr.out.trans' ((t2.trans' tW).mono (fun _ _ h => h.elim))).trans' (tw.mono (fun i _ h => ?_))
          rcases h with h | h
          · show N ≤ i; omega
          · exact (HC.out.1.to.own.lt i h).1
      have Ht2 : Hid (Tch (fun _ => False) wV w2) := t2
      obtain ⟨b0, b1, b2, b3, b4⟩ := Hcell.out w2 (Tch.refl _ _)
      rw [hw2, hM] at b0 b1 b2 b3 b4
      have Hw2 : Hid _ := hw2
      have HM : Hid (M = wV.heap.size) := hM
      clear hw2 hM t2 hb2 hPl hPi hpos hCO2 hck3 hcap hno h8 hid hnx hm ht hck hck2 hTL hTV hTw HC HTr
      go_wp2_with fail
      have hw2 := Hw2.out
      rw [← hw2]
      rw [← HM.out]
      clear hw2 c0 c1 c2 c3 c4 b0 b1 b2 b3 b4
      refine q2.mono ?_
      rintro y w3 ⟨rfl, t3⟩
      clear q2
      have q3 := Hq3.out w3 t3
      obtain ⟨b0, b1, b2, b3, b4⟩ := Hcell.out w3 t3
      go_wp2_with fail
      refine q3.mono ?_
      rintro y w4 ⟨rfl, ⟨P', tv', hc4, _, _⟩, t4⟩
      clear q3 b0 b1 b2 b3 b4
      obtain ⟨s1, s2⟩ := Hstep.out w3 w4 P' tv' t3 hc4 t4
      have S1 : Hid _ := s1
      have S2 : Hid (Tch (fun i => N ≤ i) w1 w4) := s2
      clear s1 s2 hc4 t4 t3
      go_wp2_with fail
      exact ⟨⟨k + 1, P', tv', t.id, by simp, by omega, S1, S2⟩, by simp [intOf]; omega⟩
    · obtain rfl : k = n := by omega
      have hfin : CO wV N N (l.map Prod.fst) gv P tv := by
        have h3 := HC.out.1
        rw [List.take_of_length_le (by have := Hn.out; omega)] at h3
        exact h3
      have b1 : wV.cell? ⟨N, 1, none⟩ = some (.int .i64 gv) := by rw [blk_cell hfin.blk]; rfl
      have f1 := blk_frozen hfin.blk 1
      have HFin : Hid (LoadOut (l.map Prod.fst) w.heap.size (next - 1) (.returned (.tuple #[.pointer (some ⟨N, 0, none⟩), .int .i64 0])) (wV.setCell ⟨N, 1, none⟩ (.int .i64 (next - 1))) ∧ Tch (fun _ => False) w (wV.setCell ⟨N, 1, none⟩ (.int .i64 (next - 1)))) := by
        have tS : Tch (fun i => i = N) wV (wV.setCell ⟨N, 1, none⟩ (.int .i64 (next - 1))) := Tch.setCell _ _ _ _ rfl
        refine ⟨⟨N, P, tv, rfl, by rw [blk_set hfin.blk]; rfl, by have := HN.out; omega, hfin.eq, ?_, hfin.nb⟩, ?_⟩
        · rw [← HN.out]
          exact hfin.to.tch2 tS (fun g e e2 => hfin.nb.1 (by rw [← e2]; exact e)) (fun i hi g e e2 => hfin.nb.2 i hi (by rw [← e2]; exact e))
        · refine (Ht1.out.trans HTr.out (fun i hi h => ?_)).trans tS (fun i hi h => ?_)
          · have h3 : N ≤ i := h
            have := HN.out; omega
          · have h3 : i = N := h
            have := HN.out; omega
      clear hfin HC HTr
      go_wp2_with fail
      go_ret2
      exact HFin.out
end Go.Proofs.YtmfbhhloabkecaaGreatDoor.C
