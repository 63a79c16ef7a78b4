import Derived.Test.YtmfbhhloabkecaaGreatDoorCWlaw
import Derived.Test.YtmfbhhloabkecaaGreatDoorRV0
import Derived.Test.YtmfbhhloabkecaaGreatDoorRV6
import Derived.Lib.QuietBelow
set_option maxHeartbeats 4000000
set_option maxRecDepth 100000
namespace Go.Proofs.YtmfbhhloabkecaaGreatDoor.C
open Go.RowKit Go
theorem wtl_ok (b : Nat) (to : Option Addr) (tc : Nat) (P : List (Tbl × Value)) (F : Nat → Prop) (gv : Int) (t : Tbl) (ao : Option Addr) (c : Nat) (next : Int) (w : World) (hb : w.cell? ⟨b, 0, none⟩ = some (.slice to P.length tc)) (hb1 : w.cell? ⟨b, 1, none⟩ = some (.int .i64 gv)) (hT : TL w F to P) (hl : P.length ≤ 16)
    (ht : SL w ao (ccl t.cols)) (hc : t.cols.length ≤ c) (h8 : t.cols.length ≤ 8) (hr : rightE t = 0) (h0 : 0 ≤ gv) (h1 : gv ≤ 2147483648) (hid : gv + 1 ≤ t.id) (hnx : t.id < next) (hpos : posP (fun u => decide (u.nm = t.nm)) P = -1) :
    Calls Tryz.prog 240 #[.pointer (some ⟨b, 0, none⟩), tA t.id t.ver t.nm (.slice ao t.cols.length c) t.key, .int .i64 next] w fun x w' => x = .returned (.int .i64 0) ∧ Tch (fun _ => False) w w' := by
  obtain ⟨N, hN⟩ : ∃ N, N = w.heap.size := ⟨_, rfl⟩
  obtain ⟨n, hn⟩ : ∃ n, n = t.cols.length := ⟨_, rfl⟩
  obtain ⟨w0, hw0⟩ : ∃ w0, w0 = w.alloc (.cells #[.int .i64 t.id, .int .i64 t.ver, .string t.nm, .slice ao n c, .int .i64 t.key] 29) := ⟨_, rfl⟩
  have t0 : Tch (fun _ => False) w w0 := by rw [hw0]; exact Tch.alloc _ _ _
  have hX : w0.heap[N]? = some (.cells #[.int .i64 t.id, .int .i64 t.ver, .string t.nm, .slice ao n c, .int .i64 t.key] 29 (0, 0)) := by rw [hw0, hN]; exact alloc_new _ _
  have q1 := right_any t ao c w0 (ht.no t0) hc (by omega)
  rw [hr, ← hn] at q1
  have HB : Hid (∀ W, Tch (fun _ => False) w0 W → (W.cell? ⟨N, 0, none⟩ = some (.int .i64 t.id) ∧ W.cell? ⟨N, 1, none⟩ = some (.int .i64 t.ver) ∧ W.cell? ⟨N, 2, none⟩ = some (.string t.nm) ∧ W.cell? ⟨N, 3, none⟩ = some (.slice ao n c) ∧ W.cell? ⟨N, 4, none⟩ = some (.int .i64 t.key)) ∧ W.cell? ⟨b, 1, none⟩ = some (.int .i64 gv)) := fun W tW => by
    have h2 : W.heap[N]? = _ := (tW.block N (blk_lt hX) (fun h => h)).trans hX
    exact ⟨⟨by rw [blk_cell h2]; rfl, by rw [blk_cell h2]; rfl, by rw [blk_cell h2]; rfl, by rw [blk_cell h2]; rfl, by rw [blk_cell h2]; rfl⟩, by rw [(t0.trans' tW).cell (p := ⟨b, 1, none⟩) (cell_lt hb1) (fun h => h)]; exact hb1⟩
  have Hq2 : Hid (∀ W, Tch (fun _ => False) w0 W → Calls Tryz.prog 60 #[.pointer (some ⟨b, 0, none⟩), .string t.nm] W fun x w' => x = .returned (.int .i64 (-1)) ∧ Tch (fun _ => False) W w') := fun W tW => by
    have q := nm3_any b to tc P F t.nm W (by rw [(t0.trans' tW).cell (p := ⟨b, 0, none⟩) (cell_lt hb) (fun h => h)]; exact hb) (hT.tch (t0.trans' tW) (fun _ _ h => h.elim)) hl
    rw [hpos] at q
    exact q
  obtain ⟨⟨c0, c1, c2, c3, c4⟩, _⟩ := HB.out w0 (Tch.refl _ _)
  rw [hw0, hN] at c0 c1 c2 c3 c4
  have Hw0 : Hid _ := hw0
  have HN : Hid (N = w.heap.size) := hN
  have Ht0 : Hid (Tch (fun _ => False) w w0) := t0
  have hi1 : ¬ t.id < gv + 1 := by omega
  have hi2 : ¬ next ≤ t.id := by omega
  rw [← hn]
  clear hw0 hN hX t0 ht hT hb hb1 hpos hr hn h8 hc hid hnx
  go_enter Tryz.func240, Tryz.ntmps240
  go_wp2_with fail
  have hw0 := Hw0.out
  rw [← hw0]
  rw [← HN.out]
  clear hw0 c0 c1 c2 c3 c4
  refine q1.mono ?_
  rintro x w1 ⟨rfl, t1⟩
  clear q1
  obtain ⟨⟨c0, c1, c2, c3, c4⟩, g1⟩ := HB.out w1 t1
  have Hnx : Hid (∀ nq : Nat, Calls Tryz.prog 10 #[.pointer (some ⟨b, 0, none⟩)] (w1.drewN nq) fun x w' => x = .returned (.int .i64 (gv + 1)) ∧ w' = w1.drewN nq) := fun nq => next_any b gv (w1.drewN nq) g1 h0 h1
  go_wp2_with fail
  have hi3 : ¬ t.id < gv + 1 := by omega
  have hi4 : ¬ next ≤ t.id := by omega
  go_quiet ((go_at_call 10; exact Calls.quiet_of_same (Hnx.out _)))
  have q2 := Hq2.out (w1.drewN nq) (t1.drewN _)
  have HTq : Hid (Tch (fun _ => False) w0 (w1.drewN nq)) := t1.drewN _
  obtain ⟨⟨_, _, e2, _, _⟩, _⟩ := HB.out (w1.drewN nq) (t1.drewN _)
  clear c0 c1 c2 c3 c4 g1 t1
  go_wp2_with fail
  refine q2.mono ?_
  rintro x w2 ⟨rfl, t2⟩
  clear q2 e2
  go_wp2_with fail
  go_ret
  exact ⟨rfl, (Ht0.out.trans' HTq.out).trans' t2⟩
def LoadOut (L : List Tbl) (base : Nat) (gv : Int) (x : Ending) (w' : World) : Prop := ∃ d P tv, x = .returned (.tuple #[.pointer (some ⟨d, 0, none⟩), .int .i64 0]) ∧ CO w' base d L gv P tv
structure LD (l : List (Tbl × Value)) (next : Int) : Prop where
  len : l.length ≤ 16
  cols : ∀ i (hi : i < l.length), l[i].1.cols.length ≤ 8
  right : ∀ i (hi : i < l.length), rightE l[i].1 = 0
  ids : ∀ i (hi : i < l.length), 1 ≤ l[i].1.id ∧ l[i].1.id < next
  rise : ∀ i j (hi : i < l.length) (hj : j < l.length), i < j → l[i].1.id < l[j].1.id
  nms : ∀ i j (hi : i < l.length) (hj : j < l.length), i < j → l[i].1.nm ≠ l[j].1.nm
theorem load_ok (l : List (Tbl × Value)) (lo : Option Addr) (lc : Nat) (F : Nat → Prop) (next : Int) (w : World) (hT : TL w F lo l) (hD : LD l next) (h1 : 1 ≤ next) (h2 : next ≤ 2147483648) :
    Calls Tryz.prog 237 #[.slice lo l.length lc, .int .i64 next] w fun x w' => LoadOut (l.map Prod.fst) w.heap.size (next - 1) x w' ∧ Tch (fun _ => False) w w' := by
  obtain ⟨n, hn⟩ : ∃ n, n = l.length := ⟨_, rfl⟩
  obtain ⟨N, hN⟩ : ∃ N, N = w.heap.size := ⟨_, rfl⟩
  have q1 := new_any w
  obtain ⟨w1, hw1⟩ : ∃ w1, w1 = w.alloc (.cells #[.slice none 0 0, .int .i64 0] 60) := ⟨_, rfl⟩
  rw [← hw1, ← hN] at q1
  have t1 : Tch (fun _ => False) w w1 := by rw [hw1]; exact Tch.alloc _ _ _
  have hb1 : w1.heap[N]? = some (.cells #[.slice none 0 0, .int .i64 0] 60 (0, 0)) := by rw [hw1, hN]; exact alloc_new _ _
  have HCO1 : Hid (CO w1 N N [] 0 [] (.slice none 0 0)) := ⟨hb1, Nat.le_refl _, rfl, ⟨World.ownsRow_nil _ _ _ _, fun i hi => by simp at hi, fun i hi => by simp at hi, fun i j hi => by simp at hi⟩, by simp [Value.ownBlock], fun i hi => by simp at hi⟩
  have Ht1 : Hid (Tch (fun _ => False) w w1) := t1
  have HN : Hid (N = w.heap.size) := hN
  have Hn : Hid (n = l.length) := hn
  have HD : Hid (LD l next) := hD
  have HT : Hid (TL w F lo l) := hT
  have hn16 : ¬ (16 : Int) < n := by have := hD.len; omega
  have hx1 : ¬ next < 1 := by omega
  have hx2 : ¬ (2147483648 : Int) < next := by omega
  have hnI : n ≤ 16 := by omega
  rw [← hn]
  clear hT hD hN hn t1 hb1 hw1
  go_enter Tryz.func237, Tryz.ntmps237
  go_wp2_with fail
  refine q1.mono ?_
  rintro y w1' ⟨rfl, hw1'⟩
  obtain rfl := hw1'.symm
  clear q1 hw1'
  go_wp2_with fail
  go_loopw [24] (fun iv wr => ∃ (k : Nat) (P : List (Tbl × Value)) (tv : Value) (gv : Int), iv = .int .i64 k ∧ k ≤ n ∧ Hid (CO wr N N ((l.take k).map Prod.fst) gv P tv ∧ (0 ≤ gv ∧ gv ≤ 2147483648) ∧ ∀ hk : k < l.length, gv + 1 ≤ l[k].1.id) ∧ Hid (Tch (fun i => N ≤ i) w1 wr)) (fun iv _ => n - (intOf iv).toNat)
  case atStart => exact ⟨0, [], _, 0, rfl, by omega, ⟨HCO1.out, ⟨by omega, by omega⟩, fun hk => by have := (HD.out.ids 0 hk).1; omega⟩, Tch.refl _ _⟩
  case round =>
    clear HCO1
    obtain ⟨k, P, tv, gv, rfl, hk, HC, HTr⟩ := hrel
    obtain ⟨wV, hwV⟩ : ∃ wV, wV = wr := ⟨_, rfl⟩
    subst hwV
    by_cases hlt : (k : Int) < n
    · have hkl : k < l.length := by have := Hn.out; omega
      have hTw : Tch (fun i => N ≤ i) w wV := (Ht1.out.mono (fun _ _ h => h.elim)).trans' HTr.out
      have hTL := HT.out.tch (S := fun _ => False) (W' := w) (Tch.refl _ _) (fun _ _ h => h.elim)
      have hTV : TL wV F lo l := HT.out.tch (hTw.mono (T := fun _ => False) (fun i hi h => by have h3 : N ≤ i := h; have := HN.out; omega)) (fun _ _ h => h.elim)
      obtain ⟨g, o, rfl, c0, c1, c2, c3, c4⟩ := hTV.at k hkl
      obtain ⟨co, cc, hck⟩ := hTV.col k hkl
      obtain ⟨t, ht⟩ : ∃ t, t = l[k].1 := ⟨_, rfl⟩
      have hck2 : l[k].2 = .slice co t.cols.length cc := by rw [ht]; exact hck.eq
      rw [hck2] at c3
      rw [← ht] at c0 c1 c2 c4
      obtain ⟨m, hm⟩ : ∃ m, m = t.cols.length := ⟨_, rfl⟩
      rw [← hm] at c3
      obtain ⟨to, tc, rfl⟩ := row_slice HC.out.1.to.own
      obtain ⟨w2, hw2⟩ : ∃ w2, w2 = wV.alloc (.cells #[.int .i64 t.id, .int .i64 t.ver, .string t.nm, .slice co m cc, .int .i64 t.key] 29) := ⟨_, rfl⟩
      obtain ⟨M, hM⟩ : ∃ M, M = wV.heap.size := ⟨_, rfl⟩
      have t2 : Tch (fun _ => False) wV w2 := by rw [hw2]; exact Tch.alloc _ _ _
      have hb2 : w2.heap[M]? = some (.cells #[.int .i64 t.id, .int .i64 t.ver, .string t.nm, .slice co m cc, .int .i64 t.key] 29 (0, 0)) := by rw [hw2, hM]; exact alloc_new _ _
      have hPl : P.length = k := by
        have h3 := congrArg List.length HC.out.1.eq
        rw [List.length_map, List.length_map, List.length_take] at h3
        omega
      have hPi : ∀ i (hi : i < P.length), P[i].1 = (l[i]'(by omega)).1 := fun i hi => by
        have h3 : (P.map Prod.fst)[i]? = ((l.take k).map Prod.fst)[i]? := by rw [HC.out.1.eq]
        rw [List.getElem?_map, List.getElem?_map, List.getElem?_eq_getElem hi, List.getElem?_take, if_pos (by omega), List.getElem?_eq_getElem (by omega)] at h3
        simpa using h3
      have hpos : posP (fun u => decide (u.nm = t.nm)) P = -1 := posP_none (fun i hi => by
        rw [hPi i hi, ht]
        exact decide_eq_false (HD.out.nms i k (by omega) hkl (by omega)))
      have hCO2 := HC.out.1.tch t2 (fun _ _ _ h => h)
      have hck3 : SL w2 co (ccl t.cols) := by rw [ht]; exact hck.sl.no t2
      have hcap : t.cols.length ≤ cc := by rw [ht]; exact hck.cap
      have hno : co = none → t.cols = [] ∧ cc = 0 := by rw [ht]; exact hck.no
      have h8 : t.cols.length ≤ 8 := by rw [ht]; exact HD.out.cols k hkl
      have hid : gv + 1 ≤ t.id := by rw [ht]; exact HC.out.2.2 hkl
      have hnx : t.id < next := by rw [ht]; exact (HD.out.ids k hkl).2
      have q2 := wtl_ok N to tc P _ gv t co cc next w2 (by rw [blk_cell hCO2.blk]; rfl) (by rw [blk_cell hCO2.blk]; rfl) hCO2.to.toTL (by omega) hck3 hcap h8 (by rw [ht]; exact HD.out.right k hkl) HC.out.2.1.1 HC.out.2.1.2 hid hnx hpos
      rw [← hm] at q2
      have Hq3 : Hid (∀ W, Tch (fun _ => False) w2 W → Calls Tryz.prog 61 #[.pointer (some ⟨N, 0, none⟩), tA t.id t.ver t.nm (.slice co m cc) t.key] W fun x w' => x = .returned (.tuple #[]) ∧ (∃ P' tv', CO w' N N (((l.take k).map Prod.fst) ++ [t]) t.id P' tv' ∧ P'.length = P.length + 1 ∧ ∀ g, BL tv' P' g → BL (.slice to P.length tc) P g ∨ W.heap.size ≤ g) ∧ Tch (fun i => i = N ∨ (Value.slice to P.length tc).ownBlock = some i) W w') := fun W tW => by
        have q := add_any N N ((l.take k).map Prod.fst) gv P (.slice to P.length tc) t co cc W (hCO2.tch tW (fun _ _ _ h => h)) ⟨hck3.no tW, hno, hcap⟩ h8 (by omega) (by have := hTw.size; have := (t2.trans' tW).size; have := HN.out; omega)
        rw [← hm] at q
        exact q
      have Hcell : Hid (∀ W, Tch (fun _ => False) w2 W → W.cell? ⟨M, 0, none⟩ = some (.int .i64 t.id) ∧ W.cell? ⟨M, 1, none⟩ = some (.int .i64 t.ver) ∧ W.cell? ⟨M, 2, none⟩ = some (.string t.nm) ∧ W.cell? ⟨M, 3, none⟩ = some (.slice co m cc) ∧ W.cell? ⟨M, 4, none⟩ = some (.int .i64 t.key)) := fun W tW => by
        have h3 : W.heap[M]? = _ := (tW.block M (blk_lt hb2) (fun h => h)).trans hb2
        exact ⟨by rw [blk_cell h3]; rfl, by rw [blk_cell h3]; rfl, by rw [blk_cell h3]; rfl, by rw [blk_cell h3]; rfl, by rw [blk_cell h3]; rfl⟩
      have Hstep : Hid (∀ W W' P' tv', Tch (fun _ => False) w2 W → CO W' N N (((l.take k).map Prod.fst) ++ [t]) t.id P' tv' → Tch (fun i => i = N ∨ (Value.slice to P.length tc).ownBlock = some i) W W' → (CO W' N N ((l.take (k + 1)).map Prod.fst) t.id P' tv' ∧ (0 ≤ t.id ∧ t.id ≤ 2147483648) ∧ ∀ hk : k + 1 < l.length, t.id + 1 ≤ l[k + 1].1.id) ∧ Tch (fun i => N ≤ i) w1 W') := fun W W' P' tv' tW hc tw => by
        refine ⟨⟨?_, ⟨by have := HC.out.2.1.1; omega, by omega⟩, fun hk2 => ?_⟩, ?_⟩
        · rw [List.take_succ_eq_append_getElem hkl, List.map_append]
          have e : [l[k]].map Prod.fst = [t] := by rw [ht]; rfl
          rw [e]; exact hc
        · have := HD.out.rise k (k + 1) hkl hk2 (by omega)
          rw [ht]; omega
        · refine (HTr.out.trans' ((t2.trans' tW).mono (fun _ _ h => h.elim))).trans' (tw.mono (fun i _ h => ?_))
          rcases h with h | h
          · show N ≤ i; omega
          · exact (HC.out.1.to.own.lt i h).1
      have Ht2 : Hid (Tch (fun _ => False) wV w2) := t2
      obtain ⟨b0, b1, b2, b3, b4⟩ := Hcell.out w2 (Tch.refl _ _)
      rw [hw2, hM] at b0 b1 b2 b3 b4
      have Hw2 : Hid _ := hw2
      have HM : Hid (M = wV.heap.size) := hM
      clear hw2 hM t2 hb2 hPl hPi hpos hCO2 hck3 hcap hno h8 hid hnx hm ht hck hck2 hTL hTV hTw HC HTr
      go_wp2_with fail
      have hw2 := Hw2.out
      rw [← hw2]
      rw [← HM.out]
      clear hw2 c0 c1 c2 c3 c4 b0 b1 b2 b3 b4
      refine q2.mono ?_
      rintro y w3 ⟨rfl, t3⟩
      clear q2
      have q3 := Hq3.out w3 t3
      obtain ⟨b0, b1, b2, b3, b4⟩ := Hcell.out w3 t3
      go_wp2_with fail
      refine q3.mono ?_
      rintro y w4 ⟨rfl, ⟨P', tv', hc4, _, _⟩, t4⟩
      clear q3 b0 b1 b2 b3 b4
      obtain ⟨s1, s2⟩ := Hstep.out w3 w4 P' tv' t3 hc4 t4
      have S1 : Hid _ := s1
      have S2 : Hid (Tch (fun i => N ≤ i) w1 w4) := s2
      clear s1 s2 hc4 t4 t3
      go_wp2_with fail
      exact ⟨⟨k + 1, P', tv', t.id, by simp, by omega, S1, S2⟩, by simp [intOf]; omega⟩
    · obtain rfl : k = n := by omega
      have hfin : CO wV N N (l.map Prod.fst) gv P tv := by
        have h3 := HC.out.1
        rw [List.take_of_length_le (by have := Hn.out; omega)] at h3
        exact h3
      have b1 : wV.cell? ⟨N, 1, none⟩ = some (.int .i64 gv) := by rw [blk_cell hfin.blk]; rfl
      have f1 := blk_frozen hfin.blk 1
      have HFin : Hid (LoadOut (l.map Prod.fst) w.heap.size (next - 1) (.returned (.tuple #[.pointer (some ⟨N, 0, none⟩), .int .i64 0])) (wV.setCell ⟨N, 1, none⟩ (.int .i64 (next - 1))) ∧ Tch (fun _ => False) w (wV.setCell ⟨N, 1, none⟩ (.int .i64 (next - 1)))) := by
        have tS : Tch (fun i => i = N) wV (wV.setCell ⟨N, 1, none⟩ (.int .i64 (next - 1))) := Tch.setCell _ _ _ _ rfl
        refine ⟨⟨N, P, tv, rfl, by rw [blk_set hfin.blk]; rfl, by have := HN.out; omega, hfin.eq, ?_, hfin.nb⟩, ?_⟩
        · rw [← HN.out]
          exact hfin.to.tch2 tS (fun g e e2 => hfin.nb.1 (by rw [← e2]; exact e)) (fun i hi g e e2 => hfin.nb.2 i hi (by rw [← e2]; exact e))
        · refine (Ht1.out.trans HTr.out (fun i hi h => ?_)).trans tS (fun i hi h => ?_)
          · have h3 : N ≤ i := h
            have := HN.out; omega
          · have h3 : i = N := h
            have := HN.out; omega
      clear hfin HC HTr
      go_wp2_with fail
      go_ret2
      exact HFin.out
end Go.Proofs.YtmfbhhloabkecaaGreatDoor.C
namespace Go.Proofs.YtmfbhhloabkecaaGreatDoor.C
open Go.RowKit
theorem nm_right (s : ByteArray) : rightE ⟨1, 1, s, [⟨⟨#[107]⟩, 1, false⟩], 0⟩ = if nmOk s = true then 0 else 50 := by
  have h1 : numOk 1 = true := by decide
  have h2 : colsE [⟨⟨#[107]⟩, 1, false⟩] = 0 := by decide
  have h3 : keyOk [⟨⟨#[107]⟩, 1, false⟩] 0 = true := by decide
  unfold rightE
  simp only [h1, h2, h3]
  by_cases h : nmOk s = true
  · rw [h]; simp
  · simp only [Bool.not_eq_true] at h
    rw [h]; simp
def orOk (s : ByteArray) (n : Int) : Prop := (s.size = 0 ∧ n = 0) ∨ (nmOk s = true ∧ 1 ≤ n ∧ n ≤ 819208192)
instance (s : ByteArray) (n : Int) : Decidable (orOk s n) := by unfold orOk; infer_instance
theorem isName_r (s : ByteArray) (w : World) : Calls Tryz.prog 220 #[.string s] w fun x w' => x = .returned (.bool (decide (nmOk s = true))) ∧ Tch (fun _ => False) w w' := by
  obtain ⟨d, hd⟩ : ∃ d, d = nmOk s := ⟨_, rfl⟩
  have hq := nm_right s
  rw [← hd] at hq ⊢
  have q : ∀ W g c, (∀ j u, (ccl [⟨⟨#[107]⟩, 1, false⟩])[j]? = some u → W.cell? ⟨g, 0 + j, none⟩ = some u) → 1 ≤ c → Calls Tryz.prog 26 #[tA 1 1 s (.slice (some ⟨g, 0, none⟩) 1 c) 0] W fun x w' => x = .returned (.int .i64 (if d = true then 0 else 50)) ∧ Tch (fun _ => False) W w' := fun W g c hA hc => by
    have := right_any ⟨1, 1, s, [⟨⟨#[107]⟩, 1, false⟩], 0⟩ (some ⟨g, 0, none⟩) c W (fun _ => ⟨g, 0, rfl, hA⟩) hc (by simp)
    rw [hq] at this
    exact this
  have HQ : Hid _ := q
  have HC : Hid (∀ o, ∀ j u, (ccl [⟨⟨#[107]⟩, 1, false⟩])[j]? = some u → ((w.alloc (.cells #[.string ⟨#[107]⟩, .int .i64 1, .bool false] 43)).alloc o).cell? ⟨w.heap.size, 0 + j, none⟩ = some u) := fun o j u hu => by
    have h1 := blk_at (alloc_new w (.cells (ccl [⟨⟨#[107]⟩, 1, false⟩]).toArray 43)) j u hu
    rw [World.cell?_alloc_lt _ _ _ (by simp)]
    exact h1
  clear q hq hd
  cases d
  all_goals
    go_enter Tryz.func220, Tryz.ntmps220
    go_wp2_with fail
    refine (HQ.out _ _ _ (HC.out _) (by omega)).mono ?_
    rintro x w1 ⟨rfl, t1⟩
    go_wp2_with fail
    go_ret
    exact ⟨rfl, ((Tch.alloc _ _ _).allocR _).trans' t1⟩
theorem isOrigin_r (s : ByteArray) (n : Int) (w : World) : Calls Tryz.prog 219 #[.string s, .int .i64 n] w fun x w' => x = .returned (.bool (decide (orOk s n))) ∧ Tch (fun _ => False) w w' := by
  by_cases hs : s.size = 0
  · have e : s = ⟨#[]⟩ := by
      obtain ⟨⟨l⟩⟩ := s
      have : l.length = 0 := hs
      rw [List.length_eq_zero_iff.1 this]
    have hno : nmOk s = false := by rw [e]; rfl
    have e1 : s.toList.isEmpty = true := by rw [emp]; simpa using hs
    have HP : Hid (orOk s n ↔ n = 0) := ⟨fun h => by
      rcases h with h | h
      · exact h.2
      · rw [hno] at h; simp at h, fun h => Or.inl ⟨hs, h⟩⟩
    clear hs e hno
    go_enter Tryz.func219, Tryz.ntmps219
    go_wp2_with fail
    go_ret
    exact ⟨vret_bool (bd (by rw [HP.out]; simp)), Tch.refl _ _⟩
  · have e1 : s.toList.isEmpty = false := by rw [emp]; simpa using hs
    have HP : Hid (orOk s n ↔ nmOk s = true ∧ 1 ≤ n ∧ n ≤ 819208192) := ⟨fun h => by
      rcases h with h | h
      · exact absurd h.1 hs
      · exact h, fun h => Or.inr h⟩
    have q := isName_r s w
    obtain ⟨d, hd⟩ : ∃ d, d = nmOk s := ⟨_, rfl⟩
    rw [← hd] at q HP
    clear hs hd
    cases d
    · go_enter Tryz.func219, Tryz.ntmps219
      go_wp2_with fail
      refine q.mono ?_
      rintro x w1 ⟨rfl, t1⟩
      go_wp2_with fail
      go_ret
      exact ⟨vret_bool (bd (by rw [HP.out]; simp)), t1⟩
    · by_cases h1 : 1 ≤ n
      · by_cases h2 : n ≤ 819208192
        all_goals
          go_enter Tryz.func219, Tryz.ntmps219
          go_wp2_with fail
          refine q.mono ?_
          rintro x w1 ⟨rfl, t1⟩
          go_wp2_with fail
          go_ret
          exact ⟨vret_bool (bd (by rw [HP.out]; simp; omega)), t1⟩
      · go_enter Tryz.func219, Tryz.ntmps219
        go_wp2_with fail
        refine q.mono ?_
        rintro x w1 ⟨rfl, t1⟩
        go_wp2_with fail
        go_ret
        exact ⟨vret_bool (bd (by rw [HP.out]; simp; omega)), t1⟩
theorem right_1 (r : Rc) (s : Sk) (F : Nat → Prop) (w : World) (_hg : HE w) (_h : RW w F r s) : Calls Tryz.prog 185 #[.agg #[.int .i64 r.x]] w fun x w' => EqT (rightC 1 r) w x w' := by
  have HK : Hid (∀ W, Tch (fun _ => False) (w.alloc (.cells #[.int .i64 r.x] 128)) W → W.cell? ⟨w.heap.size, 0, none⟩ = some (.int .i64 r.x)) := fun W t => (t.cell (p := ⟨_, _, none⟩) (by simp) (fun h => h)).trans (by simp)
  have Q1 : Hid (∀ W, Tch (fun _ => False) w W → Calls Tryz.prog 188 #[.int .i64 r.x] W fun x w' => x = .returned (.bool (decide (rtN r.x))) ∧ Tch (fun _ => False) W w') := fun W t => (isNumber_any r.x W).mono (fun x w1 h => ⟨h.1, by rw [h.2]; exact Tch.refl _ _⟩)
  obtain ⟨d1, hd1⟩ : ∃ d, d = decide (rtN r.x) := ⟨_, rfl⟩
  have H1 : Hid (d1 = true ↔ rtN r.x) := by rw [hd1]; exact decide_eq_true_iff
  rw [← hd1] at Q1
  clear hd1
  cases d1
  · go_enter Tryz.func185, Tryz.ntmps185
    go_wp2_with fail
    refine (Q1.out _ (Tch.alloc _ _ _)).mono ?_
    rintro x w1 ⟨rfl, t1⟩
    have T1 : Tch (fun _ => False) w w1 := (Tch.alloc _ _ _).trans' t1
    go_wp2_with fail
    go_ret
    exact eqT_no (fun e => by have := H1.out.2 e; simp at this) T1
  · go_enter Tryz.func185, Tryz.ntmps185
    go_wp2_with fail
    refine (Q1.out _ (Tch.alloc _ _ _)).mono ?_
    rintro x w1 ⟨rfl, t1⟩
    have T1 : Tch (fun _ => False) w w1 := (Tch.alloc _ _ _).trans' t1
    go_wp2_with fail
    go_ret
    exact ⟨true, rfl, ⟨fun _ => H1.out.1 (by trivial), fun _ => rfl⟩, T1⟩
theorem right_3 (r : Rc) (s : Sk) (F : Nat → Prop) (w : World) (hg : HE w) (h : RW w F r s) : Calls Tryz.prog 195 #[.agg #[.int .i64 r.x, .int .i64 r.t, .slice s.no r.n.length s.nc]] w fun x w' => EqT (rightC 3 r) w x w' := by
  have HK : Hid (∀ W, Tch (fun _ => False) (w.alloc (.cells #[.int .i64 r.x, .int .i64 r.t, .slice s.no r.n.length s.nc] 132)) W → W.cell? ⟨w.heap.size, 0, none⟩ = some (.int .i64 r.x) ∧ W.cell? ⟨w.heap.size, 1, none⟩ = some (.int .i64 r.t) ∧ W.cell? ⟨w.heap.size, 2, none⟩ = some (.slice s.no r.n.length s.nc)) := fun W t => ⟨(t.cell (p := ⟨_, _, none⟩) (by simp) (fun h => h)).trans (by simp), (t.cell (p := ⟨_, _, none⟩) (by simp) (fun h => h)).trans (by simp), (t.cell (p := ⟨_, _, none⟩) (by simp) (fun h => h)).trans (by simp)⟩
  have Q1 : Hid (∀ W, Tch (fun _ => False) w W → Calls Tryz.prog 188 #[.int .i64 r.x] W fun x w' => x = .returned (.bool (decide (rtN r.x))) ∧ Tch (fun _ => False) W w') := fun W t => (isNumber_any r.x W).mono (fun x w1 h => ⟨h.1, by rw [h.2]; exact Tch.refl _ _⟩)
  obtain ⟨d1, hd1⟩ : ∃ d, d = decide (rtN r.x) := ⟨_, rfl⟩
  have H1 : Hid (d1 = true ↔ rtN r.x) := by rw [hd1]; exact decide_eq_true_iff
  rw [← hd1] at Q1
  clear hd1
  have Q2 : Hid (∀ W, Tch (fun _ => False) w W → Calls Tryz.prog 188 #[.int .i64 r.t] W fun x w' => x = .returned (.bool (decide (rtN r.t))) ∧ Tch (fun _ => False) W w') := fun W t => (isNumber_any r.t W).mono (fun x w1 h => ⟨h.1, by rw [h.2]; exact Tch.refl _ _⟩)
  obtain ⟨d2, hd2⟩ : ∃ d, d = decide (rtN r.t) := ⟨_, rfl⟩
  have H2 : Hid (d2 = true ↔ rtN r.t) := by rw [hd2]; exact decide_eq_true_iff
  rw [← hd2] at Q2
  clear hd2
  have Q3 : Hid (∀ W, Tch (fun _ => False) w W → Calls Tryz.prog 198 #[.slice s.no r.n.length s.nc] W fun x w' => x = .returned (.bool (decide (rtRow r.n))) ∧ Tch (fun _ => False) W w') := fun W t => isRow_any r.n s.no s.nc W (hg.tch t (fun h => h)) ((h.no t).n) h.ni h.nl
  obtain ⟨d3, hd3⟩ : ∃ d, d = decide (rtRow r.n) := ⟨_, rfl⟩
  have H3 : Hid (d3 = true ↔ rtRow r.n) := by rw [hd3]; exact decide_eq_true_iff
  rw [← hd3] at Q3
  clear hd3
  clear h hg
  cases d1
  · go_enter Tryz.func195, Tryz.ntmps195
    go_wp2_with fail
    refine (Q1.out _ (Tch.alloc _ _ _)).mono ?_
    rintro x w1 ⟨rfl, t1⟩
    have T1 : Tch (fun _ => False) w w1 := (Tch.alloc _ _ _).trans' t1
    obtain ⟨y0, y1, y2⟩ := HK.out w1 (t1)
    go_wp2_with fail
    go_ret
    exact eqT_no (fun e => by have := H1.out.2 e.1; simp at this) T1
  · skip
    cases d2
    · go_enter Tryz.func195, Tryz.ntmps195
      go_wp2_with fail
      refine (Q1.out _ (Tch.alloc _ _ _)).mono ?_
      rintro x w1 ⟨rfl, t1⟩
      have T1 : Tch (fun _ => False) w w1 := (Tch.alloc _ _ _).trans' t1
      obtain ⟨y0, y1, y2⟩ := HK.out w1 (t1)
      go_wp2_with fail
      refine (Q2.out _ T1).mono ?_
      rintro x w2 ⟨rfl, t2⟩
      have T2 : Tch (fun _ => False) w w2 := T1.trans' t2
      obtain ⟨y0, y1, y2⟩ := HK.out w2 (t1.trans' t2)
      go_wp2_with fail
      go_ret
      exact eqT_no (fun e => by have := H2.out.2 e.2.1; simp at this) T2
    · skip
      cases d3
      · go_enter Tryz.func195, Tryz.ntmps195
        go_wp2_with fail
        refine (Q1.out _ (Tch.alloc _ _ _)).mono ?_
        rintro x w1 ⟨rfl, t1⟩
        have T1 : Tch (fun _ => False) w w1 := (Tch.alloc _ _ _).trans' t1
        obtain ⟨y0, y1, y2⟩ := HK.out w1 (t1)
        go_wp2_with fail
        refine (Q2.out _ T1).mono ?_
        rintro x w2 ⟨rfl, t2⟩
        have T2 : Tch (fun _ => False) w w2 := T1.trans' t2
        obtain ⟨y0, y1, y2⟩ := HK.out w2 (t1.trans' t2)
        go_wp2_with fail
        refine (Q3.out _ T2).mono ?_
        rintro x w3 ⟨rfl, t3⟩
        have T3 : Tch (fun _ => False) w w3 := T2.trans' t3
        go_wp2_with fail
        go_ret
        exact eqT_no (fun e => by have := H3.out.2 e.2.2; simp at this) T3
      · go_enter Tryz.func195, Tryz.ntmps195
        go_wp2_with fail
        refine (Q1.out _ (Tch.alloc _ _ _)).mono ?_
        rintro x w1 ⟨rfl, t1⟩
        have T1 : Tch (fun _ => False) w w1 := (Tch.alloc _ _ _).trans' t1
        obtain ⟨y0, y1, y2⟩ := HK.out w1 (t1)
        go_wp2_with fail
        refine (Q2.out _ T1).mono ?_
        rintro x w2 ⟨rfl, t2⟩
        have T2 : Tch (fun _ => False) w w2 := T1.trans' t2
        obtain ⟨y0, y1, y2⟩ := HK.out w2 (t1.trans' t2)
        go_wp2_with fail
        refine (Q3.out _ T2).mono ?_
        rintro x w3 ⟨rfl, t3⟩
        have T3 : Tch (fun _ => False) w w3 := T2.trans' t3
        go_wp2_with fail
        go_ret
        exact ⟨true, rfl, ⟨fun _ => ⟨H1.out.1 (by trivial), H2.out.1 (by trivial), H3.out.1 (by trivial)⟩, fun _ => rfl⟩, T3⟩
theorem right_4 (r : Rc) (s : Sk) (F : Nat → Prop) (w : World) (hg : HE w) (h : RW w F r s) : Calls Tryz.prog 210 #[.agg #[.int .i64 r.x, .int .i64 r.t, .slice s.oo r.o.length s.oc, .slice s.no r.n.length s.nc]] w fun x w' => EqT (rightC 4 r) w x w' := by
  have HK : Hid (∀ W, Tch (fun _ => False) (w.alloc (.cells #[.int .i64 r.x, .int .i64 r.t, .slice s.oo r.o.length s.oc, .slice s.no r.n.length s.nc] 134)) W → W.cell? ⟨w.heap.size, 0, none⟩ = some (.int .i64 r.x) ∧ W.cell? ⟨w.heap.size, 1, none⟩ = some (.int .i64 r.t) ∧ W.cell? ⟨w.heap.size, 2, none⟩ = some (.slice s.oo r.o.length s.oc) ∧ W.cell? ⟨w.heap.size, 3, none⟩ = some (.slice s.no r.n.length s.nc)) := fun W t => ⟨(t.cell (p := ⟨_, _, none⟩) (by simp) (fun h => h)).trans (by simp), (t.cell (p := ⟨_, _, none⟩) (by simp) (fun h => h)).trans (by simp), (t.cell (p := ⟨_, _, none⟩) (by simp) (fun h => h)).trans (by simp), (t.cell (p := ⟨_, _, none⟩) (by simp) (fun h => h)).trans (by simp)⟩
  have Q1 : Hid (∀ W, Tch (fun _ => False) w W → Calls Tryz.prog 188 #[.int .i64 r.x] W fun x w' => x = .returned (.bool (decide (rtN r.x))) ∧ Tch (fun _ => False) W w') := fun W t => (isNumber_any r.x W).mono (fun x w1 h => ⟨h.1, by rw [h.2]; exact Tch.refl _ _⟩)
  obtain ⟨d1, hd1⟩ : ∃ d, d = decide (rtN r.x) := ⟨_, rfl⟩
  have H1 : Hid (d1 = true ↔ rtN r.x) := by rw [hd1]; exact decide_eq_true_iff
  rw [← hd1] at Q1
  clear hd1
  have Q2 : Hid (∀ W, Tch (fun _ => False) w W → Calls Tryz.prog 188 #[.int .i64 r.t] W fun x w' => x = .returned (.bool (decide (rtN r.t))) ∧ Tch (fun _ => False) W w') := fun W t => (isNumber_any r.t W).mono (fun x w1 h => ⟨h.1, by rw [h.2]; exact Tch.refl _ _⟩)
  obtain ⟨d2, hd2⟩ : ∃ d, d = decide (rtN r.t) := ⟨_, rfl⟩
  have H2 : Hid (d2 = true ↔ rtN r.t) := by rw [hd2]; exact decide_eq_true_iff
  rw [← hd2] at Q2
  clear hd2
  have Q3 : Hid (∀ W, Tch (fun _ => False) w W → Calls Tryz.prog 198 #[.slice s.oo r.o.length s.oc] W fun x w' => x = .returned (.bool (decide (rtRow r.o))) ∧ Tch (fun _ => False) W w') := fun W t => isRow_any r.o s.oo s.oc W (hg.tch t (fun h => h)) ((h.no t).o) h.oi h.ol
  obtain ⟨d3, hd3⟩ : ∃ d, d = decide (rtRow r.o) := ⟨_, rfl⟩
  have H3 : Hid (d3 = true ↔ rtRow r.o) := by rw [hd3]; exact decide_eq_true_iff
  rw [← hd3] at Q3
  clear hd3
  have Q4 : Hid (∀ W, Tch (fun _ => False) w W → Calls Tryz.prog 198 #[.slice s.no r.n.length s.nc] W fun x w' => x = .returned (.bool (decide (rtRow r.n))) ∧ Tch (fun _ => False) W w') := fun W t => isRow_any r.n s.no s.nc W (hg.tch t (fun h => h)) ((h.no t).n) h.ni h.nl
  obtain ⟨d4, hd4⟩ : ∃ d, d = decide (rtRow r.n) := ⟨_, rfl⟩
  have H4 : Hid (d4 = true ↔ rtRow r.n) := by rw [hd4]; exact decide_eq_true_iff
  rw [← hd4] at Q4
  clear hd4
  clear h hg
  cases d1
  · go_enter Tryz.func210, Tryz.ntmps210
    go_wp2_with fail
    refine (Q1.out _ (Tch.alloc _ _ _)).mono ?_
    rintro x w1 ⟨rfl, t1⟩
    have T1 : Tch (fun _ => False) w w1 := (Tch.alloc _ _ _).trans' t1
    obtain ⟨y0, y1, y2, y3⟩ := HK.out w1 (t1)
    go_wp2_with fail
    go_ret
    exact eqT_no (fun e => by have := H1.out.2 e.1; simp at this) T1
  · skip
    cases d2
    · go_enter Tryz.func210, Tryz.ntmps210
      go_wp2_with fail
      refine (Q1.out _ (Tch.alloc _ _ _)).mono ?_
      rintro x w1 ⟨rfl, t1⟩
      have T1 : Tch (fun _ => False) w w1 := (Tch.alloc _ _ _).trans' t1
      obtain ⟨y0, y1, y2, y3⟩ := HK.out w1 (t1)
      go_wp2_with fail
      refine (Q2.out _ T1).mono ?_
      rintro x w2 ⟨rfl, t2⟩
      have T2 : Tch (fun _ => False) w w2 := T1.trans' t2
      obtain ⟨y0, y1, y2, y3⟩ := HK.out w2 (t1.trans' t2)
      go_wp2_with fail
      go_ret
      exact eqT_no (fun e => by have := H2.out.2 e.2.1; simp at this) T2
    · skip
      cases d3
      · go_enter Tryz.func210, Tryz.ntmps210
        go_wp2_with fail
        refine (Q1.out _ (Tch.alloc _ _ _)).mono ?_
        rintro x w1 ⟨rfl, t1⟩
        have T1 : Tch (fun _ => False) w w1 := (Tch.alloc _ _ _).trans' t1
        obtain ⟨y0, y1, y2, y3⟩ := HK.out w1 (t1)
        go_wp2_with fail
        refine (Q2.out _ T1).mono ?_
        rintro x w2 ⟨rfl, t2⟩
        have T2 : Tch (fun _ => False) w w2 := T1.trans' t2
        obtain ⟨y0, y1, y2, y3⟩ := HK.out w2 (t1.trans' t2)
        go_wp2_with fail
        refine (Q3.out _ T2).mono ?_
        rintro x w3 ⟨rfl, t3⟩
        have T3 : Tch (fun _ => False) w w3 := T2.trans' t3
        obtain ⟨y0, y1, y2, y3⟩ := HK.out w3 ((t1.trans' t2).trans' t3)
        go_wp2_with fail
        go_ret
        exact eqT_no (fun e => by have := H3.out.2 e.2.2.1; simp at this) T3
      · skip
        cases d4
        · go_enter Tryz.func210, Tryz.ntmps210
          go_wp2_with fail
          refine (Q1.out _ (Tch.alloc _ _ _)).mono ?_
          rintro x w1 ⟨rfl, t1⟩
          have T1 : Tch (fun _ => False) w w1 := (Tch.alloc _ _ _).trans' t1
          obtain ⟨y0, y1, y2, y3⟩ := HK.out w1 (t1)
          go_wp2_with fail
          refine (Q2.out _ T1).mono ?_
          rintro x w2 ⟨rfl, t2⟩
          have T2 : Tch (fun _ => False) w w2 := T1.trans' t2
          obtain ⟨y0, y1, y2, y3⟩ := HK.out w2 (t1.trans' t2)
          go_wp2_with fail
          refine (Q3.out _ T2).mono ?_
          rintro x w3 ⟨rfl, t3⟩
          have T3 : Tch (fun _ => False) w w3 := T2.trans' t3
          obtain ⟨y0, y1, y2, y3⟩ := HK.out w3 ((t1.trans' t2).trans' t3)
          go_wp2_with fail
          refine (Q4.out _ T3).mono ?_
          rintro x w4 ⟨rfl, t4⟩
          have T4 : Tch (fun _ => False) w w4 := T3.trans' t4
          go_wp2_with fail
          go_ret
          exact eqT_no (fun e => by have := H4.out.2 e.2.2.2; simp at this) T4
        · go_enter Tryz.func210, Tryz.ntmps210
          go_wp2_with fail
          refine (Q1.out _ (Tch.alloc _ _ _)).mono ?_
          rintro x w1 ⟨rfl, t1⟩
          have T1 : Tch (fun _ => False) w w1 := (Tch.alloc _ _ _).trans' t1
          obtain ⟨y0, y1, y2, y3⟩ := HK.out w1 (t1)
          go_wp2_with fail
          refine (Q2.out _ T1).mono ?_
          rintro x w2 ⟨rfl, t2⟩
          have T2 : Tch (fun _ => False) w w2 := T1.trans' t2
          obtain ⟨y0, y1, y2, y3⟩ := HK.out w2 (t1.trans' t2)
          go_wp2_with fail
          refine (Q3.out _ T2).mono ?_
          rintro x w3 ⟨rfl, t3⟩
          have T3 : Tch (fun _ => False) w w3 := T2.trans' t3
          obtain ⟨y0, y1, y2, y3⟩ := HK.out w3 ((t1.trans' t2).trans' t3)
          go_wp2_with fail
          refine (Q4.out _ T3).mono ?_
          rintro x w4 ⟨rfl, t4⟩
          have T4 : Tch (fun _ => False) w w4 := T3.trans' t4
          go_wp2_with fail
          go_ret
          exact ⟨true, rfl, ⟨fun _ => ⟨H1.out.1 (by trivial), H2.out.1 (by trivial), H3.out.1 (by trivial), H4.out.1 (by trivial)⟩, fun _ => rfl⟩, T4⟩
theorem right_5 (r : Rc) (s : Sk) (F : Nat → Prop) (w : World) (hg : HE w) (h : RW w F r s) : Calls Tryz.prog 213 #[.agg #[.int .i64 r.x, .int .i64 r.t, .slice s.oo r.o.length s.oc]] w fun x w' => EqT (rightC 5 r) w x w' := by
  have HK : Hid (∀ W, Tch (fun _ => False) (w.alloc (.cells #[.int .i64 r.x, .int .i64 r.t, .slice s.oo r.o.length s.oc] 135)) W → W.cell? ⟨w.heap.size, 0, none⟩ = some (.int .i64 r.x) ∧ W.cell? ⟨w.heap.size, 1, none⟩ = some (.int .i64 r.t) ∧ W.cell? ⟨w.heap.size, 2, none⟩ = some (.slice s.oo r.o.length s.oc)) := fun W t => ⟨(t.cell (p := ⟨_, _, none⟩) (by simp) (fun h => h)).trans (by simp), (t.cell (p := ⟨_, _, none⟩) (by simp) (fun h => h)).trans (by simp), (t.cell (p := ⟨_, _, none⟩) (by simp) (fun h => h)).trans (by simp)⟩
  have Q1 : Hid (∀ W, Tch (fun _ => False) w W → Calls Tryz.prog 188 #[.int .i64 r.x] W fun x w' => x = .returned (.bool (decide (rtN r.x))) ∧ Tch (fun _ => False) W w') := fun W t => (isNumber_any r.x W).mono (fun x w1 h => ⟨h.1, by rw [h.2]; exact Tch.refl _ _⟩)
  obtain ⟨d1, hd1⟩ : ∃ d, d = decide (rtN r.x) := ⟨_, rfl⟩
  have H1 : Hid (d1 = true ↔ rtN r.x) := by rw [hd1]; exact decide_eq_true_iff
  rw [← hd1] at Q1
  clear hd1
  have Q2 : Hid (∀ W, Tch (fun _ => False) w W → Calls Tryz.prog 188 #[.int .i64 r.t] W fun x w' => x = .returned (.bool (decide (rtN r.t))) ∧ Tch (fun _ => False) W w') := fun W t => (isNumber_any r.t W).mono (fun x w1 h => ⟨h.1, by rw [h.2]; exact Tch.refl _ _⟩)
  obtain ⟨d2, hd2⟩ : ∃ d, d = decide (rtN r.t) := ⟨_, rfl⟩
  have H2 : Hid (d2 = true ↔ rtN r.t) := by rw [hd2]; exact decide_eq_true_iff
  rw [← hd2] at Q2
  clear hd2
  have Q3 : Hid (∀ W, Tch (fun _ => False) w W → Calls Tryz.prog 198 #[.slice s.oo r.o.length s.oc] W fun x w' => x = .returned (.bool (decide (rtRow r.o))) ∧ Tch (fun _ => False) W w') := fun W t => isRow_any r.o s.oo s.oc W (hg.tch t (fun h => h)) ((h.no t).o) h.oi h.ol
  obtain ⟨d3, hd3⟩ : ∃ d, d = decide (rtRow r.o) := ⟨_, rfl⟩
  have H3 : Hid (d3 = true ↔ rtRow r.o) := by rw [hd3]; exact decide_eq_true_iff
  rw [← hd3] at Q3
  clear hd3
  clear h hg
  cases d1
  · go_enter Tryz.func213, Tryz.ntmps213
    go_wp2_with fail
    refine (Q1.out _ (Tch.alloc _ _ _)).mono ?_
    rintro x w1 ⟨rfl, t1⟩
    have T1 : Tch (fun _ => False) w w1 := (Tch.alloc _ _ _).trans' t1
    obtain ⟨y0, y1, y2⟩ := HK.out w1 (t1)
    go_wp2_with fail
    go_ret
    exact eqT_no (fun e => by have := H1.out.2 e.1; simp at this) T1
  · skip
    cases d2
    · go_enter Tryz.func213, Tryz.ntmps213
      go_wp2_with fail
      refine (Q1.out _ (Tch.alloc _ _ _)).mono ?_
      rintro x w1 ⟨rfl, t1⟩
      have T1 : Tch (fun _ => False) w w1 := (Tch.alloc _ _ _).trans' t1
      obtain ⟨y0, y1, y2⟩ := HK.out w1 (t1)
      go_wp2_with fail
      refine (Q2.out _ T1).mono ?_
      rintro x w2 ⟨rfl, t2⟩
      have T2 : Tch (fun _ => False) w w2 := T1.trans' t2
      obtain ⟨y0, y1, y2⟩ := HK.out w2 (t1.trans' t2)
      go_wp2_with fail
      go_ret
      exact eqT_no (fun e => by have := H2.out.2 e.2.1; simp at this) T2
    · skip
      cases d3
      · go_enter Tryz.func213, Tryz.ntmps213
        go_wp2_with fail
        refine (Q1.out _ (Tch.alloc _ _ _)).mono ?_
        rintro x w1 ⟨rfl, t1⟩
        have T1 : Tch (fun _ => False) w w1 := (Tch.alloc _ _ _).trans' t1
        obtain ⟨y0, y1, y2⟩ := HK.out w1 (t1)
        go_wp2_with fail
        refine (Q2.out _ T1).mono ?_
        rintro x w2 ⟨rfl, t2⟩
        have T2 : Tch (fun _ => False) w w2 := T1.trans' t2
        obtain ⟨y0, y1, y2⟩ := HK.out w2 (t1.trans' t2)
        go_wp2_with fail
        refine (Q3.out _ T2).mono ?_
        rintro x w3 ⟨rfl, t3⟩
        have T3 : Tch (fun _ => False) w w3 := T2.trans' t3
        go_wp2_with fail
        go_ret
        exact eqT_no (fun e => by have := H3.out.2 e.2.2; simp at this) T3
      · go_enter Tryz.func213, Tryz.ntmps213
        go_wp2_with fail
        refine (Q1.out _ (Tch.alloc _ _ _)).mono ?_
        rintro x w1 ⟨rfl, t1⟩
        have T1 : Tch (fun _ => False) w w1 := (Tch.alloc _ _ _).trans' t1
        obtain ⟨y0, y1, y2⟩ := HK.out w1 (t1)
        go_wp2_with fail
        refine (Q2.out _ T1).mono ?_
        rintro x w2 ⟨rfl, t2⟩
        have T2 : Tch (fun _ => False) w w2 := T1.trans' t2
        obtain ⟨y0, y1, y2⟩ := HK.out w2 (t1.trans' t2)
        go_wp2_with fail
        refine (Q3.out _ T2).mono ?_
        rintro x w3 ⟨rfl, t3⟩
        have T3 : Tch (fun _ => False) w w3 := T2.trans' t3
        go_wp2_with fail
        go_ret
        exact ⟨true, rfl, ⟨fun _ => ⟨H1.out.1 (by trivial), H2.out.1 (by trivial), H3.out.1 (by trivial)⟩, fun _ => rfl⟩, T3⟩
theorem right_6 (r : Rc) (s : Sk) (F : Nat → Prop) (w : World) (_hg : HE w) (_h : RW w F r s) : Calls Tryz.prog 216 #[.agg #[.int .i64 r.x, .string r.nm, .int .i64 r.org]] w fun x w' => EqT (rightC 6 r) w x w' := by
  have HK : Hid (∀ W, Tch (fun _ => False) (w.alloc (.cells #[.int .i64 r.x, .string r.nm, .int .i64 r.org] 137)) W → W.cell? ⟨w.heap.size, 0, none⟩ = some (.int .i64 r.x) ∧ W.cell? ⟨w.heap.size, 1, none⟩ = some (.string r.nm) ∧ W.cell? ⟨w.heap.size, 2, none⟩ = some (.int .i64 r.org)) := fun W t => ⟨(t.cell (p := ⟨_, _, none⟩) (by simp) (fun h => h)).trans (by simp), (t.cell (p := ⟨_, _, none⟩) (by simp) (fun h => h)).trans (by simp), (t.cell (p := ⟨_, _, none⟩) (by simp) (fun h => h)).trans (by simp)⟩
  have Q1 : Hid (∀ W, Tch (fun _ => False) w W → Calls Tryz.prog 188 #[.int .i64 r.x] W fun x w' => x = .returned (.bool (decide (rtN r.x))) ∧ Tch (fun _ => False) W w') := fun W t => (isNumber_any r.x W).mono (fun x w1 h => ⟨h.1, by rw [h.2]; exact Tch.refl _ _⟩)
  obtain ⟨d1, hd1⟩ : ∃ d, d = decide (rtN r.x) := ⟨_, rfl⟩
  have H1 : Hid (d1 = true ↔ rtN r.x) := by rw [hd1]; exact decide_eq_true_iff
  rw [← hd1] at Q1
  clear hd1
  have Q2 : Hid (∀ W, Tch (fun _ => False) w W → Calls Tryz.prog 219 #[.string r.nm, .int .i64 r.org] W fun x w' => x = .returned (.bool (decide (orOk r.nm r.org))) ∧ Tch (fun _ => False) W w') := fun W t => isOrigin_r r.nm r.org W
  obtain ⟨d2, hd2⟩ : ∃ d, d = decide (orOk r.nm r.org) := ⟨_, rfl⟩
  have H2 : Hid (d2 = true ↔ orOk r.nm r.org) := by rw [hd2]; exact decide_eq_true_iff
  rw [← hd2] at Q2
  clear hd2
  cases d1
  · go_enter Tryz.func216, Tryz.ntmps216
    go_wp2_with fail
    refine (Q1.out _ (Tch.alloc _ _ _)).mono ?_
    rintro x w1 ⟨rfl, t1⟩
    have T1 : Tch (fun _ => False) w w1 := (Tch.alloc _ _ _).trans' t1
    obtain ⟨y0, y1, y2⟩ := HK.out w1 (t1)
    go_wp2_with fail
    go_ret
    exact eqT_no (fun e => by have := H1.out.2 e.1; simp at this) T1
  · skip
    cases d2
    · go_enter Tryz.func216, Tryz.ntmps216
      go_wp2_with fail
      refine (Q1.out _ (Tch.alloc _ _ _)).mono ?_
      rintro x w1 ⟨rfl, t1⟩
      have T1 : Tch (fun _ => False) w w1 := (Tch.alloc _ _ _).trans' t1
      obtain ⟨y0, y1, y2⟩ := HK.out w1 (t1)
      go_wp2_with fail
      refine (Q2.out _ T1).mono ?_
      rintro x w2 ⟨rfl, t2⟩
      have T2 : Tch (fun _ => False) w w2 := T1.trans' t2
      go_wp2_with fail
      go_ret
      exact eqT_no (fun e => by have := H2.out.2 e.2; simp at this) T2
    · go_enter Tryz.func216, Tryz.ntmps216
      go_wp2_with fail
      refine (Q1.out _ (Tch.alloc _ _ _)).mono ?_
      rintro x w1 ⟨rfl, t1⟩
      have T1 : Tch (fun _ => False) w w1 := (Tch.alloc _ _ _).trans' t1
      obtain ⟨y0, y1, y2⟩ := HK.out w1 (t1)
      go_wp2_with fail
      refine (Q2.out _ T1).mono ?_
      rintro x w2 ⟨rfl, t2⟩
      have T2 : Tch (fun _ => False) w w2 := T1.trans' t2
      go_wp2_with fail
      go_ret
      exact ⟨true, rfl, ⟨fun _ => ⟨H1.out.1 (by trivial), H2.out.1 (by trivial)⟩, fun _ => rfl⟩, T2⟩
theorem right_7 (r : Rc) (s : Sk) (F : Nat → Prop) (w : World) (_hg : HE w) (_h : RW w F r s) : Calls Tryz.prog 221 #[.agg #[.int .i64 r.x, .string r.nm]] w fun x w' => EqT (rightC 7 r) w x w' := by
  have HK : Hid (∀ W, Tch (fun _ => False) (w.alloc (.cells #[.int .i64 r.x, .string r.nm] 139)) W → W.cell? ⟨w.heap.size, 0, none⟩ = some (.int .i64 r.x) ∧ W.cell? ⟨w.heap.size, 1, none⟩ = some (.string r.nm)) := fun W t => ⟨(t.cell (p := ⟨_, _, none⟩) (by simp) (fun h => h)).trans (by simp), (t.cell (p := ⟨_, _, none⟩) (by simp) (fun h => h)).trans (by simp)⟩
  have Q1 : Hid (∀ W, Tch (fun _ => False) w W → Calls Tryz.prog 188 #[.int .i64 r.x] W fun x w' => x = .returned (.bool (decide (rtN r.x))) ∧ Tch (fun _ => False) W w') := fun W t => (isNumber_any r.x W).mono (fun x w1 h => ⟨h.1, by rw [h.2]; exact Tch.refl _ _⟩)
  obtain ⟨d1, hd1⟩ : ∃ d, d = decide (rtN r.x) := ⟨_, rfl⟩
  have H1 : Hid (d1 = true ↔ rtN r.x) := by rw [hd1]; exact decide_eq_true_iff
  rw [← hd1] at Q1
  clear hd1
  have Q2 : Hid (∀ W, Tch (fun _ => False) w W → Calls Tryz.prog 220 #[.string r.nm] W fun x w' => x = .returned (.bool (decide (nmOk r.nm = true))) ∧ Tch (fun _ => False) W w') := fun W t => isName_r r.nm W
  obtain ⟨d2, hd2⟩ : ∃ d, d = decide (nmOk r.nm = true) := ⟨_, rfl⟩
  have H2 : Hid (d2 = true ↔ nmOk r.nm = true) := by rw [hd2]; exact decide_eq_true_iff
  rw [← hd2] at Q2
  clear hd2
  cases d1
  · go_enter Tryz.func221, Tryz.ntmps221
    go_wp2_with fail
    refine (Q1.out _ (Tch.alloc _ _ _)).mono ?_
    rintro x w1 ⟨rfl, t1⟩
    have T1 : Tch (fun _ => False) w w1 := (Tch.alloc _ _ _).trans' t1
    obtain ⟨y0, y1⟩ := HK.out w1 (t1)
    go_wp2_with fail
    go_ret
    exact eqT_no (fun e => by have := H1.out.2 e.1; simp at this) T1
  · skip
    cases d2
    · go_enter Tryz.func221, Tryz.ntmps221
      go_wp2_with fail
      refine (Q1.out _ (Tch.alloc _ _ _)).mono ?_
      rintro x w1 ⟨rfl, t1⟩
      have T1 : Tch (fun _ => False) w w1 := (Tch.alloc _ _ _).trans' t1
      obtain ⟨y0, y1⟩ := HK.out w1 (t1)
      go_wp2_with fail
      refine (Q2.out _ T1).mono ?_
      rintro x w2 ⟨rfl, t2⟩
      have T2 : Tch (fun _ => False) w w2 := T1.trans' t2
      go_wp2_with fail
      go_ret
      exact eqT_no (fun e => by have := H2.out.2 e.2; simp at this) T2
    · go_enter Tryz.func221, Tryz.ntmps221
      go_wp2_with fail
      refine (Q1.out _ (Tch.alloc _ _ _)).mono ?_
      rintro x w1 ⟨rfl, t1⟩
      have T1 : Tch (fun _ => False) w w1 := (Tch.alloc _ _ _).trans' t1
      obtain ⟨y0, y1⟩ := HK.out w1 (t1)
      go_wp2_with fail
      refine (Q2.out _ T1).mono ?_
      rintro x w2 ⟨rfl, t2⟩
      have T2 : Tch (fun _ => False) w w2 := T1.trans' t2
      go_wp2_with fail
      go_ret
      exact ⟨true, rfl, ⟨fun _ => ⟨H1.out.1 (by trivial), H2.out.1 (by trivial)⟩, fun _ => rfl⟩, T2⟩
theorem right_9 (r : Rc) (s : Sk) (F : Nat → Prop) (w : World) (_hg : HE w) (_h : RW w F r s) : Calls Tryz.prog 231 #[.agg #[.int .i64 r.x, .int .i64 r.t]] w fun x w' => EqT (rightC 9 r) w x w' := by
  have HK : Hid (∀ W, Tch (fun _ => False) (w.alloc (.cells #[.int .i64 r.x, .int .i64 r.t] 143)) W → W.cell? ⟨w.heap.size, 0, none⟩ = some (.int .i64 r.x) ∧ W.cell? ⟨w.heap.size, 1, none⟩ = some (.int .i64 r.t)) := fun W t => ⟨(t.cell (p := ⟨_, _, none⟩) (by simp) (fun h => h)).trans (by simp), (t.cell (p := ⟨_, _, none⟩) (by simp) (fun h => h)).trans (by simp)⟩
  have Q1 : Hid (∀ W, Tch (fun _ => False) w W → Calls Tryz.prog 188 #[.int .i64 r.x] W fun x w' => x = .returned (.bool (decide (rtN r.x))) ∧ Tch (fun _ => False) W w') := fun W t => (isNumber_any r.x W).mono (fun x w1 h => ⟨h.1, by rw [h.2]; exact Tch.refl _ _⟩)
  obtain ⟨d1, hd1⟩ : ∃ d, d = decide (rtN r.x) := ⟨_, rfl⟩
  have H1 : Hid (d1 = true ↔ rtN r.x) := by rw [hd1]; exact decide_eq_true_iff
  rw [← hd1] at Q1
  clear hd1
  have Q2 : Hid (∀ W, Tch (fun _ => False) w W → Calls Tryz.prog 188 #[.int .i64 r.t] W fun x w' => x = .returned (.bool (decide (rtN r.t))) ∧ Tch (fun _ => False) W w') := fun W t => (isNumber_any r.t W).mono (fun x w1 h => ⟨h.1, by rw [h.2]; exact Tch.refl _ _⟩)
  obtain ⟨d2, hd2⟩ : ∃ d, d = decide (rtN r.t) := ⟨_, rfl⟩
  have H2 : Hid (d2 = true ↔ rtN r.t) := by rw [hd2]; exact decide_eq_true_iff
  rw [← hd2] at Q2
  clear hd2
  cases d1
  · go_enter Tryz.func231, Tryz.ntmps231
    go_wp2_with fail
    refine (Q1.out _ (Tch.alloc _ _ _)).mono ?_
    rintro x w1 ⟨rfl, t1⟩
    have T1 : Tch (fun _ => False) w w1 := (Tch.alloc _ _ _).trans' t1
    obtain ⟨y0, y1⟩ := HK.out w1 (t1)
    go_wp2_with fail
    go_ret
    exact eqT_no (fun e => by have := H1.out.2 e.1; simp at this) T1
  · skip
    cases d2
    · go_enter Tryz.func231, Tryz.ntmps231
      go_wp2_with fail
      refine (Q1.out _ (Tch.alloc _ _ _)).mono ?_
      rintro x w1 ⟨rfl, t1⟩
      have T1 : Tch (fun _ => False) w w1 := (Tch.alloc _ _ _).trans' t1
      obtain ⟨y0, y1⟩ := HK.out w1 (t1)
      go_wp2_with fail
      refine (Q2.out _ T1).mono ?_
      rintro x w2 ⟨rfl, t2⟩
      have T2 : Tch (fun _ => False) w w2 := T1.trans' t2
      go_wp2_with fail
      go_ret
      exact eqT_no (fun e => by have := H2.out.2 e.2; simp at this) T2
    · go_enter Tryz.func231, Tryz.ntmps231
      go_wp2_with fail
      refine (Q1.out _ (Tch.alloc _ _ _)).mono ?_
      rintro x w1 ⟨rfl, t1⟩
      have T1 : Tch (fun _ => False) w w1 := (Tch.alloc _ _ _).trans' t1
      obtain ⟨y0, y1⟩ := HK.out w1 (t1)
      go_wp2_with fail
      refine (Q2.out _ T1).mono ?_
      rintro x w2 ⟨rfl, t2⟩
      have T2 : Tch (fun _ => False) w w2 := T1.trans' t2
      go_wp2_with fail
      go_ret
      exact ⟨true, rfl, ⟨fun _ => ⟨H1.out.1 (by trivial), H2.out.1 (by trivial)⟩, fun _ => rfl⟩, T2⟩
theorem right_8 (r : Rc) (s : Sk) (F : Nat → Prop) (w : World) (_hg : HE w) (h : RW w F r s) : Calls Tryz.prog 224 #[.agg #[.int .i64 r.x, .int .i64 r.tb.id, .int .i64 r.tb.ver, .string r.tb.nm, .slice s.co r.tb.cols.length s.cc, .int .i64 r.tb.key]] w fun x w' => EqT (rightC 8 r) w x w' := by
  have q1 := isNumber_any r.x
  have HQ2 : Hid (∀ W, Tch (fun _ => False) w W → Calls Tryz.prog 26 #[tA r.tb.id r.tb.ver r.tb.nm (.slice s.co r.tb.cols.length s.cc) r.tb.key] W fun x w' => x = .returned (.int .i64 (rightE r.tb)) ∧ Tch (fun _ => False) W w') := fun W t => right_any r.tb s.co s.cc W ((h.no t).tb.sl) h.tb.cap h.cl
  obtain ⟨d1, hd1⟩ : ∃ d, d = decide (rtN r.x) := ⟨_, rfl⟩
  have H1 : Hid (d1 = true ↔ rtN r.x) := by rw [hd1]; exact decide_eq_true_iff
  rw [← hd1] at q1
  obtain ⟨E, hE⟩ : ∃ E, E = rightE r.tb := ⟨_, rfl⟩
  have HE : Hid (E = rightE r.tb) := hE
  rw [← hE] at HQ2
  obtain ⟨n, hn⟩ : ∃ n, n = r.tb.cols.length := ⟨_, rfl⟩
  rw [← hn] at HQ2 ⊢
  have HQ1 : Hid _ := q1
  clear hd1 h _hg hE q1 hn
  cases d1
  · go_enter Tryz.func224, Tryz.ntmps224
    go_wp2_with fail
    refine (HQ1.out _).mono ?_
    rintro x w1 ⟨rfl, rfl⟩
    go_wp2_with fail
    go_ret
    exact eqT_no (fun e => by have := H1.out.2 e.1; simp at this) (Tch.alloc _ _ _)
  · by_cases hE0 : E = 0
    · have hE1 : (E == 0) = true := int_eq' hE0
      go_enter Tryz.func224, Tryz.ntmps224
      go_wp2_with fail
      refine (HQ1.out _).mono ?_
      rintro x w1 ⟨rfl, rfl⟩
      go_wp2_with fail
      refine (HQ2.out _ (Tch.alloc _ _ _)).mono ?_
      rintro x w1 ⟨rfl, t1⟩
      go_wp2_with fail
      go_ret
      exact ⟨true, rfl, ⟨fun _ => ⟨H1.out.1 (by trivial), HE.out.symm.trans hE0⟩, fun _ => rfl⟩, (Tch.alloc _ _ _).trans' t1⟩
    · have hE1 : (E == 0) = false := int_ne hE0
      go_enter Tryz.func224, Tryz.ntmps224
      go_wp2_with fail
      refine (HQ1.out _).mono ?_
      rintro x w1 ⟨rfl, rfl⟩
      go_wp2_with fail
      refine (HQ2.out _ (Tch.alloc _ _ _)).mono ?_
      rintro x w1 ⟨rfl, t1⟩
      go_wp2_with fail
      go_ret
      exact eqT_no (fun e => hE0 (HE.out.trans e.2)) ((Tch.alloc _ _ _).trans' t1)
theorem ld_of {P : List (Tbl × Value)} {l : List Tbl} {next : Int} (he : P.map Prod.fst = l) (h : LDp l next) : LD P next := by
  subst he
  have hg : ∀ i (hi : i < P.length), (P.map Prod.fst)[i]'(by simpa using hi) = P[i].1 := fun i hi => by simp
  refine ⟨by simpa using h.len, fun i hi => ?_, fun i hi => ?_, fun i hi => ?_, fun i j hi hj hij => ?_, fun i j hi hj hij => ?_⟩
  · have := (right_rt (h.right i (by simpa using hi))).len.2
    rw [hg i hi] at this; exact this
  · have := h.right i (by simpa using hi)
    rw [hg i hi] at this; exact this
  · have h1 := h.ids i (by simpa using hi)
    have h2 := (right_rt (h.right i (by simpa using hi))).id.1
    rw [hg i hi] at h1 h2; exact ⟨h2, h1⟩
  · have := h.rise i j (by simpa using hi) (by simpa using hj) hij
    rw [hg i hi, hg j hj] at this; exact this
  · have := h.nms i j (by simpa using hi) (by simpa using hj) hij
    rw [hg i hi, hg j hj] at this; exact this
theorem right_10 (r : Rc) (s : Sk) (F : Nat → Prop) (w : World) (h : RW w F r s) (hr : rightC 10 r) : Calls Tryz.prog 234 #[.agg #[.int .i64 r.x, .int .i64 r.t, .slice s.to s.P.length s.tc]] w fun x w' => x = .returned (.bool true) ∧ Tch (fun _ => False) w w' := by
  obtain ⟨h1, h2, h3⟩ : (1 ≤ r.x ∧ r.x ≤ 2147483648) ∧ (1 ≤ r.t ∧ r.t ≤ 2147483648) ∧ LDp r.tbs r.t := hr
  have HQ1 : Hid (∀ W, Tch (fun _ => False) w W → Calls Tryz.prog 237 #[.slice s.to s.P.length s.tc, .int .i64 r.t] W fun x w' => LoadOut (s.P.map Prod.fst) W.heap.size (r.t - 1) x w' ∧ Tch (fun _ => False) W w') := fun W t => load_ok s.P s.to s.tc F r.t W (h.tbs.no t) (ld_of h.eq h3) h2.1 h2.2
  have q2 := isNext_any r.x
  have e2 : decide (rtNx r.x) = true := decide_eq_true h1
  rw [e2] at q2
  have HQ2 : Hid _ := q2
  have HK : Hid (∀ W, Tch (fun _ => False) (w.alloc (.cells #[.int .i64 r.x, .int .i64 r.t, .slice s.to s.P.length s.tc] 145)) W → W.cell? ⟨w.heap.size, 0, none⟩ = some (.int .i64 r.x)) := fun W t => (t.cell (p := ⟨_, _, none⟩) (by simp) (fun h => h)).trans (by simp)
  clear h h1 h2 h3 e2 q2
  go_enter Tryz.func234, Tryz.ntmps234
  go_wp2_with fail
  refine (HQ1.out _ (Tch.alloc _ _ _)).mono ?_
  rintro x w1 ⟨⟨d, P, tv, rfl, -⟩, t1⟩
  have y0 := HK.out _ t1
  go_wp2_with fail
  refine (HQ2.out _).mono ?_
  rintro x w2 ⟨rfl, rfl⟩
  go_wp2_with fail
  go_ret
  exact ⟨rfl, (Tch.alloc _ _ _).trans' t1⟩
end Go.Proofs.YtmfbhhloabkecaaGreatDoor.C
namespace Go.Proofs.YtmfbhhloabkecaaGreatDoor.C
open Go.RowKit
theorem right_2 (r : Rc) (s : Sk) (F : Nat → Prop) (w : World) (_hg : HE w) (_h : RW w F r s) : Calls Tryz.prog 192 #[.agg #[.int .i64 r.x, .int .i64 r.p]] w fun x w' => EqT (rightC 2 r) w x w' := by
  have q1 := isNumber_any r.x
  have q2 := isNumber_any r.p
  obtain ⟨d1, hd1⟩ : ∃ d, d = decide (rtN r.x) := ⟨_, rfl⟩
  obtain ⟨d2, hd2⟩ : ∃ d, d = decide (rtN r.p) := ⟨_, rfl⟩
  have H1 : Hid (d1 = true ↔ rtN r.x) := by rw [hd1]; exact decide_eq_true_iff
  have H2 : Hid (d2 = true ↔ rtN r.p) := by rw [hd2]; exact decide_eq_true_iff
  rw [← hd1] at q1
  rw [← hd2] at q2
  clear hd1 hd2 _h _hg
  have HQ1 : Hid _ := q1
  have HQ2 : Hid _ := q2
  clear q1 q2
  cases d1
  · go_enter Tryz.func192, Tryz.ntmps192
    go_wp2_with fail
    refine (HQ1.out _).mono ?_
    rintro x w1 ⟨rfl, rfl⟩
    go_wp2_with fail
    go_ret
    exact eqT_no (fun e => by have := H1.out.2 e.1; simp at this) (Tch.alloc _ _ _)
  · cases d2
    · go_enter Tryz.func192, Tryz.ntmps192
      go_wp2_with fail
      refine (HQ1.out _).mono ?_
      rintro x w1 ⟨rfl, rfl⟩
      go_wp2_with fail
      refine (HQ2.out _).mono ?_
      rintro x w1 ⟨rfl, rfl⟩
      go_wp2_with fail
      go_ret
      exact eqT_no (fun e => by have := H2.out.2 e.2.1; simp at this) (Tch.alloc _ _ _)
    · by_cases hlt : r.p < r.x
      · have hd : decide (r.p < r.x) = true := decide_eq_true hlt
        go_enter Tryz.func192, Tryz.ntmps192
        go_wp2_with fail
        refine (HQ1.out _).mono ?_
        rintro x w1 ⟨rfl, rfl⟩
        go_wp2_with fail
        refine (HQ2.out _).mono ?_
        rintro x w1 ⟨rfl, rfl⟩
        go_wp2_with fail
        go_ret
        exact ⟨true, rfl, ⟨fun _ => ⟨H1.out.1 (by trivial), H2.out.1 (by trivial), hlt⟩, fun _ => rfl⟩, Tch.alloc _ _ _⟩
      · have hd : decide (r.p < r.x) = false := decide_eq_false hlt
        have HN : Hid (¬ r.p < r.x) := hlt
        clear hlt
        go_enter Tryz.func192, Tryz.ntmps192
        go_wp2_with fail
        refine (HQ1.out _).mono ?_
        rintro x w1 ⟨rfl, rfl⟩
        go_wp2_with fail
        refine (HQ2.out _).mono ?_
        rintro x w1 ⟨rfl, rfl⟩
        go_wp2_with fail
        go_ret
        exact eqT_no (fun e : rightC 2 r => by have h1 := (show rtN r.x ∧ rtN r.p ∧ r.p < r.x from e).2.2; have h2 := HN.out; omega) (Tch.alloc _ _ _)
end Go.Proofs.YtmfbhhloabkecaaGreatDoor.C
namespace Go.Proofs.YtmfbhhloabkecaaGreatDoor.C
open Go.RowKit Go Go.Sort
theorem Tch.regrown (w : World) (d : Nat) (os : Array Obj) : Tch (fun _ => False) w (grow (redrawn w d) os) := Tch.of_below (below_regrown w d os) (Nat.le_refl _)
theorem regrown_calls {P : Program} {f : FuncId} {args : Array Value} {v : Value} {w : World} (h : ∀ W, Tch (fun _ => False) w W → Calls P f args W fun x w' => x = .returned v ∧ Tch (fun _ => False) W w') (d : Nat) (os : Array Obj) : Calls P f args (grow (redrawn w d) os) fun e w'' => e = .returned v ∧ ∃ p : Regrown, w'' = grow (redrawn w p.d) p.os :=
  Calls.regrown_of ((h _ (Tch.regrown w d os)).mono fun _ _ ⟨he, t⟩ => ⟨he, t.below (Nat.le_refl _) (fun _ _ h => h)⟩)
theorem sl_nil (W : World) (cs : List Value) (h : cs = []) : SL W none cs := fun hc => absurd h hc
theorem ck_nil (W : World) (F : Nat → Prop) : CK W F (tb0, .slice none 0 0) none 0 := ⟨rfl, sl_nil W _ rfl, fun _ => ⟨rfl, rfl⟩, Nat.le_refl _, fun h => absurd rfl h⟩
theorem tl_nil (W : World) (F : Nat → Prop) : TL W F none [] := ⟨sl_nil W _ rfl, fun h => absurd rfl h, fun i hi => by simp at hi⟩
theorem RW.cut {W : World} {F : Nat → Prop} {r : Rc} {s : Sk} (h : RW W F r s) (c : Nat) : RW W F (cutC c r) (cutS c s) := by
  have hc : c = 3 ∨ c = 4 ∨ c = 5 ∨ c = 8 ∨ c = 10 ∨ c = 1 ∨ c = 2 ∨ c = 6 ∨ c = 7 ∨ c = 9 ∨ c = 0 ∨ 10 < c := by omega
  have n0 : ∀ v ∈ ([] : List Val), v.i64 := fun v hv => by simp at hv
  have e0 : ∀ {F : Nat → Prop}, ([] : List Val) ≠ [] → ∀ g o, (none : Option Addr) = some ⟨g, o, none⟩ → ¬ F g := fun h => absurd rfl h
  have z0 : (0 : Nat) ≤ 9223372036854775807 := Nat.zero_le _
  have p0 : ∀ i (hi : i < ([] : List (Tbl × Value)).length), ([] : List (Tbl × Value))[i].1.cols.length ≤ 9223372036854775807 := fun i hi => by simp at hi
  have q0 : ∀ k, RW W F (rc0 k) sk0 := fun k => ⟨sl_nil W _ rfl, sl_nil W _ rfl, ck_nil W F, tl_nil W F, rfl, e0, e0, n0, n0, z0, z0, z0, z0, p0⟩
  rcases hc with rfl | rfl | rfl | rfl | rfl | rfl | rfl | rfl | rfl | rfl | rfl | hc
  · exact ⟨sl_nil W _ rfl, h.n, ck_nil W F, tl_nil W F, rfl, e0, h.nnf, n0, h.ni, z0, h.nl, z0, z0, p0⟩
  · exact ⟨h.o, h.n, ck_nil W F, tl_nil W F, rfl, h.onf, h.nnf, h.oi, h.ni, h.ol, h.nl, z0, z0, p0⟩
  · exact ⟨h.o, sl_nil W _ rfl, ck_nil W F, tl_nil W F, rfl, h.onf, e0, h.oi, n0, h.ol, z0, z0, z0, p0⟩
  · exact ⟨sl_nil W _ rfl, sl_nil W _ rfl, h.tb, tl_nil W F, rfl, e0, e0, n0, n0, z0, z0, h.cl, z0, p0⟩
  · exact ⟨sl_nil W _ rfl, sl_nil W _ rfl, ck_nil W F, h.tbs, h.eq, e0, e0, n0, n0, z0, z0, z0, h.tl, h.pl⟩
  · exact ⟨sl_nil W _ rfl, sl_nil W _ rfl, ck_nil W F, tl_nil W F, rfl, e0, e0, n0, n0, z0, z0, z0, z0, p0⟩
  · exact ⟨sl_nil W _ rfl, sl_nil W _ rfl, ck_nil W F, tl_nil W F, rfl, e0, e0, n0, n0, z0, z0, z0, z0, p0⟩
  · exact ⟨sl_nil W _ rfl, sl_nil W _ rfl, ck_nil W F, tl_nil W F, rfl, e0, e0, n0, n0, z0, z0, z0, z0, p0⟩
  · exact ⟨sl_nil W _ rfl, sl_nil W _ rfl, ck_nil W F, tl_nil W F, rfl, e0, e0, n0, n0, z0, z0, z0, z0, p0⟩
  · exact ⟨sl_nil W _ rfl, sl_nil W _ rfl, ck_nil W F, tl_nil W F, rfl, e0, e0, n0, n0, z0, z0, z0, z0, p0⟩
  · exact q0 r.k
  · have e1 : cutC c r = rc0 r.k := by unfold cutC; split <;> first | omega | rfl
    have e2 : cutS c s = sk0 := by unfold cutS; split <;> first | omega | rfl
    rw [e1, e2]; exact q0 r.k
theorem eqT_true {p : Prop} {P : Program} {f : FuncId} {ar : Array Value} {W : World} (h : Calls P f ar W fun x w' => EqT p W x w') (hp : p) : Calls P f ar W fun x w' => x = .returned (.bool true) ∧ Tch (fun _ => False) W w' :=
  h.mono fun _ _ ⟨_, h1, h2, h3⟩ => ⟨by rw [h1, h2.2 hp], h3⟩
end Go.Proofs.YtmfbhhloabkecaaGreatDoor.C
