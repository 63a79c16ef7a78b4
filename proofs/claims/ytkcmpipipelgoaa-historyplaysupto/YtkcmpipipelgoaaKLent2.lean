import Derived.Test.YtkcmpipipelgoaaKLw
import Derived.Deep.RegionHeld3
import Derived.Test.YtkcmpipipelgoaaKGrow
import Derived.Test.YtkcmpipipelgoaaHAt
import Derived.BigQuiet
import Derived.Test.YtkcmpipipelgoaaOrdv
/- sameAll, of two lists that are the same. -/
namespace Go.Proofs.Ytkcmpipipelgoaa
open Go.RowKit Go

set_option maxHeartbeats 2000000 in
set_option maxRecDepth 100000 in
theorem sames_true (A B : List (Tbl × Value)) (ao bo : Option Addr) (ac bc : Nat) (F G : Nat → Prop) (w : World) (hA : TL w F ao A) (hB : TL w G bo B) (hAB : A.map Prod.fst = B.map Prod.fst) (hl : A.length ≤ 1099511627776) (h8 : ∀ i (hi : i < A.length), A[i].1.cols.length ≤ 8) :
    Calls Try.prog 37 #[.slice ao A.length ac, .slice bo B.length bc] w fun x w' => x = .returned (.bool true) ∧ Tch (fun _ => False) w w' := by
  obtain ⟨n, hn⟩ : ∃ n, n = A.length := ⟨_, rfl⟩
  have hBl : B.length = n := by have h3 := congrArg List.length hAB; rw [List.length_map, List.length_map] at h3; omega
  have hAi : ∀ i (hi : i < A.length), ∀ hj : i < B.length, A[i].1 = B[i].1 := fun i hi hj => by
    have h3 : (A.map Prod.fst)[i]? = (B.map Prod.fst)[i]? := by rw [hAB]
    rw [List.getElem?_map, List.getElem?_map, List.getElem?_eq_getElem hi, List.getElem?_eq_getElem hj] at h3
    simpa using h3
  have HA : Hid (TL w F ao A) := hA
  have HB : Hid (TL w G bo B) := hB
  have HAi : Hid _ := hAi
  have H8 : Hid _ := h8
  have Hn : Hid (n = A.length ∧ B.length = n) := ⟨hn, hBl⟩
  have hn16 : n ≤ 1099511627776 := by omega
  rw [hBl, ← hn]
  clear hA hB hAi hAB h8 hn hBl hl
  go_enter Try.func37, Try.ntmps37
  go_wp2_with fail
  go_loopw [5] (fun i wr => ∃ k : Nat, i = .int .i64 k ∧ k ≤ n ∧ Hid (Tch (fun _ => False) w wr)) (fun i _ => n - (intOf i).toNat)
  case atStart => exact ⟨0, rfl, by omega, Tch.refl _ _⟩
  case round =>
    obtain ⟨k, rfl, hk, HT⟩ := hrel
    obtain ⟨wV, hwV⟩ : ∃ wV, wV = wr := ⟨_, rfl⟩
    subst hwV
    by_cases hlt : (k : Int) < n
    · have hkA : k < A.length := by have := Hn.out; omega
      have hkB : k < B.length := by have := Hn.out; omega
      have hTA := HA.out.tch HT.out (fun _ _ h => h.elim)
      have hTB := HB.out.tch HT.out (fun _ _ h => h.elim)
      obtain ⟨ga, oa, rfl, a0, a1, a2, a3, a4⟩ := hTA.at k hkA
      obtain ⟨gb, ob, rfl, b0, b1, b2, b3, b4⟩ := hTB.at k hkB
      obtain ⟨ca, cca, hca⟩ := hTA.col k hkA
      obtain ⟨cb, ccb, hcb⟩ := hTB.col k hkB
      obtain ⟨t, ht⟩ : ∃ t, t = A[k].1 := ⟨_, rfl⟩
      have ht2 : B[k].1 = t := by rw [ht]; exact (HAi.out k hkA hkB).symm
      have e1 : A[k].2 = .slice ca t.cols.length cca := by rw [ht]; exact hca.eq
      have e2 : B[k].2 = .slice cb t.cols.length ccb := by rw [← ht2]; exact hcb.eq
      rw [← ht] at a0 a1 a2 a4
      rw [ht2] at b0 b1 b2 b4
      rw [e1] at a3
      rw [e2] at b3
      obtain ⟨m, hm⟩ : ∃ m, m = t.cols.length := ⟨_, rfl⟩
      rw [← hm] at a3 b3
      have hsa : SL wV ca (ccl t.cols) := by rw [ht]; exact hca.sl
      have hsb : SL wV cb (ccl t.cols) := by rw [← ht2]; exact hcb.sl
      have h8t : t.cols.length ≤ 8 := by rw [ht]; exact H8.out k hkA
      have Hq : Hid (∀ W, Tch (fun _ => False) wV W → Calls Try.prog 31 #[tA t.id t.ver t.nm (.slice ca m cca) t.key, tA t.id t.ver t.nm (.slice cb m ccb) t.key] W fun x w' => x = .returned (.bool true) ∧ Tch (fun _ => False) W w') := fun W tW => by
        rw [hm]; exact same_true t ca cb cca ccb W (hsa.no tW) (hsb.no tW) (by omega)
      have HS : Hid (∀ W, Tch (fun _ => False) wV W → Tch (fun _ => False) wV W ∧ (W.cell? ⟨ga, oa + k * 5, none⟩ = some (.int .i64 t.id) ∧ W.cell? ⟨ga, oa + k * 5 + 1, none⟩ = some (.int .i64 t.ver) ∧ W.cell? ⟨ga, oa + k * 5 + 2, none⟩ = some (.string t.nm) ∧ W.cell? ⟨ga, oa + k * 5 + 3, none⟩ = some (.slice ca m cca) ∧ W.cell? ⟨ga, oa + k * 5 + 4, none⟩ = some (.int .i64 t.key)) ∧ (W.cell? ⟨gb, ob + k * 5, none⟩ = some (.int .i64 t.id) ∧ W.cell? ⟨gb, ob + k * 5 + 1, none⟩ = some (.int .i64 t.ver) ∧ W.cell? ⟨gb, ob + k * 5 + 2, none⟩ = some (.string t.nm) ∧ W.cell? ⟨gb, ob + k * 5 + 3, none⟩ = some (.slice cb m ccb) ∧ W.cell? ⟨gb, ob + k * 5 + 4, none⟩ = some (.int .i64 t.key))) := fun W tW => by
        have key : ∀ (a : Addr) u, wV.cell? a = some u → W.cell? a = some u := fun a u h => by rw [tW.cell (p := a) (cell_lt h) (fun h => h)]; exact h
        exact ⟨tW, ⟨key _ _ a0, key _ _ a1, key _ _ a2, key _ _ a3, key _ _ a4⟩, key _ _ b0, key _ _ b1, key _ _ b2, key _ _ b3, key _ _ b4⟩
      clear hTA hTB hca hcb ht ht2 e1 e2 hm hsa hsb h8t
      go_wp2_with fail
      clear a0 a1 a2 a3 a4 b0 b1 b2 b3 b4
      obtain ⟨_, ⟨a0, a1, a2, a3, a4⟩, b0, b1, b2, b3, b4⟩ := HS.out wV (Tch.refl _ _)
      go_region_held3 (fun W => Tch (fun _ => False) wV W ∧ (W.cell? ⟨ga, oa + k * 5, none⟩ = some (.int .i64 t.id) ∧ W.cell? ⟨ga, oa + k * 5 + 1, none⟩ = some (.int .i64 t.ver) ∧ W.cell? ⟨ga, oa + k * 5 + 2, none⟩ = some (.string t.nm) ∧ W.cell? ⟨ga, oa + k * 5 + 3, none⟩ = some (.slice ca m cca) ∧ W.cell? ⟨ga, oa + k * 5 + 4, none⟩ = some (.int .i64 t.key)) ∧ (W.cell? ⟨gb, ob + k * 5, none⟩ = some (.int .i64 t.id) ∧ W.cell? ⟨gb, ob + k * 5 + 1, none⟩ = some (.int .i64 t.ver) ∧ W.cell? ⟨gb, ob + k * 5 + 2, none⟩ = some (.string t.nm) ∧ W.cell? ⟨gb, ob + k * 5 + 3, none⟩ = some (.slice cb m ccb) ∧ W.cell? ⟨gb, ob + k * 5 + 4, none⟩ = some (.int .i64 t.key)))
        ((refine HS.out _ ?_; first | assumption | exact (Tch.refl _ _).drew))
        ((go_at_call 31; refine (Hq.out _ (show _ ∧ _ by assumption).1).mono ?_; rintro y w5 ⟨rfl, t5⟩; have V5 := Tch.trans' (show _ ∧ _ by assumption).1 t5))
      go_wp2_with fail
      go_roundw
      case rel => exact ⟨k + 1, by go_num, by omega, HT.out.trans' V5⟩
      case measure => simp [intOf]; omega
    · go_wp2_with fail
      go_ret
      exact ⟨rfl, HT.out⟩
end Go.Proofs.Ytkcmpipipelgoaa
/- lentIn, lent. -/
namespace Go.Proofs.Ytkcmpipipelgoaa
open Go.RowKit Go
set_option maxRecDepth 100000

/-- Block g has room for cap columns: first these, then up to q those that say where they stand. -/
structure LB (W : World) (g cap : Nat) (cols : List Col) (q : Nat) : Prop where
  blk : ∃ cu, W.heap[g]? = some (.cells cu 80 (0, 0)) ∧ cu.size = cap * 3
  fr : At W g 0 (ccl cols)
  bk : ∀ i, cols.length ≤ i → i < q → W.cell? ⟨g, i * 3 + 1, none⟩ = some (.int .i64 (71 + (i : Int)))
theorem LB.tch {S : Nat → Prop} {W W' : World} {g cap : Nat} {cols : List Col} {q : Nat} (h : LB W g cap cols q) (t : Tch S W W') (hS : ¬ S g) : LB W' g cap cols q := by
  obtain ⟨cu, hb, hs⟩ := h.blk
  exact ⟨⟨cu, (t.block g (blk_lt hb) hS).trans hb, hs⟩, h.fr.tch t (fun _ => hS), fun i h1 h2 => (t.cell (p := ⟨g, i * 3 + 1, none⟩) (blk_lt hb) hS).trans (h.bk i h1 h2)⟩
theorem LB.sl {W : World} {g cap : Nat} {cols : List Col} {q : Nat} (h : LB W g cap cols q) : SL W (some ⟨g, 0, none⟩) (ccl cols) := fun _ => ⟨g, 0, rfl, h.fr⟩
theorem res_pair2 {fn : Func} {tmps : Array Value} {W : World} {B k j : Nat} {v a b c d e : Value} (hrs : fn.results = #[.cell k 36, .tmp j]) (hk : tmps[k]?.getD undef = .pointer (some ⟨B, 0, none⟩)) (hj : tmps[j]?.getD undef = v)
    (hb : W.heap[B]? = some (.cells #[a, b, c, d, e] 36 (0, 0))) :
    (results fn tmps).run Try.prog W = .ok (.tuple #[.agg #[a, b, c, d, e], v]) W := by
  have c0 : W.cell? ⟨B, 0, none⟩ = some a := blk_cell hb 0
  have c1 : W.cell? ⟨B, 1, none⟩ = some b := blk_cell hb 1
  have c2 : W.cell? ⟨B, 2, none⟩ = some c := blk_cell hb 2
  have c3 : W.cell? ⟨B, 3, none⟩ = some d := blk_cell hb 3
  have c4 : W.cell? ⟨B, 4, none⟩ = some e := blk_cell hb 4
  clear hb
  simp only [results, hrs]
  go_simp

set_option maxHeartbeats 2000000 in
theorem lentIn_any (g cap ln : Nat) (cu : Array Value) (t : Tbl) (ao : Option Addr) (c : Nat) (w : World) (hg : w.heap[g]? = some (.cells cu 80 (0, 0))) (hs : cu.size = cap * 3) (hln : t.cols.length ≤ ln) (hcap : ln ≤ cap) (hl9 : ln ≤ 1000000000) (hc0 : 0 < cap) (hS : SL w ao (ccl t.cols)) (hno : ao = none → t.cols = [] ∧ c = 0) :
    Calls Try.prog 28 #[.slice (some ⟨g, 0, none⟩) ln cap, tA t.id t.ver t.nm (.slice ao t.cols.length c) t.key] w fun r w' => r = .returned (.tuple #[tA t.id t.ver t.nm (.slice (some ⟨g, 0, none⟩) t.cols.length cap) t.key, .slice (some ⟨g, 0, none⟩) ln cap]) ∧ LB w' g cap t.cols ln ∧ Tch (fun i => i = g) w w' := by
  obtain ⟨n, hn⟩ : ∃ n, n = t.cols.length := ⟨_, rfl⟩
  obtain ⟨N, hN⟩ : ∃ N, N = w.heap.size := ⟨_, rfl⟩
  obtain ⟨w0, hw0⟩ : ∃ w0, w0 = (w.alloc (.cells #[.int .i64 t.id, .int .i64 t.ver, .string t.nm, .slice ao n c, .int .i64 t.key] 36)).alloc (.cells #[.int .i64 0, .int .i64 0, .string ⟨#[]⟩, .slice none 0 0, .int .i64 0] 36) := ⟨_, rfl⟩
  have t0 : Tch (fun _ => False) w w0 := by rw [hw0]; exact (Tch.alloc _ _ _).allocR _
  have hX : w0.heap[N]? = some (.cells #[.int .i64 t.id, .int .i64 t.ver, .string t.nm, .slice ao n c, .int .i64 t.key] 36 (0, 0)) := by
    rw [hw0, hN]; exact (Tch.alloc (fun _ => False) _ _).block _ (by simp) (fun h => h) |>.trans (alloc_new _ _)
  have hY : w0.heap[N + 1]? = some (.cells #[.int .i64 0, .int .i64 0, .string ⟨#[]⟩, .slice none 0 0, .int .i64 0] 36 (0, 0)) := by
    rw [hw0, hN, ← World.size_alloc]; exact alloc_new _ _
  have hgN : g < N := by rw [hN]; exact blk_lt hg
  have hg0 := (t0.block g (blk_lt hg) (fun e => e)).trans hg
  have hxl : (ccl t.cols).length = n * 3 := by rw [ccl_len, hn]
  obtain ⟨w1, hr1, hg1, t1⟩ := copy_in (P := Try.prog) w0 34 80 80 g ln cap ao n c cu (ccl t.cols) Try.underlying34 info_col3 hg0 hxl (by omega) (by rw [hs]; omega) (ccl_one _) (hS.no t0) (fun e => (hno e).2)
  have hcs1 : (ccl t.cols ++ cu.toList.drop (n * 3)).toArray.size = cap * 3 := by
    have : cu.toList.length = cap * 3 := by simpa using hs
    simp only [List.size_toArray, List.length_append, List.length_drop]
    omega
  have HLB0 : Hid (LB w1 g cap t.cols n) := ⟨⟨_, hg1, hcs1⟩, fun j u hu => by
    have hj := (List.getElem?_eq_some_iff.1 hu).1
    rw [Nat.zero_add, blk_cell hg1, List.getElem?_toArray, List.getElem?_append_left hj]
    exact hu, fun i h1 h2 => by omega⟩
  have hX1 := (t1.block N (blk_lt hX) (fun e => by have e' : N = g := e; omega)).trans hX
  have hY1 := (t1.block (N + 1) (blk_lt hY) (fun e => by have e' : N + 1 = g := e; omega)).trans hY
  have HX1 : Hid _ := hX1
  have HY1 : Hid _ := hY1
  have HT1 : Hid (Tch (fun i => i = g) w w1) := (t0.mono (fun _ _ e => e.elim)).trans' t1
  have HR1 : Hid _ := hr1
  have HW0 : Hid (w0 = _) := hw0
  have HN : Hid (N = w.heap.size) := hN
  have Hn : Hid (n = t.cols.length) := hn
  have hrs : Try.f28.results = #[.cell 4 36, .tmp 5] := by kernel_rfl
  have x3 : w0.cell? ⟨N, 3, none⟩ = some (.slice ao n c) := blk_cell hX 3
  have x31 : w1.cell? ⟨N, 3, none⟩ = some (.slice ao n c) := blk_cell hX1 3
  have hnl : n ≤ ln := by omega
  rw [← hn]
  clear hw0 t0 hX hY hg0 hxl hr1 hg1 t1 hcs1 hX1 hY1 hg hs hln hS hno hn hN
  go_enter Try.func28, Try.ntmps28
  go_upto_region 1 with (fail)
  rw [← HW0.out, ← HN.out]
  have hr1 := HR1.out
  go_wp2_with fail
  clear x3 hr1
  go_loopw [6] (fun i wr => ∃ q : Nat, i = .int .i64 q ∧ n ≤ q ∧ q ≤ ln ∧ Hid (LB wr g cap t.cols q) ∧ Hid (Tch (fun i => i = g) w1 wr)) (fun i _ => ln - (intOf i).toNat)
  case atStart => exact ⟨n, rfl, by omega, by omega, HLB0, Tch.refl _ _⟩
  case round =>
    clear HLB0 x31
    obtain ⟨q, rfl, hnq, hq, HB, HT⟩ := hrel
    by_cases hlt : (q : Int) < ln
    · obtain ⟨cu2, hh, hsz⟩ := HB.out.blk
      obtain ⟨⟨y0, e0⟩, ⟨y1, e1⟩, ⟨y2, e2⟩, hf⟩ := set3_cells hh hsz (by omega : q < cap) (.string ⟨#[]⟩) (.int .i64 (71 + (q : Int)))
      have f0 := hf (q * 3); have f1 := hf (q * 3 + 1); have f2 := hf (q * 3 + 2)
      have HB2 : Hid (LB (((wr.setCell ⟨g, q * 3, none⟩ (.string ⟨#[]⟩)).setCell ⟨g, q * 3 + 1, none⟩ (.int .i64 (71 + (q : Int)))).setCell ⟨g, q * 3 + 2, none⟩ (.bool false)) g cap t.cols (q + 1)) := by
        have hb3 := blk_set (i := q * 3 + 2) (blk_set (i := q * 3 + 1) (blk_set (i := q * 3) hh (.string ⟨#[]⟩)) (.int .i64 (71 + (q : Int)))) (.bool false)
        have hnl := Hn.out
        refine ⟨⟨_, hb3, by simp [hsz]⟩, fun j u hu => ?_, fun i h1 h2 => ?_⟩
        · have hj := (List.getElem?_eq_some_iff.1 hu).1
          rw [ccl_len] at hj
          have := HB.out.fr j u hu
          rw [Nat.zero_add] at this ⊢
          rw [World.cell?_setCell_other (h := by intro e; injection e; omega), World.cell?_setCell_other (h := by intro e; injection e; omega), World.cell?_setCell_other (h := by intro e; injection e; omega)]
          exact this
        · rcases Nat.lt_or_ge i q with h3 | h3
          · rw [World.cell?_setCell_other (h := by intro e; injection e; omega), World.cell?_setCell_other (h := by intro e; injection e; omega), World.cell?_setCell_other (h := by intro e; injection e; omega)]
            exact HB.out.bk i h1 h3
          · obtain rfl : i = q := by omega
            rw [blk_cell hb3, Array.getElem?_setIfInBounds_ne (by omega), Array.getElem?_setIfInBounds_self_of_lt (by simp; omega)]
      have HT2 : Hid (Tch (fun i => i = g) w1 (((wr.setCell ⟨g, q * 3, none⟩ (.string ⟨#[]⟩)).setCell ⟨g, q * 3 + 1, none⟩ (.int .i64 (71 + (q : Int)))).setCell ⟨g, q * 3 + 2, none⟩ (.bool false))) := ((Tch.setCellR HT.out ⟨g, q * 3, none⟩ _ rfl).setCellR ⟨g, q * 3 + 1, none⟩ _ rfl).setCellR ⟨g, q * 3 + 2, none⟩ _ rfl
      clear hh hf hsz HB HT
      go_wp2_with fail
      go_roundw
      case rel => exact ⟨q + 1, by go_num, by omega, by omega, HB2, HT2⟩
      case measure => simp [intOf]; omega
    · obtain rfl : q = ln := by omega
      have hXr := (HT.out.block N (blk_lt HX1.out) (fun e => by have e' : N = g := e; omega)).trans HX1.out
      have hYr := (HT.out.block (N + 1) (blk_lt HY1.out) (fun e => by have e' : N + 1 = g := e; omega)).trans HY1.out
      obtain ⟨w5, hw5⟩ : ∃ w5, w5 = wr.setCell ⟨N, 3, none⟩ (.slice (some ⟨g, 0, none⟩) n cap) := ⟨_, rfl⟩
      have t5 : Tch (fun i => i = N) wr w5 := by rw [hw5]; exact Tch.setCell (fun i => i = N) wr ⟨N, 3, none⟩ _ rfl
      have hX5 : w5.heap[N]? = some (.cells #[.int .i64 t.id, .int .i64 t.ver, .string t.nm, .slice (some ⟨g, 0, none⟩) n cap, .int .i64 t.key] 36 (0, 0)) := by rw [hw5, blk_set (i := 3) hXr]; rfl
      have hY5 := (t5.block (N + 1) (blk_lt hYr) (fun e => by have e' : N + 1 = N := e; omega)).trans hYr
      have HY5 : Hid _ := hY5
      have HW5 : Hid (w5 = _) := hw5
      have HT5 : Hid (Tch (fun i => i = g) w w5) := (HT1.out.trans HT.out (fun i _ e => e)).trans t5 (fun i hi e => by have e' : i = N := e; have := HN.out; omega)
      have HB5 : Hid (LB w5 g cap t.cols q) := HB.out.tch t5 (fun e => by have e' : g = N := e; omega)
      have x3 : wr.cell? ⟨N, 3, none⟩ = some (.slice ao n c) := blk_cell hXr 3
      have xf := blk_frozen hXr
      have u0 : w5.cell? ⟨N, 0, none⟩ = some (.int .i64 t.id) := blk_cell hX5 0
      have u1 : w5.cell? ⟨N, 1, none⟩ = some (.int .i64 t.ver) := blk_cell hX5 1
      have u2 : w5.cell? ⟨N, 2, none⟩ = some (.string t.nm) := blk_cell hX5 2
      have u3 : w5.cell? ⟨N, 3, none⟩ = some (.slice (some ⟨g, 0, none⟩) n cap) := blk_cell hX5 3
      have u4 : w5.cell? ⟨N, 4, none⟩ = some (.int .i64 t.key) := blk_cell hX5 4
      have y0 : w5.cell? ⟨N + 1, 0, none⟩ = some (.int .i64 0) := blk_cell hY5 0
      have y1 : w5.cell? ⟨N + 1, 1, none⟩ = some (.int .i64 0) := blk_cell hY5 1
      have y2 : w5.cell? ⟨N + 1, 2, none⟩ = some (.string ⟨#[]⟩) := blk_cell hY5 2
      have y3 : w5.cell? ⟨N + 1, 3, none⟩ = some (.slice none 0 0) := blk_cell hY5 3
      have y4 : w5.cell? ⟨N + 1, 4, none⟩ = some (.int .i64 0) := blk_cell hY5 4
      have yf := blk_frozen hY5
      have hnc : n ≤ cap := by omega
      have hnc' : (n : Int) ≤ (cap : Int) := by omega
      clear hXr hYr hw5 t5 hX5 hY5 HB HT hlt
      go_upto_region 7 with (fail)
      rw [← HW5.out]
      clear x3 xf
      go_wp2_with fail
      refine bodyPost_ret (res_pair2 hrs rfl rfl (set5 HY5.out _ _ _ _ _)) rfl ⟨rfl, HB5.out.tch (tch5 _ (N + 1) _ _ _ _ _) (fun e => by have e' : g = N + 1 := e; omega), HT5.out.trans (tch5 _ (N + 1) _ _ _ _ _) (fun i hi e => by have e' : i = N + 1 := e; have := HN.out; omega)⟩
end Go.Proofs.Ytkcmpipipelgoaa
/- back. -/
namespace Go.Proofs.Ytkcmpipipelgoaa
open Go.RowKit Go
set_option maxRecDepth 100000

set_option maxHeartbeats 2000000 in
theorem back_any (g cap ln : Nat) (t : Tbl) (ao : Option Addr) (c : Nat) (w : World) (hB : LB w g cap t.cols ln) (hln : t.cols.length ≤ ln) (hcap : ln ≤ cap) (hl9 : ln ≤ 1000000000) (hS : SL w ao (ccl t.cols)) (hao : t.cols ≠ [] → ∀ g' o', ao = some ⟨g', o', none⟩ → g' ≠ g) :
    Calls Try.prog 18 #[tA t.id t.ver t.nm (.slice (some ⟨g, 0, none⟩) t.cols.length cap) t.key, .slice (some ⟨g, 0, none⟩) ln cap, tA t.id t.ver t.nm (.slice ao t.cols.length c) t.key] w fun r w' => r = .returned (.bool true) ∧ (∃ cu, w'.heap[g]? = some (.cells cu 80 (0, 0)) ∧ cu.size = cap * 3) ∧ Tch (fun i => i = g) w w' := by
  obtain ⟨n, hn⟩ : ∃ n, n = t.cols.length := ⟨_, rfl⟩
  obtain ⟨N, hN⟩ : ∃ N, N = w.heap.size := ⟨_, rfl⟩
  obtain ⟨w0, hw0⟩ : ∃ w0, w0 = (w.alloc (.cells #[.int .i64 t.id, .int .i64 t.ver, .string t.nm, .slice (some ⟨g, 0, none⟩) n cap, .int .i64 t.key] 36)).alloc (.cells #[.int .i64 t.id, .int .i64 t.ver, .string t.nm, .slice ao n c, .int .i64 t.key] 36) := ⟨_, rfl⟩
  have t0 : Tch (fun _ => False) w w0 := by rw [hw0]; exact (Tch.alloc _ _ _).allocR _
  have hX : w0.heap[N]? = some (.cells #[.int .i64 t.id, .int .i64 t.ver, .string t.nm, .slice (some ⟨g, 0, none⟩) n cap, .int .i64 t.key] 36 (0, 0)) := by
    rw [hw0, hN]; exact (Tch.alloc (fun _ => False) _ _).block _ (by simp) (fun h => h) |>.trans (alloc_new _ _)
  have hY : w0.heap[N + 1]? = some (.cells #[.int .i64 t.id, .int .i64 t.ver, .string t.nm, .slice ao n c, .int .i64 t.key] 36 (0, 0)) := by
    rw [hw0, hN, ← World.size_alloc]; exact alloc_new _ _
  have hgN : g < N := by obtain ⟨cu, hb, _⟩ := hB.blk; rw [hN]; exact blk_lt hb
  have hB0 := hB.tch t0 (fun e => e)
  have q1 := same_true t (some ⟨g, 0, none⟩) ao cap c w0 hB0.sl (hS.no t0) (by omega)
  rw [← hn] at q1
  have HB0 : Hid (LB w0 g cap t.cols ln) := hB0
  have HS0 : Hid (SL w0 ao (ccl t.cols)) := hS.no t0
  have HA : Hid (t.cols ≠ [] → ∀ g' o', ao = some ⟨g', o', none⟩ → g' ≠ g) := hao
  have HX : Hid _ := hX
  have HY : Hid _ := hY
  have HT0 : Hid (Tch (fun _ => False) w w0) := t0
  have HW0 : Hid (w0 = _) := hw0
  have HN : Hid (N = w.heap.size) := hN
  have Hn : Hid (n = t.cols.length) := hn
  have hnl : n ≤ ln := by omega
  have x0 : w0.cell? ⟨N, 0, none⟩ = some (.int .i64 t.id) := blk_cell hX 0
  have x1 : w0.cell? ⟨N, 1, none⟩ = some (.int .i64 t.ver) := blk_cell hX 1
  have x2 : w0.cell? ⟨N, 2, none⟩ = some (.string t.nm) := blk_cell hX 2
  have x3 : w0.cell? ⟨N, 3, none⟩ = some (.slice (some ⟨g, 0, none⟩) n cap) := blk_cell hX 3
  have x4 : w0.cell? ⟨N, 4, none⟩ = some (.int .i64 t.key) := blk_cell hX 4
  have y0 : w0.cell? ⟨N + 1, 0, none⟩ = some (.int .i64 t.id) := blk_cell hY 0
  have y1 : w0.cell? ⟨N + 1, 1, none⟩ = some (.int .i64 t.ver) := blk_cell hY 1
  have y2 : w0.cell? ⟨N + 1, 2, none⟩ = some (.string t.nm) := blk_cell hY 2
  have y3 : w0.cell? ⟨N + 1, 3, none⟩ = some (.slice ao n c) := blk_cell hY 3
  have y4 : w0.cell? ⟨N + 1, 4, none⟩ = some (.int .i64 t.key) := blk_cell hY 4
  rw [← hn]
  clear hw0 t0 hX hY hB hln hS hao hn hN hB0
  go_enter Try.func18, Try.ntmps18
  go_upto_region 1 with (fail)
  rw [← HW0.out, ← HN.out]
  go_wp2_with fail
  refine q1.mono ?_
  rintro r w1 ⟨rfl, t1⟩
  have HJ0 : Hid (∀ W, Tch (fun i => i = g) w1 W → W.cell? ⟨N + 1, 3, none⟩ = some (.slice ao n c) ∧ SL W ao (ccl t.cols)) := fun W tW => by
    have h2 := (t1.block (N + 1) (blk_lt HY.out) (fun e => e)).trans HY.out
    have h3 := (tW.block (N + 1) (blk_lt h2) (fun e => by have e' : N + 1 = g := e; omega)).trans h2
    refine ⟨blk_cell h3 3, ?_⟩
    by_cases e9 : t.cols = []
    · rw [e9]; exact SL.nil _ _
    · exact (HS0.out.no t1).tch tW (fun g' o' e => HA.out e9 g' o' e)
  have HK0 : Hid ((∃ cu, w1.heap[g]? = some (.cells cu 80 (0, 0)) ∧ cu.size = cap * 3) ∧ (∀ j, 0 ≤ j → ∀ u, (ccl t.cols)[j]? = some u → w1.cell? ⟨g, j, none⟩ = some u) ∧ ∀ i, 0 ≤ i → n ≤ i → i < ln → w1.cell? ⟨g, i * 3 + 1, none⟩ = some (.int .i64 (71 + (i : Int)))) := by
    have := HB0.out.tch t1 (fun e => e)
    refine ⟨this.blk, fun j _ u hu => ?_, fun i _ h1 h2 => this.bk i (by have := Hn.out; omega) h2⟩
    have h3 := this.fr j u hu
    rwa [Nat.zero_add] at h3
  have HT1 : Hid (Tch (fun i => i = g) w w1) := (HT0.out.trans' t1).mono (fun _ _ e => e.elim)
  clear q1 x0 x1 x2 x3 x4 y0 y1 y2 y3 y4 t1
  go_wp2_with fail
  go_loopw [7, 8] (fun ok i wr => ok = .bool true ∧ ∃ q : Nat, i = .int .i64 q ∧ q ≤ ln ∧ Hid ((∃ cu, wr.heap[g]? = some (.cells cu 80 (0, 0)) ∧ cu.size = cap * 3) ∧ (∀ j, q * 3 ≤ j → ∀ u, (ccl t.cols)[j]? = some u → wr.cell? ⟨g, j, none⟩ = some u) ∧ ∀ i, q ≤ i → n ≤ i → i < ln → wr.cell? ⟨g, i * 3 + 1, none⟩ = some (.int .i64 (71 + (i : Int)))) ∧ Hid (Tch (fun i => i = g) w1 wr)) (fun _ i _ => ln - (intOf i).toNat)
  case atStart => exact ⟨rfl, 0, rfl, by omega, HK0, Tch.refl _ _⟩
  case round =>
    clear HK0
    obtain ⟨rfl, q, rfl, hq, HK, HT⟩ := hrel
    by_cases hlt : (q : Int) < ln
    · obtain ⟨d3, hsl⟩ := HJ0.out wr HT.out
      have HSt : Hid (∀ W, (∃ m, W = wr.drewN m) → (∃ y, W.cell? ⟨g, q * 3, none⟩ = some y) ∧ (∃ y, (W.setCell ⟨g, q * 3, none⟩ (.string ⟨#[111, 118, 101, 114]⟩)).cell? ⟨g, q * 3 + 1, none⟩ = some y) ∧ (∃ y, ((W.setCell ⟨g, q * 3, none⟩ (.string ⟨#[111, 118, 101, 114]⟩)).setCell ⟨g, q * 3 + 1, none⟩ (.int .i64 0)).cell? ⟨g, q * 3 + 2, none⟩ = some y) ∧ (∀ j, W.frozen? ⟨g, j, none⟩ = false) ∧ Hid ((∃ cu, (((W.setCell ⟨g, q * 3, none⟩ (.string ⟨#[111, 118, 101, 114]⟩)).setCell ⟨g, q * 3 + 1, none⟩ (.int .i64 0)).setCell ⟨g, q * 3 + 2, none⟩ (.bool false)).heap[g]? = some (.cells cu 80 (0, 0)) ∧ cu.size = cap * 3) ∧ (∀ j, (q + 1) * 3 ≤ j → ∀ u, (ccl t.cols)[j]? = some u → (((W.setCell ⟨g, q * 3, none⟩ (.string ⟨#[111, 118, 101, 114]⟩)).setCell ⟨g, q * 3 + 1, none⟩ (.int .i64 0)).setCell ⟨g, q * 3 + 2, none⟩ (.bool false)).cell? ⟨g, j, none⟩ = some u) ∧ ∀ i, q + 1 ≤ i → n ≤ i → i < ln → (((W.setCell ⟨g, q * 3, none⟩ (.string ⟨#[111, 118, 101, 114]⟩)).setCell ⟨g, q * 3 + 1, none⟩ (.int .i64 0)).setCell ⟨g, q * 3 + 2, none⟩ (.bool false)).cell? ⟨g, i * 3 + 1, none⟩ = some (.int .i64 (71 + (i : Int)))) ∧ Hid (Tch (fun i => i = g) w1 (((W.setCell ⟨g, q * 3, none⟩ (.string ⟨#[111, 118, 101, 114]⟩)).setCell ⟨g, q * 3 + 1, none⟩ (.int .i64 0)).setCell ⟨g, q * 3 + 2, none⟩ (.bool false)))) := by
        rintro W ⟨m, rfl⟩
        have td : Tch (fun _ => False) wr (wr.drewN m) := (Tch.refl _ _).drewN m
        obtain ⟨⟨cu, hh, hsz⟩, k2, k3⟩ := HK.out
        have hh' := (td.block g (blk_lt hh) (fun e => e)).trans hh
        obtain ⟨s1, s2, s3, hf⟩ := set3_cells hh' hsz (by omega : q < cap) (.string ⟨#[111, 118, 101, 114]⟩) (.int .i64 0)
        refine ⟨s1, s2, s3, hf, ⟨⟨_, blk_set (blk_set (blk_set hh' _) _) _, by simp [hsz]⟩, fun j hj u hu => ?_, fun i h1 h2 h3 => ?_⟩, (((HT.out.trans td (fun _ _ e => e.elim)).setCellR ⟨g, q * 3, none⟩ _ rfl).setCellR ⟨g, q * 3 + 1, none⟩ _ rfl).setCellR ⟨g, q * 3 + 2, none⟩ _ rfl⟩
        · rw [World.cell?_setCell_other (h := by intro e; injection e; omega), World.cell?_setCell_other (h := by intro e; injection e; omega), World.cell?_setCell_other (h := by intro e; injection e; omega)]
          exact (td.cell (p := ⟨g, j, none⟩) (blk_lt hh) (fun e => e)).trans (k2 j (by omega) u hu)
        · rw [World.cell?_setCell_other (h := by intro e; injection e; omega), World.cell?_setCell_other (h := by intro e; injection e; omega), World.cell?_setCell_other (h := by intro e; injection e; omega)]
          exact (td.cell (p := ⟨g, i * 3 + 1, none⟩) (blk_lt hh) (fun e => e)).trans (k3 i (by omega) h2 h3)
      by_cases hqn : q < n
      · have hqn' : (q : Int) < (n : Int) := by omega
        have hkl : q < t.cols.length := by have := Hn.out; omega
        obtain ⟨gl, o, rfl, ha⟩ := hsl.col hkl
        obtain ⟨a0, a1, a2⟩ := ha.col q hkl
        have hcc := f3_get (fun c : Col => Value.string c.nm) (fun c => .int .i64 c.k) (fun c => .bool c.nl) t.cols q hkl
        have b0 := HK.out.2.1 (q * 3) (by omega) _ hcc.1
        have b1 := HK.out.2.1 (q * 3 + 1) (by omega) _ hcc.2.1
        have b2 := HK.out.2.1 (q * 3 + 2) (by omega) _ hcc.2.2
        obtain ⟨x, hx⟩ : ∃ x, x = t.cols[q] := ⟨_, rfl⟩
        rw [← hx] at a0 a1 a2 b0 b1 b2
        obtain ⟨d, hd1, hd⟩ := eql_col x x
        obtain rfl : d = true := hd1.2 rfl
        clear hd1 hx hcc ha hsl HK HT
        go_wp2_with fail
        go_quiet (fail)
        obtain ⟨⟨z0, e0⟩, ⟨z1, e1⟩, ⟨z2, e2⟩, hf, HK2, HT2⟩ := HSt.out (wr.drewN nq) ⟨nq, rfl⟩
        obtain ⟨w5, hw5⟩ : ∃ w5, w5 = wr.drewN nq := ⟨_, rfl⟩
        rw [← hw5] at e0 e1 e2 hf HK2 HT2 ⊢
        have f0 := hf (q * 3); have f1 := hf (q * 3 + 1); have f2 := hf (q * 3 + 2)
        clear a0 a1 a2 b0 b1 b2 d3 hd hf HSt hw5
        go_wp2_with fail
        go_roundw
        case rel => exact ⟨rfl, q + 1, by go_num, by omega, HK2, HT2⟩
        case measure => simp [intOf]; omega
      · have hqn' : ¬ (q : Int) < (n : Int) := by omega
        have b1 := HK.out.2.2 q (Nat.le_refl _) (by omega) (by omega)
        obtain ⟨⟨z0, e0⟩, ⟨z1, e1⟩, ⟨z2, e2⟩, hf, HK2, HT2⟩ := HSt.out wr ⟨0, by simp [World.drewN]⟩
        have f0 := hf (q * 3); have f1 := hf (q * 3 + 1); have f2 := hf (q * 3 + 2)
        have hwq : IntKind.i64.wrap (71 + (q : Int)) = 71 + (q : Int) := wrap_of (by omega) (by omega)
        clear hsl HK HT hf HSt
        go_wp2_with fail
        go_roundw
        case rel => exact ⟨rfl, q + 1, by go_num, by omega, HK2, HT2⟩
        case measure => simp [intOf]; omega
    · go_wp2_with fail
      go_ret
      exact ⟨rfl, HK.out.1, HT1.out.trans HT.out (fun i _ e => e)⟩
end Go.Proofs.Ytkcmpipipelgoaa
/- lent. -/
namespace Go.Proofs.Ytkcmpipipelgoaa
open Go.RowKit Go
set_option maxRecDepth 100000

def LentOut (t : Tbl) (N : Nat) (r : Ending) (w' : World) : Prop := ∃ g, r = .returned (.tuple #[tA t.id t.ver t.nm (.slice (some ⟨g, 0, none⟩) t.cols.length (t.cols.length + 8)) t.key, .slice (some ⟨g, 0, none⟩) (t.cols.length + 8) (t.cols.length + 8)]) ∧ N ≤ g ∧ LB w' g (t.cols.length + 8) t.cols (t.cols.length + 8)

set_option maxHeartbeats 2000000 in
theorem lent_any (t : Tbl) (ao : Option Addr) (c : Nat) (w : World) (hl9 : t.cols.length ≤ 100000000) (hS : SL w ao (ccl t.cols)) (hno : ao = none → t.cols = [] ∧ c = 0) :
    Calls Try.prog 16 #[tA t.id t.ver t.nm (.slice ao t.cols.length c) t.key] w fun r w' => LentOut t w.heap.size r w' ∧ Tch (fun _ => False) w w' := by
  obtain ⟨n, hn⟩ : ∃ n, n = t.cols.length := ⟨_, rfl⟩
  obtain ⟨N, hN⟩ : ∃ N, N = w.heap.size := ⟨_, rfl⟩
  obtain ⟨w0, hw0⟩ : ∃ w0, w0 = (w.alloc (.cells #[.int .i64 t.id, .int .i64 t.ver, .string t.nm, .slice ao n c, .int .i64 t.key] 36)).alloc (.cells #[.int .i64 0, .int .i64 0, .string ⟨#[]⟩, .slice none 0 0, .int .i64 0] 36) := ⟨_, rfl⟩
  have t0 : Tch (fun _ => False) w w0 := by rw [hw0]; exact (Tch.alloc _ _ _).allocR _
  have hX : w0.heap[N]? = some (.cells #[.int .i64 t.id, .int .i64 t.ver, .string t.nm, .slice ao n c, .int .i64 t.key] 36 (0, 0)) := by
    rw [hw0, hN]; exact (Tch.alloc (fun _ => False) _ _).block _ (by simp) (fun h => h) |>.trans (alloc_new _ _)
  have hY : w0.heap[N + 1]? = some (.cells #[.int .i64 0, .int .i64 0, .string ⟨#[]⟩, .slice none 0 0, .int .i64 0] 36 (0, 0)) := by
    rw [hw0, hN, ← World.size_alloc]; exact alloc_new _ _
  have hz0 : w0.heap.size = N + 2 := by rw [hw0, hN, World.size_alloc, World.size_alloc]
  have HS0 : Hid (SL w0 ao (ccl t.cols)) := hS.no t0
  have HC : Hid (ao = none → t.cols = [] ∧ c = 0) := hno
  have HX : Hid _ := hX
  have HY : Hid _ := hY
  have HT0 : Hid (Tch (fun _ => False) w w0) := t0
  have Hz : Hid (w0.heap.size = N + 2) := hz0
  have HW0 : Hid (w0 = _) := hw0
  have HN : Hid (N = w.heap.size) := hN
  have Hn : Hid (n = t.cols.length) := hn
  have hn9 : n ≤ 100000000 := by omega
  have hwr : IntKind.i64.wrap ((n : Int) + 8) = (n : Int) + 8 := wrap_of (by omega) (by omega)
  have hrs : Try.f16.results = #[.cell 2 36, .tmp 3] := by kernel_rfl
  rw [← hn]
  obtain ⟨K0, hK0⟩ : ∃ K0 : World → Prop, K0 = fun W => Tch (fun _ => False) w0 W := ⟨_, rfl⟩
  obtain ⟨St, hSt⟩ : ∃ St : List Value → World → Prop, St = fun s W => match s with
    | [] => True
    | [y] => ∃ g, y = .slice (some ⟨g, 0, none⟩) (n + 8) (n + 8) ∧ w0.heap.size ≤ g ∧ ∃ cu, W.heap[g]? = some (.cells cu 80 (0, 0)) ∧ cu.size = (n + 8) * 3
    | [_, z] => ∃ g, z = .tuple #[tA t.id t.ver t.nm (.slice (some ⟨g, 0, none⟩) n (n + 8)) t.key, .slice (some ⟨g, 0, none⟩) (n + 8) (n + 8)] ∧ w0.heap.size ≤ g ∧ LB W g (n + 8) t.cols (n + 8)
    | _ => False := ⟨_, rfl⟩
  obtain ⟨C, hC⟩ : ∃ C : List Value → World → Prop, C = fun s W => K0 W ∧ St s W := ⟨_, rfl⟩
  have hK : ∀ s W, C s W → (W.cell? ⟨N, 0, none⟩ = some (.int .i64 t.id) ∧ W.cell? ⟨N, 1, none⟩ = some (.int .i64 t.ver) ∧ W.cell? ⟨N, 2, none⟩ = some (.string t.nm) ∧ W.cell? ⟨N, 3, none⟩ = some (.slice ao n c) ∧ W.cell? ⟨N, 4, none⟩ = some (.int .i64 t.key)) ∧ W.heap[N + 1]? = some (.cells #[.int .i64 0, .int .i64 0, .string ⟨#[]⟩, .slice none 0 0, .int .i64 0] 36 (0, 0)) := fun s W hW => by
    rw [hC] at hW
    have tW := hW.1
    rw [hK0] at tW
    have h1 := (tW.block N (blk_lt HX.out) (fun e => e)).trans HX.out
    have h2 := (tW.block (N + 1) (blk_lt HY.out) (fun e => e)).trans HY.out
    exact ⟨⟨blk_cell h1 0, blk_cell h1 1, blk_cell h1 2, blk_cell h1 3, blk_cell h1 4⟩, h2⟩
  have hmk : ∀ W : World, (Instr.makeSlice 34 (.int .i64 ((n : Int) + 8)) (.int .i64 ((n : Int) + 8))).run Try.prog W = .ok (.slice (some ⟨W.heap.size, 0, none⟩) (n + 8) (n + 8)) (W.alloc (.cells (rep (n + 8) [.string ⟨#[]⟩, .int .i64 0, .bool false]).toArray 80)) := fun W => by
    have := make_col (n + 8) W (by omega)
    rw [show (((n + 8 : Nat)) : Int) = (n : Int) + 8 by omega] at this
    exact this
  have h7 : ∀ W, C [] W → C [.slice (some ⟨W.heap.size, 0, none⟩) (n + 8) (n + 8)] (W.alloc (.cells (rep (n + 8) [.string ⟨#[]⟩, .int .i64 0, .bool false]).toArray 80)) := fun W hW => by
    rw [hC, hSt, hK0] at hW
    rw [hC, hSt, hK0]
    have tW : Tch (fun _ => False) w0 W := hW.1
    exact ⟨tW.allocR _, W.heap.size, rfl, tW.size, _, alloc_new _ _, by rw [List.size_toArray, rep_len]; rfl⟩
  have h8 : ∀ g W, C [.slice (some ⟨g, 0, none⟩) (n + 8) (n + 8)] W → Calls Try.prog 28 #[.slice (some ⟨g, 0, none⟩) (n + 8) (n + 8), tA t.id t.ver t.nm (.slice ao n c) t.key] W fun r w' => r = .returned (.tuple #[tA t.id t.ver t.nm (.slice (some ⟨g, 0, none⟩) n (n + 8)) t.key, .slice (some ⟨g, 0, none⟩) (n + 8) (n + 8)]) ∧ C [.slice (some ⟨g, 0, none⟩) (n + 8) (n + 8), .tuple #[tA t.id t.ver t.nm (.slice (some ⟨g, 0, none⟩) n (n + 8)) t.key, .slice (some ⟨g, 0, none⟩) (n + 8) (n + 8)]] w' := fun g W hW => by
    rw [hC, hSt, hK0] at hW
    obtain ⟨tW, g', e, hge, cu, hb, hs⟩ := hW
    have e' : g = g' := by simpa using e
    subst e'
    have := lentIn_any g (n + 8) (n + 8) cu t ao c W hb hs (by have := Hn.out; omega) (Nat.le_refl _) (by omega) (by omega) (HS0.out.no tW) HC.out
    rw [← Hn.out] at this
    refine this.mono ?_
    rintro r w' ⟨rfl, hB, t'⟩
    refine ⟨rfl, ?_⟩
    rw [hC, hSt, hK0]
    exact ⟨tW.trans t' (fun i hi e => by have e' : i = g := e; omega), g, rfl, hge, hB⟩
  have h0' : C [] w0.drew := by
    rw [hC, hSt, hK0]; exact ⟨(Tch.refl _ _).drew, trivial⟩
  have hsh1 : ∀ y W, C [y] W → ∃ g, y = .slice (some ⟨g, 0, none⟩) (n + 8) (n + 8) := fun y W hW => by
    rw [hC, hSt, hK0] at hW
    obtain ⟨_, g, rfl, _⟩ := hW
    exact ⟨g, rfl⟩
  have hsh2 : ∀ y z W, C [y, z] W → ∃ g, z = .tuple #[tA t.id t.ver t.nm (.slice (some ⟨g, 0, none⟩) n (n + 8)) t.key, .slice (some ⟨g, 0, none⟩) (n + 8) (n + 8)] := fun y z W hW => by
    rw [hC, hSt, hK0] at hW
    obtain ⟨_, g, rfl, _⟩ := hW
    exact ⟨g, rfl⟩
  have HF9 : Hid (∀ y g W, C [y, .tuple #[tA t.id t.ver t.nm (.slice (some ⟨g, 0, none⟩) n (n + 8)) t.key, .slice (some ⟨g, 0, none⟩) (n + 8) (n + 8)]] W → N + 2 ≤ g ∧ LB W g (n + 8) t.cols (n + 8) ∧ Tch (fun _ => False) w W) := fun y g W hW => by
    rw [hC, hSt, hK0] at hW
    obtain ⟨tW, g', e, hge, hB⟩ := hW
    have e' : g = g' := by simpa [tA] using e
    subst e'
    exact ⟨by have := Hz.out; omega, hB, HT0.out.trans' tW⟩
  clear hC hSt hK0 hw0 t0 hX hY hz0 hS hno hn hN hl9
  go_enter Try.func16, Try.ntmps16
  go_upto_region 1 with (fail)
  rw [← HW0.out, ← HN.out]
  refine wp_region_ordv [4, 6] C 9 [0, 1, 2, 3, 5, 4, 6, 7, 8] (by kernel_rfl) (by kernel_rfl) h0' ?_
  clear h0'
  refine ordv_read rfl (by go_simp) (by rfl) ?_
  apply Exists.intro
  refine ⟨fun s' W hW b K Q hK' => ?_, fun K hK' => ?_⟩
  · obtain ⟨⟨x0, x1, x2, x3, x4⟩, _⟩ := hK _ W hW
    go_simp
    exact hK' W hW
  go_simp
  refine hK' _ ?_
  clear hK' K
  refine ordv_read rfl (by go_simp) (by rfl) ?_
  apply Exists.intro
  refine ⟨fun s' W hW b K Q hK' => ?_, fun K hK' => ?_⟩
  · obtain ⟨⟨x0, x1, x2, x3, x4⟩, _⟩ := hK _ W hW
    go_simp
    exact hK' W hW
  go_simp
  refine hK' _ ?_
  clear hK' K
  refine ordv_read rfl (by go_simp) (by rfl) ?_
  apply Exists.intro
  refine ⟨fun s' W hW b K Q hK' => ?_, fun K hK' => ?_⟩
  · obtain ⟨⟨x0, x1, x2, x3, x4⟩, _⟩ := hK _ W hW
    go_simp
    exact hK' W hW
  go_simp
  refine hK' _ ?_
  clear hK' K
  refine ordv_read rfl (by go_simp) (by rfl) ?_
  apply Exists.intro
  refine ⟨fun s' W hW b K Q hK' => ?_, fun K hK' => ?_⟩
  · obtain ⟨⟨x0, x1, x2, x3, x4⟩, _⟩ := hK _ W hW
    go_simp
    exact hK' W hW
  go_simp
  refine hK' _ ?_
  clear hK' K
  refine ordv_read rfl (by go_simp) (by rfl) ?_
  apply Exists.intro
  refine ⟨fun s' W hW b K Q hK' => ?_, fun K hK' => ?_⟩
  · obtain ⟨⟨x0, x1, x2, x3, x4⟩, _⟩ := hK _ W hW
    go_simp
    exact hK' W hW
  go_simp
  refine hK' _ ?_
  clear hK' K
  refine ordv_turn rfl (by go_simp) (by rfl) (fun W hW b K Q hK' => ?_) (fun u hu K hK' => ?_)
  · have hm := hmk W
    go_simp
    exact hK' _ _ (h7 W hW)
  obtain ⟨g, rfl⟩ : ∃ g, u = .slice (some ⟨g, 0, none⟩) (n + 8) (n + 8) := by
    obtain ⟨W', hW'⟩ := hu
    exact hsh1 u W' hW'
  clear hu h7 hmk
  go_simp
  refine hK' _ ?_
  clear hK' K
  refine ordv_turn rfl (by go_simp) (by rfl) (fun W hW b K Q hK' => ?_) (fun u hu K hK' => ?_)
  · go_simp
    go_at_call 28
    refine (h8 g W hW).mono ?_
    rintro r w' ⟨rfl, h1⟩
    exact hK' _ w' h1
  obtain ⟨g2, rfl⟩ : ∃ g2, u = .tuple #[tA t.id t.ver t.nm (.slice (some ⟨g2, 0, none⟩) n (n + 8)) t.key, .slice (some ⟨g2, 0, none⟩) (n + 8) (n + 8)] := by
    obtain ⟨W', hW'⟩ := hu
    exact hsh2 _ u W' hW'
  clear hu h8 hsh1 hsh2
  go_simp
  refine hK' _ ?_
  clear hK' K
  refine ordv_read rfl (by go_simp) (by rfl) ?_
  apply Exists.intro
  refine ⟨fun s' W hW b K Q hK' => ?_, fun K hK' => ?_⟩
  · obtain ⟨⟨x0, x1, x2, x3, x4⟩, _⟩ := hK _ W hW
    go_simp
    exact hK' W hW
  go_simp
  refine hK' _ ?_
  clear hK' K
  refine ordv_read rfl (by go_simp) (by rfl) ?_
  apply Exists.intro
  refine ⟨fun s' W hW b K Q hK' => ?_, fun K hK' => ?_⟩
  · obtain ⟨⟨x0, x1, x2, x3, x4⟩, _⟩ := hK _ W hW
    go_simp
    exact hK' W hW
  go_simp
  refine hK' _ ?_
  clear hK' K
  refine ordv_nil ?_
  intro w4 hw4
  obtain ⟨_, hY4⟩ := hK _ w4 hw4
  obtain ⟨f1, f2, f3⟩ := HF9.out _ _ w4 hw4
  have HY4 : Hid _ := hY4
  have G1 : Hid (N + 2 ≤ g2) := f1
  have G2 : Hid (LB w4 g2 (n + 8) t.cols (n + 8)) := f2
  have G3 : Hid (Tch (fun _ => False) w w4) := f3
  have y0 : w4.cell? ⟨N + 1, 0, none⟩ = some (.int .i64 0) := blk_cell hY4 0
  have y1 : w4.cell? ⟨N + 1, 1, none⟩ = some (.int .i64 0) := blk_cell hY4 1
  have y2 : w4.cell? ⟨N + 1, 2, none⟩ = some (.string ⟨#[]⟩) := blk_cell hY4 2
  have y3 : w4.cell? ⟨N + 1, 3, none⟩ = some (.slice none 0 0) := blk_cell hY4 3
  have y4 : w4.cell? ⟨N + 1, 4, none⟩ = some (.int .i64 0) := blk_cell hY4 4
  have yf := blk_frozen hY4
  clear hK hw4 HF9 f1 f2 f3 hY4
  go_wp2_with fail
  refine bodyPost_ret (res_pair2 hrs rfl rfl (set5 HY4.out _ _ _ _ _)) rfl ⟨⟨g2, by rw [← Hn.out]; rfl, by have := G1.out; have := HN.out; omega, by rw [← Hn.out]; exact G2.out.tch (tch5 _ (N + 1) _ _ _ _ _) (fun e => by have e' : g2 = N + 1 := e; have := G1.out; omega)⟩, G3.out.trans (tch5 _ (N + 1) _ _ _ _ _) (fun i hi e => by have e' : i = N + 1 := e; have := HN.out; omega)⟩
end Go.Proofs.Ytkcmpipipelgoaa
