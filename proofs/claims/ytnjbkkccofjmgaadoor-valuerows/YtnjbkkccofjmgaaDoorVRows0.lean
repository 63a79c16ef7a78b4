/- ValueRows: what the law lends, turned round where it lies. -/
import Derived.Test.YtnjbkkccofjmgaaDoorVComp
import Derived.Laws.CopyRow
namespace Go.Proofs.YtnjbkkccofjmgaaDoor
open Go.RowKit Go.Sort

/-- A block keeps its shape. -/
def SB (w W : World) (g : Nat) : Prop := ∀ cur, w.heap[g]? = some (.cells cur 23 (0, 0)) → ∃ cur', W.heap[g]? = some (.cells cur' 23 (0, 0)) ∧ cur'.size = cur.size
theorem SB.tch {S : Nat → Prop} {w W W' : World} {g : Nat} (h : SB w W g) (t : Tch S W W') (hS : ¬ S g) : SB w W' g := fun cur hc => by
  obtain ⟨cur', h1, h2⟩ := h cur hc
  exact ⟨cur', by rw [t.block g (blk_lt h1) hS]; exact h1, h2⟩
theorem SB.alloc {w W : World} {g : Nat} (h : SB w W g) (o : Obj) (_ : g < W.heap.size) : SB w (W.alloc o) g := h.tch (Tch.alloc (fun _ => False) W o) (fun h => h)
theorem SB.drewN {w W : World} {g : Nat} (h : SB w W g) (n : Nat) : SB w (W.drewN n) g := h.tch ((Tch.refl (fun _ => False) W).drewN n) (fun h => h)
theorem SB.set {w W : World} {g : Nat} (h : SB w W g) (j : Nat) (v : Value) : SB w (W.setCell ⟨g, j, none⟩ v) g := fun cur hc => by
  obtain ⟨cur', h1, h2⟩ := h cur hc
  exact ⟨_, blk_set h1 v, by simp [h2]⟩

theorem run_copy_row3 {P : Program} (w : World) (dT sT ty elem : TypeId) (g o dLen dCap : Nat) (a : Addr) (sLen sCap : Nat) (cur : Array Value) (t : TypeId) (cs : List Value)
    (hu : P.underlying dT = some (.slice elem)) (hs : (P.info? elem).map (·.size) = some 3)
    (hg : w.heap[g]? = some (.cells cur t (0, 0))) (hn : cs.length = Nat.min sLen dLen * 3)
    (hsrc : ∀ j v, cs[j]? = some v → w.cell? (a.add j) = some v) (hfit : o + cs.length ≤ cur.size) (h1 : ∀ v ∈ cs, v.oneCell' = true) :
    (Builtin.copy_ #[dT, sT] ty #[.slice (some ⟨g, o, none⟩) dLen dCap, .slice (some a) sLen sCap]).run P w =
      .ok (goInt (Nat.min sLen dLen)) (w.setRow g (cur.toList.take o ++ cs ++ cur.toList.drop (o + cs.length)).toArray) := by
  have hl := run_loadCells_list (P := P) w a cs hsrc
  have hst := run_storeCells_at P g o t cs 0 cur w hg (by simpa using hfit) h1
  cases hq : P.info? elem with
  | none => simp [hq] at hs
  | some i =>
    have hi : i.size = 3 := by simpa [hq] using hs
    simp [Builtin.copy_, run_underlying hu, Builtin.lenOf, Builtin.firstCells, sizeOf, typeInfo, hq, hi, ← hn, hl, hst]


set_option maxHeartbeats 1000000 in
set_option maxRecDepth 100000 in
theorem rasLent_blk (l : List Val) (ad : Addr) (c g cap : Nat) (w : World) (hrow : RowOf w (some ad) l) (hne : l ≠ [] → ∀ gl o, ad = ⟨gl, o, none⟩ → gl ≠ g) (hlen : l.length * 32 ≤ 140737488351232)
    (hcap : l.length + 4 ≤ cap) (hl : RowAt w g 0 (lentV l)) (hfr : ∀ j, w.frozen? ⟨g, j, none⟩ = false) :
    Calls Tryd.prog 19 #[.slice (some ⟨g, 0, none⟩) l.length cap, .slice (some ad) l.length c] w fun x w' => x = .returned (.bool true) ∧ Tch (fun i => i = g) w w' ∧ SB w w' g := by
  have he := req_nil_no ad l.length c
  have HL : Hid (∀ W, Tch (fun i => i = g) w W → RowOf W (some ad) l) := fun W t => by
    by_cases h : l = []
    · intro h'; exact absurd h h'
    · exact hrow.tch t (fun gl o e => hne h gl o (by injection e))
  have HR : Hid (∀ j (hj : j < (lentV l).length), w.cell? ⟨g, 0 + j * 3, none⟩ = some (.int .i64 (lentV l)[j].k) ∧ w.cell? ⟨g, 0 + j * 3 + 1, none⟩ = some (.int .i64 (lentV l)[j].n) ∧ w.cell? ⟨g, 0 + j * 3 + 2, none⟩ = some (.string (lentV l)[j].s)) := hl
  have HF : Hid (∀ j, w.frozen? ⟨g, j, none⟩ = false) := hfr
  have HE : Hid (l.length * 32 ≤ 140737488351232) := hlen
  have hll := lentV_len l
  have HLL : Hid ((lentV l).length = l.length + 4) := hll
  have hgl : g < w.heap.size := cell_lt (hl 0 (by omega)).1
  clear hrow hl hfr hne hll
  have hcap' : (l.length : Int) + 4 ≤ cap := by omega
  have hn : (l.length : Int) ≤ 4398046511000 := by omega
  go_enter Tryd.func19, Tryd.ntmps19
  go_wp2
  go_loopw [6] (fun i wr => ∃ k : Nat, i = .int .i64 k ∧ k ≤ l.length + 4 ∧ Hid (∀ j (hj : j < (lentV l).length), k ≤ j → wr.cell? ⟨g, 0 + j * 3, none⟩ = some (.int .i64 (lentV l)[j].k) ∧ wr.cell? ⟨g, 0 + j * 3 + 1, none⟩ = some (.int .i64 (lentV l)[j].n) ∧ wr.cell? ⟨g, 0 + j * 3 + 2, none⟩ = some (.string (lentV l)[j].s)) ∧ Hid (∀ j, wr.frozen? ⟨g, j, none⟩ = false) ∧ Tch (fun i => i = g) w wr ∧ Hid (SB w wr g)) (fun i _ => l.length + 4 - (intOf i).toNat)
  case atStart => exact ⟨0, rfl, Nat.zero_le _, fun j hj _ => HR.out j hj, HF, Tch.refl _ _, fun cur h => ⟨cur, h, rfl⟩⟩
  case round =>
    obtain ⟨k, rfl, hk, HC, HZ, hT, HB⟩ := hrel
    by_cases hk4 : k < l.length + 4
    · have hk4' : (k : Int) < l.length + 4 := by omega
      have hkL : k < (lentV l).length := by rw [HLL.out]; exact hk4
      obtain ⟨x, hx⟩ : ∃ x, x = (lentV l)[k] := ⟨_, rfl⟩
      have hgw : g < wr.heap.size := Nat.lt_of_lt_of_le hgl hT.size
      obtain ⟨wa, hwa⟩ : ∃ wa, wa = wr.alloc (.cells #[.int .i64 (-7), .int .i64 0, .string ⟨#[]⟩] 23) := ⟨_, rfl⟩
      obtain ⟨wb, hwb⟩ : ∃ wb, wb = wr.alloc (.cells #[.int .i64 x.k, .int .i64 x.n, .string x.s] 23) := ⟨_, rfl⟩
      obtain ⟨B, hB⟩ : ∃ B, B = wr.heap.size := ⟨_, rfl⟩
      have b0 : wb.cell? ⟨B, 0, none⟩ = some (.int .i64 x.k) := by rw [hwb, hB]; simp
      have b1 : wb.cell? ⟨B, 1, none⟩ = some (.int .i64 x.n) := by rw [hwb, hB]; simp
      have b2 : wb.cell? ⟨B, 2, none⟩ = some (.string x.s) := by rw [hwb, hB]; simp
      have HCb : Hid (∀ j (hj : j < (lentV l).length), k ≤ j → wb.cell? ⟨g, 0 + j * 3, none⟩ = some (.int .i64 (lentV l)[j].k) ∧ wb.cell? ⟨g, 0 + j * 3 + 1, none⟩ = some (.int .i64 (lentV l)[j].n) ∧ wb.cell? ⟨g, 0 + j * 3 + 2, none⟩ = some (.string (lentV l)[j].s)) := fun j hj hkj => by
        rw [hwb, World.cell?_alloc_lt _ _ _ hgw, World.cell?_alloc_lt _ _ _ hgw, World.cell?_alloc_lt _ _ _ hgw]
        exact HC.out j hj hkj
      have hTb : Tch (fun i => i = g) w wb := by rw [hwb]; exact hT.allocR _
      have HBb : Hid (SB w wb g) := by show SB w wb g; rw [hwb]; exact SB.alloc HB.out _ hgw
      have HT : Hid (∀ q, (∀ v0 v1 v2, ∀ j (hj : j < (lentV l).length), k + 1 ≤ j → ((((wb.drewN q).setCell ⟨g, k * 3, none⟩ v0).setCell ⟨g, k * 3 + 1, none⟩ v1).setCell ⟨g, k * 3 + 2, none⟩ v2).cell? ⟨g, 0 + j * 3, none⟩ = some (.int .i64 (lentV l)[j].k) ∧ ((((wb.drewN q).setCell ⟨g, k * 3, none⟩ v0).setCell ⟨g, k * 3 + 1, none⟩ v1).setCell ⟨g, k * 3 + 2, none⟩ v2).cell? ⟨g, 0 + j * 3 + 1, none⟩ = some (.int .i64 (lentV l)[j].n) ∧ ((((wb.drewN q).setCell ⟨g, k * 3, none⟩ v0).setCell ⟨g, k * 3 + 1, none⟩ v1).setCell ⟨g, k * 3 + 2, none⟩ v2).cell? ⟨g, 0 + j * 3 + 2, none⟩ = some (.string (lentV l)[j].s)) ∧ Tch (fun i => i = g) w (wb.drewN q) ∧ ∀ j, (wb.drewN q).frozen? ⟨g, j, none⟩ = false) := fun q => by
        have hq : Tch (fun _ => False) wb (wb.drewN q) := (Tch.refl _ wb).drewN q
        have hgb : g < wb.heap.size := by rw [hwb, World.size_alloc]; omega
        refine ⟨fun v0 v1 v2 j hj hkj => ?_, hTb.drewN q, fun j => ?_⟩
        · have key : ∀ r, k * 3 + 2 < r → ((((wb.drewN q).setCell ⟨g, k * 3, none⟩ v0).setCell ⟨g, k * 3 + 1, none⟩ v1).setCell ⟨g, k * 3 + 2, none⟩ v2).cell? ⟨g, r, none⟩ = wb.cell? ⟨g, r, none⟩ := fun r hr => by
            rw [World.cell?_setCell_other (h := by intro e; injection e; omega), World.cell?_setCell_other (h := by intro e; injection e; omega), World.cell?_setCell_other (h := by intro e; injection e; omega)]
            exact hq.cell (p := ⟨g, r, none⟩) hgb (fun h => h)
          rw [key _ (by omega), key _ (by omega), key _ (by omega)]
          exact HCb.out j hj (by omega)
        · rw [hq.frozen (p := ⟨g, j, none⟩) hgb (fun h => h), hwb]
          have : (wr.alloc (.cells #[.int .i64 x.k, .int .i64 x.n, .string x.s] 23)).frozen? ⟨g, j, none⟩ = wr.frozen? ⟨g, j, none⟩ := (Tch.alloc (fun _ => False) wr _).frozen (p := ⟨g, j, none⟩) hgw (fun h => h)
          rw [this]; exact HZ.out j
      obtain ⟨c0, c1, c2⟩ := HCb.out k hkL (Nat.le_refl _)
      rw [← hx, Nat.zero_add] at c0 c1 c2
      by_cases hkl : k < l.length
      · have hkl' : (k : Int) < l.length := by omega
        obtain ⟨gl, o, hda, hra⟩ := HL.out wa (by rw [hwa]; exact hT.allocR _) (by rintro rfl; simp at hkl)
        injection hda with hda
        subst hda
        obtain ⟨a0, a1, a2⟩ := hra k hkl
        rw [← lentV_lt l k hkl hkL, ← hx] at a0 a1 a2
        rw [hwa] at a0 a1 a2
        have Hwb : Hid _ := hwb
        have HBe : Hid _ := hB
        clear hra hx hwa hwb hB
        go_wp2_with fail
        rw [← HBe.out]
        have hwb := Hwb.out
        rw [← hwb]
        clear hwb
        obtain ⟨d, hd1, hd⟩ := ne_val x x
        obtain rfl : d = false := by cases d with
          | false => rfl
          | true => exact absurd rfl (hd1.1 rfl)
        clear hd1
        go_quiet (fail)
        obtain ⟨wc, hwc⟩ : ∃ wc, wc = wb.drewN nq := ⟨_, rfl⟩
        obtain ⟨HN, hTc, HZc⟩ := HT.out nq
        have hq : Tch (fun _ => False) wb wc := by rw [hwc]; exact (Tch.refl _ wb).drewN nq
        have HBc : Hid (SB w wc g) := by show SB w wc g; rw [hwc]; exact SB.drewN HBb.out nq
        rw [← hwc] at HN hTc HZc ⊢
        have e0 : wc.cell? ⟨g, k * 3, none⟩ = some (.int .i64 x.k) := by rw [hq.cell (p := ⟨g, k * 3, none⟩) (cell_lt c0) (fun h => h)]; exact c0
        have e1 : (wc.setCell ⟨g, k * 3, none⟩ (.int .i64 (-9))).cell? ⟨g, k * 3 + 1, none⟩ = some (.int .i64 x.n) := by rw [World.cell?_setCell_other (h := by intro e; injection e; omega), hq.cell (p := ⟨g, k * 3 + 1, none⟩) (cell_lt c1) (fun h => h)]; exact c1
        have e2 : ((wc.setCell ⟨g, k * 3, none⟩ (.int .i64 (-9))).setCell ⟨g, k * 3 + 1, none⟩ (.int .i64 0)).cell? ⟨g, k * 3 + 2, none⟩ = some (.string x.s) := by rw [World.cell?_setCell_other (h := by intro e; injection e; omega), World.cell?_setCell_other (h := by intro e; injection e; omega), hq.cell (p := ⟨g, k * 3 + 2, none⟩) (cell_lt c2) (fun h => h)]; exact c2
        clear b0 b1 b2 c0 c1 c2 hd hq
        have z0 := HZc (k * 3)
        have z1 := HZc (k * 3 + 1)
        have z2 := HZc (k * 3 + 2)
        have HN' : Hid _ := HN
        have HZ' : Hid _ := HZc
        clear hwc HN HZc
        go_wp2_with fail
        go_roundw
        case rel => exact ⟨k + 1, by go_num, by omega, HN'.out _ _ _, fun j => by simpa using HZ'.out j, ((hTc.setCellR _ _ rfl).setCellR _ _ rfl).setCellR _ _ rfl, SB.set (SB.set (SB.set HBc.out _ _) _ _) _ _⟩
        case measure => simp [intOf]; omega
      · have hkl' : ¬ (k : Int) < l.length := by omega
        obtain rfl : x = markV := by rw [hx]; exact lentV_ge l k hkl hkL
        have Hwb : Hid _ := hwb
        have HBe : Hid _ := hB
        clear hx hwa hwb hB HL
        go_wp2_with fail
        rw [← HBe.out]
        have hwb := Hwb.out
        have eb : wr.alloc (.cells #[.int .i64 (-7), .int .i64 0, .string ⟨#[]⟩] 23) = wb := hwb.symm
        rw [eb]
        clear hwb eb
        obtain ⟨d, hd1, hd⟩ := ne_val markV markV
        obtain rfl : d = false := by cases d with
          | false => rfl
          | true => exact absurd rfl (hd1.1 rfl)
        clear hd1
        go_quiet (fail)
        obtain ⟨wc, hwc⟩ : ∃ wc, wc = wb.drewN nq := ⟨_, rfl⟩
        obtain ⟨HN, hTc, HZc⟩ := HT.out nq
        have hq : Tch (fun _ => False) wb wc := by rw [hwc]; exact (Tch.refl _ wb).drewN nq
        have HBc : Hid (SB w wc g) := by show SB w wc g; rw [hwc]; exact SB.drewN HBb.out nq
        rw [← hwc] at HN hTc HZc ⊢
        have e0 : wc.cell? ⟨g, k * 3, none⟩ = some (.int .i64 markV.k) := by rw [hq.cell (p := ⟨g, k * 3, none⟩) (cell_lt c0) (fun h => h)]; exact c0
        have e1 : (wc.setCell ⟨g, k * 3, none⟩ (.int .i64 (-9))).cell? ⟨g, k * 3 + 1, none⟩ = some (.int .i64 markV.n) := by rw [World.cell?_setCell_other (h := by intro e; injection e; omega), hq.cell (p := ⟨g, k * 3 + 1, none⟩) (cell_lt c1) (fun h => h)]; exact c1
        have e2 : ((wc.setCell ⟨g, k * 3, none⟩ (.int .i64 (-9))).setCell ⟨g, k * 3 + 1, none⟩ (.int .i64 0)).cell? ⟨g, k * 3 + 2, none⟩ = some (.string markV.s) := by rw [World.cell?_setCell_other (h := by intro e; injection e; omega), World.cell?_setCell_other (h := by intro e; injection e; omega), hq.cell (p := ⟨g, k * 3 + 2, none⟩) (cell_lt c2) (fun h => h)]; exact c2
        clear b0 b1 b2 c0 c1 c2 hd hq
        have z0 := HZc (k * 3)
        have z1 := HZc (k * 3 + 1)
        have z2 := HZc (k * 3 + 2)
        have HN' : Hid _ := HN
        have HZ' : Hid _ := HZc
        clear hwc HN HZc
        go_wp2_with fail
        go_roundw
        case rel => exact ⟨k + 1, by go_num, by omega, HN'.out _ _ _, fun j => by simpa using HZ'.out j, ((hTc.setCellR _ _ rfl).setCellR _ _ rfl).setCellR _ _ rfl, SB.set (SB.set (SB.set HBc.out _ _) _ _) _ _⟩
        case measure => simp [intOf]; omega
    · have hk4' : ¬ (k : Int) < l.length + 4 := by omega
      go_wp2
      go_ret
      exact ⟨rfl, hT, HB.out⟩
end Go.Proofs.YtnjbkkccofjmgaaDoor
