import Derived.Test.YtokgihmigkplaaaGreatMAw
import Derived.Deep.MidRow
import Derived.BigQuiet
set_option maxHeartbeats 8000000
set_option maxRecDepth 100000
namespace Go.Proofs.YtokgihmigkplaaaGreat.F
open Go.RowKit Go Go.Sort
set_option maxRecDepth 100000
structure Ac where
  kd : Int
  who : Int
  key : Int
  n : Int
def AcOk (a : Ac) : Prop := (-9223372036854775808 ≤ a.kd ∧ a.kd ≤ 9223372036854775807) ∧ (-9223372036854775808 ≤ a.who ∧ a.who ≤ 9223372036854775807) ∧ (-9223372036854775808 ≤ a.key ∧ a.key ≤ 9223372036854775807) ∧ (-9223372036854775808 ≤ a.n ∧ a.n ≤ 9223372036854775807)
def AcR (W : World) (so : Option Addr) (acs : List Ac) : Prop := ∀ (i : Nat) (a : Ac), acs[i]? = some a → ∃ g o, so = some ⟨g, o, none⟩ ∧ g < W.heap.size ∧ W.cell? ⟨g, o + i * 4, none⟩ = some (.int .i64 a.kd) ∧ W.cell? ⟨g, o + i * 4 + 1, none⟩ = some (.int .i64 a.who) ∧ W.cell? ⟨g, o + i * 4 + 2, none⟩ = some (.int .i64 a.key) ∧ W.cell? ⟨g, o + i * 4 + 3, none⟩ = some (.int .i64 a.n)
theorem AcR.no {W W' : World} {so : Option Addr} {acs : List Ac} (h : AcR W so acs) (t : Tch (fun _ => False) W W') : AcR W' so acs := fun i a ha => by
  obtain ⟨g, o, e, hg, h0, h1, h2, h3⟩ := h i a ha
  have c : ∀ j u, W.cell? ⟨g, j, none⟩ = some u → W'.cell? ⟨g, j, none⟩ = some u := fun j u hu => (t.cell (p := ⟨g, j, none⟩) hg (fun e => e)).trans hu
  exact ⟨g, o, e, Nat.lt_of_lt_of_le hg t.size, c _ _ h0, c _ _ h1, c _ _ h2, c _ _ h3⟩
def LS (w1 W : World) (qb hb mb gb i : Nat) (ao : Option Addr) (ac : Nat) (l : List Dn) : Prop := ∃ bg nq m L q A F K σ, LB w1 W qb hb mb gb i ao ac l.length (dnC l) bg nq m L q A F K σ ∧ AL q bg l i
theorem ls0 {w1 w2 : World} {qb hb mb : Nat} {F : Nat → Prop} (h : LW (fr0 w1) w2 qb hb mb 0 ⟨1, [], []⟩ [] mo0 (fun _ => sx0) F) : LS w1 (w2.alloc (.cells #[.int .i64 0, .int .i64 0, .int .i64 0, .int .i64 0, .int .i64 0] 27)) qb hb mb w2.heap.size 0 none 0 [] := by
  have t : Tch (fun _ => False) w2 (w2.alloc (.cells #[.int .i64 0, .int .i64 0, .int .i64 0, .int .i64 0, .int .i64 0] 27)) := Tch.alloc _ _ _
  refine ⟨fun _ => 0, 0, _, _, _, _, _, _, _, ⟨h.fresh t, inv0, hk0, sb0, .inr ⟨Nat.le_refl _, by rw [al_size]; omega⟩, h.t.size, alloc_new _ _, World.ownsRow_nil _ _ _ _, (nofun)⟩, al0⟩
theorem dCs_ks (d : Dn) {z : Nat} (hz : z < 6) : (dCs d)[2 + z]? = some (.bool (d.ks z)) := by
  rcases (by omega : z = 0 ∨ z = 1 ∨ z = 2 ∨ z = 3 ∨ z = 4 ∨ z = 5) with rfl | rfl | rfl | rfl | rfl | rfl <;> rfl
theorem dn_rd {wV : World} {ao : Option Addr} {l : List Dn} (h : ∀ W, Tch (fun _ => False) wV W → SlF W ao (dnC l)) {x : Nat} {dx : Dn} (hx : l[x]? = some dx) : ∃ g, ao = some ⟨g, 0, none⟩ ∧ ∀ W, Tch (fun _ => False) wV W → ∀ (j : Nat) (d : Dn), l[j]? = some d → W.cell? ⟨g, j * 8, none⟩ = some (.int .i64 d.fr) ∧ W.cell? ⟨g, j * 8 + 1, none⟩ = some (.int .i64 d.to) ∧ ∀ z, z < 6 → W.cell? ⟨g, j * 8 + 2 + z, none⟩ = some (.bool (d.ks z)) := by
  have hne : dnC l ≠ [] := fun e => by
    have := dnC_get l x dx 0 hx (by decide)
    rw [e] at this
    cases this
  obtain ⟨g, e, _, _⟩ := h wV (Tch.refl _ _) hne
  refine ⟨g, e, fun W t j d hd => ?_⟩
  obtain ⟨g2, e2, _, ha⟩ := h W t hne
  rw [e] at e2
  injection e2 with e2
  have e2 : g = g2 := by injection e2
  subst e2
  have c : ∀ r v, r < 8 → (dCs d)[r]? = some v → W.cell? ⟨g, j * 8 + r, none⟩ = some v := fun r v hr hv => by
    have := ha (j * 8 + r) v (by rw [dnC_get l j d r hd hr]; exact hv)
    rwa [Nat.zero_add] at this
  exact ⟨c 0 _ (by decide) rfl, c 1 _ (by decide) rfl, fun z hz => by rw [Nat.add_assoc]; exact c (2 + z) _ (by omega) (dCs_ks d hz)⟩
theorem info_done : (Tryz.prog.info? 47).map (fun i => (i.zero, i.size, i.bytes)) = some (some (.agg #[.int .i64 0, .int .i64 0, .bool false, .bool false, .bool false, .bool false, .bool false, .bool false]), 8, 24) := by kernel_rfl
def dbC (fr to : Nat) (s : Se) (c : Nat) : Array Value := #[.int .i64 fr, .int .i64 to, .bool (decide (0 < c) && wroteS s 0), .bool (decide (1 < c) && wroteS s 1), .bool (decide (2 < c) && wroteS s 2), .bool (decide (3 < c) && wroteS s 3), .bool (decide (4 < c) && wroteS s 4), .bool (decide (5 < c) && wroteS s 5)]
theorem dbC_set (fr to : Nat) (s : Se) {c : Nat} (hc : c < 6) : (dbC fr to s c).setIfInBounds (2 + c) (.bool (wroteS s c)) = dbC fr to s (c + 1) := by
  rcases (by omega : c = 0 ∨ c = 1 ∨ c = 2 ∨ c = 3 ∨ c = 4 ∨ c = 5) with rfl | rfl | rfl | rfl | rfl | rfl <;> rfl
structure DB (w6 W : World) (db fr to : Nat) (s : Se) (c : Nat) : Prop where
  t : Tch (fun _ => False) w6 W
  b : W.heap[db]? = some (.cells (dbC fr to s c) 47 (0, 0))
theorem DB.no {w6 W W' : World} {db fr to c : Nat} {s : Se} (h : DB w6 W db fr to s c) (t : Tch (fun _ => False) W W') : DB w6 W' db fr to s c :=
  ⟨h.t.trans' t, (t.block _ (blk_lt h.b) (fun e => e)).trans h.b⟩
theorem DB.set {w6 W : World} {db fr to c : Nat} {s : Se} (h : DB w6 W db fr to s c) (hd : db = w6.heap.size) (hc : c < 6) : DB w6 (W.setCell ⟨db, 2 + c, none⟩ (.bool (wroteS s c))) db fr to s (c + 1) :=
  ⟨h.t.trans (Tch.setCell (fun i => i = db) W ⟨db, 2 + c, none⟩ (.bool (wroteS s c)) rfl) (fun i hi e => by omega), by rw [← dbC_set fr to s hc]; exact blk_set h.b _⟩
theorem there_alloc (w : World) (z : Array Value) (ty : TypeId) {n : Nat} (h : n ≤ z.size) : (w.alloc (.cells z ty)).there w.heap.size 0 n := fun j hj => by
  refine ⟨?_, blk_frozen (alloc_new _ _) _⟩
  rw [blk_cell (alloc_new _ _), Nat.zero_add, Array.getElem?_eq_getElem (Nat.lt_of_lt_of_le hj h)]
  rfl
theorem box_ses (w : World) (s : Se) (a : Sx) : ∃ w', w' = (w.alloc (.cells #[.bool false, .bool false, .int .i64 0, .int .i64 0, .int .i64 0, .slice none 0 0, .int .i64 0, .int .i64 0, .int .i64 0, .int .i64 0, .int .i64 0, .int .i64 0, .int .i64 0, .slice none 0 0, .slice none 0 0] 38)).setCells w.heap.size 0 (seC s a) ∧ w'.heap[w.heap.size]? = some (.cells (seC s a).toArray 38 (0, 0)) ∧ Tch (fun _ => False) w w' := by
  refine ⟨_, rfl, ?_, ?_⟩
  · have := set_blk (seC s a) 0 (w.alloc (.cells #[.bool false, .bool false, .int .i64 0, .int .i64 0, .int .i64 0, .slice none 0 0, .int .i64 0, .int .i64 0, .int .i64 0, .int .i64 0, .int .i64 0, .int .i64 0, .int .i64 0, .slice none 0 0, .slice none 0 0] 38)) _ (alloc_new _ _) (Nat.le_refl 15)
    exact this
  · exact Tch.trans (T := fun i => i = w.heap.size) (Tch.alloc _ _ _) (tch_cells _ _ _ _) (fun i hi e => by omega)
theorem first_law (w : World) (so : Option Addr) (sc : Nat) (acs : List Ac) (hr : AcR w so acs) (hok : ∀ a ∈ acs, AcOk a) :
    Calls Tryz.prog 3 #[.slice so acs.length sc] w fun x w' => x = .returned (.bool true) ∧ Tch (fun _ => False) w w' := by
  obtain ⟨n9, hn9⟩ : ∃ n9, n9 = acs.length := ⟨_, rfl⟩
  have Hn9 : Hid (n9 = acs.length) := hn9
  have Hok : Hid (∀ a ∈ acs, AcOk a) := hok
  rw [← hn9]
  have qa := awake_any w
  clear hn9 hok
  go_enter Tryz.func3, Tryz.ntmps3
  go_wp2_with fail
  refine qa.mono ?_
  clear qa
  rintro x w1 ⟨rfl, t1⟩
  have HR1 : Hid (AcR w1 so acs) := hr.no t1
  have HT1 : Hid (Tch (fun _ => False) w w1) := t1
  have qm := model_st w1
  clear hr t1
  go_wp2_with fail
  refine qm.mono ?_
  clear qm
  rintro x w2 ⟨qb, hb, mb, rfl, hq, hst⟩
  obtain ⟨F0, hl0⟩ := lw0 hq hst
  have hls := ls0 hl0
  have HL0 : Hid (LS w1 (w2.alloc (.cells #[.int .i64 0, .int .i64 0, .int .i64 0, .int .i64 0, .int .i64 0] 27)) qb hb mb w2.heap.size 0 none 0 []) := hls
  obtain ⟨gb, hgb⟩ : ∃ gb, gb = w2.heap.size := ⟨_, rfl⟩
  clear hls hl0 hst hq
  go_wp2_with fail
  rw [← hgb] at HL0 ⊢
  obtain ⟨w3, hw3⟩ : ∃ w3, w3 = w2.alloc (.cells #[.int .i64 0, .int .i64 0, .int .i64 0, .int .i64 0, .int .i64 0] 27) := ⟨_, rfl⟩
  rw [← hw3] at HL0
  try rw [← hw3]
  clear hw3 hgb
  go_loopw [5, 7] (fun v5 v7 wr => ∃ (i : Nat) (ao : Option Addr) (ac : Nat) (l : List Dn), v5 = .slice ao l.length ac ∧ v7 = .int .i64 i ∧ i ≤ 200 ∧ i ≤ n9 ∧ l.length ≤ i ∧ Hid (LS w1 wr qb hb mb gb i ao ac l)) (fun _ v7 _ => (n9 - intOf v7).toNat)
  case atStart => exact ⟨0, none, 0, [], rfl, rfl, by omega, by omega, Nat.le_refl _, HL0⟩
  case round =>
    obtain ⟨i, ao, ac, l, rfl, rfl, hi, hin, hli, HLS⟩ := hrel
    obtain ⟨wV, hwV⟩ : ∃ wV, wV = wr := ⟨_, rfl⟩
    subst hwV
    obtain ⟨ln, hln⟩ : ∃ ln, ln = l.length := ⟨_, rfl⟩
    have Hln : Hid (ln = l.length) := hln
    rw [← hln] at hli ⊢
    clear hln
    by_cases hgo : i < n9 ∧ i < 200
    · obtain ⟨hg1, hg2⟩ := hgo
      obtain ⟨bg, nq, m, L, q, A, F, K, σ, hLB, hAL⟩ := HLS.out
      have HLB : Hid (LB w1 wV qb hb mb gb i ao ac l.length (dnC l) bg nq m L q A F K σ) := hLB
      have HAL : Hid (AL q bg l i) := hAL
      obtain ⟨a, ha⟩ : ∃ a, acs[i]? = some a := ⟨_, List.getElem?_eq_getElem (by have := Hn9.out; omega)⟩
      obtain ⟨hka, hwa, hea, hna⟩ := Hok.out a (List.mem_of_getElem? ha)
      obtain ⟨sg, o, hso, _, c0, c1, c2, c3⟩ := (HR1.out.no hLB.lw.t.t) i a ha
      obtain ⟨k, hk⟩ : ∃ k, k = pkN a.who 5 := ⟨_, rfl⟩
      obtain ⟨kd, hkd⟩ : ∃ kd, kd = pkN a.kd 12 := ⟨_, rfl⟩
      have hk5 : k < 5 := by rw [hk]; exact pkN_lt a.who (by decide)
      obtain ⟨s, hs⟩ : ∃ s, q.l[k]? = some s := ⟨_, List.getElem?_eq_getElem (by rw [hLB.inv.ln]; exact hk5)⟩
      have HPw : Hid (∀ W, Calls Tryz.prog 7 #[.int .i64 a.who, .int .i64 5] W fun x w' => x = .returned (.int .i64 k) ∧ w' = W) := fun W => by
        rw [hk]; exact pick9_any a.who 5 W hwa.1 hwa.2 (by decide) (by decide)
      have HPk : Hid (∀ W, Calls Tryz.prog 7 #[.int .i64 a.kd, .int .i64 12] W fun x w' => x = .returned (.int .i64 kd) ∧ w' = W) := fun W => by
        rw [hkd]; exact pick9_any a.kd 12 W hka.1 hka.2 (by decide) (by decide)
      have HDo : Hid (∀ W', Tch (fun _ => False) wV W' → Calls Tryz.prog 8 #[.pointer (some ⟨qb, 0, none⟩), .agg #[.int .i64 a.kd, .int .i64 a.who, .int .i64 a.key, .int .i64 a.n]] W' fun x w5 => x = .returned (.bool true) ∧ ∃ nq' m' L' q' A' F' K' σ', LB w1 w5 qb hb mb gb (i + 1) ao ac l.length (dnC l) bg nq' m' L' q' A' F' K' σ' ∧ StQ q q' k kd s ∧
      (∀ (r : Nat) (cr : Array Value) (ty : TypeId), wV.heap.size ≤ r → W'.heap[r]? = some (.cells cr ty (0, 0)) → ty ≠ 109 → ty ≠ 73 → ty ≠ 43 → w5.heap[r]? = some (.cells cr ty (0, 0))) ∧
      (kd = 1 → s.op = true → ∀ r, w5.heap[r]? = some (.cells (seC s (A k)).toArray 38 (0, 0)) → SR w5 r 0 s (A k))) := fun W' tt => by
        rw [hk] at hs ⊢
        rw [hkd]
        exact HLB.out.does hg2 hka hwa hea hna hs tt
      have HSe : Hid (∀ W, Tch (fun _ => False) wV W → W.rangeAt qb (2 + k * 15) (seC s (A k))) := fun W tt j v hv => ((hLB.lw.no tt).mor.se k s hs).c j v hv
      have HS : Hid (q.l[k]? = some s) := hs
      have hkd12 : kd < 12 := by rw [hkd]; exact pkN_lt a.kd (by decide)
      clear hLB hAL ha hka hwa hea hna hs hk hkd HLS
      subst hso
      have hiI : (i : Int) < (n9 : Int) := by omega
      have hi2 : (i : Int) < 200 := by omega
      go_upto_region 11 with (fail)
      obtain ⟨wA, hwA⟩ : ∃ wA, wA = wV.alloc (.cells #[.int .i64 a.kd, .int .i64 a.who, .int .i64 a.key, .int .i64 a.n] 29) := ⟨_, rfl⟩
      obtain ⟨N, hN⟩ : ∃ N, N = wV.heap.size := ⟨_, rfl⟩
      rw [← hwA, ← hN]
      have tA : Tch (fun _ => False) wV wA := by rw [hwA]; exact Tch.alloc _ _ _
      have bA : wA.heap[N]? = some (.cells #[.int .i64 a.kd, .int .i64 a.who, .int .i64 a.key, .int .i64 a.n] 29 (0, 0)) := by rw [hwA, hN]; exact alloc_new _ _
      have x0 : wA.cell? ⟨N, 0, none⟩ = some (.int .i64 a.kd) := by rw [blk_cell bA]; rfl
      have x1 : wA.cell? ⟨N, 1, none⟩ = some (.int .i64 a.who) := by rw [blk_cell bA]; rfl
      have HtA : Hid (Tch (fun _ => False) wV wA) := tA
      have HbA : Hid (wA.heap[N]? = some (.cells #[.int .i64 a.kd, .int .i64 a.who, .int .i64 a.key, .int .i64 a.n] 29 (0, 0))) := bA
      have HN : Hid (N = wV.heap.size) := hN
      clear tA bA hwA hN c0 c1 c2 c3
      go_wp2_with fail
      refine (HPw.out wA).mono ?_
      rintro x w4 ⟨rfl, rfl⟩
      go_wp2_with fail
      refine (HPk.out w4).mono ?_
      rintro x w5 ⟨rfl, rfl⟩
      clear HPw HPk
      go_upto_region 13 with (fail)
      have hkI : (0 : Int) ≤ (k : Int) := by omega
      have hkJ : (k : Int) < 5 := by omega
      go_simp
      iterate 16 (first | go_values | go_skip | go_guarded | go_step | go_upon | go_in | go_back)
      refine wpList_load_mid rfl 38 (.tmp 50) rfl qb (2 + k * 15) rfl (seC s (A k)) _ (HSe.out w5 HtA.out) Tryz.underlying38 rfl siz_ses ?_
      clear HSe
      obtain ⟨sa, hsa⟩ : ∃ sa, sa = (seC s (A k)).toArray := ⟨_, rfl⟩
      rw [← hsa]
      have Hsa : Hid (sa = (seC s (A k)).toArray) := hsa
      clear hsa
      iterate 3 (first | go_values | go_skip | go_guarded | go_step | go_upon | go_in | go_back)
      have hss : sa.size = 15 := by rw [Hsa.out]; rfl
      refine wpList_store_mid rfl 38 (.tmp 11) (.tmp 51) rfl w5.heap.size 0 sa rfl rfl (there_alloc _ _ _ (by rw [hss]; exact Nat.le_refl _)) (by rw [hss]; exact siz_ses) (by rw [Hsa.out]; exact one_seC _ _) ?_
      clear hss
      obtain ⟨wB, hwB, hbB, htB⟩ := box_ses w5 s (A k)
      rw [Hsa.out]
      rw [show ((seC s (A k)).toArray).toList = seC s (A k) from rfl]
      obtain ⟨N2, hN2⟩ : ∃ N2, N2 = w5.heap.size := ⟨_, rfl⟩
      rw [← hN2] at hwB hbB ⊢
      rw [← hwB]
      have HbB : Hid (wB.heap[N2]? = some (.cells (seC s (A k)).toArray 38 (0, 0))) := hbB
      have HtB : Hid (Tch (fun _ => False) wV wB) := HtA.out.trans' htB
      have HNN : Hid (wV.heap.size ≤ N ∧ wV.heap.size ≤ N2) := ⟨by rw [HN.out]; exact Nat.le_refl _, by rw [hN2]; exact HtA.out.size⟩
      have bA := (htB.block N (blk_lt HbA.out) (fun e => e)).trans HbA.out
      have d0 : wB.cell? ⟨N, 0, none⟩ = some (.int .i64 a.kd) := by rw [blk_cell bA]; rfl
      have d1 : wB.cell? ⟨N, 1, none⟩ = some (.int .i64 a.who) := by rw [blk_cell bA]; rfl
      have d2 : wB.cell? ⟨N, 2, none⟩ = some (.int .i64 a.key) := by rw [blk_cell bA]; rfl
      have d3 : wB.cell? ⟨N, 3, none⟩ = some (.int .i64 a.n) := by rw [blk_cell bA]; rfl
      clear hwB hN2 htB hbB bA x0 x1 Hsa
      go_wp2_with fail
      refine (HDo.out wB HtB.out).mono ?_
      clear d0 d1 d2 d3 HDo
      rintro x w6 ⟨rfl, nq', m', L', q', A', F', K', σ', hLB', hQ, hKeep, hSR⟩
      have HLB' : Hid (LB w1 w6 qb hb mb gb (i + 1) ao ac l.length (dnC l) bg nq' m' L' q' A' F' K' σ') := hLB'
      have HQ : Hid (StQ q q' k kd s) := hQ
      have HbW : Hid (w6.heap[N2]? = some (.cells (seC s (A k)).toArray 38 (0, 0))) := hKeep N2 _ _ HNN.out.2 HbB.out (by decide) (by decide) (by decide)
      have HSR : Hid (kd = 1 → s.op = true → SR w6 N2 0 s (A k)) := fun h1 h2 => hSR h1 h2 N2 HbW.out
      have e0 : w6.cell? ⟨N2, 0, none⟩ = some (.bool s.op) := by rw [blk_cell HbW.out]; rfl
      clear hLB' hQ hKeep hSR HbB HtB HbA HtA
      have Hll : Hid (l.length ≤ i) := by rw [← Hln.out]; exact hli
      have Hend : Hid (∀ W, Tch (fun _ => False) w6 W → ¬ (kd = 1 ∧ s.op = true) → ¬ (kd = 0 ∧ s.op = false) → LS w1 W qb hb mb gb (i + 1) ao ac l) := fun W tt h1 h0 => ⟨bg, nq', m', L', q', A', F', K', σ', HLB'.out.no tt, HAL.out.same HQ.out h1 h0⟩
      obtain ⟨op, hop⟩ : ∃ op, op = s.op := ⟨_, rfl⟩
      have Hop : Hid (op = s.op) := hop
      rw [← hop] at e0 Hend
      clear hop
      rcases (by omega : kd = 0 ∨ kd = 1 ∨ 2 ≤ kd) with h0 | h0 | h0
      · subst h0
        cases op with
        | true =>
          have hE := Hend.out w6 (Tch.refl _ _) (fun e => by omega) (fun e => by cases e.2)
          have HE : Hid (LS w1 w6 qb hb mb gb (i + 1) ao ac l) := hE
          clear hE Hend
          go_wp2_with fail
          go_roundw
          case rel => exact ⟨i + 1, ao, ac, l, by rw [Hln.out], by rfl, by omega, by omega, by have := Hll.out; omega, HE⟩
          case measure => (simp [intOf] <;> omega)
        | false =>
          obtain ⟨F7, h7⟩ := HLB'.out.began hk5 i
          have HE : Hid (LS w1 (w6.setCell ⟨gb, k, none⟩ (.int .i64 i)) qb hb mb gb (i + 1) ao ac l) := ⟨_, nq', m', L', q', A', F7, K', σ', h7, HAL.out.begin HQ.out⟩
          have g0 : w6.cell? ⟨gb, k, none⟩ = some (.int .i64 (bg k)) := by rw [blk_cell HLB'.out.g, bgC_get bg hk5]
          have g1 : w6.frozen? ⟨gb, k, none⟩ = false := blk_frozen HLB'.out.g k
          have hbN : gb ≠ N2 := fun e => by
            have h1 := HLB'.out.g
            rw [e, HbW.out] at h1
            injection h1 with h1
            injection h1 with _ h1
            cases h1
          have e1 : (w6.setCell ⟨gb, k, none⟩ (.int .i64 i)).cell? ⟨N2, 0, none⟩ = some (.bool false) := by
            rw [blk_cell ((Below.heap_setCell _ _ _ _ (by show N2 ≠ gb; exact fun e => hbN e.symm)).trans HbW.out)]
            show some (Value.bool s.op) = _
            rw [← Hop.out]
          have hkI : (0 : Int) ≤ (k : Int) := by omega
          have hkJ : (k : Int) < 5 := by omega
          clear h7 Hend hbN
          go_wp2_with fail
          go_roundw
          case rel => exact ⟨i + 1, ao, ac, l, by rw [Hln.out], by rfl, by omega, by omega, by have := Hll.out; omega, HE⟩
          case measure => (simp [intOf] <;> omega)
      · subst h0
        cases op with
        | true =>
          have g0 : w6.cell? ⟨gb, k, none⟩ = some (.int .i64 (bg k)) := by rw [blk_cell HLB'.out.g, bgC_get bg hk5]
          have hkI : (0 : Int) ≤ (k : Int) := by omega
          have hkJ : (k : Int) < 5 := by omega
          have Hso : Hid (s.op = true) := Hop.out.symm
          have HSR6 : Hid (SR w6 N2 0 s (A k)) := HSR.out rfl Hso.out
          obtain ⟨db, hdb⟩ : ∃ db, db = w6.heap.size := ⟨_, rfl⟩
          obtain ⟨w7, hw7⟩ : ∃ w7, w7 = w6.alloc (.cells #[.int .i64 (bg k), .int .i64 i, .bool false, .bool false, .bool false, .bool false, .bool false, .bool false] 47) := ⟨_, rfl⟩
          have HD7 : Hid (DB w6 w7 db (bg k) i s 0) := ⟨by rw [hw7]; exact Tch.alloc _ _ _, by rw [hw7, hdb]; exact alloc_new _ _⟩
          have Hdb : Hid (db = w6.heap.size) := hdb
          have Hw7 : Hid (w7 = _) := hw7
          clear Hend HSR hdb hw7
          go_wp2_with fail
          rw [← Hw7.out, ← Hdb.out]
          clear Hw7 g0
          go_loopw [14] (fun v14 wr => ∃ c : Nat, v14 = .int .i64 c ∧ c ≤ 6 ∧ Hid (DB w6 wr db (bg k) i s c)) (fun v14 _ => (6 - intOf v14).toNat)
          case atStart => exact ⟨0, rfl, by omega, HD7⟩
          case round =>
            obtain ⟨c, rfl, hc, HD⟩ := hrel
            obtain ⟨wU, hwU⟩ : ∃ wU, wU = wr := ⟨_, rfl⟩
            subst hwU
            rcases Nat.lt_or_ge c 6 with h6 | h6
            · have qw := wrote_any wU N2 0 s (A k) (HSR6.out.no HD.out.t) c
              have hcI : (0 : Int) ≤ (c : Int) := by omega
              have hcJ : (c : Int) < 6 := by omega
              go_wp2_with fail
              refine qw.mono ?_
              clear qw
              rintro x w8 ⟨rfl, t8⟩
              have hD8 := HD.out.no t8
              have b0 : w8.frozen? ⟨db, 2 + c, none⟩ = false := blk_frozen hD8.b _
              obtain ⟨u0, b1⟩ : ∃ u, w8.cell? ⟨db, 2 + c, none⟩ = some u := by
                rw [blk_cell hD8.b]
                exact ⟨_, Array.getElem?_eq_getElem (by show 2 + c < 8; omega)⟩
              have HE : Hid (DB w6 (w8.setCell ⟨db, 2 + c, none⟩ (.bool (wroteS s c))) db (bg k) i s (c + 1)) := hD8.set Hdb.out h6
              clear hD8 t8
              go_wp2_with fail
              go_roundw
              case rel => exact ⟨c + 1, by rfl, by omega, HE⟩
              case measure => (simp [intOf] <;> omega)
            · have hcc : c = 6 := by omega
              subst hcc
              clear h6 hc
              obtain ⟨d, hd⟩ : ∃ d : Dn, d = ⟨bg k, i, wroteS s⟩ := ⟨_, rfl⟩
              have hb6 : wU.heap[db]? = some (.cells (dCs d).toArray 47 (0, 0)) := by rw [hd]; exact HD.out.b
              have Hd : Hid (d = ⟨bg k, i, wroteS s⟩) := hd
              obtain ⟨wB, hwB⟩ : ∃ wB, wB = wU.alloc (.cells (dCs d).toArray 47) := ⟨_, rfl⟩
              have tB : Tch (fun _ => False) wU wB := by rw [hwB]; exact Tch.alloc _ _ _
              have hLB9 := HLB'.out.no (HD.out.t.trans' tB)
              have HLB9 : Hid (LB w1 wB qb hb mb gb (i + 1) ao ac l.length (dnC l) bg nq' m' L' q' A' F' K' σ') := hLB9
              have Hrow : Hid (wB.ownsRow w1.heap.size 47 8 (.slice ao ln ac) ln (dnC l)) := by rw [Hln.out]; exact hLB9.ow
              have Hcl : Hid (∀ j u, (dCs d)[j]? = some u → wB.cell? ((⟨wU.heap.size, 0, none⟩ : Addr).add j) = some u) := fun j u hu => by
                rw [add_plain, Nat.zero_add, hwB, blk_cell (alloc_new _ _), List.getElem?_toArray]; exact hu
              have Hbs : Hid (w1.heap.size ≤ wB.heap.size) := hLB9.lw.t.size
              have HWB : Hid (wB = _) := hwB
              have k0 : wU.cell? ⟨db, 0, none⟩ = some (.int .i64 d.fr) := by rw [blk_cell hb6]; rfl
              have k1 : wU.cell? ⟨db, 1, none⟩ = some (.int .i64 d.to) := by rw [blk_cell hb6]; rfl
              have k2 : wU.cell? ⟨db, 2, none⟩ = some (.bool (d.ks 0)) := by rw [blk_cell hb6]; rfl
              have k3 : wU.cell? ⟨db, 3, none⟩ = some (.bool (d.ks 1)) := by rw [blk_cell hb6]; rfl
              have k4 : wU.cell? ⟨db, 4, none⟩ = some (.bool (d.ks 2)) := by rw [blk_cell hb6]; rfl
              have k5 : wU.cell? ⟨db, 5, none⟩ = some (.bool (d.ks 3)) := by rw [blk_cell hb6]; rfl
              have k6 : wU.cell? ⟨db, 6, none⟩ = some (.bool (d.ks 4)) := by rw [blk_cell hb6]; rfl
              have k7 : wU.cell? ⟨db, 7, none⟩ = some (.bool (d.ks 5)) := by rw [blk_cell hb6]; rfl
              have hl2 : ln ≤ 200 := by omega
              obtain ⟨i0, hi0, hz0, hz1, hz2⟩ := info_parts info_done
              clear hb6 hwB tB hLB9 hd
              go_wp2_with (at_builtin; have hw0 := HWB.out; unfold dCs at hw0; rw [← hw0]; clear hw0; refine wpList_append_keeps _ rfl _ _ 26 rfl w1.heap.size 47 i0 (.agg #[.int .i64 0, .int .i64 0, .bool false, .bool false, .bool false, .bool false, .bool false, .bool false]) 8 24 Tryz.underlying26 hi0 hz0 hz1 hz2 rfl (by decide) (.slice ao ln ac) ln (dnC l) rfl Hrow.out ⟨wU.heap.size, 0, none⟩ 1 1 (dCs d) rfl (by simp [dCs]) Hcl.out (by simp [dCs, Value.oneCell']) (by unfold maxLen; omega) (by omega) Hbs.out ?_; intro v1 w9 hown1 hgr1 hat1 _; have HO : Hid (w9.ownsRow w1.heap.size 47 8 v1 (ln + 1) (dnC l ++ dCs d)) := hown1; have HT : Hid (Tch (fun i => (Value.slice ao ln ac).ownBlock = some i) wB w9) := (grown_at (Tch.refl (fun _ => False) wB) hgr1); have HAt : Hid (v1.ownBlock = (Value.slice ao ln ac).ownBlock ∨ v1.ownBlock = some wB.heap.size) := hat1; obtain ⟨o1, c1, rfl⟩ := row_slice hown1; clear hown1 hgr1 hat1)
              have HE : Hid (LS w1 w9 qb hb mb gb (i + 1) o1 c1 (l ++ [d])) := by
                have ho := HO.out
                have ht := HT.out
                have ha := HAt.out
                rw [Hln.out] at ho ht ha
                obtain ⟨F9, h9⟩ := HLB9.out.grown ho ht ha
                have hal := HAL.out.commit HLB.out.inv HLB.out.sb HS.out Hso.out HQ.out
                rw [← Hd.out] at hal
                refine ⟨bg, nq', m', L', q', A', F9, K', σ', ?_, hal⟩
                rw [List.length_append, List.length_singleton, dnC_snoc]
                exact h9
              go_roundw
              case rel => exact ⟨i + 1, o1, c1, l ++ [d], by rw [List.length_append, List.length_singleton, Hln.out], by rfl, by omega, by omega, by rw [List.length_append, List.length_singleton]; have := Hll.out; omega, HE⟩
              case measure => (simp [intOf] <;> omega)
        | false =>
          have hE := Hend.out w6 (Tch.refl _ _) (fun e => by cases e.2) (fun e => by omega)
          have HE : Hid (LS w1 w6 qb hb mb gb (i + 1) ao ac l) := hE
          clear hE Hend
          go_wp2_with fail
          go_roundw
          case rel => exact ⟨i + 1, ao, ac, l, by rw [Hln.out], by rfl, by omega, by omega, by have := Hll.out; omega, HE⟩
          case measure => (simp [intOf] <;> omega)
      · have hE := Hend.out w6 (Tch.refl _ _) (fun e => by omega) (fun e => by omega)
        have HE : Hid (LS w1 w6 qb hb mb gb (i + 1) ao ac l) := hE
        have n0 : ((kd : Int) == 0) = false := by rw [beq_eq_false_iff_ne]; omega
        have n1 : ((kd : Int) == 1) = false := by rw [beq_eq_false_iff_ne]; omega
        clear hE Hend
        go_wp2_with fail
        go_roundw
        case rel => exact ⟨i + 1, ao, ac, l, by rw [Hln.out], by rfl, by omega, by omega, by have := Hll.out; omega, HE⟩
        case measure => (simp [intOf] <;> omega)
    · rcases (by omega : i = n9 ∨ (i < n9 ∧ i = 200)) with hx0 | ⟨hx0, hx1⟩
      · have hgi : ¬ (i : Int) < (n9 : Int) := by omega
        obtain ⟨bg, nq, m, L, q, A, F, K, σ, hLB, hAL⟩ := HLS.out
        have HPW : Hid (∀ (a b : Nat) (da db : Dn), a < b → l[a]? = some da → l[b]? = some db → ¬ da.to < db.fr → ¬ db.to < da.fr → ∀ κ, κ < 6 → ¬ (da.ks κ = true ∧ db.ks κ = true)) := hAL.pw
        have HTV : Hid (Tch (fun _ => False) w wV) := HT1.out.trans' hLB.lw.t.t
        have HRd : Hid (∀ W, Tch (fun _ => False) wV W → SlF W ao (dnC l)) := fun W tt => (slf_of hLB.ow).no tt
        clear hLB hAL HLS
        go_wp2_with fail
        go_loopw [15] (fun v15 wr => ∃ x : Nat, v15 = .int .i64 x ∧ x ≤ ln ∧ Hid (Tch (fun _ => False) wV wr)) (fun v15 _ => (ln - intOf v15).toNat)
        case atStart => exact ⟨0, rfl, Nat.zero_le _, Tch.refl _ _⟩
        case round =>
          obtain ⟨x, rfl, hx, HTx⟩ := hrel
          obtain ⟨wX, hwX⟩ : ∃ wX, wX = wr := ⟨_, rfl⟩
          subst hwX
          rcases Nat.lt_or_ge x ln with hxl | hxl
          · obtain ⟨dx, hdx⟩ : ∃ dx, l[x]? = some dx := ⟨_, List.getElem?_eq_getElem (by have := Hln.out; omega)⟩
            have Hdx : Hid (l[x]? = some dx) := hdx
            clear hdx
            go_wp2_with fail
            go_loopw [16] (fun v16 wr => ∃ y : Nat, v16 = .int .i64 y ∧ y ≤ x ∧ Hid (Tch (fun _ => False) wV wr)) (fun v16 _ => (x - intOf v16).toNat)
            case atStart => exact ⟨0, rfl, Nat.zero_le _, HTx⟩
            case round =>
              obtain ⟨y, rfl, hy, HTy⟩ := hrel
              obtain ⟨wY, hwY⟩ : ∃ wY, wY = wr := ⟨_, rfl⟩
              subst hwY
              rcases Nat.lt_or_ge y x with hyx | hyx
              · obtain ⟨dy, hdy⟩ : ∃ dy, l[y]? = some dy := ⟨_, List.getElem?_eq_getElem (by have := Hln.out; omega)⟩
                have Hdy : Hid (l[y]? = some dy) := hdy
                have HC : Hid (∃ g, ao = some ⟨g, 0, none⟩ ∧ ∀ W, Tch (fun _ => False) wV W → ∀ (j : Nat) (d : Dn), l[j]? = some d → W.cell? ⟨g, j * 8, none⟩ = some (.int .i64 d.fr) ∧ W.cell? ⟨g, j * 8 + 1, none⟩ = some (.int .i64 d.to) ∧ ∀ z, z < 6 → W.cell? ⟨g, j * 8 + 2 + z, none⟩ = some (.bool (d.ks z))) := dn_rd HRd.out Hdx.out
                obtain ⟨g, hg, hcells⟩ := HC.out
                have HCe : Hid (∀ W, Tch (fun _ => False) wV W → ∀ (j : Nat) (d : Dn), l[j]? = some d → W.cell? ⟨g, j * 8, none⟩ = some (.int .i64 d.fr) ∧ W.cell? ⟨g, j * 8 + 1, none⟩ = some (.int .i64 d.to) ∧ ∀ z, z < 6 → W.cell? ⟨g, j * 8 + 2 + z, none⟩ = some (.bool (d.ks z))) := hcells
                subst hg
                obtain ⟨x0, x1, _⟩ := hcells wY HTy.out x dx Hdx.out
                obtain ⟨y0, y1, _⟩ := hcells wY HTy.out y dy hdy
                have hyl : y < ln := by omega
                clear hcells hdy HC
                by_cases n1 : dy.to < dx.fr
                · have hn1 : (dy.to : Int) < (dx.fr : Int) := by omega
                  go_wp2_with fail
                  go_quiet (fail)
                  go_wp2_with fail
                  go_roundw
                  case rel => exact ⟨y + 1, by rfl, by omega, HTy.out.trans' ((Tch.refl _ _).drewN _)⟩
                  case measure => (simp [intOf] <;> omega)
                · have hn1 : ¬ (dy.to : Int) < (dx.fr : Int) := by omega
                  by_cases n2 : dx.to < dy.fr
                  · have hn2 : (dx.to : Int) < (dy.fr : Int) := by omega
                    go_wp2_with fail
                    go_quiet (fail)
                    go_wp2_with fail
                    go_roundw
                    case rel => exact ⟨y + 1, by rfl, by omega, HTy.out.trans' ((Tch.refl _ _).drewN _)⟩
                    case measure => (simp [intOf] <;> omega)
                  · have hn2 : ¬ (dx.to : Int) < (dy.fr : Int) := by omega
                    have HNo : Hid (∀ z, z < 6 → ¬ (dy.ks z = true ∧ dx.ks z = true)) := fun z hz => HPW.out y x dy dx hyx Hdy.out Hdx.out n1 n2 z hz
                    go_wp2_with fail
                    go_quiet (fail)
                    have HTq : Hid (Tch (fun _ => False) wV (wY.drewN nq)) := HTy.out.trans' ((Tch.refl _ _).drewN _)
                    clear x0 x1 y0 y1 hn1 hn2
                    have HCx : Hid (∀ W, Tch (fun _ => False) wV W → ∀ z, z < 6 → W.cell? ⟨g, x * 8 + 2 + z, none⟩ = some (.bool (dx.ks z)) ∧ W.cell? ⟨g, y * 8 + 2 + z, none⟩ = some (.bool (dy.ks z))) := fun W tt z hz => ⟨(HCe.out W tt x dx Hdx.out).2.2 z hz, (HCe.out W tt y dy Hdy.out).2.2 z hz⟩
                    clear HCe
                    go_wp2_with fail
                    go_loopw [17] (fun v17 wr => ∃ z : Nat, v17 = .int .i64 z ∧ z ≤ 6 ∧ Hid (Tch (fun _ => False) wV wr)) (fun v17 _ => (6 - intOf v17).toNat)
                    case atStart => exact ⟨0, rfl, by omega, HTq⟩
                    case round =>
                      obtain ⟨z, rfl, hz, HTz⟩ := hrel
                      obtain ⟨wZ, hwZ⟩ : ∃ wZ, wZ = wr := ⟨_, rfl⟩
                      subst hwZ
                      rcases Nat.lt_or_ge z 6 with hz6 | hz6
                      · obtain ⟨p0, p1⟩ := HCx.out wZ HTz.out z hz6
                        have hno := HNo.out z hz6
                        have hzI : (z : Int) < 6 := by omega
                        have hyl2 : (y : Int) < (ln : Int) := by omega
                        have hxl2 : (x : Int) < (ln : Int) := by omega
                        generalize dx.ks z = kx at *
                        generalize dy.ks z = ky at *
                        cases kx with
                        | false =>
                          clear hno
                          go_wp2_with fail
                          go_roundw
                          case rel => exact ⟨z + 1, by rfl, by omega, HTz⟩
                          case measure => (simp [intOf] <;> omega)
                        | true =>
                          cases ky with
                          | false =>
                            clear hno
                            go_wp2_with fail
                            go_roundw
                            case rel => exact ⟨z + 1, by rfl, by omega, HTz⟩
                            case measure => (simp [intOf] <;> omega)
                          | true => exact absurd ⟨rfl, rfl⟩ hno
                      · have hzz : z = 6 := by omega
                        subst hzz
                        clear hz hz6
                        go_wp2_with fail
                        go_roundw
                        case rel => exact ⟨y + 1, by rfl, by omega, HTz⟩
                        case measure => (simp [intOf] <;> omega)
              · have hyy : y = x := by omega
                subst hyy
                clear hyx hy
                go_wp2_with fail
                go_roundw
                case rel => exact ⟨y + 1, by rfl, by omega, HTy⟩
                case measure => (simp [intOf] <;> omega)
          · have hxx : x = ln := by omega
            subst hxx
            clear hxl hx
            go_wp2_with fail
            go_ret
            exact ⟨rfl, HTV.out.trans' HTx.out⟩
      · have hgi : (i : Int) < (n9 : Int) := by omega
        have hgj : ¬ (i : Int) < 200 := by omega
        obtain ⟨bg, nq, m, L, q, A, F, K, σ, hLB, hAL⟩ := HLS.out
        have HPW : Hid (∀ (a b : Nat) (da db : Dn), a < b → l[a]? = some da → l[b]? = some db → ¬ da.to < db.fr → ¬ db.to < da.fr → ∀ κ, κ < 6 → ¬ (da.ks κ = true ∧ db.ks κ = true)) := hAL.pw
        have HTV : Hid (Tch (fun _ => False) w wV) := HT1.out.trans' hLB.lw.t.t
        have HRd : Hid (∀ W, Tch (fun _ => False) wV W → SlF W ao (dnC l)) := fun W tt => (slf_of hLB.ow).no tt
        clear hLB hAL HLS
        go_wp2_with fail
        go_loopw [15] (fun v15 wr => ∃ x : Nat, v15 = .int .i64 x ∧ x ≤ ln ∧ Hid (Tch (fun _ => False) wV wr)) (fun v15 _ => (ln - intOf v15).toNat)
        case atStart => exact ⟨0, rfl, Nat.zero_le _, Tch.refl _ _⟩
        case round =>
          obtain ⟨x, rfl, hx, HTx⟩ := hrel
          obtain ⟨wX, hwX⟩ : ∃ wX, wX = wr := ⟨_, rfl⟩
          subst hwX
          rcases Nat.lt_or_ge x ln with hxl | hxl
          · obtain ⟨dx, hdx⟩ : ∃ dx, l[x]? = some dx := ⟨_, List.getElem?_eq_getElem (by have := Hln.out; omega)⟩
            have Hdx : Hid (l[x]? = some dx) := hdx
            clear hdx
            go_wp2_with fail
            go_loopw [16] (fun v16 wr => ∃ y : Nat, v16 = .int .i64 y ∧ y ≤ x ∧ Hid (Tch (fun _ => False) wV wr)) (fun v16 _ => (x - intOf v16).toNat)
            case atStart => exact ⟨0, rfl, Nat.zero_le _, HTx⟩
            case round =>
              obtain ⟨y, rfl, hy, HTy⟩ := hrel
              obtain ⟨wY, hwY⟩ : ∃ wY, wY = wr := ⟨_, rfl⟩
              subst hwY
              rcases Nat.lt_or_ge y x with hyx | hyx
              · obtain ⟨dy, hdy⟩ : ∃ dy, l[y]? = some dy := ⟨_, List.getElem?_eq_getElem (by have := Hln.out; omega)⟩
                have Hdy : Hid (l[y]? = some dy) := hdy
                have HC : Hid (∃ g, ao = some ⟨g, 0, none⟩ ∧ ∀ W, Tch (fun _ => False) wV W → ∀ (j : Nat) (d : Dn), l[j]? = some d → W.cell? ⟨g, j * 8, none⟩ = some (.int .i64 d.fr) ∧ W.cell? ⟨g, j * 8 + 1, none⟩ = some (.int .i64 d.to) ∧ ∀ z, z < 6 → W.cell? ⟨g, j * 8 + 2 + z, none⟩ = some (.bool (d.ks z))) := dn_rd HRd.out Hdx.out
                obtain ⟨g, hg, hcells⟩ := HC.out
                have HCe : Hid (∀ W, Tch (fun _ => False) wV W → ∀ (j : Nat) (d : Dn), l[j]? = some d → W.cell? ⟨g, j * 8, none⟩ = some (.int .i64 d.fr) ∧ W.cell? ⟨g, j * 8 + 1, none⟩ = some (.int .i64 d.to) ∧ ∀ z, z < 6 → W.cell? ⟨g, j * 8 + 2 + z, none⟩ = some (.bool (d.ks z))) := hcells
                subst hg
                obtain ⟨x0, x1, _⟩ := hcells wY HTy.out x dx Hdx.out
                obtain ⟨y0, y1, _⟩ := hcells wY HTy.out y dy hdy
                have hyl : y < ln := by omega
                clear hcells hdy HC
                by_cases n1 : dy.to < dx.fr
                · have hn1 : (dy.to : Int) < (dx.fr : Int) := by omega
                  go_wp2_with fail
                  go_quiet (fail)
                  go_wp2_with fail
                  go_roundw
                  case rel => exact ⟨y + 1, by rfl, by omega, HTy.out.trans' ((Tch.refl _ _).drewN _)⟩
                  case measure => (simp [intOf] <;> omega)
                · have hn1 : ¬ (dy.to : Int) < (dx.fr : Int) := by omega
                  by_cases n2 : dx.to < dy.fr
                  · have hn2 : (dx.to : Int) < (dy.fr : Int) := by omega
                    go_wp2_with fail
                    go_quiet (fail)
                    go_wp2_with fail
                    go_roundw
                    case rel => exact ⟨y + 1, by rfl, by omega, HTy.out.trans' ((Tch.refl _ _).drewN _)⟩
                    case measure => (simp [intOf] <;> omega)
                  · have hn2 : ¬ (dx.to : Int) < (dy.fr : Int) := by omega
                    have HNo : Hid (∀ z, z < 6 → ¬ (dy.ks z = true ∧ dx.ks z = true)) := fun z hz => HPW.out y x dy dx hyx Hdy.out Hdx.out n1 n2 z hz
                    go_wp2_with fail
                    go_quiet (fail)
                    have HTq : Hid (Tch (fun _ => False) wV (wY.drewN nq)) := HTy.out.trans' ((Tch.refl _ _).drewN _)
                    clear x0 x1 y0 y1 hn1 hn2
                    have HCx : Hid (∀ W, Tch (fun _ => False) wV W → ∀ z, z < 6 → W.cell? ⟨g, x * 8 + 2 + z, none⟩ = some (.bool (dx.ks z)) ∧ W.cell? ⟨g, y * 8 + 2 + z, none⟩ = some (.bool (dy.ks z))) := fun W tt z hz => ⟨(HCe.out W tt x dx Hdx.out).2.2 z hz, (HCe.out W tt y dy Hdy.out).2.2 z hz⟩
                    clear HCe
                    go_wp2_with fail
                    go_loopw [17] (fun v17 wr => ∃ z : Nat, v17 = .int .i64 z ∧ z ≤ 6 ∧ Hid (Tch (fun _ => False) wV wr)) (fun v17 _ => (6 - intOf v17).toNat)
                    case atStart => exact ⟨0, rfl, by omega, HTq⟩
                    case round =>
                      obtain ⟨z, rfl, hz, HTz⟩ := hrel
                      obtain ⟨wZ, hwZ⟩ : ∃ wZ, wZ = wr := ⟨_, rfl⟩
                      subst hwZ
                      rcases Nat.lt_or_ge z 6 with hz6 | hz6
                      · obtain ⟨p0, p1⟩ := HCx.out wZ HTz.out z hz6
                        have hno := HNo.out z hz6
                        have hzI : (z : Int) < 6 := by omega
                        have hyl2 : (y : Int) < (ln : Int) := by omega
                        have hxl2 : (x : Int) < (ln : Int) := by omega
                        generalize dx.ks z = kx at *
                        generalize dy.ks z = ky at *
                        cases kx with
                        | false =>
                          clear hno
                          go_wp2_with fail
                          go_roundw
                          case rel => exact ⟨z + 1, by rfl, by omega, HTz⟩
                          case measure => (simp [intOf] <;> omega)
                        | true =>
                          cases ky with
                          | false =>
                            clear hno
                            go_wp2_with fail
                            go_roundw
                            case rel => exact ⟨z + 1, by rfl, by omega, HTz⟩
                            case measure => (simp [intOf] <;> omega)
                          | true => exact absurd ⟨rfl, rfl⟩ hno
                      · have hzz : z = 6 := by omega
                        subst hzz
                        clear hz hz6
                        go_wp2_with fail
                        go_roundw
                        case rel => exact ⟨y + 1, by rfl, by omega, HTz⟩
                        case measure => (simp [intOf] <;> omega)
              · have hyy : y = x := by omega
                subst hyy
                clear hyx hy
                go_wp2_with fail
                go_roundw
                case rel => exact ⟨y + 1, by rfl, by omega, HTy⟩
                case measure => (simp [intOf] <;> omega)
          · have hxx : x = ln := by omega
            subst hxx
            clear hxl hx
            go_wp2_with fail
            go_ret
            exact ⟨rfl, HTV.out.trans' HTx.out⟩
end Go.Proofs.YtokgihmigkplaaaGreat.F
