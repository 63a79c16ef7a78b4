import Derived.Test.YtblhmjndegfofaaCDo
import Derived.Test.YtblhmjndegfofaaCDeed
import Derived.Test.YtblhmjndegfofaaCWlaw
import Derived.Test.YtblhmjndegfofaaCTold
import Derived.Test.YtblhmjndegfofaaCLoad
import Derived.BigQuiet
/- CatalogSound: the law. -/
namespace Go.Proofs.Ytblhmjndegfofaa
open Go.RowKit Go

theorem GI.nmAt {L : List Tbl} {gv : Int} (h : GI L gv) {k : Nat} (hk : k < L.length) : posT (fun t => decide (t.nm = L[k].nm)) L = k := by
  rcases posT_cases (fun t => decide (t.nm = L[k].nm)) L with ⟨_, h2⟩ | ⟨j, hj, h1, h2, _⟩
  · have := h2 k hk
    simp at this
  · have hn := List.pairwise_iff_getElem.1 h.nms
    have e : L[j].nm = L[k].nm := by simpa using h2
    rcases Nat.lt_trichotomy j k with h3 | h3 | h3
    · exact absurd e (hn j k hj hk h3)
    · rw [h1, h3]
    · exact absurd e.symm (hn k j hk hj h3)
theorem map_at {Q : List (Tbl × Value)} {L : List Tbl} (e : Q.map Prod.fst = L) {i : Nat} (hi : i < Q.length) (hj : i < L.length) : Q[i].1 = L[i] := by
  subst e
  simp
theorem GI.LD {L : List Tbl} {gv : Int} (h : GI L gv) {l : List (Tbl × Value)} (e : l.map Prod.fst = L) : LD l (gv + 1) := by
  have hl : l.length = L.length := by have := congrArg List.length e; simpa using this
  have hi : ∀ i (hi : i < l.length), ∃ hj : i < L.length, l[i].1 = L[i] := fun i hi => ⟨by omega, map_at e hi (by omega)⟩
  have hn := List.pairwise_iff_getElem.1 h.nms
  have hr := List.pairwise_iff_getElem.1 h.rise
  refine ⟨by have := h.len; omega, fun i hi' => ?_, fun i hi' => ?_, fun i hi' => ?_, fun i j hi' hj' hij => ?_, fun i j hi' hj' hij => ?_⟩
  · obtain ⟨hj, e⟩ := hi i hi'
    rw [e]; exact cols_le (right_parts (h.right L[i] (List.getElem_mem _))).2.2.2.1
  · obtain ⟨hj, e⟩ := hi i hi'
    rw [e]; exact h.right L[i] (List.getElem_mem _)
  · obtain ⟨hj, e⟩ := hi i hi'
    rw [e]
    have h1 := h.ids L[i] (List.getElem_mem _)
    have h2 := num_of (right_parts (h.right L[i] (List.getElem_mem _))).1
    omega
  · obtain ⟨h1, e1⟩ := hi i hi'
    obtain ⟨h2, e2⟩ := hi j hj'
    rw [e1, e2]; exact hr i j h1 h2 hij
  · obtain ⟨h1, e1⟩ := hi i hi'
    obtain ⟨h2, e2⟩ := hi j hj'
    rw [e1, e2]; exact hn i j h1 h2 hij
theorem CA.parts {W : World} {F : Nat → Prop} {b : Nat} {L : List Tbl} {gv : Int} {P : List (Tbl × Value)} {to : Option Addr} {tc : Nat} (h : CA W F b L gv P to tc) (hG : GI L gv) : P.length = L.length ∧ P.length ≤ 16 ∧ (∀ i (hi : i < P.length), P[i].1.cols.length ≤ 8) ∧ W.cell? ⟨b, 0, none⟩ = some (.slice to P.length tc) ∧ W.cell? ⟨b, 1, none⟩ = some (.int .i64 gv) := by
  have hl : P.length = L.length := by have := congrArg List.length h.eq; simpa using this
  refine ⟨hl, by have := hG.len; omega, fun i hi => ?_, by rw [blk_cell h.blk]; rfl, by rw [blk_cell h.blk]; rfl⟩
  rw [map_at h.eq hi (by omega)]
  exact cols_le (right_parts (hG.right L[i] (List.getElem_mem _))).2.2.2.1

set_option maxHeartbeats 8000000 in
set_option maxRecDepth 100000 in
theorem sound_law (ds ms : List Dd) (so mo : Option Addr) (sc mc : Nat) (w : World) (hs : DS w so ds) (hm : DS w mo ms) (hsl : ds.length ≤ 9223372036854775807) (hml : ms.length ≤ 9223372036854775807) (hso : ∀ d ∈ ds, d.ok) (hmo : ∀ d ∈ ms, d.ok) :
    Calls Try.prog 5 #[.slice so ds.length sc, .slice mo ms.length mc] w fun x w' => x = .returned (.bool true) ∧ Tch (fun _ => False) w w' := by
  obtain ⟨B, hB⟩ : ∃ B, B = w.heap.size := ⟨_, rfl⟩
  obtain ⟨w1, hw1⟩ : ∃ w1, w1 = w.alloc (.cells #[.slice none 0 0, .int .i64 0] 79) := ⟨_, rfl⟩
  have t1 : Tch (fun _ => False) w w1 := by rw [hw1]; exact Tch.alloc _ _ _
  have hb1 : w1.heap[B]? = some (.cells #[.slice none 0 0, .int .i64 0] 79 (0, 0)) := by rw [hw1, hB]; exact alloc_new _ _
  have hCA1 : CA w1 (fun _ => False) B [] 0 [] none 0 := ⟨hb1, rfl, ⟨SL.nil _ _, fun h => absurd rfl h, fun i hi => by simp at hi⟩, fun h => h⟩
  have q1 := new_any w
  rw [← hw1, ← hB] at q1
  have q2 := next_any B 0 w1 (by rw [blk_cell hb1]; rfl) (by omega) (by omega)
  simp only [Int.zero_add] at q2
  have Hds : Hid (∀ (S : Nat → Prop) W, Tch S w W → (∀ i, i < B → ¬ S i) → DS W so ds ∧ DS W mo ms) := fun S W tW hS => ⟨hs.tch tW (fun i hi h => hS i (by omega) h), hm.tch tW (fun i hi h => hS i (by omega) h)⟩
  have Hso : Hid _ := hso
  have Hmo : Hid _ := hmo
  have HBw : Hid (B = w.heap.size) := hB
  have HBl : Hid (B < w1.heap.size) := blk_lt hb1
  have Ht1 : Hid (Tch (fun _ => False) w w1) := t1
  have HCA1 : Hid (CA w1 (fun _ => False) B [] 0 [] none 0) := hCA1
  have hBlt : ∀ i, i < B → ¬ i = B := fun i hi => by omega
  clear hw1 hb1 hCA1 hs hm t1 hB hso hmo
  go_enter Try.func5, Try.ntmps5
  go_wp2_with fail
  refine q1.mono ?_
  rintro y w1' ⟨rfl, hw1'⟩
  obtain rfl := hw1'.symm
  clear q1 hw1'
  go_wp2_with fail
  refine q2.mono ?_
  rintro y w1' ⟨rfl, hw1'⟩
  obtain rfl := hw1'.symm
  clear q2 hw1'
  go_wp2_with fail
  go_loopw [6] (fun iv wr => ∃ (k : Nat) (L : List Tbl) (gv : Int) (P : List (Tbl × Value)) (to : Option Addr) (tc : Nat), iv = .int .i64 k ∧ k ≤ ds.length ∧ Hid (GI L gv) ∧ Hid (CA wr (fun _ => False) B L gv P to tc) ∧ Hid (Tch (fun i => i = B) w1 wr)) (fun iv _ => ds.length - (intOf iv).toNat)
  case atStart => exact ⟨0, [], 0, [], none, 0, rfl, by omega, GI.nil, HCA1, Tch.refl _ _⟩
  case round =>
    obtain ⟨k, L, gv, P, to, tc, rfl, hk, HG, HCA, HT⟩ := hrel
    obtain ⟨wV, hwV⟩ : ∃ wV, wV = wr := ⟨_, rfl⟩
    subst hwV
    have hg0 := HG.out.low
    have hg1 := HG.out.high
    have HTw : Hid (Tch (fun i => i = B) w wV) := (Ht1.out.mono (fun _ _ h => h.elim)).trans' HT.out
    by_cases hlt : (k : Int) < ds.length
    · have hkl : k < ds.length := by omega
      obtain ⟨d, hdd⟩ : ∃ d, d = ds[k] := ⟨_, rfl⟩
      have hdok := Hso.out ds[k] (List.getElem_mem hkl)
      obtain ⟨gd, od, rfl, c0, c1, c2, c3⟩ := (Hds.out _ wV HTw.out hBlt).1 k hkl
      rw [← hdd] at c0 c1 c2 c3 hdok
      have qn := next_any B gv wV (HCA.out.parts HG.out).2.2.2.2 hg0 (by omega)
      have qd := does_any B L gv P to tc (fun _ => False) d wV HCA.out HG.out (fun _ h => h.elim) hdok
      have q4 := fun W => pk4_any d.k hdok.1.1 hdok.1.2 W
      have Hdd : Hid (d = ds[k]) := hdd
      obtain ⟨E, hE⟩ : ∃ E, E = stE L gv d := ⟨_, rfl⟩
      obtain ⟨k4, hk4⟩ : ∃ k4, k4 = pk d.k 4 := ⟨_, rfl⟩
      have HE : Hid (E = stE L gv d ∧ k4 = pk d.k 4) := ⟨hE, hk4⟩
      rw [← hE] at qd
      rw [← hk4] at q4
      have HQ4 : Hid _ := q4
      have e2 : IntKind.i64.wrap (gv + 1 + 1) = gv + 1 + 1 := wrap_of (by omega) (by omega)
      clear hdd hdok hE hk4 q4
      go_wp2_with fail
      refine qn.mono ?_
      rintro y w' ⟨rfl, hw'⟩
      obtain rfl := hw'.symm
      clear hw' qn
      go_wp2_with fail
      refine qd.mono ?_
      rintro y w8 ⟨rfl, ⟨P2, to2, tc2, hca2⟩, t8⟩
      clear qd c0 c1 c2 c3
      have HTw8 : Hid (Tch (fun i => i = B) w w8) := HTw.out.trans' t8
      have HT8 : Hid (Tch (fun i => i = B) w1 w8) := HT.out.trans' t8
      obtain ⟨gd', od', ee, c0, _⟩ := (Hds.out _ w8 HTw8.out hBlt).1 k hkl
      injection ee with ee; injection ee with ee1 ee2
      subst ee1 ee2
      rw [← Hdd.out] at c0
      have q5 := HQ4.out w8
      clear t8
      go_wp2_with fail
      refine q5.mono ?_
      rintro y w9 ⟨rfl, hw9⟩
      obtain rfl := hw9.symm
      clear hw9 q5 c0
      have Hca2 : Hid (CA w8 (fun _ => False) B (stL L gv d) (stG L gv d) P2 to2 tc2) := hca2
      have HG2 : Hid (GI (stL L gv d) (stG L gv d)) := HG.out.stp d
      clear hca2
      by_cases hmade : k4 < 2 ∧ E = 0
      · obtain ⟨hm1, rfl⟩ := hmade
        have hm1I : (k4 : Int) < 2 := by omega
        obtain ⟨x1, t, x2, x3, x4⟩ := st_made (L := L) (gv := gv) (d := d) (by rw [← HE.out.2]; exact hm1) HE.out.1.symm
        have Hca3 : Hid (CA w8 (fun _ => False) B (L ++ [t]) (gv + 1) P2 to2 tc2) := by show CA _ _ _ _ _ _ _ _; rw [← x1, ← x2]; exact Hca2.out
        have HG3 : Hid (GI (L ++ [t]) (gv + 1)) := by show GI _ _; rw [← x1, ← x2]; exact HG2.out
        obtain ⟨p1, p2, p3, p4, p5⟩ := Hca3.out.parts HG3.out
        have hLl : L.length < P2.length := by rw [p1]; simp
        have eP : P2[L.length].1 = t := by rw [map_at Hca3.out.eq hLl (by simp)]; simp
        have q6 := id_some B to2 tc2 P2 _ (gv + 1) L.length hLl w8 p4 Hca3.out.tl p2 (p3 _ hLl) (by rw [posP_T, Hca3.out.eq]; exact HG.out.lastId x3)
        rw [eP] at q6
        have Hnx : Hid (∀ W, Tch (fun _ => False) w8 W → Calls Try.prog 16 #[.pointer (some ⟨B, 0, none⟩)] W fun x w' => x = .returned (.int .i64 (gv + 1 + 1)) ∧ w' = W) := fun W tW => next_any B (gv + 1) W ((Hca3.out.tch tW (fun _ _ h => h.elim)).parts HG3.out).2.2.2.2 (by omega) (by have := HG3.out.high; omega)
        have Hx4 : Hid (t.ver = 1) := x4
        clear x1 x2 x3 x4 p1 p2 p3 p4 p5 eP hLl hm1
        go_wp2_with fail
        refine q6.mono ?_
        rintro y wA ⟨⟨v, rfl, hv⟩, tA'⟩
        clear q6
        obtain ⟨vo, vc, rfl⟩ := row_slice hv
        clear hv
        rw [Hx4.out]
        obtain ⟨B6, hB6⟩ : ∃ B6, B6 = wA.heap.size := ⟨_, rfl⟩
        obtain ⟨wB, hwB⟩ : ∃ wB, wB = wA.alloc (.cells #[.int .i64 t.id, .int .i64 1, .string t.nm, .slice vo t.cols.length vc, .int .i64 t.key] 29) := ⟨_, rfl⟩
        have tB : Tch (fun _ => False) wA wB := by rw [hwB]; exact Tch.alloc _ _ _
        have hbB : wB.heap[B6]? = some (.cells #[.int .i64 t.id, .int .i64 1, .string t.nm, .slice vo t.cols.length vc, .int .i64 t.key] 29 (0, 0)) := by rw [hwB, hB6]; exact alloc_new _ _
        have b1 : wB.cell? ⟨B6, 1, none⟩ = some (.int .i64 1) := by rw [blk_cell hbB]; rfl
        have T8B : Tch (fun _ => False) w8 wB := tA'.trans' tB
        have q7 := Hnx.out wB T8B
        have HT8B : Hid _ := T8B
        have HwB : Hid _ := hwB
        rw [hB6, hwB] at b1
        clear hbB hwB hB6 tB tA' T8B
        go_wp2_with fail
        have hwB := HwB.out
        rw [← hwB] at b1 ⊢
        clear hwB
        refine q7.mono ?_
        rintro y w' ⟨rfl, hw'⟩
        obtain rfl := hw'.symm
        clear hw' q7
        go_wp2_with fail
        exact ⟨⟨k + 1, L ++ [t], gv + 1, P2, to2, tc2, by simp, hkl, HG3, Hca3.out.tch HT8B.out (fun _ _ h => h.elim), HT8.out.trans' (HT8B.out.mono (fun _ _ h => h.elim))⟩, by simp [intOf]; omega⟩
      · have x1 : stG L gv d = gv := st_not (fun e => hmade ⟨by rw [HE.out.2]; exact e.1, by rw [HE.out.1]; exact e.2⟩)
        obtain ⟨L2, hL2⟩ : ∃ L2, L2 = stL L gv d := ⟨_, rfl⟩
        have Hca3 : Hid (CA w8 (fun _ => False) B L2 gv P2 to2 tc2) := by
          have h := Hca2.out
          rw [x1, ← hL2] at h
          exact h
        have HG3 : Hid (GI L2 gv) := by
          have h := HG2.out
          rw [x1, ← hL2] at h
          exact h
        obtain ⟨p1, p2, p3, p4, p5⟩ := Hca3.out.parts HG3.out
        have q6 := id_none B to2 tc2 P2 _ (gv + 1) w8 p4 Hca3.out.tl p2 (by rw [posP_T, Hca3.out.eq]; exact HG3.out.noId)
        have Hnx : Hid (∀ W, Tch (fun _ => False) w8 W → Calls Try.prog 16 #[.pointer (some ⟨B, 0, none⟩)] W fun x w' => x = .returned (.int .i64 (gv + 1)) ∧ w' = W) := fun W tW => next_any B gv W ((Hca3.out.tch tW (fun _ _ h => h.elim)).parts HG3.out).2.2.2.2 (by omega) (by omega)
        have hne : (gv + 1 == gv + 1 + 1) = false := beq_eq_false_iff_ne.2 (by omega)
        have hcase : ¬ (k4 : Int) < 2 ∨ ((k4 : Int) < 2 ∧ (E == 0) = false) := by
          by_cases h : k4 < 2
          · exact Or.inr ⟨by omega, beq_eq_false_iff_ne.2 (fun e => hmade ⟨h, e⟩)⟩
          · exact Or.inl (by omega)
        clear x1 hL2 p1 p2 p3 p4 p5 hmade
        rcases hcase with hk4 | ⟨hk4, hE0⟩
        all_goals
          go_wp2_with fail
          refine q6.mono ?_
          rintro y wA ⟨rfl, tA'⟩
          clear q6
          obtain ⟨B6, hB6⟩ : ∃ B6, B6 = wA.heap.size := ⟨_, rfl⟩
          obtain ⟨wB, hwB⟩ : ∃ wB, wB = wA.alloc (.cells #[.int .i64 0, .int .i64 0, .string ⟨#[]⟩, .slice none 0 0, .int .i64 0] 29) := ⟨_, rfl⟩
          have tB : Tch (fun _ => False) wA wB := by rw [hwB]; exact Tch.alloc _ _ _
          have T8B : Tch (fun _ => False) w8 wB := tA'.trans' tB
          have q7 := Hnx.out wB T8B
          have HT8B : Hid _ := T8B
          have HwB : Hid _ := hwB
          clear hwB hB6 tB tA' T8B
          go_wp2_with fail
          have hwB := HwB.out
          rw [← hwB]
          clear hwB
          refine q7.mono ?_
          rintro y w' ⟨rfl, hw'⟩
          obtain rfl := hw'.symm
          clear hw'
          go_wp2_with fail
          refine q7.mono ?_
          rintro y w' ⟨rfl, hw'⟩
          obtain rfl := hw'.symm
          clear hw' q7
          go_wp2_with fail
          exact ⟨⟨k + 1, L2, gv, P2, to2, tc2, by simp, hkl, HG3, Hca3.out.tch HT8B.out (fun _ _ h => h.elim), HT8.out.trans' (HT8B.out.mono (fun _ _ h => h.elim))⟩, by simp [intOf]; omega⟩
    · obtain ⟨p1, p2, p3, p4, p5⟩ := HCA.out.parts HG.out
      have q3 := list_any B to tc P _ wV p4 HCA.out.tl p2 p3
      clear p1 p2 p3 p4 p5
      go_wp2_with fail
      refine q3.mono ?_
      rintro y wM ⟨⟨tv, Q, rfl, hQ, hTO⟩, tM⟩
      clear q3
      obtain ⟨lo, lc, rfl⟩ := row_slice hTO.own
      have HQ : Hid (Q.map Prod.fst = L) := by rw [← HCA.out.eq]; exact hQ
      have HTL : Hid (TL wM (fun i => wM.heap.size ≤ i) lo Q) := hTO.toTL.fresh (fun i h1 h2 => by omega)
      have HCM : Hid (CA wM (fun i => wM.heap.size ≤ i) B L gv P to tc) := (HCA.out.tch tM (fun _ _ h => h.elim)).fresh (fun i h1 h2 => by omega)
      have HTM : Hid (Tch (fun i => i = B) w wM) := HTw.out.trans' (tM.mono (fun _ _ h => h.elim))
      have HBM : Hid (B < wM.heap.size) := by have h1 := HT.out.size; have h2 := tM.size; have h3 := HBl.out; show B < _; omega
      obtain ⟨n, hn⟩ : ∃ n, n = Q.length := ⟨_, rfl⟩
      have hn16 : n ≤ 16 := by
        have h1 := congrArg List.length HQ.out
        have h2 := HG.out.len
        rw [List.length_map] at h1; omega
      have Hn : Hid (n = Q.length ∧ Q.length = L.length) := ⟨hn, by have h1 := congrArg List.length HQ.out; rwa [List.length_map] at h1⟩
      rw [← hn]
      have hgn : 0 ≤ gv + 1 := by omega
      clear hQ hTO tM hn HCA HT HTw HCA1
      go_wp2_with fail
      go_loopw [13] (fun iv wr => ∃ j : Nat, iv = .int .i64 j ∧ j ≤ n ∧ Hid (Tch (fun _ => False) wM wr)) (fun iv _ => n - (intOf iv).toNat)
      case atStart => exact ⟨0, rfl, by omega, Tch.refl _ _⟩
      case round =>
        obtain ⟨j, rfl, hj, HTj⟩ := hrel
        obtain ⟨wU, hwU⟩ : ∃ wU, wU = wr := ⟨_, rfl⟩
        subst hwU
        by_cases hjn : (j : Int) < n
        · have hjQ : j < Q.length := by have := Hn.out; omega
          have hjL : j < L.length := by have := Hn.out; omega
          obtain ⟨t, ht⟩ : ∃ t, t = Q[j].1 := ⟨_, rfl⟩
          have htL : t = L[j] := by rw [ht]; exact map_at HQ.out hjQ hjL
          have hTL := HTL.out.tch HTj.out (fun _ _ h => h.elim)
          obtain ⟨ga, oa, rfl, a0, a1, a2, a3, a4⟩ := hTL.at j hjQ
          obtain ⟨ca, cca, hca⟩ := hTL.col j hjQ
          have e1 : Q[j].2 = .slice ca t.cols.length cca := by rw [ht]; exact hca.eq
          rw [← ht] at a0 a1 a2 a4
          rw [e1] at a3
          obtain ⟨m, hm⟩ : ∃ m, m = t.cols.length := ⟨_, rfl⟩
          rw [← hm] at a3
          have hsa : SL wU ca (ccl t.cols) := by rw [ht]; exact hca.sl
          have hcap : t.cols.length ≤ cca := by rw [ht]; exact hca.cap
          have hrt : rightE t = 0 := by rw [htL]; exact HG.out.right L[j] (List.getElem_mem _)
          have h8t : t.cols.length ≤ 8 := cols_le (right_parts hrt).2.2.2.1
          have hid : t.id < gv + 1 := by have := HG.out.ids L[j] (List.getElem_mem _); rw [← htL] at this; omega
          have qr := right_any t ca cca wU hsa hcap (by omega)
          rw [hrt, ← hm] at qr
          have HS : Hid (∀ W, Tch (fun _ => False) wU W → Tch (fun _ => False) wU W ∧ (W.cell? ⟨ga, oa + j * 5, none⟩ = some (.int .i64 t.id) ∧ W.cell? ⟨ga, oa + j * 5 + 1, none⟩ = some (.int .i64 t.ver) ∧ W.cell? ⟨ga, oa + j * 5 + 2, none⟩ = some (.string t.nm) ∧ W.cell? ⟨ga, oa + j * 5 + 3, none⟩ = some (.slice ca m cca) ∧ W.cell? ⟨ga, oa + j * 5 + 4, none⟩ = some (.int .i64 t.key))) := fun W tW => by
            have key : ∀ (a : Addr) u, wU.cell? a = some u → W.cell? a = some u := fun a u h => by rw [tW.cell (p := a) (cell_lt h) (fun h => h)]; exact h
            exact ⟨tW, key _ _ a0, key _ _ a1, key _ _ a2, key _ _ a3, key _ _ a4⟩
          have Hsa : Hid (∀ W, Tch (fun _ => False) wU W → SL W ca (ccl t.cols)) := fun W tW => hsa.no tW
          have HcU : Hid (CA wU (fun i => wM.heap.size ≤ i) B L gv P to tc) := HCM.out.tch HTj.out (fun _ _ h => h.elim)
          obtain ⟨p1, p2, p3, p4, p5⟩ := HcU.out.parts HG.out
          have hjP : j < P.length := by rw [p1]; exact hjL
          have ePj : P[j].1 = t := by rw [htL]; exact map_at HcU.out.eq hjP hjL
          have Hget : Hid (∀ W, Tch (fun _ => False) wU W → Calls Try.prog 21 #[.pointer (some ⟨B, 0, none⟩), .string t.nm] W fun x w' => TK t W x w' ∧ Tch (fun _ => False) W w') := fun W tW => by
            have hc := HcU.out.tch tW (fun _ _ h => h.elim)
            have q := nm_some B to tc P _ t.nm j hjP W (hc.parts HG.out).2.2.2.1 hc.tl p2 (p3 j hjP) (by rw [posP_T, hc.eq, htL]; exact HG.out.nmAt hjL)
            rw [ePj] at q
            exact q
          have Hnx : Hid (∀ W, Tch (fun _ => False) wU W → Calls Try.prog 16 #[.pointer (some ⟨B, 0, none⟩)] W fun x w' => x = .returned (.int .i64 (gv + 1)) ∧ w' = W) := fun W tW => next_any B gv W ((HcU.out.tch tW (fun _ _ h => h.elim)).parts HG.out).2.2.2.2 (by omega) (by omega)
          have Hm : Hid (m = t.cols.length ∧ t.cols.length ≤ 8) := ⟨hm, h8t⟩
          have HtQ : Hid (t = Q[j].1 ∧ t = L[j]) := ⟨ht, htL⟩
          clear ht htL hTL hca e1 hm hsa hcap hrt h8t p1 p2 p3 p4 p5 hjP ePj
          go_wp2_with fail
          refine qr.mono ?_
          rintro y wA ⟨rfl, tA'⟩
          clear qr a0 a1 a2 a3 a4
          obtain ⟨_, a0, a1, a2, a3, a4⟩ := HS.out wA tA'
          have q5 := Hget.out wA tA'
          have HtA : Hid (Tch (fun _ => False) wU wA) := tA'
          clear tA'
          go_wp2_with fail
          refine q5.mono ?_
          rintro y wB ⟨⟨v, rfl, hv⟩, tB⟩
          clear q5 a0 a1 a2 a3 a4
          obtain ⟨vo, vc, rfl⟩ := row_slice hv
          have hvs : SL wB vo (ccl t.cols) := own_sl hv
          rw [← Hm.out.1]
          obtain ⟨B6, hB6⟩ : ∃ B6, B6 = wB.heap.size := ⟨_, rfl⟩
          obtain ⟨wC, hwC⟩ : ∃ wC, wC = wB.alloc (.cells #[.int .i64 t.id, .int .i64 t.ver, .string t.nm, .slice vo m vc, .int .i64 t.key] 29) := ⟨_, rfl⟩
          have tC : Tch (fun _ => False) wB wC := by rw [hwC]; exact Tch.alloc _ _ _
          have hbC : wC.heap[B6]? = some (.cells #[.int .i64 t.id, .int .i64 t.ver, .string t.nm, .slice vo m vc, .int .i64 t.key] 29 (0, 0)) := by rw [hwC, hB6]; exact alloc_new _ _
          have TUC : Tch (fun _ => False) wU wC := (HtA.out.trans' tB).trans' tC
          have Hsm : Hid (∀ W, Tch (fun _ => False) wC W → Calls Try.prog 22 #[tA t.id t.ver t.nm (.slice vo m vc) t.key, tA t.id t.ver t.nm (.slice ca m cca) t.key] W fun x w' => x = .returned (.bool true) ∧ Tch (fun _ => False) W w') := fun W tW => by
            rw [Hm.out.1]
            exact same_true t vo ca vc cca W ((hvs.no tC).no tW) (Hsa.out W (TUC.trans' tW)) Hm.out.2
          have HS2 : Hid (∀ W, Tch (fun _ => False) wC W → Tch (fun _ => False) wC W ∧ (W.cell? ⟨B6, 0, none⟩ = some (.int .i64 t.id) ∧ W.cell? ⟨B6, 1, none⟩ = some (.int .i64 t.ver) ∧ W.cell? ⟨B6, 2, none⟩ = some (.string t.nm) ∧ W.cell? ⟨B6, 3, none⟩ = some (.slice vo m vc) ∧ W.cell? ⟨B6, 4, none⟩ = some (.int .i64 t.key)) ∧ (W.cell? ⟨ga, oa + j * 5, none⟩ = some (.int .i64 t.id) ∧ W.cell? ⟨ga, oa + j * 5 + 1, none⟩ = some (.int .i64 t.ver) ∧ W.cell? ⟨ga, oa + j * 5 + 2, none⟩ = some (.string t.nm) ∧ W.cell? ⟨ga, oa + j * 5 + 3, none⟩ = some (.slice ca m cca) ∧ W.cell? ⟨ga, oa + j * 5 + 4, none⟩ = some (.int .i64 t.key))) := fun W tW => by
            have h1 : W.heap[B6]? = _ := (tW.block B6 (blk_lt hbC) (fun h => h)).trans hbC
            exact ⟨tW, ⟨by rw [blk_cell h1]; rfl, by rw [blk_cell h1]; rfl, by rw [blk_cell h1]; rfl, by rw [blk_cell h1]; rfl, by rw [blk_cell h1]; rfl⟩, (HS.out W (TUC.trans' tW)).2⟩
          have HwC : Hid _ := hwC
          have HB6 : Hid (B6 = wB.heap.size) := hB6
          have HTUC : Hid _ := TUC
          clear hv hvs hwC hB6 tC hbC TUC tB
          go_wp2_with fail
          have hwC := HwC.out
          rw [← hwC, ← HB6.out]
          clear hwC
          obtain ⟨_, ⟨b0, b1, b2, b3, b4⟩, a0, a1, a2, a3, a4⟩ := HS2.out wC (Tch.refl _ _)
          go_region_held3 (fun W => Tch (fun _ => False) wC W ∧ (W.cell? ⟨B6, 0, none⟩ = some (.int .i64 t.id) ∧ W.cell? ⟨B6, 1, none⟩ = some (.int .i64 t.ver) ∧ W.cell? ⟨B6, 2, none⟩ = some (.string t.nm) ∧ W.cell? ⟨B6, 3, none⟩ = some (.slice vo m vc) ∧ W.cell? ⟨B6, 4, none⟩ = some (.int .i64 t.key)) ∧ (W.cell? ⟨ga, oa + j * 5, none⟩ = some (.int .i64 t.id) ∧ W.cell? ⟨ga, oa + j * 5 + 1, none⟩ = some (.int .i64 t.ver) ∧ W.cell? ⟨ga, oa + j * 5 + 2, none⟩ = some (.string t.nm) ∧ W.cell? ⟨ga, oa + j * 5 + 3, none⟩ = some (.slice ca m cca) ∧ W.cell? ⟨ga, oa + j * 5 + 4, none⟩ = some (.int .i64 t.key)))
            ((refine HS2.out _ ?_; first | assumption | exact (Tch.refl _ _).drew))
            ((go_at_call 22; refine (Hsm.out _ (show _ ∧ _ by assumption).1).mono ?_; rintro y wD ⟨rfl, t5⟩; have V5 := Tch.trans' (show _ ∧ _ by assumption).1 t5))
          clear b0 b1 b2 b3 b4 a0 a1 a2 a3 a4
          have HTUD : Hid (Tch (fun _ => False) wU wD) := HTUC.out.trans' V5
          have HTLD : Hid (TL wD (fun i => wM.heap.size ≤ i) (some ⟨ga, oa, none⟩) Q) := HTL.out.tch (HTj.out.trans' HTUD.out) (fun _ _ h => h.elim)
          obtain ⟨a0, a1, a2, a3, a4⟩ := (HS.out wD HTUD.out).2
          have qx := Hnx.out wD HTUD.out
          have Hidn : Hid (¬ gv + 1 ≤ t.id) := by show ¬ _; omega
          have Hqx : Hid _ := qx
          have HDr : Hid (∀ m, Tch (fun _ => False) wD (wD.drewN m)) := fun m => (Tch.refl _ _).drewN m
          have Hnx2 : Hid (∀ m, Calls Try.prog 16 #[.pointer (some ⟨B, 0, none⟩)] (wD.drewN m) fun x w' => x = .returned (.int .i64 (gv + 1)) ∧ w' = wD.drewN m) := fun m => Hnx.out _ (HTUD.out.trans' (HDr.out m))
          clear V5 qx
          by_cases hj0 : (0 : Int) < j
          · obtain ⟨j1, rfl⟩ : ∃ j1, j = j1 + 1 := ⟨j - 1, by omega⟩
            have hj1Q : j1 < Q.length := by omega
            obtain ⟨ga', oa', ee, z0, _⟩ := HTLD.out.at j1 hj1Q
            injection ee with ee; injection ee with ee1 ee2
            subst ee1 ee2
            obtain ⟨id1, hid1⟩ : ∃ id1, id1 = Q[j1].1.id := ⟨_, rfl⟩
            rw [← hid1] at z0
            have hrise : ¬ t.id ≤ id1 := by
              have h1 := List.pairwise_iff_getElem.1 HG.out.rise j1 (j1 + 1) (by omega) hjL (by omega)
              have h2 : Q[j1].1 = L[j1] := map_at HQ.out hj1Q (by omega)
              rw [hid1, h2, HtQ.out.2]; omega
            obtain ⟨j2, hj2⟩ : ∃ j2 : Nat, j2 = j1 + 1 := ⟨_, rfl⟩
            have hw1 : IntKind.i64.wrap ((j2 : Int) - 1) = (j1 : Int) := by
              have : (j2 : Int) - 1 = j1 := by omega
              rw [this]; exact wrap_of (by omega) (by omega)
            have hj1I : (j1 : Int) < n := by omega
            rw [← hj2] at a0 a1 a2 a3 a4 hjn hj0 ⊢
            have Hj2 : Hid (j2 = j1 + 1) := hj2
            have Hj2n : Hid (j2 < n) := by show j2 < n; omega
            clear hid1 hj2
            go_wp2_with fail
            have g3 : ¬ gv + 1 ≤ t.id := by have := Hidn.out; omega
            have g4 : ¬ t.id ≥ gv + 1 := by have := Hidn.out; omega
            have g1 : (0 : Int) < j2 := by have := Hj2.out; omega
            have g2 : 0 < j2 := by have := Hj2.out; omega
            have hw2 : IntKind.i64.wrap ((j2 : Int) - 1) = (j1 : Int) := hw1
            go_big_quiet ((go_at_call 16; exact Calls.quiet_of_same (Hnx2.out _)))
            obtain ⟨wE, hwE⟩ : ∃ wE, wE = wD.drewN nq := ⟨_, rfl⟩
            rw [← hwE]
            have HTE : Hid (Tch (fun _ => False) wU wE) := by show Tch _ _ _; rw [hwE]; exact HTUD.out.trans' (HDr.out nq)
            clear hwE a0 a1 a2 a3 a4 z0 g1 g2 hw1 hw2 g3 g4
            go_wp2_with fail
            go_loopw [18] (fun kv wr => ∃ k2 : Nat, kv = .int .i64 k2 ∧ k2 ≤ j2 ∧ Hid (Tch (fun _ => False) wE wr)) (fun kv _ => j2 - (intOf kv).toNat)
            case atStart => exact ⟨0, rfl, by omega, Tch.refl _ _⟩
            case round =>
              obtain ⟨k2, rfl, hk2, HTF⟩ := hrel
              obtain ⟨wF, hwF⟩ : ∃ wF, wF = wr := ⟨_, rfl⟩
              subst hwF
              have HTFU : Hid (Tch (fun _ => False) wU wF) := HTE.out.trans' HTF.out
              by_cases hk2j : (k2 : Int) < j2
              · have hk2Q : k2 < Q.length := by have := Hj2.out; omega
                obtain ⟨ga', oa', ee, _, _, z2, _⟩ := (HTL.out.tch (HTj.out.trans' HTFU.out) (fun _ _ h => h.elim)).at k2 hk2Q
                injection ee with ee; injection ee with ee1 ee2
                subst ee1 ee2
                obtain ⟨s1, hs1⟩ : ∃ s1, s1 = Q[k2].1.nm := ⟨_, rfl⟩
                rw [← hs1] at z2
                have hne : ¬ s1 = t.nm := by
                  have hk2L : k2 < L.length := by have := Hn.out; omega
                  have h1 := List.pairwise_iff_getElem.1 HG.out.nms k2 (j1 + 1) hk2L hjL (by have := Hj2.out; omega)
                  rw [hs1, map_at HQ.out hk2Q hk2L, HtQ.out.2]
                  exact h1
                obtain ⟨_, _, a2, _, _⟩ := (HS.out wF HTFU.out).2
                rw [← Hj2.out] at a2
                have hk2n : (k2 : Int) < n := by omega
                have Hne : Hid (¬ s1 = t.nm) := hne
                clear hs1
                go_wp2_with fail
                have hne2 := str_ne Hne.out
                have hne3 : ¬ s1 = t.nm := Hne.out
                go_big_quiet (fail)
                have HTG : Hid (Tch (fun _ => False) wE (wF.drewN nq)) := HTF.out.trans' ((Tch.refl _ _).drewN _)
                clear z2 a2
                have Hk2j : Hid (k2 < j2) := by show k2 < j2; omega
                go_wp2_with fail
                exact ⟨⟨k2 + 1, by simp, Hk2j.out, HTG⟩, by have := Hk2j.out; simp [intOf]; omega⟩
              · go_wp2_with fail
                go_roundw
                case rel => exact ⟨j2 + 1, by go_num, Hj2n.out, HTj.out.trans' HTFU.out⟩
                case measure => have := Hj2n.out; have := Hj2.out; simp [intOf]; omega
          · obtain rfl : j = 0 := by omega
            simp only [Nat.zero_mul, Nat.add_zero] at a0 a1 a2 a3 a4
            have Hn0 : Hid (0 < n) := by show 0 < n; omega
            clear hjn hj0
            go_wp2_with fail
            have g3 : ¬ gv + 1 ≤ t.id := by have := Hidn.out; omega
            have g4 : ¬ t.id ≥ gv + 1 := by have := Hidn.out; omega
            have g1 : (0 : Int) < n := by have := Hn0.out; omega
            have g2 : 0 < n := Hn0.out
            go_big_quiet ((go_at_call 16; exact Calls.quiet_of_same (Hnx2.out _)))
            obtain ⟨wE, hwE⟩ : ∃ wE, wE = wD.drewN nq := ⟨_, rfl⟩
            rw [← hwE]
            have HTE : Hid (Tch (fun _ => False) wU wE) := by show Tch _ _ _; rw [hwE]; exact HTUD.out.trans' (HDr.out nq)
            clear hwE a0 a1 a2 a3 a4 g1 g2 g3 g4
            go_wp2_with fail
            go_loopw [18] (fun kv wr => ∃ k2 : Nat, kv = .int .i64 k2 ∧ k2 ≤ 0 ∧ Hid (Tch (fun _ => False) wE wr)) (fun kv _ => 0 - (intOf kv).toNat)
            case atStart => exact ⟨0, rfl, by omega, Tch.refl _ _⟩
            case round =>
              obtain ⟨k2, rfl, hk2, HTF⟩ := hrel
              obtain ⟨wF, hwF⟩ : ∃ wF, wF = wr := ⟨_, rfl⟩
              subst hwF
              have HTFU : Hid (Tch (fun _ => False) wU wF) := HTE.out.trans' HTF.out
              by_cases hk2j : (k2 : Int) < ((0 : Nat) : Int)
              · exact absurd hk2j (by omega)
              · go_wp2_with fail
                go_roundw
                case rel => exact ⟨0 + 1, by go_num, by have := Hn0.out; omega, HTj.out.trans' HTFU.out⟩
                case measure => simp [intOf]; have := Hn0.out; omega
        · have hDL := HG.out.LD HQ.out
          have HcU : Hid (CA wU (fun i => wM.heap.size ≤ i) B L gv P to tc) := HCM.out.tch HTj.out (fun _ _ h => h.elim)
          have q1 := next_any B gv wU (HcU.out.parts HG.out).2.2.2.2 (by omega) (by omega)
          have q2 := load_ok Q lo lc _ (gv + 1) wU (HTL.out.tch HTj.out (fun _ _ h => h.elim)) hDL (by omega) (by omega)
          rw [← Hn.out.1, HQ.out, show gv + 1 - 1 = gv by omega] at q2
          clear hDL
          go_wp2_with fail
          refine q1.mono ?_
          rintro y w' ⟨rfl, hw'⟩
          obtain rfl := hw'.symm
          clear hw' q1
          go_wp2_with fail
          refine q2.mono ?_
          rintro y wD ⟨⟨db, Pd, tvd, rfl, hCOd⟩, tD⟩
          clear q2
          obtain ⟨p1, p2, p3, p4, p5⟩ := HcU.out.parts HG.out
          have hcD := HcU.out.tch tD (fun _ _ h => h.elim)
          have q3 := clone_any B L gv P to tc _ wD hcD p2 p3
          have HCOd : Hid _ := hCOd
          have HtD : Hid (Tch (fun _ => False) wU wD) := tD
          clear p1 p2 p3 p4 p5 hcD hCOd tD
          go_wp2_with fail
          refine q3.mono ?_
          rintro y wX ⟨⟨xb, tvx, Px, rfl, hCOx⟩, tX⟩
          clear q3
          have hdb := HCOd.out.ge
          have hdb2 : db < wD.heap.size := blk_lt HCOd.out.blk
          have hxb := hCOx.ge
          have hxb2 : xb < wX.heap.size := blk_lt hCOx.blk
          obtain ⟨tod, tcd, hcd⟩ := CO.ca (F := fun i => i = xb) HCOd.out (fun i e => by omega)
          obtain ⟨tox, tcx, hcx⟩ := CO.ca (F := fun i => i = db) hCOx (fun i e => by omega)
          have Hcd : Hid (CA wX (fun i => i = xb) db L gv Pd tod tcd) := hcd.tch tX (fun _ _ h => h.elim)
          have Hcx : Hid (CA wX (fun i => i = db) xb L gv Px tox tcx) := hcx
          have HtMX : Hid (Tch (fun _ => False) wM wX) := (HTj.out.trans' HtD.out).trans' tX
          have HMU : Hid (wM.heap.size ≤ wU.heap.size) := HTj.out.size
          have hM : wM.heap.size ≤ xb ∧ wM.heap.size ≤ db := by have h1 := HTj.out.size; have h2 := HtD.out.size; omega
          have HM : Hid (wM.heap.size ≤ xb ∧ wM.heap.size ≤ db) := hM
          have HS3 : Hid (∀ W, Tch (fun i => i = xb ∨ i = db) wX W → CA W (fun i => wM.heap.size ≤ i) B L gv P to tc ∧ TL W (fun i => wM.heap.size ≤ i) lo Q ∧ DS W mo ms ∧ Tch (fun _ => False) w W) := fun W tW => by
            have h1 : Tch (fun i => wM.heap.size ≤ i) wM W := (HtMX.out.mono (fun _ _ h => h.elim)).trans tW (fun i _ e => by omega)
            have h2 : Tch (fun i => B ≤ i) w W := (HTM.out.mono (fun i _ e => by omega)).trans h1 (fun i _ e => by have := HBM.out; omega)
            refine ⟨HCM.out.tch h1 (fun _ _ h => h), HTL.out.tch h1 (fun _ _ h => h), (Hds.out _ W h2 (fun i hi h => by omega)).2, h2.mono (fun i hi h => by have := HBw.out; omega)⟩
          clear hcd hcx hCOx tX hdb hdb2 hxb hxb2 hM HCOd
          go_wp2_with fail
          go_loopw [22] (fun iv wr => ∃ (i : Nat) (L2 : List Tbl) (gv2 : Int) (Px Pd : List (Tbl × Value)) (tox tod : Option Addr) (tcx tcd : Nat), iv = .int .i64 i ∧ i ≤ ms.length ∧ Hid (GI L2 gv2) ∧ Hid (CA wr (fun i => i = db) xb L2 gv2 Px tox tcx) ∧ Hid (CA wr (fun i => i = xb) db L2 gv2 Pd tod tcd) ∧ Hid (Tch (fun i => i = xb ∨ i = db) wX wr)) (fun iv _ => ms.length - (intOf iv).toNat)
          case atStart => exact ⟨0, L, gv, Px, Pd, tox, tod, tcx, tcd, rfl, by omega, HG, Hcx, Hcd, Tch.refl _ _⟩
          case round =>
            clear Hcx Hcd
            obtain ⟨i, L2, gv2, Px, Pd, tox, tod, tcx, tcd, rfl, hi, HG2, Hcx, Hcd, HTi⟩ := hrel
            obtain ⟨wY, hwY⟩ : ∃ wY, wY = wr := ⟨_, rfl⟩
            subst hwY
            by_cases him : (i : Int) < ms.length
            · have hil : i < ms.length := by omega
              obtain ⟨d, hdd⟩ : ∃ d, d = ms[i] := ⟨_, rfl⟩
              have hdok := Hmo.out ms[i] (List.getElem_mem hil)
              obtain ⟨gd, od, rfl, c0, c1, c2, c3⟩ := (HS3.out wY HTi.out).2.2.1 i hil
              rw [← hdd] at c0 c1 c2 c3 hdok
              have q1 := does_any xb L2 gv2 Px tox tcx _ d wY Hcx.out HG2.out (fun j e => by rw [e]; exact blk_lt Hcd.out.blk) hdok
              obtain ⟨E, hE⟩ : ∃ E, E = stE L2 gv2 d := ⟨_, rfl⟩
              rw [← hE] at q1
              have HE : Hid (E = stE L2 gv2 d) := hE
              have Hdd : Hid (d = ms[i]) := hdd
              have Hdok : Hid _ := hdok
              clear hdd hdok hE
              go_wp2_with fail
              refine q1.mono ?_
              rintro y w2 ⟨rfl, ⟨Px2, tox2, tcx2, hcx2⟩, t2⟩
              clear q1 c0 c1 c2 c3
              have HTi2 : Hid (Tch (fun i => i = xb ∨ i = db) wX w2) := HTi.out.trans t2 (fun _ _ e => Or.inl e)
              obtain ⟨gd', od', ee, c0, c1, c2, c3⟩ := (HS3.out w2 HTi2.out).2.2.1 i hil
              injection ee with ee; injection ee with ee1 ee2
              subst ee1 ee2
              rw [← Hdd.out] at c0 c1 c2 c3
              have hcd2 := Hcd.out.tch t2 (fun _ _ e => e)
              have q2 := does_any db L2 gv2 Pd tod tcd _ d w2 hcd2 HG2.out (fun j e => by rw [e]; exact blk_lt hcx2.blk) Hdok.out
              rw [← HE.out] at q2
              have Hcx2 : Hid _ := hcx2
              clear hcd2 t2 hcx2
              go_wp2_with fail
              refine q2.mono ?_
              rintro y w3 ⟨rfl, ⟨Pd2, tod2, tcd2, hcd3⟩, t3⟩
              clear q2 c0 c1 c2 c3
              have HTi3 : Hid (Tch (fun i => i = xb ∨ i = db) wX w3) := HTi2.out.trans t3 (fun _ _ e => Or.inr e)
              have Hcd3 : Hid _ := hcd3
              have Hcx3 : Hid _ := Hcx2.out.tch t3 (fun _ _ e => e)
              have HG3 : Hid _ := HG2.out.stp d
              have Hil : Hid (i < ms.length) := hil
              clear hcd3 t3 Hcx2
              go_wp2_with fail
              go_roundw
              case rel => exact ⟨i + 1, _, _, _, _, _, _, _, _, by go_num, Hil.out, HG3, Hcx3, Hcd3, HTi3⟩
              case measure => have := Hil.out; simp [intOf]; omega
            · obtain ⟨h1, h2, h3, h4⟩ := HS3.out wY HTi.out
              obtain ⟨p1, p2, p3, p4, p5⟩ := h1.parts HG.out
              have q1 := list_any B to tc P _ wY p4 h1.tl p2 p3
              have HLl : Hid (L.length ≤ 16) := HG.out.len
              have HL8 : Hid (∀ (A : List (Tbl × Value)), A.map Prod.fst = L → A.length ≤ 16 ∧ ∀ i (hi : i < A.length), A[i].1.cols.length ≤ 8) := fun A e => ⟨(HG.out.LD e).len, (HG.out.LD e).cols⟩
              have HL28 : Hid (∀ (A : List (Tbl × Value)), A.map Prod.fst = L2 → A.length ≤ 16 ∧ ∀ i (hi : i < A.length), A[i].1.cols.length ≤ 8) := fun A e => ⟨(HG2.out.LD e).len, (HG2.out.LD e).cols⟩
              have HTLY : Hid (TL wY (fun i => wM.heap.size ≤ i) lo Q) := h2
              have HTwY : Hid (Tch (fun _ => False) w wY) := h4
              have eP : P.map Prod.fst = L := h1.eq
              rw [eP] at q1
              clear h1 h2 h3 h4 p1 p2 p3 p4 p5 eP
              go_wp2_with fail
              refine q1.mono ?_
              rintro y wA ⟨⟨tv1, Q1, rfl, hQ1, hTO1⟩, tA1⟩
              clear q1
              obtain ⟨lo1, lc1, rfl⟩ := row_slice hTO1.own
              have q2 := sames_true Q1 Q lo1 lo lc1 lc _ _ wA hTO1.toTL (HTLY.out.tch tA1 (fun _ _ h => h.elim)) (by rw [hQ1, HQ.out]) (HL8.out Q1 hQ1).1 (HL8.out Q1 hQ1).2
              rw [← Hn.out.1] at q2
              have HtA : Hid (Tch (fun _ => False) wY wA) := tA1
              clear hQ1 hTO1 tA1
              go_wp2_with fail
              refine q2.mono ?_
              rintro y wB ⟨rfl, tB⟩
              clear q2
              have HtB : Hid (Tch (fun _ => False) wY wB) := HtA.out.trans' tB
              have hx := Hcx.out.tch HtB.out (fun _ _ h => h.elim)
              have hd := Hcd.out.tch HtB.out (fun _ _ h => h.elim)
              obtain ⟨p1, p2, p3, p4, p5⟩ := hx.parts HG2.out
              have q3 := list_any xb tox tcx Px _ wB p4 hx.tl p2 p3
              rw [hx.eq] at q3
              have Hd : Hid _ := hd
              clear hx hd p1 p2 p3 p4 p5 tB
              go_wp2_with fail
              refine q3.mono ?_
              rintro y wC ⟨⟨tv2, Q2, rfl, hQ2, hTO2⟩, tC⟩
              clear q3
              obtain ⟨lo2, lc2, rfl⟩ := row_slice hTO2.own
              have hd := Hd.out.tch tC (fun _ _ h => h.elim)
              obtain ⟨p1, p2, p3, p4, p5⟩ := hd.parts HG2.out
              have q4 := list_any db tod tcd Pd _ wC p4 hd.tl p2 p3
              rw [hd.eq] at q4
              have HTO2 : Hid _ := hTO2
              have HQ2 : Hid (Q2.map Prod.fst = L2) := hQ2
              have HtC : Hid (Tch (fun _ => False) wY wC) := HtB.out.trans' tC
              clear hd p1 p2 p3 p4 p5 tC hTO2 hQ2
              go_wp2_with fail
              refine q4.mono ?_
              rintro y wE ⟨⟨tv3, Q3, rfl, hQ3, hTO3⟩, tE⟩
              clear q4
              obtain ⟨lo3, lc3, rfl⟩ := row_slice hTO3.own
              have q5 := sames_true Q2 Q3 lo2 lo3 lc2 lc3 _ _ wE (HTO2.out.toTL.tch tE (fun _ _ h => h.elim)) hTO3.toTL (by rw [hQ3, HQ2.out]) (HL28.out Q2 HQ2.out).1 (HL28.out Q2 HQ2.out).2
              have HtE : Hid (Tch (fun _ => False) wY wE) := HtC.out.trans' tE
              clear tE hQ3 hTO3
              go_wp2_with fail
              refine q5.mono ?_
              rintro y wG ⟨rfl, tG⟩
              clear q5
              have HtG : Hid (Tch (fun _ => False) wY wG) := HtE.out.trans' tG
              have hl2 := HG2.out.low
              have hh2 := HG2.out.high
              have q6 := next_any xb gv2 wG ((Hcx.out.tch HtG.out (fun _ _ h => h.elim)).parts HG2.out).2.2.2.2 hl2 (by omega)
              have q7 := next_any db gv2 wG ((Hcd.out.tch HtG.out (fun _ _ h => h.elim)).parts HG2.out).2.2.2.2 hl2 (by omega)
              clear tG
              go_wp2_with fail
              refine q6.mono ?_
              rintro y w' ⟨rfl, hw'⟩
              obtain rfl := hw'.symm
              clear hw' q6
              go_wp2_with fail
              refine q7.mono ?_
              rintro y w' ⟨rfl, hw'⟩
              obtain rfl := hw'.symm
              clear hw' q7
              go_wp2_with fail
              go_ret
              exact ⟨by simp, HTwY.out.trans' HtG.out⟩
end Go.Proofs.Ytblhmjndegfofaa
