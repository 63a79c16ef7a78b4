import Derived.Test.YtmfbhhloabkecaaGreatDoorRV3
import Derived.Test.YtmfbhhloabkecaaGreatDoorRV7
set_option maxHeartbeats 4000000
set_option maxRecDepth 100000
namespace Go.Proofs.YtmfbhhloabkecaaGreatDoor.C
open Go.RowKit
theorem tabL_len {t : Tbl} (h : RT t) : (tabL t).length ≤ 400 := by
  have h1 := fol_dg_len t.id.toNat
  have h2 := fol_dg_len t.ver.toNat
  have h3 := textL_len (nm_size h.nm)
  have h4 := colsL_len h.cols
  have h5 := h.len
  have e1 : ∀ n : Int, (bytesL [n]).length = 1 := fun _ => rfl
  unfold tabL
  simp only [List.length_append, e1]
  omega
theorem tabsL_len : ∀ {l : List Tbl}, (∀ t ∈ l, RT t) → (tabsL l).length ≤ l.length * 400
  | [], _ => by simp [tabsL]
  | c :: l, h => by
    have e : tabsL (c :: l) = tabL c ++ tabsL l := List.flatMap_cons
    have h1 := tabL_len (h c (by simp))
    have h2 := tabsL_len (l := l) (fun x hx => h x (by simp [hx]))
    rw [e, List.length_append, List.length_cons]; omega
theorem tabsL_succ (l : List Tbl) (k : Nat) (hk : k < l.length) : tabsL (l.take (k + 1)) = tabsL (l.take k) ++ tabL l[k] := by
  have h : l.take (k + 1) = l.take k ++ [l[k]] := (List.take_append_getElem hk).symm
  unfold tabsL
  rw [h, List.flatMap_append, List.flatMap_cons, List.flatMap_nil, List.append_nil]
theorem lay_10 (b : Nat) (bs : List UInt8) (r : Rc) (s : Sk) (w : World) (h : WS w b bs 0) (_hg : HE w) (_hgb : 1 < b) (hw : RW w (fun i => b ≤ i) r s) (hr : rightC 10 r) (hlen : bs.length + 100000 ≤ 140737488355328) :
    Calls Tryz.prog 235 #[.agg #[.int .i64 r.x, .int .i64 r.t, .slice s.to s.P.length s.tc], .pointer (some ⟨b, 0, none⟩)] w fun x w' => x = .returned (.tuple #[]) ∧ WS w' b (bs ++ bodyL 10 r) 0 ∧ Tch (WT b w) w w' := by
  obtain ⟨g1, g2, g3⟩ : (1 ≤ r.x ∧ r.x ≤ 2147483648) ∧ (1 ≤ r.t ∧ r.t ≤ 2147483648) ∧ LDp r.tbs r.t := hr
  have hlt := h.lt
  have HRT : Hid (∀ t ∈ r.tbs, RT t) := g3.rt
  obtain ⟨n, hn⟩ : ∃ n, n = s.P.length := ⟨_, rfl⟩
  have hnt : n = r.tbs.length := by rw [hn, ← hw.eq, List.length_map]
  have hn16 : n ≤ 16 := by have := g3.len; omega
  have HEQ : Hid (s.P.map Prod.fst = r.tbs ∧ n = s.P.length ∧ n = r.tbs.length) := ⟨hw.eq, hn, hnt⟩
  rw [← hn]
  obtain ⟨w0, hw0⟩ : ∃ w0, w0 = w.alloc (.cells #[.int .i64 r.x, .int .i64 r.t, .slice s.to n s.tc] 145) := ⟨_, rfl⟩
  have t0 : Tch (fun _ => False) w w0 := by rw [hw0]; exact Tch.alloc _ _ _
  have b0 : w0.heap[w.heap.size]? = some (.cells #[.int .i64 r.x, .int .i64 r.t, .slice s.to n s.tc] 145 (0, 0)) := by rw [hw0]; exact heap_new w _
  have HK : Hid (∀ W, Tch (WT b w0) w0 W → (W.cell? ⟨w.heap.size, 0, none⟩ = some (.int .i64 r.x) ∧ W.cell? ⟨w.heap.size, 1, none⟩ = some (.int .i64 r.t) ∧ W.cell? ⟨w.heap.size, 2, none⟩ = some (.slice s.to n s.tc)) ∧ TL W (fun i => b ≤ i) s.to s.P) := fun W t => by
    have hb := wt_keep t b0 (by decide) (by omega)
    exact ⟨⟨blk_cell hb 0, blk_cell hb 1, blk_cell hb 2⟩, ((hw.no t0).tch t (fun i _ h => wt_ge h)).tbs⟩
  have h0 : WS w0 b bs 0 := h.tch t0 (fun _ _ _ h => h)
  have HT0 : Hid (Tch (fun _ => False) w w0) := t0
  have HW0 : Hid (w0 = w.alloc (.cells #[.int .i64 r.x, .int .i64 r.t, .slice s.to n s.tc] 145)) := hw0
  clear h hw t0 b0 hw0 hn hnt g3
  go_enter Tryz.func235, Tryz.ntmps235
  go_wp2_with fail
  have q1 := wvar_ok b _ r.x w0 h0 (by omega) (by omega) (by omega)
  rw [HW0.out] at q1
  refine q1.mono ?_
  rintro x w1 ⟨rfl, h1, t1⟩
  rw [← HW0.out] at t1
  clear q1 h0
  have l1 := fol_dg_len r.x.toNat
  obtain ⟨⟨y0, y1, y2⟩, -⟩ := HK.out w1 t1
  go_wp2_with fail
  refine (wvar_ok b _ r.t w1 h1 (by omega) (by omega) (by simp only [List.length_append]; omega)).mono ?_
  rintro x w2 ⟨rfl, h2, t2⟩
  have T2 := wt_trans t1 t2
  have l2 := fol_dg_len r.t.toNat
  clear y0 y1 y2 h1 t1 t2
  obtain ⟨⟨y0, y1, y2⟩, -⟩ := HK.out w2 T2
  go_wp2_with fail
  refine (wbyte1' b _ n _ w2 h2 (by simp) (by omega) (by omega) (by simp only [List.length_append]; omega)).mono ?_
  rintro x w3 ⟨rfl, h3, t3⟩
  have T3 := wt_trans T2 t3
  clear y0 y1 y2 h2 T2 t3
  obtain ⟨⟨y0, y1, y2⟩, -⟩ := HK.out w3 T3
  obtain ⟨B, hB⟩ : ∃ B, B = bs ++ dg r.x.toNat ++ dg r.t.toNat ++ bytesL [(n : Int)] := ⟨_, rfl⟩
  have lB : B.length ≤ bs.length + 21 := by
    have : (bytesL [(n : Int)]).length = 1 := rfl
    rw [hB]; simp only [List.length_append]; omega
  rw [← hB] at h3
  have HB : Hid (B = bs ++ dg r.x.toNat ++ dg r.t.toNat ++ bytesL [(n : Int)]) := hB
  clear hB l1 l2
  go_wp2_with fail
  go_loopw [23] (fun i wr => ∃ k : Nat, i = .int .i64 k ∧ k ≤ n ∧ WS wr b (B ++ tabsL (r.tbs.take k)) 0 ∧ Tch (WT b w0) w0 wr) (fun i _ => n - (intOf i).toNat)
  case atStart => exact ⟨0, rfl, Nat.zero_le _, by simpa [tabsL] using h3, T3⟩
  case round =>
    obtain ⟨k, rfl, hk, hW, hT⟩ := hrel
    clear h3 T3 y0 y1 y2
    have HCt : Hid (∀ c ∈ r.tbs.take k, RT c) := fun c hc => HRT.out c (List.mem_of_mem_take hc)
    have lc := tabsL_len HCt.out
    have lk : (r.tbs.take k).length ≤ 16 := by rw [List.length_take]; omega
    obtain ⟨-, hs⟩ := HK.out _ hT
    have hwl := hW.lt
    by_cases hkn : k < n
    · have hkn' : (k : Int) < n := by omega
      have hkP : k < s.P.length := by have := HEQ.out.2.1; omega
      have hkt : k < r.tbs.length := by have := HEQ.out.2.2; omega
      obtain ⟨g, o, e, c0, c1, c2, c3, c4⟩ := hs.at k hkP
      obtain ⟨co, cc, hck⟩ := hs.col k hkP
      obtain ⟨p, hp⟩ : ∃ p, p = s.P[k] := ⟨_, rfl⟩
      have hpt : p.1 = r.tbs[k] := by
        have h1 : (s.P.map Prod.fst)[k]? = r.tbs[k]? := by rw [HEQ.out.1]
        rw [List.getElem?_map, List.getElem?_eq_getElem hkP, List.getElem?_eq_getElem hkt] at h1
        rw [hp]; simpa using h1
      have hrt := HRT.out p.1 (by rw [hpt]; exact List.getElem_mem hkt)
      have HS : Hid (tabsL (r.tbs.take (k + 1)) = tabsL (r.tbs.take k) ++ tabL p.1) := by show _ = _; rw [hpt]; exact tabsL_succ _ _ hkt
      rw [← hp] at c0 c1 c2 c3 c4 hck
      rw [hck.eq] at c3
      obtain ⟨to', hto⟩ : ∃ to', to' = s.to := ⟨_, rfl⟩
      rw [← hto] at e ⊢
      subst e
      obtain ⟨wb, hwb⟩ : ∃ wb, wb = wr.alloc (.cells #[.int .i64 p.1.id, .int .i64 p.1.ver, .string p.1.nm, .slice co p.1.cols.length cc, .int .i64 p.1.key] 29) := ⟨_, rfl⟩
      have tb : Tch (fun _ => False) wr wb := by rw [hwb]; exact Tch.alloc _ _ _
      have hne : p.1.cols ≠ [] := fun e0 => by have h1 := hrt.len; rw [e0] at h1; simp at h1
      have q := layTable_any b _ p.1 co cc wb (hW.tch tb (fun _ _ _ h => h)) hrt (hck.sl.no tb) (fun g o e => by have := (hck.nf hne g o e).1; omega) (by rw [List.length_append]; omega)
      have HTB : Hid (Tch (WT b w0) w0 wb) := wt_trans hT (wt_new tb (Tch.refl _ _))
      rw [hwb] at q
      have HWB : Hid (wb = wr.alloc (.cells #[.int .i64 p.1.id, .int .i64 p.1.ver, .string p.1.nm, .slice co p.1.cols.length cc, .int .i64 p.1.key] 29)) := hwb
      clear hwb tb hW hT hs hck hrt hpt hp hne hto
      go_wp2_with fail
      refine q.mono ?_
      rintro x w5 ⟨rfl, h5, t5⟩
      rw [← HWB.out] at t5
      have T5 := wt_trans HTB.out t5
      clear q t5 c0 c1 c2 c3 c4
      go_wp2_with fail
      go_roundw
      case rel =>
        refine ⟨k + 1, by go_num, by omega, ?_, T5⟩
        show WS _ _ _ _
        rw [HS.out]
        simpa only [List.append_assoc] using h5
      case measure => simp [intOf]; omega
    · have hkn' : ¬ (k : Int) < n := by omega
      have HTk : Hid (r.tbs.take k = r.tbs) := by
        show _ = _
        rw [List.take_of_length_le]; have := HEQ.out.2.2; omega
      clear hs
      go_wp2_with fail
      go_end0
      refine ⟨rfl, ?_, wt_new HT0.out hT⟩
      rw [HTk.out, HB.out] at hW
      unfold bodyL
      simp only
      rw [← HEQ.out.2.2]
      simpa only [List.append_assoc] using hW
end Go.Proofs.YtmfbhhloabkecaaGreatDoor.C
namespace Go.Proofs.YtmfbhhloabkecaaGreatDoor.C
open Go.RowKit Go Go.Sort
theorem RW.low {W : World} {F : Nat → Prop} {r : Rc} {s : Sk} (h : RW W F r s) {b : Nat} (hb : W.heap.size ≤ b) : RW W (fun i => b ≤ i) r s := by
  refine ⟨h.o, h.n, ⟨h.tb.eq, h.tb.sl, h.tb.no, h.tb.cap, fun hne g o e => ?_⟩, ⟨h.tbs.sl, fun hne g o e => ?_, fun i hi => ?_⟩, h.eq, fun hne g o e => ?_, fun hne g o e => ?_, h.oi, h.ni, h.ol, h.nl, h.cl, h.tl, h.pl⟩
  · have := (h.tb.nf hne g o e).2; exact ⟨by omega, this⟩
  · obtain ⟨g', o', e', ha⟩ := h.tbs.sl (tcl_nil hne)
    rw [e] at e'; injection e' with e'; injection e' with e1 e2
    have := ha.lt (tcl_nil hne); omega
  · obtain ⟨co, cc, hc⟩ := h.tbs.col i hi
    exact ⟨co, cc, hc.eq, hc.sl, hc.no, hc.cap, fun hne g o e => by have := (hc.nf hne g o e).2; exact ⟨by omega, this⟩⟩
  · obtain ⟨g', o', e', ha⟩ := h.o (f3_nil _ _ _ hne)
    rw [e] at e'; injection e' with e'; injection e' with e1 e2
    have := ha.lt (f3_nil _ _ _ hne); omega
  · obtain ⟨g', o', e', ha⟩ := h.n (f3_nil _ _ _ hne)
    rw [e] at e'; injection e' with e'; injection e' with e1 e2
    have := ha.lt (f3_nil _ _ _ hne); omega
end Go.Proofs.YtmfbhhloabkecaaGreatDoor.C
