import Derived.Test.YtmfbhhloabkecaaGreatDoorLR0
set_option maxHeartbeats 16000000
set_option maxRecDepth 100000
namespace Go.Proofs.YtmfbhhloabkecaaGreatDoor.C
open Go.RowKit Go Go.Sort
theorem rows_012 (nm : ByteArray) (cols : List Col) (co : Option Addr) (cc : Nat) (key : Int) (vs : List Val) (ro : Option Addr) (rc : Nat) (xid : Int) (w : World) (hg : HE w) (hvb : HVB w) (hv : HP w) (hwd : HWd w) (hc : SL w co (ccl cols)) (hno : co = none → cols = [] ∧ cc = 0) (hcap : cols.length ≤ cc) (hcl : cols.length ≤ 9223372036854775807) (hr : SL w ro (vcl vs)) (hro : ro = none → rc = 0) (hvi : ∀ v ∈ vs, v.i64) (hx : 2147483646 < xid)
    (hE : creE [] 0 nm cols key = 0) (hW : widE (creT 0 nm cols key) zC ≠ 0) (hF : (fitR (creT 0 nm cols key) vs).2 = 0) :
    Calls Tryz.prog 3 #[.string nm, .slice co cols.length cc, .int .i64 key, .slice ro vs.length rc, .int .i64 xid] w fun x w' => x = .returned (.bool true) ∧ Tch (fun _ => False) w w' := by
  obtain ⟨T, hT⟩ : ∃ T, T = creT 0 nm cols key := ⟨_, rfl⟩
  have hTE : rightE T = 0 := by rw [hT]; exact cre_right hE
  have HTI : Hid (T.id = 1 ∧ T.ver = 1 ∧ T.nm = nm ∧ T.cols = cols) := by rw [hT]; exact ⟨rfl, rfl, rfl, rfl⟩
  rw [← hT] at hW hF
  have hT8 : T.cols.length ≤ 8 := (right_rt hTE).len.2
  have HTE : Hid (rightE T = 0) := hTE
  have hq0 := known_any w hg hvb hv hwd
  have HCR : Hid (∀ w1, Tch (fun _ => False) w w1 → Calls Tryz.prog 8 #[.pointer (some ⟨w1.heap.size, 0, none⟩), .string nm, .slice co cols.length cc, .int .i64 key] (w1.alloc (.cells #[.slice none 0 0, .int .i64 0] 60)) fun x w' => ChgOut (fun _ => False) w1.heap.size 0 T [T] 1 (w1.alloc (.cells #[.slice none 0 0, .int .i64 0] 60)) x w') := fun w1 t => by
    have hb1 := heap_new w1 (.cells #[.slice none 0 0, .int .i64 0] 60)
    have hCA : CA (w1.alloc (.cells #[.slice none 0 0, .int .i64 0] 60)) (fun _ => False) w1.heap.size [] 0 [] none 0 := ⟨hb1, rfl, ⟨SL.nil _ _, fun h => absurd rfl h, fun i hi => by simp at hi⟩, fun h => h⟩
    have q := create_any w1.heap.size [] 0 [] none 0 (fun _ => False) nm cols co cc key _ hCA (by simp) (fun i hi => by simp at hi) (fun _ h => h.elim) ((hc.no t).no (Tch.alloc _ _ _)) hno hcap hcl (by omega) (by omega) (fun g o e hne => by
      obtain ⟨g', o', e', ha⟩ := hc (f3_nil _ _ _ hne)
      rw [e] at e'; injection e' with e'; injection e' with e1 e2
      have := ha.lt (f3_nil _ _ _ hne)
      have := t.size
      omega)
    rw [hE, ← hT] at q
    exact q
  have HRR : Hid (∀ W, Tch (fun _ => False) w W → SL W ro (vcl vs) ∧ HE W) := fun W t => ⟨hr.no t, hg.tch t (fun h => h)⟩
  have HRO : Hid (ro = none → rc = 0) := hro
  have HVI : Hid _ := hvi
  obtain ⟨cn, hcn⟩ : ∃ cn, cn = cols.length := ⟨_, rfl⟩
  rw [← hcn] at HCR ⊢
  obtain ⟨rn, hrn⟩ : ∃ rn, rn = vs.length := ⟨_, rfl⟩
  rw [← hrn]
  have HRN : Hid (rn = vs.length) := hrn
  have HW : Hid (widE T zC ≠ 0) := hW
  have HF : Hid ((fitR T vs).2 = 0) := hF
  clear hT hTE hc hno hcap hcl hr hro hvi hE hW hF hg hvb hv hwd hcn hrn
  go_enter Tryz.func3, Tryz.ntmps3
  go_wp2_with fail
  refine hq0.mono ?_
  rintro y w1 ⟨rfl, t1⟩
  clear hq0
  go_wp2_with fail
  refine (new_any w1).mono ?_
  rintro y w2 ⟨rfl, hw2⟩
  have t2 : Tch (fun _ => False) w1 w2 := by rw [hw2]; exact Tch.alloc _ _ _
  have q2 := HCR.out w1 t1
  rw [← hw2] at q2
  have hz2 : w2.heap.size = w1.heap.size + 1 := by rw [hw2]; simp
  have T2 := t1.trans' t2
  obtain ⟨B, hB⟩ : ∃ B, B = w1.heap.size := ⟨_, rfl⟩
  rw [← hB] at q2 hz2 ⊢
  have hwB : w.heap.size ≤ B := by rw [hB]; exact t1.size
  clear hw2 t2 t1 hB HCR
  go_wp2_with fail
  refine q2.mono ?_
  rintro y w3 hO
  clear q2
  obtain ⟨v, P, pw, pc, rfl, hv3, hca, t3⟩ := hO.1 rfl
  clear hO
  obtain ⟨vo, vc, hvv⟩ := row_slice hv3
  subst hvv
  have hca3 : CA w3 (fun i => (Value.slice vo T.cols.length vc).ownBlock = some i) B [T] 1 P pw pc := hca.fresh (fun _ _ h => Or.inr h)
  have HVB : Hid (∀ g, (Value.slice vo T.cols.length vc).ownBlock = some g → w2.heap.size ≤ g ∧ g < w3.heap.size) := fun g e => hv3.lt g e
  have hz3 := t3.size
  have T3 : Tch (fun i => i = B) w w3 := (T2.mono (fun _ _ h => h.elim)).trans' t3
  clear hca t3 T2
  obtain ⟨w4, hw4⟩ : ∃ w4, w4 = w3.alloc (.cells #[.int .i64 T.id, .int .i64 T.ver, .string T.nm, .slice vo T.cols.length vc, .int .i64 T.key] 29) := ⟨_, rfl⟩
  have t4 : Tch (fun _ => False) w3 w4 := by rw [hw4]; exact Tch.alloc _ _ _
  have b4 : w4.heap[w3.heap.size]? = some (.cells #[.int .i64 T.id, .int .i64 T.ver, .string T.nm, .slice vo T.cols.length vc, .int .i64 T.key] 29 (0, 0)) := by rw [hw4]; exact heap_new w3 _
  have hz4 : w4.heap.size = w3.heap.size + 1 := by rw [hw4]; simp
  have T4 : Tch (fun i => i = B) w w4 := T3.trans' (t4.mono (fun _ _ h => h.elim))
  have T4w : Tch (fun _ => False) w w4 := T4.mono (fun i hi h => by omega)
  have hv4 := own_tch hv3 t4 (fun _ _ h => h)
  have q3 := fit_any T vo vc vs ro rc w4 (own_sl hv4) (own_cap hv4) (by omega) (HRR.out w4 T4w).1 HRO.out
  rw [← HRN.out, hw4] at q3
  have HW4 : Hid (w4 = w3.alloc (.cells #[.int .i64 T.id, .int .i64 T.ver, .string T.nm, .slice vo T.cols.length vc, .int .i64 T.key] 29)) := hw4
  have HV4 : Hid (w4.ownsRow w2.heap.size 43 3 (.slice vo T.cols.length vc) T.cols.length (ccl T.cols)) := hv4
  have HCA4 : Hid (CA w4 (fun i => (Value.slice vo T.cols.length vc).ownBlock = some i) B [T] 1 P pw pc) := hca3.tch t4 (fun _ _ h => h.elim)
  clear hw4 t4 T3 hca3 hv3 hv4
  obtain ⟨tn, htn⟩ : ∃ tn, tn = T.cols.length := ⟨_, rfl⟩
  go_wp2_with fail
  refine q3.mono ?_
  rintro y w5 ⟨⟨av, rfl, hav⟩, t5⟩
  rw [← HW4.out] at t5 hav
  clear q3
  obtain ⟨al, hal⟩ : ∃ al, al = (fitR T vs).1 := ⟨_, rfl⟩
  obtain ⟨f, hf⟩ : ∃ f, f = (fitR T vs).2 := ⟨_, rfl⟩
  rw [← hal] at hav
  rw [← hf]
  have HAL : Hid (al = (fitR T vs).1 ∧ f = (fitR T vs).2) := ⟨hal, hf⟩
  obtain ⟨ao, ac, hao⟩ := row_slice hav
  subst hao
  have HAV : Hid (w5.ownsRow w4.heap.size 58 3 (.slice ao al.length ac) al.length (vcl al)) := hav
  clear hal hf hav htn
  have hz5 := t5.size
  have T5 : Tch (fun i => i = B) w w5 := T4.trans' (t5.mono (fun _ _ h => h.elim))
  have hf0 : f = 0 := by rw [HAL.out.2]; exact HF.out
  have b5 : w5.heap[w3.heap.size]? = some (.cells #[.int .i64 T.id, .int .i64 T.ver, .string T.nm, .slice vo T.cols.length vc, .int .i64 T.key] 29 (0, 0)) := (t5.block _ (blk_lt b4) (fun h => h)).trans b4
  have HCA5 : Hid (CA w5 (fun i => (Value.slice vo T.cols.length vc).ownBlock = some i) B [T] 1 P pw pc) := HCA4.out.tch t5 (fun _ _ h => h.elim)
  have HV5 : Hid (w5.ownsRow w2.heap.size 43 3 (.slice vo T.cols.length vc) T.cols.length (ccl T.cols)) := own_tch HV4.out t5 (fun _ _ h => h)
  clear HCA4 HV4 HW4 b4 T4 t5
  obtain ⟨C, hC⟩ : ∃ C : List Value → World → Prop, C = fun st W => match st with
    | [] => Tch (fun _ => False) w5 W
    | [y] => (∃ lo lc Q, y = .slice lo 1 lc ∧ Q.map Prod.fst = [T] ∧ TO W w5.heap.size (.slice lo 1 lc) Q) ∧ Tch (fun _ => False) w5 W
    | [y, u] => (∃ lo lc Q W0, y = .slice lo 1 lc ∧ Q.map Prod.fst = [T] ∧ TO W0 w5.heap.size (.slice lo 1 lc) Q ∧ Tch (fun _ => False) w5 W0 ∧ u = .slice (some ⟨W0.heap.size, 0, none⟩) 2 2 ∧ W = W0.alloc (.cells #[.int .i64 11, .int .i64 5, .int .i64 0, .int .i64 0, .slice none 0 0, .slice none 0 0, .string ⟨#[]⟩, .int .i64 0, .int .i64 T.id, .int .i64 T.ver, .string T.nm, .slice vo T.cols.length vc, .int .i64 T.key, .slice none 0 0, .int .i64 15, .int .i64 6, .int .i64 0, .int .i64 2, .slice none 0 0, .slice none 0 0, .string ⟨#[]⟩, .int .i64 0, .int .i64 0, .int .i64 0, .string ⟨#[]⟩, .slice none 0 0, .int .i64 0, .slice lo 1 lc] 37))
    | _ => False := ⟨_, rfl⟩
  have h0' : C [] w5.drew := by rw [hC]; exact (Tch.refl _ _).drew
  have hCT : ∀ s W, C s W → Tch (fun _ => False) w5 W := fun s W h => by
    rw [hC] at h
    match s, h with
    | [], h => exact h
    | [y], h => exact h.2
    | [y, u], h =>
      obtain ⟨lo, lc, Q, W0, _, _, _, t, _, e⟩ := h
      rw [e]; exact t.allocR _
  have hK : ∀ s W, C s W → (W.cell? ⟨w3.heap.size, 0, none⟩ = some (.int .i64 T.id) ∧ W.cell? ⟨w3.heap.size, 1, none⟩ = some (.int .i64 T.ver) ∧ W.cell? ⟨w3.heap.size, 2, none⟩ = some (.string T.nm) ∧ W.cell? ⟨w3.heap.size, 3, none⟩ = some (.slice vo T.cols.length vc) ∧ W.cell? ⟨w3.heap.size, 4, none⟩ = some (.int .i64 T.key)) := fun s W h => blk5 (((hCT s W h).block _ (blk_lt b5) (fun h => h)).trans b5)
  have hNx : ∀ s W, C s W → Calls Tryz.prog 10 #[.pointer (some ⟨B, 0, none⟩)] W fun x w' => x = .returned (.int .i64 2) ∧ w' = W := fun s W h => by
    have hb := (HCA5.out.tch (hCT s W h) (fun _ _ h => h.elim)).blk
    exact next_any B 1 W (blk_cell hb 1) (by omega) (by omega)
  have hLi : ∀ W, C [] W → Calls Tryz.prog 11 #[.pointer (some ⟨B, 0, none⟩)] W fun x w' => ∃ lo lc, x = .returned (.slice lo 1 lc) ∧ C [.slice lo 1 lc] w' := fun W h => by
    have tW := hCT _ W h
    have hca := HCA5.out.tch tW (fun _ _ h => h.elim)
    have hpl : P.length = 1 := by have := congrArg List.length hca.eq; simpa using this
    have q := list_any B pw pc P _ W (blk_cell hca.blk 0) hca.tl (by omega) (fun i hi => by
      have h1 : P[i].1 ∈ P.map Prod.fst := List.mem_map_of_mem (List.getElem_mem hi)
      rw [hca.eq] at h1
      rw [List.mem_singleton.1 h1]; exact hT8)
    refine q.mono ?_
    rintro y w' ⟨⟨tv, Q, rfl, hQ, hTO⟩, t⟩
    rw [hca.eq] at hQ
    have hql : Q.length = 1 := by have := congrArg List.length hQ; simpa using this
    obtain ⟨lo, lc, e⟩ := row_slice hTO.own
    rw [hql] at e
    subst e
    refine ⟨lo, lc, rfl, ?_⟩
    rw [hC]
    exact ⟨⟨lo, lc, Q, rfl, hQ, ⟨own_low hTO.own tW.size, fun i hi => own_low (hTO.col i hi) tW.size, hTO.sep, hTO.dis⟩⟩, tW.trans' t⟩
  have hBu : ∀ lo lc W, C [.slice lo 1 lc] W → C [.slice lo 1 lc, .slice (some ⟨W.heap.size, 0, none⟩) 2 2] (W.alloc (.cells #[.int .i64 11, .int .i64 5, .int .i64 0, .int .i64 0, .slice none 0 0, .slice none 0 0, .string ⟨#[]⟩, .int .i64 0, .int .i64 T.id, .int .i64 T.ver, .string T.nm, .slice vo T.cols.length vc, .int .i64 T.key, .slice none 0 0, .int .i64 15, .int .i64 6, .int .i64 0, .int .i64 2, .slice none 0 0, .slice none 0 0, .string ⟨#[]⟩, .int .i64 0, .int .i64 0, .int .i64 0, .string ⟨#[]⟩, .slice none 0 0, .int .i64 0, .slice lo 1 lc] 37)) := fun lo lc W h => by
    rw [hC] at h ⊢
    obtain ⟨⟨lo', lc', Q, e, hQ, hTO⟩, t⟩ := h
    have e' : lo = lo' ∧ lc = lc' := by simpa using e
    obtain ⟨rfl, rfl⟩ := e'
    exact ⟨lo, lc, Q, W, rfl, hQ, hTO, t, rfl, rfl⟩
  have hs8 : ∀ y W, C [y] W → ∃ lo lc, y = .slice lo 1 lc := fun y W h => by rw [hC] at h; obtain ⟨⟨lo, lc, Q, e, _⟩, _⟩ := h; exact ⟨lo, lc, e⟩
  have hs10 : ∀ y u W, C [y, u] W → ∃ g, u = .slice (some ⟨g, 0, none⟩) 2 2 := fun y u W h => by rw [hC] at h; obtain ⟨lo, lc, Q, W0, _, _, _, _, e, _⟩ := h; exact ⟨_, e⟩
  have HFIN : Hid (∀ lo lc g W, C [.slice lo 1 lc, .slice (some ⟨g, 0, none⟩) 2 2] W → ∃ Q W0, Q.map Prod.fst = [T] ∧ TO W0 w5.heap.size (.slice lo 1 lc) Q ∧ Tch (fun _ => False) w5 W0 ∧ g = W0.heap.size ∧ W = W0.alloc (.cells #[.int .i64 11, .int .i64 5, .int .i64 0, .int .i64 0, .slice none 0 0, .slice none 0 0, .string ⟨#[]⟩, .int .i64 0, .int .i64 T.id, .int .i64 T.ver, .string T.nm, .slice vo T.cols.length vc, .int .i64 T.key, .slice none 0 0, .int .i64 15, .int .i64 6, .int .i64 0, .int .i64 2, .slice none 0 0, .slice none 0 0, .string ⟨#[]⟩, .int .i64 0, .int .i64 0, .int .i64 0, .string ⟨#[]⟩, .slice none 0 0, .int .i64 0, .slice lo 1 lc] 37)) := fun lo lc g W h => by
    rw [hC] at h
    obtain ⟨lo', lc', Q, W0, e, h1, h2, h3, e2, h4⟩ := h
    have e' : lo = lo' ∧ lc = lc' := by simpa using e
    obtain ⟨rfl, rfl⟩ := e'
    exact ⟨Q, W0, h1, h2, h3, by simpa using e2, h4⟩
  clear hC hCT
  go_wp2_with fail
  refine wp_region_ordv [8, 10] C 11 [0, 1, 2, 3, 4, 5, 6, 7, 8, 9, 10] (by kernel_rfl) (by kernel_rfl) h0' ?_
  clear h0'
  refine ordv_read rfl (by go_simp) (by rfl) ?_
  apply Exists.intro
  refine ⟨fun s' W hW b K Q z => ?_, fun K z => ?_⟩
  · obtain ⟨k0, k1, k2, k3, k4⟩ := hK _ W hW
    go_simp
    exact z W hW
  go_simp
  refine z _ ?_
  clear z K
  refine ordv_read rfl (by go_simp) (by rfl) ?_
  apply Exists.intro
  refine ⟨fun s' W hW b K Q z => ?_, fun K z => ?_⟩
  · obtain ⟨k0, k1, k2, k3, k4⟩ := hK _ W hW
    go_simp
    exact z W hW
  go_simp
  refine z _ ?_
  clear z K
  refine ordv_read rfl (by go_simp) (by rfl) ?_
  apply Exists.intro
  refine ⟨fun s' W hW b K Q z => ?_, fun K z => ?_⟩
  · obtain ⟨k0, k1, k2, k3, k4⟩ := hK _ W hW
    go_simp
    exact z W hW
  go_simp
  refine z _ ?_
  clear z K
  refine ordv_read rfl (by go_simp) (by rfl) ?_
  apply Exists.intro
  refine ⟨fun s' W hW b K Q z => ?_, fun K z => ?_⟩
  · obtain ⟨k0, k1, k2, k3, k4⟩ := hK _ W hW
    go_simp
    exact z W hW
  go_simp
  refine z _ ?_
  clear z K
  refine ordv_read rfl (by go_simp) (by rfl) ?_
  apply Exists.intro
  refine ⟨fun s' W hW b K Q z => ?_, fun K z => ?_⟩
  · obtain ⟨k0, k1, k2, k3, k4⟩ := hK _ W hW
    go_simp
    exact z W hW
  go_simp
  refine z _ ?_
  clear z K
  refine ordv_read rfl (by go_simp) (by rfl) ?_
  apply Exists.intro
  refine ⟨fun s' W hW b K Q z => ?_, fun K z => ?_⟩
  · obtain ⟨k0, k1, k2, k3, k4⟩ := hK _ W hW
    go_simp
    exact z W hW
  go_simp
  refine z _ ?_
  clear z K
  refine ordv_read rfl (by go_simp) (by rfl) ?_
  apply Exists.intro
  refine ⟨fun s' W hW b K Q z => ?_, fun K z => ?_⟩
  · obtain ⟨k0, k1, k2, k3, k4⟩ := hK _ W hW
    go_simp
    refine (hNx _ W hW).mono ?_
    rintro x w' ⟨rfl, rfl⟩
    exact z _ hW
  go_simp
  refine z _ ?_
  clear z K
  refine ordv_read rfl (by go_simp) (by rfl) ?_
  apply Exists.intro
  refine ⟨fun s' W hW b K Q z => ?_, fun K z => ?_⟩
  · obtain ⟨k0, k1, k2, k3, k4⟩ := hK _ W hW
    go_simp
    exact z W hW
  go_simp
  refine z _ ?_
  clear z K
  refine ordv_turn rfl (by go_simp) (by rfl) (fun W hW b K Q z => ?_) (fun u hu K z => ?_)
  · go_simp
    refine (hLi W hW).mono ?_
    rintro x w' ⟨lo, lc, rfl, h1⟩
    exact z _ _ h1
  obtain ⟨lo, lc, rfl⟩ : ∃ lo lc, u = .slice lo 1 lc := by
    obtain ⟨W', hW'⟩ := hu
    exact hs8 _ W' hW'
  clear hu
  go_simp
  refine z _ ?_
  clear z K
  refine ordv_read rfl (by go_simp) (by rfl) ?_
  apply Exists.intro
  refine ⟨fun s' W hW b K Q z => ?_, fun K z => ?_⟩
  · obtain ⟨k0, k1, k2, k3, k4⟩ := hK _ W hW
    go_simp
    exact z W hW
  go_simp
  refine z _ ?_
  clear z K
  refine ordv_turn rfl (by go_simp) (by rfl) (fun W hW b K Q z => ?_) (fun u hu K z => ?_)
  · go_simp
    exact z _ _ (hBu lo lc W hW)
  obtain ⟨g, rfl⟩ : ∃ g, u = .slice (some ⟨g, 0, none⟩) 2 2 := by
    obtain ⟨W', hW'⟩ := hu
    exact hs10 _ _ W' hW'
  clear hu
  go_simp
  refine z _ ?_
  clear z K
  refine ordv_nil ?_
  intro w6 hw6
  obtain ⟨Q, W0, hQ, hTO, tW0, hgW, hw6'⟩ := HFIN.out _ _ _ _ hw6
  clear HFIN hs8 hs10 hBu hLi hNx hK hw6
  subst hgW
  have hql : Q.length = 1 := by have := congrArg List.length hQ; simpa using this
  have HQ : Hid (Q.map Prod.fst = [T]) := hQ
  have t56 : Tch (fun _ => False) w5 w6 := by rw [hw6']; exact tW0.allocR _
  have hz6 : w6.heap.size = W0.heap.size + 1 := by rw [hw6']; simp
  have hzW := tW0.size
  have HOL6 : Hid (w6.ownsRow W0.heap.size 37 14 (.slice (some ⟨W0.heap.size, 0, none⟩) 2 2) 2 (rcl [({ rc0 11 with x := 5, tb := T }, { sk0 with co := vo, cc := vc }), ({ rc0 15 with x := 6, t := 2, tbs := [T] }, { sk0 with P := Q, «to» := lo, tc := lc })])) := by
    rw [hw6', show (Value.slice lo 1 lc) = .slice lo Q.length lc by rw [hql]]
    exact own_two ({ rc0 11 with x := 5, tb := T }, { sk0 with co := vo, cc := vc }) ({ rc0 15 with x := 6, t := 2, tbs := [T] }, { sk0 with P := Q, «to» := lo, tc := lc })
  have HTO6 : Hid (TO w6 w5.heap.size (.slice lo Q.length lc) Q) := by rw [hw6', hql]; exact hTO.tch (Tch.alloc (fun _ => False) _ _) (fun _ _ _ h => h)
  have HQB : Hid (∀ g, BL (.slice lo Q.length lc) Q g → w5.heap.size ≤ g ∧ g < W0.heap.size) := fun g hg => by
    rw [hql] at hg
    rcases hg with e | ⟨i, hi, e⟩
    · exact hTO.own.lt g e
    · exact (hTO.col i hi).lt g e
  have HV6 : Hid (w6.ownsRow w2.heap.size 43 3 (.slice vo T.cols.length vc) T.cols.length (ccl T.cols)) := own_tch HV5.out t56 (fun _ _ h => h)
  have HAV6 : Hid (w6.ownsRow w4.heap.size 58 3 (.slice ao al.length ac) al.length (vcl al)) := own_tch HAV.out t56 (fun _ _ h => h)
  have HAB : Hid (∀ g, (Value.slice ao al.length ac).ownBlock = some g → w4.heap.size ≤ g ∧ g < w5.heap.size) := fun g e => HAV.out.lt g e
  have b6 : w6.heap[w3.heap.size]? = some (.cells #[.int .i64 T.id, .int .i64 T.ver, .string T.nm, .slice vo T.cols.length vc, .int .i64 T.key] 29 (0, 0)) := (t56.block _ (blk_lt b5) (fun h => h)).trans b5
  have hca6 := HCA5.out.tch t56 (fun _ _ h => h.elim)
  obtain ⟨hpos, hp0, hpT⟩ := pos_one (T := T) hca6.eq
  have hPl : P.length = 1 := by have := congrArg List.length hca6.eq; simpa using this
  have q7 := widen_any B [T] 1 P pw pc (fun i => (Value.slice vo T.cols.length vc).ownBlock = some i) nm zC 0 hp0 w6 hca6 (by omega) (fun i hi => by
    have h1 : P[i].1 ∈ P.map Prod.fst := List.mem_map_of_mem (List.getElem_mem hi)
    rw [hca6.eq] at h1
    rw [List.mem_singleton.1 h1]; exact hT8) (fun i h => by have := (HVB.out i h).2; omega) (by rw [← HTI.out.2.2.1]; exact hpos) (by rw [hpT hp0, HTI.out.2.1]; omega)
  rw [hpT hp0] at q7
  have q7 : Calls Tryz.prog 12 #[.pointer (some ⟨B, 0, none⟩), .string nm, .agg #[.string ⟨#[122, 95, 122]⟩, .int .i64 3, .bool true]] w6 fun y w' => ChgOut (fun i => (Value.slice vo T.cols.length vc).ownBlock = some i) B (widE T zC) (widT T zC) ([T].set 0 (widT T zC)) 1 w6 y w' := q7
  have T6 : Tch (fun i => i = B) w w6 := T5.trans' (t56.mono (fun _ _ h => h.elim))
  clear hw6' hQ hTO tW0 t56 hca6 hpos hp0 hpT hPl b5 HCA5 HV5 HAV T5
  go_wp2_with fail
  refine q7.mono ?_
  rintro y w7 hO7
  clear q7
  obtain ⟨rfl, t7'⟩ := hO7.2 HW.out
  have t7 : Tch (fun i => i = B) w6 w7 := t7'.mono (fun _ _ h => h.elim)
  clear hO7 t7'
  obtain ⟨E7, hE7⟩ : ∃ E7, E7 = widE T zC := ⟨_, rfl⟩
  have hE7n : E7 ≠ 0 := by rw [hE7]; exact HW.out
  have hE7b : (E7 == 0) = false := int_ne hE7n
  rw [← hE7]
  clear hE7
  have hz7 := t7.size
  have T7 : Tch (fun i => i = B) w w7 := T6.trans' t7
  have HOL7 : Hid (w7.ownsRow W0.heap.size 37 14 (.slice (some ⟨W0.heap.size, 0, none⟩) 2 2) 2 (rcl [({ rc0 11 with x := 5, tb := T }, { sk0 with co := vo, cc := vc }), ({ rc0 15 with x := 6, t := 2, tbs := [T] }, { sk0 with P := Q, «to» := lo, tc := lc })])) := own_tch HOL6.out t7 (fun g e h => by have := row_ge HOL6.out e; omega)
  have HTO7 : Hid (TO w7 w5.heap.size (.slice lo Q.length lc) Q) := HTO6.out.tch t7 (fun i h1 _ h2 => by omega)
  have HV7 : Hid (w7.ownsRow w2.heap.size 43 3 (.slice vo T.cols.length vc) T.cols.length (ccl T.cols)) := own_tch HV6.out t7 (fun g e h => by have := (HVB.out g e).1; omega)
  have HAV7 : Hid (w7.ownsRow w4.heap.size 58 3 (.slice ao al.length ac) al.length (vcl al)) := own_tch HAV6.out t7 (fun g e h => by have := (HAB.out g e).1; omega)
  have b7 : w7.heap[w3.heap.size]? = some (.cells #[.int .i64 T.id, .int .i64 T.ver, .string T.nm, .slice vo T.cols.length vc, .int .i64 T.key] 29 (0, 0)) := (t7.block _ (blk_lt b6) (by omega)).trans b6
  clear b6 t7 T6 HOL6 HTO6 HV6 HAV6
  obtain ⟨i0, hi0, hz0, hz1, hz2'⟩ := info_parts info_rec
  have HI0 : Hid _ := hi0
  have HZ0 : Hid _ := hz0
  have HZ1 : Hid _ := hz1
  have HZ2 : Hid _ := hz2'
  clear hi0 hz0 hz1 hz2'
  obtain ⟨w8, hw8⟩ : ∃ w8, w8 = w7.alloc (.cells #[.int .i64 0, .int .i64 0, .string ⟨#[]⟩, .slice none 0 0, .int .i64 0] 29) := ⟨_, rfl⟩
  have t8 : Tch (fun _ => False) w7 w8 := by rw [hw8]; exact Tch.alloc _ _ _
  have hz8 : w8.heap.size = w7.heap.size + 1 := by rw [hw8]; simp
  have HOLsA : Hid (w8.ownsRow W0.heap.size 37 14 (.slice (some ⟨W0.heap.size, 0, none⟩) 2 2) 2 (rcl [({ rc0 11 with x := 5, tb := T }, { sk0 with co := vo, cc := vc }), ({ rc0 15 with x := 6, t := 2, tbs := [T] }, { sk0 with P := Q, «to» := lo, tc := lc })])) := own_tch HOL7.out t8 (fun _ _ h => h)
  have HTOa : Hid (TO w8 w5.heap.size (.slice lo Q.length lc) Q) := HTO7.out.tch t8 (fun _ _ _ h => h)
  have HVa : Hid (w8.ownsRow w2.heap.size 43 3 (.slice vo T.cols.length vc) T.cols.length (ccl T.cols)) := own_tch HV7.out t8 (fun _ _ h => h)
  have HAVa : Hid (w8.ownsRow w4.heap.size 58 3 (.slice ao al.length ac) al.length (vcl al)) := own_tch HAV7.out t8 (fun _ _ h => h)
  have Ta : Tch (fun i => i = B) w w8 := T7.trans' (t8.mono (fun _ _ h => h.elim))
  have ba : w8.heap[w3.heap.size]? = some (.cells #[.int .i64 T.id, .int .i64 T.ver, .string T.nm, .slice vo T.cols.length vc, .int .i64 T.key] 29 (0, 0)) := (t8.block _ (blk_lt b7) (fun h => h)).trans b7
  clear b7 T7 HOL7 HTO7 HV7 HAV7 t8
  have Tb : Tch (fun i => B ≤ i) w w8 := Ta.mono (fun i _ h => by omega)
  have HOLsB : Hid _ := HOLsA.out
  clear Ta HOLsA
  have d0 : w8.cell? ⟨w3.heap.size, 0, none⟩ = some (.int .i64 T.id) := blk_cell ba 0
  rw [hw8] at d0
  have hf1 : f = 0 := hf0
  subst hf1
  obtain ⟨wnB, hwnB⟩ : ∃ wn, wn = (w7.alloc (.cells #[.int .i64 0, .int .i64 0, .string ⟨#[]⟩, .slice none 0 0, .int .i64 0] 29)).alloc (.cells #[.int .i64 3, .int .i64 5, .int .i64 0, .int .i64 T.id, .slice none 0 0, .slice ao al.length ac, .string ⟨#[]⟩, .int .i64 0, .int .i64 0, .int .i64 0, .string ⟨#[]⟩, .slice none 0 0, .int .i64 0, .slice none 0 0, .int .i64 5, .int .i64 5, .int .i64 0, .int .i64 T.id, .slice ao al.length ac, .slice none 0 0, .string ⟨#[]⟩, .int .i64 0, .int .i64 0, .int .i64 0, .string ⟨#[]⟩, .slice none 0 0, .int .i64 0, .slice none 0 0, .int .i64 4, .int .i64 5, .int .i64 0, .int .i64 T.id, .slice ao al.length ac, .slice ao al.length ac, .string ⟨#[]⟩, .int .i64 0, .int .i64 0, .int .i64 0, .string ⟨#[]⟩, .slice none 0 0, .int .i64 0, .slice none 0 0] 37) := ⟨_, rfl⟩
  have tnB : Tch (fun _ => False) w8 wnB := by rw [hwnB, hw8]; exact Tch.alloc _ _ _
  have HOLB : Hid (wnB.ownsRow W0.heap.size 37 14 (.slice (some ⟨W0.heap.size, 0, none⟩) 2 2) 2 (rcl [({ rc0 11 with x := 5, tb := T }, { sk0 with co := vo, cc := vc }), ({ rc0 15 with x := 6, t := 2, tbs := [T] }, { sk0 with P := Q, «to» := lo, tc := lc })])) := own_tch HOLsB.out tnB (fun _ _ h => h)
  have HNWB : Hid (∀ j u, (rcl [({ rc0 3 with x := 5, t := T.id, n := al }, { sk0 with no := ao, nc := ac }), ({ rc0 5 with x := 5, t := T.id, o := al }, { sk0 with oo := ao, oc := ac }), ({ rc0 4 with x := 5, t := T.id, o := al, n := al }, { sk0 with oo := ao, oc := ac, no := ao, nc := ac })])[j]? = some u → wnB.cell? ((⟨w7.heap.size + 1, 0, none⟩ : Addr).add j) = some u) := by
    have e : (w7.alloc (.cells #[.int .i64 0, .int .i64 0, .string ⟨#[]⟩, .slice none 0 0, .int .i64 0] 29)).heap.size = w7.heap.size + 1 := by rw [World.size_alloc]
    rw [hwnB, ← e]; exact World.news_of_block (alloc_new (w7.alloc (.cells #[.int .i64 0, .int .i64 0, .string ⟨#[]⟩, .slice none 0 0, .int .i64 0] 29)) _)
  have hbsB : W0.heap.size ≤ wnB.heap.size := by have := tnB.size; omega
  have HWNB : Hid (wnB = (w7.alloc (.cells #[.int .i64 0, .int .i64 0, .string ⟨#[]⟩, .slice none 0 0, .int .i64 0] 29)).alloc (.cells #[.int .i64 3, .int .i64 5, .int .i64 0, .int .i64 T.id, .slice none 0 0, .slice ao al.length ac, .string ⟨#[]⟩, .int .i64 0, .int .i64 0, .int .i64 0, .string ⟨#[]⟩, .slice none 0 0, .int .i64 0, .slice none 0 0, .int .i64 5, .int .i64 5, .int .i64 0, .int .i64 T.id, .slice ao al.length ac, .slice none 0 0, .string ⟨#[]⟩, .int .i64 0, .int .i64 0, .int .i64 0, .string ⟨#[]⟩, .slice none 0 0, .int .i64 0, .slice none 0 0, .int .i64 4, .int .i64 5, .int .i64 0, .int .i64 T.id, .slice ao al.length ac, .slice ao al.length ac, .string ⟨#[]⟩, .int .i64 0, .int .i64 0, .int .i64 0, .string ⟨#[]⟩, .slice none 0 0, .int .i64 0, .slice none 0 0] 37)) := hwnB
  clear hwnB
  go_wp2_with (at_builtin; have hwa := HWNB.out; rw [← hwa]; clear hwa; refine wpList_append_keeps _ rfl _ _ 40 rfl W0.heap.size 37 i0 (.agg #[.int .i64 0, .int .i64 0, .int .i64 0, .int .i64 0, .slice none 0 0, .slice none 0 0, .string ⟨#[]⟩, .int .i64 0, .int .i64 0, .int .i64 0, .string ⟨#[]⟩, .slice none 0 0, .int .i64 0, .slice none 0 0]) 14 192 Tryz.underlying40 HI0.out HZ0.out HZ1.out HZ2.out rfl (by decide) (.slice (some ⟨W0.heap.size, 0, none⟩) 2 2) 2 (rcl [({ rc0 11 with x := 5, tb := T }, { sk0 with co := vo, cc := vc }), ({ rc0 15 with x := 6, t := 2, tbs := [T] }, { sk0 with P := Q, «to» := lo, tc := lc })]) rfl HOLB.out ⟨w7.heap.size + 1, 0, none⟩ 3 3 (rcl [({ rc0 3 with x := 5, t := T.id, n := al }, { sk0 with no := ao, nc := ac }), ({ rc0 5 with x := 5, t := T.id, o := al }, { sk0 with oo := ao, oc := ac }), ({ rc0 4 with x := 5, t := T.id, o := al, n := al }, { sk0 with oo := ao, oc := ac, no := ao, nc := ac })]) rfl rfl HNWB.out (rcl_one _) (by unfold maxLen; omega) (by omega) hbsB ?_; intro vB wB hownB hgrB hatB _; refine Hid.out ?_)
  unfold Hid
  obtain ⟨vBo, vBc, hvB⟩ := row_slice hownB
  subst hvB
  have tB' := grown_at (Tch.refl (fun _ => False) wnB) hgrB
  have hznB := tnB.size
  have hzB := tB'.size
  have tC : Tch (fun i => i = W0.heap.size ∨ False) w8 wB := (tnB.mono (fun _ _ h => h.elim)).trans' (tB'.mono (fun i _ h => by
    exact Or.inl (by have h : some W0.heap.size = some i := h; injection h with h; exact h.symm)))
  have HOLsC : Hid (wB.ownsRow W0.heap.size 37 14 (.slice vBo 5 vBc) 5 (rcl [({ rc0 11 with x := 5, tb := T }, { sk0 with co := vo, cc := vc }), ({ rc0 15 with x := 6, t := 2, tbs := [T] }, { sk0 with P := Q, «to» := lo, tc := lc }), ({ rc0 3 with x := 5, t := T.id, n := al }, { sk0 with no := ao, nc := ac }), ({ rc0 5 with x := 5, t := T.id, o := al }, { sk0 with oo := ao, oc := ac }), ({ rc0 4 with x := 5, t := T.id, o := al, n := al }, { sk0 with oo := ao, oc := ac, no := ao, nc := ac })])) := by
    have e : rcl [({ rc0 11 with x := 5, tb := T }, { sk0 with co := vo, cc := vc }), ({ rc0 15 with x := 6, t := 2, tbs := [T] }, { sk0 with P := Q, «to» := lo, tc := lc }), ({ rc0 3 with x := 5, t := T.id, n := al }, { sk0 with no := ao, nc := ac }), ({ rc0 5 with x := 5, t := T.id, o := al }, { sk0 with oo := ao, oc := ac }), ({ rc0 4 with x := 5, t := T.id, o := al, n := al }, { sk0 with oo := ao, oc := ac, no := ao, nc := ac })] = rcl [({ rc0 11 with x := 5, tb := T }, { sk0 with co := vo, cc := vc }), ({ rc0 15 with x := 6, t := 2, tbs := [T] }, { sk0 with P := Q, «to» := lo, tc := lc })] ++ rcl [({ rc0 3 with x := 5, t := T.id, n := al }, { sk0 with no := ao, nc := ac }), ({ rc0 5 with x := 5, t := T.id, o := al }, { sk0 with oo := ao, oc := ac }), ({ rc0 4 with x := 5, t := T.id, o := al, n := al }, { sk0 with oo := ao, oc := ac, no := ao, nc := ac })] := rcl_append [({ rc0 11 with x := 5, tb := T }, { sk0 with co := vo, cc := vc }), ({ rc0 15 with x := 6, t := 2, tbs := [T] }, { sk0 with P := Q, «to» := lo, tc := lc })] [({ rc0 3 with x := 5, t := T.id, n := al }, { sk0 with no := ao, nc := ac }), ({ rc0 5 with x := 5, t := T.id, o := al }, { sk0 with oo := ao, oc := ac }), ({ rc0 4 with x := 5, t := T.id, o := al, n := al }, { sk0 with oo := ao, oc := ac, no := ao, nc := ac })]
    show World.ownsRow _ _ _ _ _ _ _
    rw [e]; exact hownB
  have HTOc : Hid (TO wB w5.heap.size (.slice lo Q.length lc) Q) := ⟨own_tch HTOa.out.own tC (fun g e h => by have := (HQB.out g (Or.inl e)).2; rcases h with h | h <;> first | omega | exact h.elim), fun i hi => own_tch (HTOa.out.col i hi) tC (fun g e h => by have := (HQB.out g (Or.inr ⟨i, hi, e⟩)).2; rcases h with h | h <;> first | omega | exact h.elim), HTOa.out.sep, HTOa.out.dis⟩
  have HVc : Hid (wB.ownsRow w2.heap.size 43 3 (.slice vo T.cols.length vc) T.cols.length (ccl T.cols)) := own_tch HVa.out tC (fun g e h => by have := (HVB.out g e).2; rcases h with h | h <;> first | omega | exact h.elim)
  have HAVc : Hid (wB.ownsRow w4.heap.size 58 3 (.slice ao al.length ac) al.length (vcl al)) := own_tch HAVa.out tC (fun g e h => by have := (HAB.out g e).2; rcases h with h | h <;> first | omega | exact h.elim)
  have Tc : Tch (fun i => B ≤ i) w wB := Tb.trans' (tC.mono (fun i _ h => by rcases h with h | h <;> first | omega | exact h.elim))
  clear HOLsB HTOa HVa HAVa hownB hgrB hatB tB' tnB tC d0
  have HAF : Hid (rtRow al ∧ (∀ v ∈ al, v.i64) ∧ al.length ≤ 8) := by
    show _
    rw [HAL.out.1]
    exact fit_row (Prod.ext rfl HF.out) HVI.out
  have HGO : Hid (∀ p ∈ [({ rc0 11 with x := 5, tb := T }, { sk0 with co := vo, cc := vc }), ({ rc0 15 with x := 6, t := 2, tbs := [T] }, { sk0 with P := Q, «to» := lo, tc := lc }), ({ rc0 3 with x := 5, t := T.id, n := al }, { sk0 with no := ao, nc := ac }), ({ rc0 5 with x := 5, t := T.id, o := al }, { sk0 with oo := ao, oc := ac }), ({ rc0 4 with x := 5, t := T.id, o := al, n := al }, { sk0 with oo := ao, oc := ac, no := ao, nc := ac })], Good p.1) := fun p hp => by
    have hX : rtN 5 := by unfold rtN; omega
    simp only [List.mem_cons, List.not_mem_nil, or_false] at hp
    rcases hp with rfl | rfl | rfl | rfl | rfl
    · exact good_shape 11 5 T (Or.inl rfl) hX HTE.out
    · exact good_check 6 T (by omega) HTE.out HTI.out.1
    · exact (good_rows 5 T.id al hX (by rw [HTI.out.1]; unfold rtN; omega) HAF.out.1 HAF.out.2.1).1
    · exact (good_rows 5 T.id al hX (by rw [HTI.out.1]; unfold rtN; omega) HAF.out.1 HAF.out.2.1).2.1
    · exact (good_rows 5 T.id al hX (by rw [HTI.out.1]; unfold rtN; omega) HAF.out.1 HAF.out.2.1).2.2
  have HWW : Hid (∀ W, Tch (fun _ => False) wB W → Tch (fun _ => False) w W) := fun W t => (Tc.mono (fun i hi h => by omega)).trans' t
  have HLL : Hid (∀ W, Tch (fun _ => False) wB W → SL W vBo (rcl [({ rc0 11 with x := 5, tb := T }, { sk0 with co := vo, cc := vc }), ({ rc0 15 with x := 6, t := 2, tbs := [T] }, { sk0 with P := Q, «to» := lo, tc := lc }), ({ rc0 3 with x := 5, t := T.id, n := al }, { sk0 with no := ao, nc := ac }), ({ rc0 5 with x := 5, t := T.id, o := al }, { sk0 with oo := ao, oc := ac }), ({ rc0 4 with x := 5, t := T.id, o := al, n := al }, { sk0 with oo := ao, oc := ac, no := ao, nc := ac })]) ∧ HE W ∧ ∀ p ∈ [({ rc0 11 with x := 5, tb := T }, { sk0 with co := vo, cc := vc }), ({ rc0 15 with x := 6, t := 2, tbs := [T] }, { sk0 with P := Q, «to» := lo, tc := lc }), ({ rc0 3 with x := 5, t := T.id, n := al }, { sk0 with no := ao, nc := ac }), ({ rc0 5 with x := 5, t := T.id, o := al }, { sk0 with oo := ao, oc := ac }), ({ rc0 4 with x := 5, t := T.id, o := al, n := al }, { sk0 with oo := ao, oc := ac, no := ao, nc := ac })], RW W (fun _ => False) p.1 p.2) := fun W t => by
    refine ⟨own_sl (own_tch HOLsC.out t (fun _ _ h => h)), (HRR.out W (HWW.out W t)).2, fun p hp => ?_⟩
    simp only [List.mem_cons, List.not_mem_nil, or_false] at hp
    rcases hp with rfl | rfl | rfl | rfl | rfl
    · exact rw_shape (own_tch HVc.out t (fun _ _ h => h)) hT8
    · exact rw_check (HTOc.out.tch t (fun _ _ _ h => h)) HQ.out hT8
    · exact (rw_rows (own_tch HAVc.out t (fun _ _ h => h)) HAF.out.2.2 HAF.out.2.1).1
    · exact (rw_rows (own_tch HAVc.out t (fun _ _ h => h)) HAF.out.2.2 HAF.out.2.1).2.1
    · exact (rw_rows (own_tch HAVc.out t (fun _ _ h => h)) HAF.out.2.2 HAF.out.2.1).2.2
  have HEN : Hid (∀ W, Tch (fun _ => False) wB W → Calls Tryz.prog 16 #[.slice ao al.length ac] W fun x w' => x = .returned (.tuple #[.string ⟨(encR al).1.toArray⟩, .int .i64 (encR al).2]) ∧ Tch (fun _ => False) W w') := fun W t => encode_row al ao ac W (HRR.out W (HWW.out W t)).2 (own_sl (own_tch HAVc.out t (fun _ _ h => h))) HAF.out.2.1 (by have := HAF.out.2.2; omega)
  have HRS : Hid ((encR al).2 = 0 ∧ (⟨(encR al).1.toArray⟩ : ByteArray).size ≤ 2000) := by
    refine ⟨HAF.out.1.2, ?_⟩
    have h1 := encR_len al
    show (encR al).1.toArray.size ≤ 2000
    simp only [List.size_toArray]; omega
  go_wp2_with fail
  refine loopR wB 5 vBc vBo [({ rc0 11 with x := 5, tb := T }, { sk0 with co := vo, cc := vc }), ({ rc0 15 with x := 6, t := 2, tbs := [T] }, { sk0 with P := Q, «to» := lo, tc := lc }), ({ rc0 3 with x := 5, t := T.id, n := al }, { sk0 with no := ao, nc := ac }), ({ rc0 5 with x := 5, t := T.id, o := al }, { sk0 with oo := ao, oc := ac }), ({ rc0 4 with x := 5, t := T.id, o := al, n := al }, { sk0 with oo := ao, oc := ac, no := ao, nc := ac })] (fun _ => False) (rfl : 5 = ([({ rc0 11 with x := 5, tb := T }, { sk0 with co := vo, cc := vc }), ({ rc0 15 with x := 6, t := 2, tbs := [T] }, { sk0 with P := Q, «to» := lo, tc := lc }), ({ rc0 3 with x := 5, t := T.id, n := al }, { sk0 with no := ao, nc := ac }), ({ rc0 5 with x := 5, t := T.id, o := al }, { sk0 with oo := ao, oc := ac }), ({ rc0 4 with x := 5, t := T.id, o := al, n := al }, { sk0 with oo := ao, oc := ac, no := ao, nc := ac })] : List (Rc × Sk)).length) (by omega) HLL HGO _ _ _ _ _ _ _ _ _ _ _ _ _ _ _ _ _ _ _ _ _ _ _ _ _ _ _ _ _ _ _ _ _ _ _ _ _ _ _ _ _ _ _ _ _ _ _ _ _ _ _ _ _ _ _ _ _ _ _ _ _ _ _ _ _ _ _ _ _ _ _ _ _ _ _ _ _ _ _ _ _ _ _ _ _ _ _ _ _ _ _ _ _ _ _ _ _ _ _ _ _ _ _ _ _ _ _ _ _ _ _ _ _ _ _ _ _ _ _ _ _ _ _ _ _ _ _ _ _ _ _ _ _ _ _ _ _ _ _ _ _ _ _ _ _ _ _ _ _ _ _ _ _ _ ?_
  intro _ _ _ _ _ _ _ _ _ _ _ _ _ _ _ _ _ _ _ _ _ _ _ _ _ _ _ _ _ _ _ _ _ _ _ _ _ _ _ _ _ _ wx HTx
  have q8 := HEN.out wx HTx.out
  have HTw : Hid (Tch (fun _ => False) w wx) := HWW.out wx HTx.out
  obtain ⟨en, hen⟩ : ∃ en, en = (encR al).2 := ⟨_, rfl⟩
  obtain ⟨eb, heb⟩ : ∃ eb : ByteArray, eb = ⟨(encR al).1.toArray⟩ := ⟨_, rfl⟩
  have hs2 := HRS.out.2
  have hen0 : en = 0 := by rw [hen]; exact HRS.out.1
  rw [← heb] at q8 hs2
  rw [← hen, hen0] at q8
  have hs3 : ((eb.size : Nat) : Int) ≤ 2000 := by omega
  have hs4 : decide (((eb.size : Nat) : Int) ≤ 2000) = true := decide_eq_true hs3
  clear hen heb hen0 HEN HRS HLL HGO
  go_wp2_with fail
  refine q8.mono ?_
  rintro y w9' ⟨rfl, t9⟩
  go_wp2_with fail
  go_ret
  exact ⟨rfl, HTw.out.trans' t9⟩
end Go.Proofs.YtmfbhhloabkecaaGreatDoor.C
