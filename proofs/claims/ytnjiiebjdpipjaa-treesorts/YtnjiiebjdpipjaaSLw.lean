import Derived.Test.YtnjiiebjdpipjaaSL1
import Derived.Test.YtnjiiebjdpipjaaSL2
import Derived.Test.YtnjiiebjdpipjaaSL3
/- TreeSorts: the law. -/
namespace Go.Proofs.Ytnjiiebjdpipjaa.S
open Go.RowKit Go Go.Shelf

/-- A function is not nil. -/
theorem feq (fn : Nat) (caps : Array Value) (W : World) : Sem.run Try.prog (binOp .eql 41 (.func (.func fn) #[] caps) .nilFunc) W = .ok (.bool false) W := by
  have e : ∀ d, Sem.run Try.prog (Op.equalIn (d + 1) 41 (.func (.func fn) #[] caps) .nilFunc) W = .ok false W := fun d => by
    unfold Op.equalIn
    simp [go_sem]
  unfold binOp Op.equal
  have e2 := e (Op.maxDepth - 1)
  simp [go_sem]
  show ((Sem.run Try.prog (Op.equalIn (Op.maxDepth - 1 + 1) 41 _ _) W).andThen _) = _
  rw [e2]
  rfl
theorem rs_sorts : Try.f4.results = #[.cell 4 4] := by kernel_rfl
theorem res_cell {fn : Func} {p : Tmp} (h : fn.results = #[.cell p 4]) {tmps : Array Value} {g : Nat} (hp : tmps[p]?.getD undef = .pointer (some ⟨g, 0, none⟩)) {W : World} {x : Bool} (hc : W.cell? ⟨g, 0, none⟩ = some (.bool x)) : (results fn tmps).run Try.prog W = .ok (.bool x) W := by
  unfold results
  rw [h]
  simp [go_sem, hp, hc]
set_option maxHeartbeats 8000000 in
set_option maxRecDepth 100000 in
theorem sorts_law (kl gl : List ByteArray) (ko go : Option Addr) (kcp gcp : Nat) (w : World) (hk : SR w ko kl) (hg : SR w go gl) (hkl : kl.length ≤ 9223372036854775807) (hgl : gl.length ≤ 9223372036854775807) (hks : ∀ x ∈ kl, x.size < 1000000000000000000) :
    Calls Try.prog 4 #[.slice ko kl.length kcp, .slice go gl.length gcp] w fun x w' => x = .returned (.bool true) ∧ Tch (fun _ => False) w w' := by
  obtain ⟨kb, hkb⟩ : ∃ kb, kb = w.heap.size := ⟨_, rfl⟩
  obtain ⟨w0, hw0⟩ : ∃ w0, w0 = (w.alloc (.cells #[.slice ko kl.length kcp] 35)).alloc (.cells #[.bool false] 4) := ⟨_, rfl⟩
  have t0 : Tch (fun _ => False) w w0 := by rw [hw0]; exact (Tch.alloc _ _ _).allocR _
  have hb0 : w0.heap[kb]? = some (.cells #[.slice ko kl.length kcp] 35 (0, 0)) := by
    rw [hw0, hkb, Below.heap_alloc _ _ _ (by simp)]; exact alloc_new _ _
  have hr0 : w0.heap[kb + 1]? = some (.cells #[.bool false] 4 (0, 0)) := by
    have := alloc_new (w.alloc (.cells #[.slice ko kl.length kcp] 35)) (.cells #[.bool false] 4)
    rw [World.size_alloc] at this
    rw [hw0, hkb]; exact this
  have HK : Hid (SR w0 ko kl ∧ w0.heap[kb]? = some (.cells #[.slice ko kl.length kcp] 35 (0, 0))) := ⟨hk.no t0, hb0⟩
  have HG : Hid (SR w0 go gl) := hg.no t0
  have HR : Hid (w0.heap[kb + 1]? = some (.cells #[.bool false] 4 (0, 0))) := hr0
  have HT0 : Hid (Tch (fun _ => False) w w0 ∧ w.heap.size ≤ kb ∧ kb + 2 ≤ w0.heap.size) := ⟨t0, by omega, by rw [hw0, hkb]; simp⟩
  have Hkl : Hid (kl.length ≤ 9223372036854775807) := hkl
  have Hgl : Hid (gl.length ≤ 9223372036854775807) := hgl
  have Hks : Hid (∀ x ∈ kl, x.size < 1000000000000000000) := hks
  have q := known_any w0
  have Hw0 : Hid (w0 = (w.alloc (.cells #[.slice ko kl.length kcp] 35)).alloc (.cells #[.bool false] 4)) := hw0
  have Hkb : Hid (kb = w.heap.size) := hkb
  clear hk hg hkl hgl hks t0 hb0 hr0 hw0 hkb
  refine (callsIn_wide (n := 9)).1 ?_
  refine callsIn_of_wp_marks Try.func4 rfl trivial ?_ rfl
  simp only [Try.ntmps4, List.size_toArray, List.length_cons, List.length_nil, Nat.reduceAdd, Nat.reduceSub, Array.replicate_succ, Array.replicate_zero, List.push_toArray, List.append_toArray, List.nil_append, List.cons_append]
  refine wpIn_wide.2 ?_
  go_wp2_with fail
  have hw := Hw0.out
  rw [← hw, ← Hkb.out]
  clear hw Hw0 Hkb
  refine q.mono ?_
  clear q
  rintro x w1 ⟨rfl, t1⟩
  have HK1 : Hid (SR w1 ko kl ∧ w1.heap[kb]? = some (.cells #[.slice ko kl.length kcp] 35 (0, 0))) := ⟨HK.out.1.no t1, (t1.block _ (blk_lt HK.out.2) (fun h => h)).trans HK.out.2⟩
  have HG1 : Hid (SR w1 go gl) := HG.out.no t1
  have HR1 : Hid (w1.heap[kb + 1]? = some (.cells #[.bool false] 4 (0, 0))) := (t1.block _ (blk_lt HR.out) (fun h => h)).trans HR.out
  have HT1 : Hid (Tch (fun _ => False) w w1 ∧ w.heap.size ≤ kb ∧ kb + 2 ≤ w1.heap.size) := ⟨HT0.out.1.trans' t1, HT0.out.2.1, Nat.le_trans HT0.out.2.2 t1.size⟩
  have y0 : w1.cell? ⟨kb, 0, none⟩ = some (.slice ko kl.length kcp) := by rw [blk_cell HK1.out.2]; rfl
  have q := filled_any kl ko kcp w1 HK1.out.1 Hkl.out
  clear HK HG HR HT0 t1 w0
  go_wp2_with fail
  refine q.mono ?_
  clear q y0
  rintro x w2 ⟨b, rfl, hF⟩
  have HF : Hid (FS w1 w2 b (Ky kl 2000) 2000) := hF
  clear hF
  go_wp2_with fail
  refine loop1 w1 w2 b gl go gcp (Ky kl 2000) Hgl.out HG1 HF ⟨rfl, rfl, rfl, rfl, rfl, rfl, rfl, rfl, rfl, rfl⟩ _ ?_
  clear HF
  intro T i7' w3 hf hF
  obtain ⟨l, ht, ⟨F, hTW, hFw, tc⟩, hFE, hlen⟩ := hF
  obtain ⟨ub, hub⟩ : ∃ ub, ub = w3.heap.size := ⟨_, rfl⟩
  obtain ⟨w4, hw4⟩ : ∃ w4, w4 = w3.alloc (.cells #[.slice none 0 0] 35) := ⟨_, rfl⟩
  have t4 : Tch (fun _ => False) w3 w4 := by rw [hw4]; exact Tch.alloc _ _ _
  have h4 : w4.heap[ub]? = some (.cells #[.slice none 0 0] 35 (0, 0)) := by rw [hw4, hub]; exact alloc_new _ _
  have h4s : w4.heap.size = ub + 1 := by rw [hw4, hub]; simp
  have q := range_any b ⟨#[]⟩ ⟨#[]⟩ w4
  rw [h4s] at q
  obtain ⟨w5, hw5⟩ : ∃ w5, w5 = (w4.alloc (.cells #[pv b] 36)).alloc (.cells #[.string ⟨#[]⟩, .string ⟨#[]⟩, .bool false] 90) := ⟨_, rfl⟩
  have t5 : Tch (fun _ => False) w3 w5 := by rw [hw5]; exact (t4.allocR _).allocR _
  have HTW : Hid (TW w5 b l ht F) := hTW.tch t5 (fun _ _ h => h)
  have Htc : Hid (Tch (fun _ => False) w1 w5) := tc.trans' t5
  have Hub : Hid (w5.heap[ub]? = some (.cells #[.slice none 0 0] 35 (0, 0)) ∧ w1.heap.size ≤ ub ∧ ub ∉ F) := by
    refine ⟨?_, by have := tc.size; omega, fun h => by have := hTW.lt ub h; omega⟩
    rw [hw5, Below.heap_alloc _ _ _ (by simp; omega), Below.heap_alloc _ _ _ (by omega)]
    exact h4
  have Hbt : Hid (w5.heap[ub + 1]? = some (.cells #[pv b] 36 (0, 0)) ∧ ub + 1 ≠ ub) := by
    refine ⟨?_, by omega⟩
    rw [hw5, Below.heap_alloc _ _ _ (by simp; omega), ← h4s]
    exact alloc_new _ _
  have Hbs : Hid (w5.heap[ub + 1 + 1]? = some (.cells #[.string ⟨#[]⟩, .string ⟨#[]⟩, .bool false] 90 (0, 0)) ∧ ub + 1 + 1 ≠ ub) := by
    refine ⟨?_, by omega⟩
    have := alloc_new (w4.alloc (.cells #[pv b] 36)) (.cells #[.string ⟨#[]⟩, .string ⟨#[]⟩, .bool false] 90)
    rw [World.size_alloc, h4s] at this
    rw [hw5]; exact this
  have HK1_2 : Hid (w1.heap[kb]? = some (.cells #[.slice ko kl.length kcp] 35 (0, 0))) := HK1.out.2
  have HFw : Hid (∀ x ∈ F, w1.heap.size ≤ x) := hFw
  have HFE : Hid (FE l (fun x => Ky kl 2000 x ∧ ¬ Ky gl 2000 x)) := hFE
  have hmem : ∀ e ∈ l, e.1 ∈ kl := fun e he => by
    have := ((hFE e).1 he).1.1
    unfold Ky at this
    exact List.mem_of_mem_take this
  have Hlk : Hid (l.length ≤ kl.length ∧ l.length ≤ 2000 ∧ ∀ e ∈ l, e.2 = e.1) := ⟨hFE.len hTW.so (fun x hx => by have := hx.1; unfold Ky at this; exact List.mem_of_mem_take this), hlen, fun e he => ((hFE e).1 he).2⟩
  have Hlk2 : Hid (l.length ≤ 2000 ∧ ∀ e ∈ l, e.2 = e.1 ∧ e.1.size < 1000000000000000000) := ⟨hlen, fun e he => ⟨((hFE e).1 he).2, Hks.out _ (hmem e he)⟩⟩
  have HT5 : Hid (Tch (fun _ => False) w w5) := HT1.out.1.trans' Htc.out
  have Hw4 : Hid (w4 = w3.alloc (.cells #[.slice none 0 0] 35)) := hw4
  have Hw5 : Hid (w5 = (w4.alloc (.cells #[pv b] 36)).alloc (.cells #[.string ⟨#[]⟩, .string ⟨#[]⟩, .bool false] 90)) := hw5
  have Hu : Hid (ub = w3.heap.size) := hub
  refine hf.use (P := fun T => Exit.inBlock 0 _ (.exit 0) { tmps := T, defers := [] } w3) ?_
  clear hf T hTW hFw tc hFE hlen hub hw4 t4 h4 h4s hw5 t5 hmem
  intro u
  go_wp2_with fail
  rw [← Hw4.out, ← Hu.out]
  refine q.mono ?_
  clear q
  rintro x w' ⟨rfl, hw'⟩
  rw [← Hw5.out] at hw'
  subst hw'
  clear Hw4 Hw5 Hu
  have hfe := feq 66 #[pv (ub + 1), pv (ub + 1 + 1)]
  go_wp2_with fail
  clear hfe
  refine (wpIn_wide (n := 9)).1 ?_
  refine rng_any 9 w1 w' b l ht F ub (ub + 1) (ub + 1 + 1) kb kl.length ko kcp HTW Htc Hub Hbt Hbs HK1_2 Hlk ⟨rfl, rfl, rfl, rfl, rfl, rfl, rfl, rfl, rfl, rfl⟩ _ ?_
  intro D Z w6 hUP hD hzD hdm
  have HZ : Hid (UZ w1 b l ht F ub D w6) := hUP.done hdm
  have hD' : D < w6.heap.size := blk_lt hdm
  have HD : Hid (w'.heap.size ≤ D) := hD
  clear hUP hD hzD hdm hD'
  obtain ⟨ao, ac, hux⟩ : ∃ ao ac, w6.heap[ub]? = some (.cells #[.slice ao l.length ac] 35 (0, 0)) := by
    obtain ⟨ao, ac, h1, _⟩ := HZ.out.ux
    exact ⟨ao, ac, h1⟩
  have y0 : w6.cell? ⟨ub, 0, none⟩ = some (.slice ao l.length ac) := by rw [blk_cell hux]; rfl
  have HL : Hid (∀ m, Calls Try.prog 20 #[pv b] (w6.drewN m) fun x w' => x = .returned (.int .i64 l.length) ∧ w' = w6.drewN m) := fun m => len_t _ b l ht F (HZ.out.tw.tch ((Tch.refl _ _).drewN m) (fun _ _ h => h))
  clear hux
  go_wp2_with fail
  go_quiet ((go_at_call 20; exact Calls.quiet_of_same (HL.out _)))
  go_wp2_with fail
  have HZ7 : Hid (UZ w1 b l ht F ub D (w6.drewN nq)) := HZ.out.no ((Tch.refl _ _).drewN _)
  clear HL y0 HZ
  refine loop2 w1 (w6.drewN nq) b l ht F ub D HZ7 Hlk2 (g := .slice go gl.length gcp) (kp := pv kb) (r := pv (kb + 1)) (i7 := i7') (i20 := undef) (c := .func (.func 66) #[] #[pv (ub + 1), pv (ub + 1 + 1)]) ⟨rfl, rfl, rfl, rfl, rfl, rfl, rfl, rfl, rfl, rfl⟩ _ ?_
  clear HZ7
  intro T2 i16' w8 hf2 hz8
  have HZ8 : Hid (UZ w1 b l ht F ub D w8) := hz8
  clear hz8
  refine hf2.use (P := fun T => Exit.inBlock 4 _ (.exit 4) { tmps := T, defers := [mkD D] } w8) ?_
  clear hf2 T2 u
  intro u
  go_wp2_with fail
  refine loop3 w1 w8 b l ht F ub D kb kl gl ko go kcp gcp HZ8 HFE HK1 HG1 Hkl.out Hgl.out (r := pv (kb + 1)) (i7 := i7') (i16 := i16') (c := .func (.func 66) #[] #[pv (ub + 1), pv (ub + 1 + 1)]) ⟨rfl, rfl, rfl, rfl, rfl, rfl, rfl, rfl, rfl, rfl⟩ _ ?_
  clear HZ8
  intro T3 i20' w9 hf3 hz9
  have HZ9 : Hid (UZ w1 b l ht F ub D w9) := hz9
  clear hz9
  obtain ⟨ao9, ac9, hux⟩ : ∃ ao ac, w9.heap[ub]? = some (.cells #[.slice ao l.length ac] 35 (0, 0)) := by
    obtain ⟨ao, ac, h1, _⟩ := HZ9.out.ux
    exact ⟨ao, ac, h1⟩
  have y0 : w9.cell? ⟨ub, 0, none⟩ = some (.slice ao9 l.length ac9) := by rw [blk_cell hux]; rfl
  have hl2 : l.length ≤ 2000 := Hlk2.out.1
  have hto : ∀ m, TO w1 (w9.drewN m) b l ht := fun m => ⟨F, HZ9.out.tw.tch ((Tch.refl _ _).drewN m) (fun _ _ h => h), HFw.out, HZ9.out.tc.trans' ((Tch.refl _ _).drewN m)⟩
  have HH : Hid (∀ m, Calls Try.prog 23 #[pv b] (w9.drewN m) fun x w' => x = .returned (.int .i64 ht) ∧ w' = w9.drewN m) := fun m => height_o (hto m) (by omega)
  have HFl : Hid (∀ m, Calls Try.prog 11 #[.int .i64 l.length, .int .i64 ht] (w9.drewN m) fun x w' => x = .returned (.bool true) ∧ w' = w9.drewN m) := fun m => floors_any l.length ht _ ((hto 0).low (by omega)) (by omega) (hto 0).floors
  have HRr : Hid (∀ m, (w9.drewN m).heap[kb + 1]? = some (.cells #[.bool false] 4 (0, 0))) := fun m => ((HZ9.out.tc.trans' ((Tch.refl _ _).drewN m)).block _ (blk_lt HR1.out) (fun h => h)).trans HR1.out
  refine hf3.use (P := fun T => Exit.inBlock 6 _ (.exit 6) { tmps := T, defers := [mkD D] } w9) ?_
  clear hf3 T3 u hux hl2 hto
  intro u
  go_wp2_with fail
  go_quiet ((first | (go_at_call 23; exact Calls.quiet_of_same (HH.out _)) | (go_at_call 11; exact Calls.quiet_of_same (HFl.out _))))
  have z0 : (w9.drewN nq).cell? ⟨kb + 1, 0, none⟩ = some (.bool false) := by rw [blk_cell (HRr.out nq)]; rfl
  have z1 : (w9.drewN nq).frozen? ⟨kb + 1, 0, none⟩ = false := blk_frozen (HRr.out nq) 0
  have HDD : Hid (((w9.drewN nq).setCell ⟨kb + 1, 0, none⟩ (.bool true)).heap[D]? = some (.deferred (some []))) := by
    show _ = _
    rw [Below.heap_setCell _ _ _ _ (by have := HD.out; have := Htc.out.size; have := HT1.out.2.2; show D ≠ kb + 1; omega)]
    exact (HZ9.out.no ((Tch.refl _ _).drewN nq)).dm
  have HC4 : Hid (((w9.drewN nq).setCell ⟨kb + 1, 0, none⟩ (.bool true)).cell? ⟨kb + 1, 0, none⟩ = some (.bool true)) := World.cell?_setCell_same' _ _ _ (by rw [z0]; rfl)
  have HTf : Hid (Tch (fun _ => False) w ((w9.drewN nq).setCell ⟨kb + 1, 0, none⟩ (.bool true))) := by
    refine Tch.trans (T := fun i => i = kb + 1) (HT1.out.1.trans' (HZ9.out.tc.trans' ((Tch.refl _ _).drewN nq))) (Tch.setCell _ _ _ _ rfl) (fun i hi e => by have := HT1.out.2.1; omega)
  have HDk : Hid (D ≠ kb + 1 ∧ w.heap.size ≤ D) := ⟨by have := HD.out; have := Htc.out.size; have := HT1.out.2.2; omega, by have := HD.out; have := HT5.out.size; omega⟩
  go_wp2_with fail
  refine leaves_marks [D] _ (fun d hd => by rw [List.mem_singleton.1 hd]; exact HDD.out) (by simp) (fun W' tt => ?_)
  refine ⟨.bool true, res_cell rs_sorts rfl ((tt.cell (p := ⟨kb + 1, 0, none⟩) (cell_lt HC4.out) (fun hm => HDk.out.1 (List.mem_singleton.1 hm).symm)).trans HC4.out), rfl, HTf.out.trans tt (fun i hi hm => ?_)⟩
  have e : i = D := List.mem_singleton.1 hm
  have := HDk.out.2
  omega
end Go.Proofs.Ytnjiiebjdpipjaa.S
