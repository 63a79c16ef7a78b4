import Derived.Test.YtjiblajnfnmjnaaGreatDoorKT
import Derived.Test.YtjiblajnfnmjnaaGreatDoorKW6
import Derived.Test.YtjiblajnfnmjnaaGreatDoorDRs4
import Derived.Test.YtjiblajnfnmjnaaGreatDoorDRr
set_option maxHeartbeats 8000000
set_option maxRecDepth 100000
namespace Go.Proofs.YtjiblajnfnmjnaaGreatDoor.C
open Go.RowKit Go Go.Sort
theorem wordsO_7 (r : Rc) (s : Sk) (F : Nat → Prop) (w : World) (hv : HP w) (_hwd : HWd w) (_h : RW w F r s) (h1 : 0 ≤ r.x ∧ r.x ≤ 2147483648) : Calls Tryz.prog 49 #[bV 7 r s] w fun x w' => WO (wds 7 r) w x w' := by
  have a1 : ∀ v W, (Instr.typeAssert (.iface 139 v) 71 128 true).run Tryz.prog W = .ok (.tuple #[.agg #[.int .i64 0], .bool false]) W := fun v W => by kernel_rfl
  have a2 : ∀ v W, (Instr.typeAssert (.iface 139 v) 71 130 true).run Tryz.prog W = .ok (.tuple #[.agg #[.int .i64 0, .int .i64 0], .bool false]) W := fun v W => by kernel_rfl
  have a3 : ∀ v W, (Instr.typeAssert (.iface 139 v) 71 132 true).run Tryz.prog W = .ok (.tuple #[.agg #[.int .i64 0, .int .i64 0, .slice none 0 0], .bool false]) W := fun v W => by kernel_rfl
  have a4 : ∀ v W, (Instr.typeAssert (.iface 139 v) 71 134 true).run Tryz.prog W = .ok (.tuple #[.agg #[.int .i64 0, .int .i64 0, .slice none 0 0, .slice none 0 0], .bool false]) W := fun v W => by kernel_rfl
  have a5 : ∀ v W, (Instr.typeAssert (.iface 139 v) 71 135 true).run Tryz.prog W = .ok (.tuple #[.agg #[.int .i64 0, .int .i64 0, .slice none 0 0], .bool false]) W := fun v W => by kernel_rfl
  have a6 : ∀ v W, (Instr.typeAssert (.iface 139 v) 71 137 true).run Tryz.prog W = .ok (.tuple #[.agg #[.int .i64 0, .string ⟨#[]⟩, .int .i64 0], .bool false]) W := fun v W => by kernel_rfl
  have a7 : ∀ v W, (Instr.typeAssert (.iface 139 v) 71 139 true).run Tryz.prog W = .ok (.tuple #[v, .bool true]) W := fun v W => by kernel_rfl
  obtain ⟨w0, hw0⟩ : ∃ w0, w0 = w.alloc (.cells #[.int .i64 r.x, .string r.nm] 139) := ⟨_, rfl⟩
  have t0 : Tch (fun _ => False) w w0 := by rw [hw0]; exact Tch.alloc _ _ _
  have b0 : w0.heap[w.heap.size]? = some (.cells #[.int .i64 r.x, .string r.nm] 139 (0, 0)) := by rw [hw0]; exact heap_new w _
  obtain ⟨V1, hV1⟩ : ∃ V, V = itoB r.x := ⟨_, rfl⟩
  have c1 : ∀ d os, Calls Tryz.prog 88 #[.int .i64 r.x] (grow (redrawn w0 d) os) fun e w'' => e = .returned (.string V1) ∧ ∃ p : Regrown, w'' = grow (redrawn w0 p.d) p.os := by rw [hV1]; exact regrown_calls (fun W t => digits6 r.x (by omega) W (hv.no (t0.trans' t)))
  have y0 : w0.cell? ⟨w.heap.size, 0, none⟩ = some (.int .i64 r.x) := blk_cell b0 0
  have y1 : w0.cell? ⟨w.heap.size, 1, none⟩ = some (.string r.nm) := blk_cell b0 1
  have k0 := cell_regrown y0
  have k1 := cell_regrown y1
  have HT0 : Hid (Tch (fun _ => False) w w0) := t0
  have HW0 : Hid (w0 = w.alloc (.cells #[.int .i64 r.x, .string r.nm] 139)) := hw0
  unfold wds
  rw [← hV1]
  clear hw0 t0 b0 hv _hwd _h h1 hV1
  unfold bV
  go_enter Tryz.func49, Tryz.ntmps49
  go_wp2_with fail
  rw [← HW0.out]
  refine wp_region_below_tail 5 (by kernel_rfl) (by kernel_rfl) ?_
  simp only [List.take_succ_cons, List.take_zero, List.drop_succ_cons, List.drop_zero]
  quiet_step (fail)
  quiet_step (fail)
  quiet_step ((go_at_call 88; exact c1 _ _))
  quiet_step (fail)
  quiet_step (fail)
  refine wpQuiet_nil ?_
  rintro w1 ⟨p, rfl⟩
  have HE : Hid (Tch (fun _ => False) w (grow (redrawn w0 p.d) p.os)) := HT0.out.trans' (Tch.regrown w0 p.d p.os)
  obtain ⟨W1, hW1⟩ : ∃ W1, W1 = grow (redrawn w0 p.d) p.os := ⟨_, rfl⟩
  rw [← hW1] at HE ⊢
  clear hW1 k0 k1 c1 y0 y1
  go_wp2_with fail
  go_ret
  refine ⟨⟨W1.heap.size, 3, rfl, Nat.le_refl _, fun j y hy => ?_⟩, HE.out.allocR _⟩
  have hb := heap_new W1 (.cells #[.string V1, .string ⟨#[97, 115]⟩, .string r.nm] 9)
  rw [Nat.zero_add, blk_cell hb]
  match j, hy with
  | 0, hy => injection hy with hy; subst hy; rfl
  | 1, hy => injection hy with hy; subst hy; rfl
  | 2, hy => injection hy with hy; subst hy; rfl
  | (j + 3), hy => simp at hy
theorem wordsO_8 (r : Rc) (s : Sk) (F : Nat → Prop) (w : World) (hv : HP w) (_hwd : HWd w) (h : RW w F r s) (h1 : 0 ≤ r.x ∧ r.x ≤ 2147483648) (h2 : RT r.tb) : Calls Tryz.prog 49 #[bV 8 r s] w fun x w' => WO (wds 8 r) w x w' := by
  have a1 : ∀ v W, (Instr.typeAssert (.iface 141 v) 71 128 true).run Tryz.prog W = .ok (.tuple #[.agg #[.int .i64 0], .bool false]) W := fun v W => by kernel_rfl
  have a2 : ∀ v W, (Instr.typeAssert (.iface 141 v) 71 130 true).run Tryz.prog W = .ok (.tuple #[.agg #[.int .i64 0, .int .i64 0], .bool false]) W := fun v W => by kernel_rfl
  have a3 : ∀ v W, (Instr.typeAssert (.iface 141 v) 71 132 true).run Tryz.prog W = .ok (.tuple #[.agg #[.int .i64 0, .int .i64 0, .slice none 0 0], .bool false]) W := fun v W => by kernel_rfl
  have a4 : ∀ v W, (Instr.typeAssert (.iface 141 v) 71 134 true).run Tryz.prog W = .ok (.tuple #[.agg #[.int .i64 0, .int .i64 0, .slice none 0 0, .slice none 0 0], .bool false]) W := fun v W => by kernel_rfl
  have a5 : ∀ v W, (Instr.typeAssert (.iface 141 v) 71 135 true).run Tryz.prog W = .ok (.tuple #[.agg #[.int .i64 0, .int .i64 0, .slice none 0 0], .bool false]) W := fun v W => by kernel_rfl
  have a6 : ∀ v W, (Instr.typeAssert (.iface 141 v) 71 137 true).run Tryz.prog W = .ok (.tuple #[.agg #[.int .i64 0, .string ⟨#[]⟩, .int .i64 0], .bool false]) W := fun v W => by kernel_rfl
  have a7 : ∀ v W, (Instr.typeAssert (.iface 141 v) 71 139 true).run Tryz.prog W = .ok (.tuple #[.agg #[.int .i64 0, .string ⟨#[]⟩], .bool false]) W := fun v W => by kernel_rfl
  have a8 : ∀ v W, (Instr.typeAssert (.iface 141 v) 71 141 true).run Tryz.prog W = .ok (.tuple #[v, .bool true]) W := fun v W => by kernel_rfl
  obtain ⟨w0, hw0⟩ : ∃ w0, w0 = w.alloc (.cells #[.int .i64 r.x, .int .i64 r.tb.id, .int .i64 r.tb.ver, .string r.tb.nm, .slice s.co r.tb.cols.length s.cc, .int .i64 r.tb.key] 141) := ⟨_, rfl⟩
  have t0 : Tch (fun _ => False) w w0 := by rw [hw0]; exact Tch.alloc _ _ _
  have b0 : w0.heap[w.heap.size]? = some (.cells #[.int .i64 r.x, .int .i64 r.tb.id, .int .i64 r.tb.ver, .string r.tb.nm, .slice s.co r.tb.cols.length s.cc, .int .i64 r.tb.key] 141 (0, 0)) := by rw [hw0]; exact heap_new w _
  obtain ⟨V1, hV1⟩ : ∃ V, V = itoB r.x := ⟨_, rfl⟩
  obtain ⟨V2, hV2⟩ : ∃ V, V = tabB r.tb := ⟨_, rfl⟩
  have c1 : ∀ d os, Calls Tryz.prog 88 #[.int .i64 r.x] (grow (redrawn w0 d) os) fun e w'' => e = .returned (.string V1) ∧ ∃ p : Regrown, w'' = grow (redrawn w0 p.d) p.os := by rw [hV1]; exact regrown_calls (fun W t => digits6 r.x (by omega) W (hv.no (t0.trans' t)))
  have c2 : ∀ d os, Calls Tryz.prog 91 #[tA r.tb.id r.tb.ver r.tb.nm (.slice s.co r.tb.cols.length s.cc) r.tb.key] (grow (redrawn w0 d) os) fun e w'' => e = .returned (.string V2) ∧ ∃ p : Regrown, w'' = grow (redrawn w0 p.d) p.os := by rw [hV2]; exact regrown_calls (fun W t => printTable6 r.tb s.co s.cc W (hv.no (t0.trans' t)) ((h.no (t0.trans' t)).tb.sl) h2)
  have y0 : w0.cell? ⟨w.heap.size, 0, none⟩ = some (.int .i64 r.x) := blk_cell b0 0
  have y1 : w0.cell? ⟨w.heap.size, 1, none⟩ = some (.int .i64 r.tb.id) := blk_cell b0 1
  have y2 : w0.cell? ⟨w.heap.size, 2, none⟩ = some (.int .i64 r.tb.ver) := blk_cell b0 2
  have y3 : w0.cell? ⟨w.heap.size, 3, none⟩ = some (.string r.tb.nm) := blk_cell b0 3
  have y4 : w0.cell? ⟨w.heap.size, 4, none⟩ = some (.slice s.co r.tb.cols.length s.cc) := blk_cell b0 4
  have y5 : w0.cell? ⟨w.heap.size, 5, none⟩ = some (.int .i64 r.tb.key) := blk_cell b0 5
  have k0 := cell_regrown y0
  have k1 := cell_regrown y1
  have k2 := cell_regrown y2
  have k3 := cell_regrown y3
  have k4 := cell_regrown y4
  have k5 := cell_regrown y5
  have HT0 : Hid (Tch (fun _ => False) w w0) := t0
  have HW0 : Hid (w0 = w.alloc (.cells #[.int .i64 r.x, .int .i64 r.tb.id, .int .i64 r.tb.ver, .string r.tb.nm, .slice s.co r.tb.cols.length s.cc, .int .i64 r.tb.key] 141)) := hw0
  unfold wds
  rw [← hV1]
  rw [← hV2]
  clear hw0 t0 b0 hv _hwd h h1 hV1 h2 hV2
  unfold bV
  go_enter Tryz.func49, Tryz.ntmps49
  go_wp2_with fail
  rw [← HW0.out]
  refine wp_region_below_tail 6 (by kernel_rfl) (by kernel_rfl) ?_
  simp only [List.take_succ_cons, List.take_zero, List.drop_succ_cons, List.drop_zero]
  quiet_step (fail)
  quiet_step (fail)
  quiet_step ((go_at_call 88; exact c1 _ _))
  quiet_step (fail)
  quiet_step (fail)
  quiet_step ((go_at_call 91; exact c2 _ _))
  refine wpQuiet_nil ?_
  rintro w1 ⟨p, rfl⟩
  have HE : Hid (Tch (fun _ => False) w (grow (redrawn w0 p.d) p.os)) := HT0.out.trans' (Tch.regrown w0 p.d p.os)
  obtain ⟨W1, hW1⟩ : ∃ W1, W1 = grow (redrawn w0 p.d) p.os := ⟨_, rfl⟩
  rw [← hW1] at HE ⊢
  clear hW1 k0 k1 k2 k3 k4 k5 c1 c2 y0 y1 y2 y3 y4 y5
  go_wp2_with fail
  go_ret
  refine ⟨⟨W1.heap.size, 2, rfl, Nat.le_refl _, fun j y hy => ?_⟩, HE.out.allocR _⟩
  have hb := heap_new W1 (.cells #[.string V1, .string V2] 9)
  rw [Nat.zero_add, blk_cell hb]
  match j, hy with
  | 0, hy => injection hy with hy; subst hy; rfl
  | 1, hy => injection hy with hy; subst hy; rfl
  | (j + 2), hy => simp at hy
theorem wordsO_9 (r : Rc) (s : Sk) (F : Nat → Prop) (w : World) (hv : HP w) (_hwd : HWd w) (_h : RW w F r s) (h1 : 0 ≤ r.x ∧ r.x ≤ 2147483648) (h2 : 0 ≤ r.t ∧ r.t ≤ 2147483648) : Calls Tryz.prog 49 #[bV 9 r s] w fun x w' => WO (wds 9 r) w x w' := by
  have a1 : ∀ v W, (Instr.typeAssert (.iface 143 v) 71 128 true).run Tryz.prog W = .ok (.tuple #[.agg #[.int .i64 0], .bool false]) W := fun v W => by kernel_rfl
  have a2 : ∀ v W, (Instr.typeAssert (.iface 143 v) 71 130 true).run Tryz.prog W = .ok (.tuple #[.agg #[.int .i64 0, .int .i64 0], .bool false]) W := fun v W => by kernel_rfl
  have a3 : ∀ v W, (Instr.typeAssert (.iface 143 v) 71 132 true).run Tryz.prog W = .ok (.tuple #[.agg #[.int .i64 0, .int .i64 0, .slice none 0 0], .bool false]) W := fun v W => by kernel_rfl
  have a4 : ∀ v W, (Instr.typeAssert (.iface 143 v) 71 134 true).run Tryz.prog W = .ok (.tuple #[.agg #[.int .i64 0, .int .i64 0, .slice none 0 0, .slice none 0 0], .bool false]) W := fun v W => by kernel_rfl
  have a5 : ∀ v W, (Instr.typeAssert (.iface 143 v) 71 135 true).run Tryz.prog W = .ok (.tuple #[.agg #[.int .i64 0, .int .i64 0, .slice none 0 0], .bool false]) W := fun v W => by kernel_rfl
  have a6 : ∀ v W, (Instr.typeAssert (.iface 143 v) 71 137 true).run Tryz.prog W = .ok (.tuple #[.agg #[.int .i64 0, .string ⟨#[]⟩, .int .i64 0], .bool false]) W := fun v W => by kernel_rfl
  have a7 : ∀ v W, (Instr.typeAssert (.iface 143 v) 71 139 true).run Tryz.prog W = .ok (.tuple #[.agg #[.int .i64 0, .string ⟨#[]⟩], .bool false]) W := fun v W => by kernel_rfl
  have a8 : ∀ v W, (Instr.typeAssert (.iface 143 v) 71 141 true).run Tryz.prog W = .ok (.tuple #[.agg #[.int .i64 0, .int .i64 0, .int .i64 0, .string ⟨#[]⟩, .slice none 0 0, .int .i64 0], .bool false]) W := fun v W => by kernel_rfl
  have a9 : ∀ v W, (Instr.typeAssert (.iface 143 v) 71 143 true).run Tryz.prog W = .ok (.tuple #[v, .bool true]) W := fun v W => by kernel_rfl
  obtain ⟨w0, hw0⟩ : ∃ w0, w0 = w.alloc (.cells #[.int .i64 r.x, .int .i64 r.t] 143) := ⟨_, rfl⟩
  have t0 : Tch (fun _ => False) w w0 := by rw [hw0]; exact Tch.alloc _ _ _
  have b0 : w0.heap[w.heap.size]? = some (.cells #[.int .i64 r.x, .int .i64 r.t] 143 (0, 0)) := by rw [hw0]; exact heap_new w _
  obtain ⟨V1, hV1⟩ : ∃ V, V = itoB r.x := ⟨_, rfl⟩
  obtain ⟨V2, hV2⟩ : ∃ V, V = itoB r.t := ⟨_, rfl⟩
  have c1 : ∀ d os, Calls Tryz.prog 88 #[.int .i64 r.x] (grow (redrawn w0 d) os) fun e w'' => e = .returned (.string V1) ∧ ∃ p : Regrown, w'' = grow (redrawn w0 p.d) p.os := by rw [hV1]; exact regrown_calls (fun W t => digits6 r.x (by omega) W (hv.no (t0.trans' t)))
  have c2 : ∀ d os, Calls Tryz.prog 88 #[.int .i64 r.t] (grow (redrawn w0 d) os) fun e w'' => e = .returned (.string V2) ∧ ∃ p : Regrown, w'' = grow (redrawn w0 p.d) p.os := by rw [hV2]; exact regrown_calls (fun W t => digits6 r.t (by omega) W (hv.no (t0.trans' t)))
  have y0 : w0.cell? ⟨w.heap.size, 0, none⟩ = some (.int .i64 r.x) := blk_cell b0 0
  have y1 : w0.cell? ⟨w.heap.size, 1, none⟩ = some (.int .i64 r.t) := blk_cell b0 1
  have k0 := cell_regrown y0
  have k1 := cell_regrown y1
  have HT0 : Hid (Tch (fun _ => False) w w0) := t0
  have HW0 : Hid (w0 = w.alloc (.cells #[.int .i64 r.x, .int .i64 r.t] 143)) := hw0
  unfold wds
  rw [← hV1]
  rw [← hV2]
  clear hw0 t0 b0 hv _hwd _h h1 hV1 h2 hV2
  unfold bV
  go_enter Tryz.func49, Tryz.ntmps49
  go_wp2_with fail
  rw [← HW0.out]
  refine wp_region_below_tail 6 (by kernel_rfl) (by kernel_rfl) ?_
  simp only [List.take_succ_cons, List.take_zero, List.drop_succ_cons, List.drop_zero]
  quiet_step (fail)
  quiet_step (fail)
  quiet_step ((go_at_call 88; exact c1 _ _))
  quiet_step (fail)
  quiet_step (fail)
  quiet_step ((go_at_call 88; exact c2 _ _))
  refine wpQuiet_nil ?_
  rintro w1 ⟨p, rfl⟩
  have HE : Hid (Tch (fun _ => False) w (grow (redrawn w0 p.d) p.os)) := HT0.out.trans' (Tch.regrown w0 p.d p.os)
  obtain ⟨W1, hW1⟩ : ∃ W1, W1 = grow (redrawn w0 p.d) p.os := ⟨_, rfl⟩
  rw [← hW1] at HE ⊢
  clear hW1 k0 k1 c1 c2 y0 y1
  go_wp2_with fail
  go_ret
  refine ⟨⟨W1.heap.size, 3, rfl, Nat.le_refl _, fun j y hy => ?_⟩, HE.out.allocR _⟩
  have hb := heap_new W1 (.cells #[.string V1, .string ⟨#[116, 97, 98, 108, 101]⟩, .string V2] 9)
  rw [Nat.zero_add, blk_cell hb]
  match j, hy with
  | 0, hy => injection hy with hy; subst hy; rfl
  | 1, hy => injection hy with hy; subst hy; rfl
  | 2, hy => injection hy with hy; subst hy; rfl
  | (j + 3), hy => simp at hy
theorem checkpointWords6 (r : Rc) (s : Sk) (F : Nat → Prop) (w : World) (hv : HP w) (h : RW w F r s) (hx : 0 ≤ r.x ∧ r.x ≤ 2147483648) (ht : 0 ≤ r.t ∧ r.t ≤ 2147483648) (hl : LDp r.tbs r.t) : Calls Tryz.prog 92 #[.agg #[.int .i64 r.x, .int .i64 r.t, .slice s.to s.P.length s.tc]] w fun x w' => WO (wds 10 r) w x w' := by
  obtain ⟨i0, hi, hz0, hz1, hz2⟩ := info_parts info_str
  have HI : Hid (i0.zero = some (.string ⟨#[]⟩) ∧ i0.size = 1 ∧ i0.bytes = 16) := ⟨hz0, hz1, hz2⟩
  clear hz0 hz1 hz2
  obtain ⟨n, hn⟩ : ∃ n, n = s.P.length := ⟨_, rfl⟩
  have hnr : n = r.tbs.length := by rw [hn, ← h.eq, List.length_map]
  have hn16 : n ≤ 16 := by have := hl.len; omega
  have HN : Hid (n = s.P.length ∧ n = r.tbs.length) := ⟨hn, hnr⟩
  have HPL : Hid (∀ k (hk : k < s.P.length), ∃ hk' : k < r.tbs.length, s.P[k].1 = r.tbs[k]) := fun k hk => by
    have hk' : k < r.tbs.length := by omega
    refine ⟨hk', ?_⟩
    have : r.tbs[k]? = (s.P.map Prod.fst)[k]? := by rw [h.eq]
    rw [List.getElem?_map, List.getElem?_eq_getElem hk, List.getElem?_eq_getElem hk'] at this
    simpa using this.symm
  have HRT : Hid (∀ t ∈ r.tbs, RT t) := hl.rt
  have HTL : Hid (∀ W, Tch (fun _ => False) w W → TL W F s.to s.P) := fun W t => h.tbs.no t
  have HP' : Hid (∀ W, Tch (fun _ => False) w W → HP W) := fun W t => hv.no t
  rw [← hn]
  obtain ⟨w0, hw0⟩ : ∃ w0, w0 = w.alloc (.cells #[.int .i64 r.x, .int .i64 r.t, .slice s.to n s.tc] 145) := ⟨_, rfl⟩
  have t0 : Tch (fun _ => False) w w0 := by rw [hw0]; exact Tch.alloc _ _ _
  have b0 : w0.heap[w.heap.size]? = some (.cells #[.int .i64 r.x, .int .i64 r.t, .slice s.to n s.tc] 145 (0, 0)) := by rw [hw0]; exact heap_new w _
  obtain ⟨X, hX⟩ : ∃ X, X = itoB r.x := ⟨_, rfl⟩
  obtain ⟨T, hT⟩ : ∃ T, T = itoB r.t := ⟨_, rfl⟩
  have c1 : ∀ d os, Calls Tryz.prog 88 #[.int .i64 r.x] (grow (redrawn w0 d) os) fun e w'' => e = .returned (.string X) ∧ ∃ p : Regrown, w'' = grow (redrawn w0 p.d) p.os := by rw [hX]; exact regrown_calls (fun W t => digits6 r.x (by omega) W (hv.no (t0.trans' t)))
  have c2 : ∀ d os, Calls Tryz.prog 88 #[.int .i64 r.t] (grow (redrawn w0 d) os) fun e w'' => e = .returned (.string T) ∧ ∃ p : Regrown, w'' = grow (redrawn w0 p.d) p.os := by rw [hT]; exact regrown_calls (fun W t => digits6 r.t (by omega) W (hv.no (t0.trans' t)))
  have y0 : w0.cell? ⟨w.heap.size, 0, none⟩ = some (.int .i64 r.x) := blk_cell b0 0
  have y1 : w0.cell? ⟨w.heap.size, 1, none⟩ = some (.int .i64 r.t) := blk_cell b0 1
  have k0 := cell_regrown y0
  have k1 := cell_regrown y1
  have HK : Hid (∀ W, Tch (fun _ => False) w0 W → W.cell? ⟨w.heap.size, 2, none⟩ = some (.slice s.to n s.tc)) := fun W t => by
    have hb := (t.block _ (blk_lt b0) (fun h => h)).trans b0
    exact blk_cell hb 2
  have HT0 : Hid (Tch (fun _ => False) w w0) := t0
  have HW0 : Hid (w0 = w.alloc (.cells #[.int .i64 r.x, .int .i64 r.t, .slice s.to n s.tc] 145)) := hw0
  unfold wds
  rw [← hX, ← hT]
  clear hv h hx ht hl t0 b0 hw0 hX hT hn hnr
  go_enter Tryz.func92, Tryz.ntmps92
  go_wp2_with fail
  rw [← HW0.out]
  refine wp_region_below_tail 6 (by kernel_rfl) (by kernel_rfl) ?_
  simp only [List.take_succ_cons, List.take_zero, List.drop_succ_cons, List.drop_zero]
  quiet_step (fail)
  quiet_step (fail)
  quiet_step ((go_at_call 88; exact c1 _ _))
  quiet_step (fail)
  quiet_step (fail)
  quiet_step ((go_at_call 88; exact c2 _ _))
  refine wpQuiet_nil ?_
  rintro w1 ⟨p, rfl⟩
  have HT1 : Hid (Tch (fun _ => False) w0 (grow (redrawn w0 p.d) p.os)) := Tch.regrown w0 p.d p.os
  obtain ⟨W1, hW1⟩ : ∃ W1, W1 = grow (redrawn w0 p.d) p.os := ⟨_, rfl⟩
  rw [← hW1] at HT1 ⊢
  clear hW1 k0 k1 c1 c2 y0 y1
  obtain ⟨w2, hw2⟩ : ∃ w2, w2 = W1.alloc (.cells #[.string nextB, .string X, .string tableB, .string T] 9) := ⟨_, rfl⟩
  have HT2 : Hid (Tch (fun _ => False) w0 w2) := by show Tch _ _ _; rw [hw2]; exact HT1.out.allocR _
  have HOW : Hid (w2.ownsRow W1.heap.size 9 1 (.slice (some ⟨W1.heap.size, 0, none⟩) 4 4) 4 (stc [nextB, X, tableB, T])) := own_str (xs := [nextB, X, tableB, T]) (by rw [hw2]; exact heap_new W1 _) rfl (by simp) _ (Nat.le_refl _)
  have hTW : Tch (fun i => W1.heap.size ≤ i) W1 w2 := by rw [hw2]; exact Tch.alloc _ _ _
  have HTW : Hid (Tch (fun i => W1.heap.size ≤ i) W1 w2) := hTW
  have y2 := HK.out w2 HT2.out
  rw [hw2] at y2
  have HW2 : Hid (w2 = W1.alloc (.cells #[.string nextB, .string X, .string tableB, .string T] 9)) := hw2
  clear hw2 hTW
  unfold nextB tableB at HW2 y2
  go_wp2_with fail
  rw [← HW2.out]
  go_loopw [3, 16] (fun v i wr => ∃ k : Nat, i = .int .i64 k ∧ k ≤ n ∧ Hid (wr.ownsRow W1.heap.size 9 1 v (4 + k) (stc ([nextB, X, tableB, T] ++ (r.tbs.take k).map tabB))) ∧ Hid (Tch (fun i => W1.heap.size ≤ i) W1 wr)) (fun _ i _ => n - (intOf i).toNat)
  case atStart => exact ⟨0, rfl, Nat.zero_le _, by show World.ownsRow _ _ _ _ _ _ _; simpa using HOW.out, HTW⟩
  case round =>
    obtain ⟨k, rfl, hk, HO, HT⟩ := hrel
    clear HOW HTW y2
    have A : Tch (fun _ => False) w W1 := HT0.out.trans' HT1.out
    have B : Tch (fun _ => False) w wr := (A.mono (fun _ _ h => h.elim)).trans HT.out (fun i hi h => by have := A.size; omega)
    have HBW : Hid (Tch (fun _ => False) w wr) := B
    obtain ⟨ao, cp, hv1⟩ := slice_of HO.out
    subst hv1
    have hWr : W1.heap.size ≤ wr.heap.size := HT.out.size
    by_cases hlt : (k : Int) < n
    · have hkP : k < s.P.length := by have := HN.out.1; omega
      obtain ⟨hkt, hpt⟩ := HPL.out k hkP
      have hTL := HTL.out wr B
      obtain ⟨g, o, e, c0, c1, c2, c3, c4⟩ := hTL.at k hkP
      obtain ⟨co, cc, hck⟩ := hTL.col k hkP
      obtain ⟨pp, hpp⟩ : ∃ pp, pp = s.P[k] := ⟨_, rfl⟩
      rw [← hpp] at c0 c1 c2 c3 c4 hck hpt
      rw [hck.eq] at c3
      obtain ⟨x, hx⟩ : ∃ x, x = pp.1 := ⟨_, rfl⟩
      rw [← hx] at c0 c1 c2 c3 c4 hpt
      have hcs : SL wr co (ccl x.cols) := by rw [hx]; exact hck.sl
      have hrt := HRT.out x (by rw [hpt]; exact List.getElem_mem hkt)
      obtain ⟨to', hto⟩ : ∃ to', to' = s.to := ⟨_, rfl⟩
      rw [← hto] at e ⊢
      subst e
      obtain ⟨wb, hwb⟩ : ∃ wb, wb = wr.alloc (.cells #[.int .i64 x.id, .int .i64 x.ver, .string x.nm, .slice co x.cols.length cc, .int .i64 x.key] 29) := ⟨_, rfl⟩
      have tb : Tch (fun _ => False) wr wb := by rw [hwb]; exact Tch.alloc _ _ _
      have q := printTable6 x co cc wb (HP'.out wb (B.trans' tb)) (hcs.no tb) hrt
      obtain ⟨TB, hTB⟩ : ∃ TB, TB = tabB x := ⟨_, rfl⟩
      rw [← hTB, hwb] at q
      have HTK : Hid ((r.tbs.take (k + 1)).map tabB = (r.tbs.take k).map tabB ++ [TB]) := by
        show _ = _
        rw [(List.take_append_getElem hkt).symm, List.map_append, hTB, hpt]; rfl
      have HTb : Hid (Tch (fun _ => False) wr wb) := tb
      have HWB : Hid (wb = wr.alloc (.cells #[.int .i64 x.id, .int .i64 x.ver, .string x.nm, .slice co x.cols.length cc, .int .i64 x.key] 29)) := hwb
      clear hwb tb hcs hrt hck hTL hpp hpt hx hto hTB A B
      go_wp2_with fail
      refine q.mono ?_
      rintro y w4 ⟨rfl, t4⟩
      rw [← HWB.out] at t4
      have T4 : Tch (fun _ => False) wr w4 := HTb.out.trans' t4
      have HO4 : Hid (w4.ownsRow W1.heap.size 9 1 (.slice ao (4 + k) cp) (4 + k) (stc ([nextB, X, tableB, T] ++ (r.tbs.take k).map tabB))) := ownsRow_tch HO.out T4 (fun _ _ _ h => h)
      have HG : Hid (∀ g, (Value.slice ao (4 + k) cp).ownBlock = some g → W1.heap.size ≤ g) := fun g hk => ownBlock_ge HO.out hk.symm
      have HT4 : Hid (Tch (fun i => W1.heap.size ≤ i) W1 w4) := HT.out.trans' (T4.mono (fun _ _ h => h.elim))
      have hz4 : W1.heap.size ≤ w4.heap.size := HT4.out.size
      clear q t4 T4 c0 c1 c2 c3 c4 HO
      go_wp2_with (at_builtin; refine wpList_append_own _ rfl _ _ 54 rfl W1.heap.size 9 i0 (.string ⟨#[]⟩) 1 16 Tryz.underlying54 hi HI.out.1 HI.out.2.1 HI.out.2.2 rfl (by decide) (.slice ao (4 + k) cp) (4 + k) _ rfl (HO4.out.alloc _) ⟨w4.heap.size, 0, none⟩ 1 1 (stc [TB]) rfl rfl (World.news_of_block (alloc_new w4 _)) (stc_one _) (by unfold maxLen; omega) (by omega) (by simp; omega) ?_; intro v5 w5 hown5 hgr5 hnil5; clear hnil5)
      go_roundw
      case rel =>
        refine ⟨k + 1, by go_num, by omega, ?_, HT4.out.trans' ((Tch.alloc _ _ _).trans' (grown_tch2 hgr5 HG.out))⟩
        show World.ownsRow _ _ _ _ _ _ _
        rw [HTK.out, ← List.append_assoc]
        have e5 : stc ([nextB, X, tableB, T] ++ (r.tbs.take k).map tabB ++ [TB]) = stc ([nextB, X, tableB, T] ++ (r.tbs.take k).map tabB) ++ stc [TB] := by unfold stc; rw [List.map_append]
        rw [e5]
        exact hown5
      case measure => simp [intOf]; omega
    · have HTk : Hid (r.tbs.take k = r.tbs) := by
        show _ = _
        rw [List.take_of_length_le]; have := HN.out.2; omega
      have HL : Hid (4 + k = ([nextB, X, tableB, T] ++ r.tbs.map tabB).length) := by show _ = _; rw [List.length_append, List.length_map]; have := HN.out.2; show 4 + k = 4 + _; omega
      clear A B
      go_wp2_with fail
      go_ret
      have h5 := HO.out
      rw [HTk.out] at h5
      exact own_wo (xs := nextB :: X :: tableB :: T :: r.tbs.map tabB) h5 HL.out (by omega) HBW.out
theorem wordsO_10 (r : Rc) (s : Sk) (F : Nat → Prop) (w : World) (hv : HP w) (_hwd : HWd w) (h : RW w F r s) (hx : 0 ≤ r.x ∧ r.x ≤ 2147483648) (ht : 0 ≤ r.t ∧ r.t ≤ 2147483648) (hl : LDp r.tbs r.t) : Calls Tryz.prog 49 #[bV 10 r s] w fun x w' => WO (wds 10 r) w x w' := by
  have a1 : ∀ v W, (Instr.typeAssert (.iface 145 v) 71 128 true).run Tryz.prog W = .ok (.tuple #[.agg #[.int .i64 0], .bool false]) W := fun v W => by kernel_rfl
  have a2 : ∀ v W, (Instr.typeAssert (.iface 145 v) 71 130 true).run Tryz.prog W = .ok (.tuple #[.agg #[.int .i64 0, .int .i64 0], .bool false]) W := fun v W => by kernel_rfl
  have a3 : ∀ v W, (Instr.typeAssert (.iface 145 v) 71 132 true).run Tryz.prog W = .ok (.tuple #[.agg #[.int .i64 0, .int .i64 0, .slice none 0 0], .bool false]) W := fun v W => by kernel_rfl
  have a4 : ∀ v W, (Instr.typeAssert (.iface 145 v) 71 134 true).run Tryz.prog W = .ok (.tuple #[.agg #[.int .i64 0, .int .i64 0, .slice none 0 0, .slice none 0 0], .bool false]) W := fun v W => by kernel_rfl
  have a5 : ∀ v W, (Instr.typeAssert (.iface 145 v) 71 135 true).run Tryz.prog W = .ok (.tuple #[.agg #[.int .i64 0, .int .i64 0, .slice none 0 0], .bool false]) W := fun v W => by kernel_rfl
  have a6 : ∀ v W, (Instr.typeAssert (.iface 145 v) 71 137 true).run Tryz.prog W = .ok (.tuple #[.agg #[.int .i64 0, .string ⟨#[]⟩, .int .i64 0], .bool false]) W := fun v W => by kernel_rfl
  have a7 : ∀ v W, (Instr.typeAssert (.iface 145 v) 71 139 true).run Tryz.prog W = .ok (.tuple #[.agg #[.int .i64 0, .string ⟨#[]⟩], .bool false]) W := fun v W => by kernel_rfl
  have a8 : ∀ v W, (Instr.typeAssert (.iface 145 v) 71 141 true).run Tryz.prog W = .ok (.tuple #[.agg #[.int .i64 0, .int .i64 0, .int .i64 0, .string ⟨#[]⟩, .slice none 0 0, .int .i64 0], .bool false]) W := fun v W => by kernel_rfl
  have a9 : ∀ v W, (Instr.typeAssert (.iface 145 v) 71 143 true).run Tryz.prog W = .ok (.tuple #[.agg #[.int .i64 0, .int .i64 0], .bool false]) W := fun v W => by kernel_rfl
  have a10 : ∀ v W, (Instr.typeAssert (.iface 145 v) 71 145 true).run Tryz.prog W = .ok (.tuple #[v, .bool true]) W := fun v W => by kernel_rfl
  have HQ : Hid (∀ W, Tch (fun _ => False) w W → Calls Tryz.prog 92 #[.agg #[.int .i64 r.x, .int .i64 r.t, .slice s.to s.P.length s.tc]] W fun x w' => WO (wds 10 r) W x w') := fun W t => checkpointWords6 r s F W (hv.no t) (h.no t) hx ht hl
  clear hv _hwd h hx ht hl
  unfold bV
  go_enter Tryz.func49, Tryz.ntmps49
  go_wp2_with fail
  refine (HQ.out _ (Tch.alloc _ _ _)).mono ?_
  rintro x w1 ⟨⟨g, cap, rfl, h1, h2⟩, t1⟩
  go_wp2_with fail
  go_ret
  exact ⟨⟨g, cap, rfl, h1, h2⟩, (Tch.alloc _ _ _).trans' t1⟩
theorem rightBody_ok (r : Rc) (s : Sk) (F : Nat → Prop) (w : World) (hg : HE w) (h : RW w F r s) (hr : RR r) : Calls Tryz.prog 30 #[rV r s] w fun x w' => x = .returned (.tuple #[bV (cls r.k) r s, .int .i64 0]) ∧ Tch (fun _ => False) w w' := by
  obtain ⟨h1, h2⟩ := hr
  rcases cls_rng r.k with h0 | ⟨_, _, g1, g2⟩
  · rw [h0] at h1; exact h1.elim
  · obtain ⟨c, hcc⟩ : ∃ c, cls r.k = c := ⟨_, rfl⟩
    rw [hcc] at h1 h2 g1 g2 ⊢
    have hc0 : c = 1 ∨ c = 2 ∨ c = 3 ∨ c = 4 ∨ c = 5 ∨ c = 6 ∨ c = 7 ∨ c = 8 ∨ c = 9 ∨ c = 10 := by omega
    rcases hc0 with rfl | rfl | rfl | rfl | rfl | rfl | rfl | rfl | rfl | rfl
    · exact rightBody_1 r s F w hg h hcc h1 h2.symm
    · exact rightBody_2 r s F w hg h hcc h1 h2.symm
    · exact rightBody_3 r s F w hg h hcc h1 h2.symm
    · exact rightBody_4 r s F w hg h hcc h1 h2.symm
    · exact rightBody_5 r s F w hg h hcc h1 h2.symm
    · exact rightBody_6 r s F w hg h hcc h1 h2.symm
    · exact rightBody_7 r s F w hg h hcc h1 h2.symm
    · exact rightBody_8 r s F w hg h hcc h1 h2.symm
    · exact rightBody_9 r s F w hg h hcc h1 h2.symm
    · exact rightBody_10 r s F w hg h hcc h1 h2.symm
theorem words_ok (r : Rc) (s : Sk) (F : Nat → Prop) (w : World) (hv : HP w) (hwd : HWd w) (h : RW w F r s) (hr : RR r) : Calls Tryz.prog 49 #[bV (cls r.k) r s] w fun x w' => WO (wds (cls r.k) r) w x w' := by
  obtain ⟨h1, -⟩ := hr
  rcases cls_rng r.k with h0 | ⟨_, _, g1, g2⟩
  · rw [h0] at h1; exact h1.elim
  · obtain ⟨c, hcc⟩ : ∃ c, cls r.k = c := ⟨_, rfl⟩
    rw [hcc] at h1 g1 g2 ⊢
    have hc0 : c = 1 ∨ c = 2 ∨ c = 3 ∨ c = 4 ∨ c = 5 ∨ c = 6 ∨ c = 7 ∨ c = 8 ∨ c = 9 ∨ c = 10 := by omega
    rcases hc0 with rfl | rfl | rfl | rfl | rfl | rfl | rfl | rfl | rfl | rfl
    · have h1 : rtN r.x := h1
      unfold rtN at h1
      exact wordsO_1 r s F w hv hwd h (by omega)
    · have h1 : rtN r.x ∧ rtN r.p ∧ r.p < r.x := h1
      unfold rtN at h1
      exact wordsO_2 r s F w hv hwd h (by omega) (by omega)
    · obtain ⟨a, b, c⟩ : rtN r.x ∧ rtN r.t ∧ rtRow r.n := h1
      unfold rtN at a b
      exact wordsO_3 r s F w hv hwd h (by omega) (by omega) (encR_le c.2)
    · obtain ⟨a, b, c, d⟩ : rtN r.x ∧ rtN r.t ∧ rtRow r.o ∧ rtRow r.n := h1
      unfold rtN at a b
      exact wordsO_4 r s F w hv hwd h (by omega) (by omega) (encR_le c.2) (encR_le d.2)
    · obtain ⟨a, b, c⟩ : rtN r.x ∧ rtN r.t ∧ rtRow r.o := h1
      unfold rtN at a b
      exact wordsO_5 r s F w hv hwd h (by omega) (by omega) (encR_le c.2)
    · obtain ⟨a, b⟩ : rtN r.x ∧ ((r.nm.size = 0 ∧ r.org = 0) ∨ (nmOk r.nm = true ∧ 1 ≤ r.org ∧ r.org ≤ 819208192)) := h1
      unfold rtN at a
      exact wordsO_6 r s F w hv hwd h (by omega) (by rcases b with b | b <;> omega)
    · obtain ⟨a, b⟩ : rtN r.x ∧ nmOk r.nm = true := h1
      unfold rtN at a
      exact wordsO_7 r s F w hv hwd h (by omega)
    · obtain ⟨a, b⟩ : rtN r.x ∧ rightE r.tb = 0 := h1
      unfold rtN at a
      exact wordsO_8 r s F w hv hwd h (by omega) (right_rt b)
    · obtain ⟨a, b⟩ : rtN r.x ∧ rtN r.t := h1
      unfold rtN at a b
      exact wordsO_9 r s F w hv hwd h (by omega) (by omega)
    · obtain ⟨a, b, c⟩ : (1 ≤ r.x ∧ r.x ≤ 2147483648) ∧ (1 ≤ r.t ∧ r.t ≤ 2147483648) ∧ LDp r.tbs r.t := h1
      exact wordsO_10 r s F w hv hwd h (by omega) (by omega) c
theorem wds_len (r : Rc) (h : rightC (cls r.k) r) (hoi : ∀ v ∈ r.o, v.i64) (hni : ∀ v ∈ r.n, v.i64) : 1 ≤ (wds (cls r.k) r).length ∧ (wds (cls r.k) r).length ≤ 20 ∧ ∀ x ∈ wds (cls r.k) r, x.size ≤ 6000 := by
  have hI : ∀ n : Int, 0 ≤ n ∧ n ≤ 2147483648 → (itoB n).size ≤ 6000 := fun n hn => by have := ito_size n (by omega); omega
  have e1 : tableB.size = 5 := rfl
  have e2 : ofB.size = 2 := rfl
  have e3 : toB.size = 2 := rfl
  have e4 : asB.size = 2 := rfl
  have e5 : fromB.size = 4 := rfl
  have e6 : atB.size = 2 := rfl
  have e7 : nextB.size = 4 := rfl
  rcases cls_rng r.k with h0 | ⟨_, _, g1, g2⟩
  · rw [h0] at h; exact h.elim
  · obtain ⟨c, hcc⟩ : ∃ c, cls r.k = c := ⟨_, rfl⟩
    rw [hcc] at h g1 g2 ⊢
    have hc0 : c = 1 ∨ c = 2 ∨ c = 3 ∨ c = 4 ∨ c = 5 ∨ c = 6 ∨ c = 7 ∨ c = 8 ∨ c = 9 ∨ c = 10 := by omega
    rcases hc0 with rfl | rfl | rfl | rfl | rfl | rfl | rfl | rfl | rfl | rfl
    · have h1 : rtN r.x := h
      unfold rtN at h1
      refine ⟨by simp [wds], by simp [wds], fun x hx => ?_⟩
      simp only [wds, List.mem_cons, List.not_mem_nil, or_false] at hx
      subst hx
      exact hI _ (by omega)
    · have h1 : rtN r.x ∧ rtN r.p ∧ r.p < r.x := h
      unfold rtN at h1
      refine ⟨by simp [wds], by simp [wds], fun x hx => ?_⟩
      simp only [wds, List.mem_cons, List.not_mem_nil, or_false] at hx
      rcases hx with rfl | rfl | rfl
      · exact hI _ (by omega)
      · omega
      · exact hI _ (by omega)
    · obtain ⟨a, b, c⟩ : rtN r.x ∧ rtN r.t ∧ rtRow r.n := h
      unfold rtN at a b
      refine ⟨by simp [wds], by simp [wds], fun x hx => ?_⟩
      simp only [wds, List.mem_cons, List.not_mem_nil, or_false] at hx
      rcases hx with rfl | rfl | rfl | rfl
      · exact hI _ (by omega)
      · omega
      · exact hI _ (by omega)
      · exact (rowB_size (encR_le c.2) hni).2
    · obtain ⟨a, b, c, d⟩ : rtN r.x ∧ rtN r.t ∧ rtRow r.o ∧ rtRow r.n := h
      unfold rtN at a b
      refine ⟨by simp [wds], by simp [wds], fun x hx => ?_⟩
      simp only [wds, List.mem_cons, List.not_mem_nil, or_false] at hx
      rcases hx with rfl | rfl | rfl | rfl | rfl | rfl
      · exact hI _ (by omega)
      · omega
      · exact hI _ (by omega)
      · exact (rowB_size (encR_le c.2) hoi).2
      · omega
      · exact (rowB_size (encR_le d.2) hni).2
    · obtain ⟨a, b, c⟩ : rtN r.x ∧ rtN r.t ∧ rtRow r.o := h
      unfold rtN at a b
      refine ⟨by simp [wds], by simp [wds], fun x hx => ?_⟩
      simp only [wds, List.mem_cons, List.not_mem_nil, or_false] at hx
      rcases hx with rfl | rfl | rfl | rfl
      · exact hI _ (by omega)
      · omega
      · exact hI _ (by omega)
      · exact (rowB_size (encR_le c.2) hoi).2
    · obtain ⟨a, b⟩ : rtN r.x ∧ ((r.nm.size = 0 ∧ r.org = 0) ∨ (nmOk r.nm = true ∧ 1 ≤ r.org ∧ r.org ≤ 819208192)) := h
      unfold rtN at a
      have hs : r.nm.size ≤ 16 := by
        rcases b with b | b
        · omega
        · exact nm_size b.1
      have ho : 0 ≤ r.org ∧ r.org ≤ 819208192 := by rcases b with b | b <;> omega
      unfold wds
      simp only
      split
      · refine ⟨by simp, by simp, fun x hx => ?_⟩
        simp only [List.mem_cons, List.not_mem_nil, or_false] at hx
        subst hx
        exact hI _ (by omega)
      · refine ⟨by simp, by simp, fun x hx => ?_⟩
        simp only [List.mem_cons, List.not_mem_nil, or_false] at hx
        rcases hx with rfl | rfl | rfl | rfl | rfl
        · exact hI _ (by omega)
        · omega
        · omega
        · omega
        · exact hI _ (by omega)
    · obtain ⟨a, b⟩ : rtN r.x ∧ nmOk r.nm = true := h
      unfold rtN at a
      have hs := nm_size b
      refine ⟨by simp [wds], by simp [wds], fun x hx => ?_⟩
      simp only [wds, List.mem_cons, List.not_mem_nil, or_false] at hx
      rcases hx with rfl | rfl | rfl
      · exact hI _ (by omega)
      · omega
      · omega
    · obtain ⟨a, b⟩ : rtN r.x ∧ rightE r.tb = 0 := h
      unfold rtN at a
      refine ⟨by simp [wds], by simp [wds], fun x hx => ?_⟩
      simp only [wds, List.mem_cons, List.not_mem_nil, or_false] at hx
      rcases hx with rfl | rfl
      · exact hI _ (by omega)
      · have := tabB_size (right_rt b); omega
    · obtain ⟨a, b⟩ : rtN r.x ∧ rtN r.t := h
      unfold rtN at a b
      refine ⟨by simp [wds], by simp [wds], fun x hx => ?_⟩
      simp only [wds, List.mem_cons, List.not_mem_nil, or_false] at hx
      rcases hx with rfl | rfl | rfl
      · exact hI _ (by omega)
      · omega
      · exact hI _ (by omega)
    · obtain ⟨a, b, c⟩ : (1 ≤ r.x ∧ r.x ≤ 2147483648) ∧ (1 ≤ r.t ∧ r.t ≤ 2147483648) ∧ LDp r.tbs r.t := h
      have hl := c.len
      refine ⟨by simp [wds], by simp [wds]; omega, fun x hx => ?_⟩
      simp only [wds, List.mem_append, List.mem_cons, List.not_mem_nil, or_false, List.mem_map] at hx
      rcases hx with (rfl | rfl | rfl | rfl) | ⟨t, ht, rfl⟩
      · omega
      · exact hI _ (by omega)
      · omega
      · exact hI _ (by omega)
      · have := tabB_size (c.rt t ht); omega
theorem verb_cell (k : Nat) (h1 : 1 ≤ k) (h2 : k ≤ 15) : verbCells[k]? = some (.string (verbB (k : Int))) ∧ (verbB (k : Int)).size ≤ 10 := by
  have : k = 1 ∨ k = 2 ∨ k = 3 ∨ k = 4 ∨ k = 5 ∨ k = 6 ∨ k = 7 ∨ k = 8 ∨ k = 9 ∨ k = 10 ∨ k = 11 ∨ k = 12 ∨ k = 13 ∨ k = 14 ∨ k = 15 := by omega
  rcases this with rfl | rfl | rfl | rfl | rfl | rfl | rfl | rfl | rfl | rfl | rfl | rfl | rfl | rfl | rfl <;> exact ⟨rfl, by decide⟩
theorem print_ok (r : Rc) (s : Sk) (F : Nat → Prop) (w : World) (hg : HE w) (hvb : HVB w) (hv : HP w) (hwd : HWd w) (h : RW w F r s) (hr : RR r) :
    Calls Tryz.prog 19 #[rV r s] w fun x w' => x = .returned (.string (recB r)) ∧ Tch (fun _ => False) w w' := by
  obtain ⟨hl1, hl2, hl3⟩ := wds_len r hr.1 h.oi h.ni
  have hk15 : 1 ≤ r.k ∧ r.k ≤ 15 := by
    rcases cls_rng r.k with h0 | h0
    · have := hr.1; rw [h0] at this; exact this.elim
    · exact ⟨h0.1, h0.2.1⟩
  obtain ⟨k, hk⟩ : ∃ k : Nat, r.k = (k : Int) := ⟨r.k.toNat, by omega⟩
  have hkr : 1 ≤ k ∧ k ≤ 15 := by omega
  obtain ⟨hvc, hvs⟩ := verb_cell k hkr.1 hkr.2
  obtain ⟨w0, hw0⟩ : ∃ w0, w0 = w.alloc (.cells #[.int .i64 (k : Int), .int .i64 r.x, .int .i64 r.p, .int .i64 r.t, .slice s.oo r.o.length s.oc, .slice s.no r.n.length s.nc, .string r.nm, .int .i64 r.org, .int .i64 r.tb.id, .int .i64 r.tb.ver, .string r.tb.nm, .slice s.co r.tb.cols.length s.cc, .int .i64 r.tb.key, .slice s.to s.P.length s.tc] 37) := ⟨_, rfl⟩
  have t0 : Tch (fun _ => False) w w0 := by rw [hw0]; exact Tch.alloc _ _ _
  have b0 : w0.heap[w.heap.size]? = some (.cells #[.int .i64 (k : Int), .int .i64 r.x, .int .i64 r.p, .int .i64 r.t, .slice s.oo r.o.length s.oc, .slice s.no r.n.length s.nc, .string r.nm, .int .i64 r.org, .int .i64 r.tb.id, .int .i64 r.tb.ver, .string r.tb.nm, .slice s.co r.tb.cols.length s.cc, .int .i64 r.tb.key, .slice s.to s.P.length s.tc] 37 (0, 0)) := by rw [hw0]; exact heap_new w _
  have q1 := rightBody_ok r s F w0 (hg.tch t0 (fun h => h)) (h.no t0) hr
  obtain ⟨xs, hxs⟩ : ∃ xs, xs = wds (cls r.k) r := ⟨_, rfl⟩
  have HWO : Hid (∀ W, Tch (fun _ => False) w W → Calls Tryz.prog 49 #[bV (cls r.k) r s] W fun x w' => WO xs W x w') := fun W t => by rw [hxs]; exact words_ok r s F W (hv.no t) (hwd.no t) (h.no t) hr
  rw [← hxs] at hl1 hl2 hl3
  obtain ⟨n, hn⟩ : ∃ n, n = xs.length := ⟨_, rfl⟩
  have hjs : (Lib.join (xs.map (·.data.toList)) spB.data.toList).length ≤ 200000 := by
    have h9 := join_len spB.data.toList xs 6000 hl3
    have e9 : spB.data.toList.length = 1 := rfl
    rw [e9] at h9
    have : xs.length * (1 + 6000) ≤ 20 * 6001 := Nat.mul_le_mul hl2 (Nat.le_refl _)
    omega
  have hsz : (joinS xs).size ≤ 200000 := by
    have e : (joinS xs).size = (Lib.join (xs.map (·.data.toList)) spB.data.toList).length := by show (_ : Array UInt8).size = _; simp
    omega
  have HJ : Hid (∀ W g cap, (∀ j y, xs[j]? = some y → W.cell? ⟨g, 0 + j, none⟩ = some (.string y)) → g < W.heap.size → n ≤ cap → Calls Tryz.prog 48 #[.slice (some ⟨g, 0, none⟩) n cap, .string ⟨#[32]⟩] W fun e w' => e = .returned (.string (joinS xs)) ∧ Tch (fun _ => False) W w') := fun W g cap hc hg hcap => by
    have := join6 g 0 cap xs spB W hc hg (by omega) (by omega) (by omega)
    rw [← hn] at this
    exact this
  obtain ⟨V, hV⟩ : ∃ V, V = verbB (k : Int) := ⟨_, rfl⟩
  rw [← hV] at hvc hvs
  have HVW : Hid (∀ W, Tch (fun _ => False) w W → W.cell? ⟨0, k, none⟩ = some (.string V)) := fun W t => hvb.no t k _ hvc
  have HX : Hid (∃ y, xs[0]? = some y) := ⟨xs[0]'(by omega), List.getElem?_eq_getElem _⟩
  have HWN : Hid (∀ W x w', WO xs W x w' → ∃ g cap, x = .returned (.slice (some ⟨g, 0, none⟩) n cap) ∧ n ≤ cap ∧ (∀ j y, xs[j]? = some y → w'.cell? ⟨g, 0 + j, none⟩ = some (.string y)) ∧ Tch (fun _ => False) W w') := fun W x w' h => by
    obtain ⟨⟨g, cap, e, h1, h2⟩, t⟩ := h
    exact ⟨g, cap, by rw [e, hn], by omega, h2, t⟩
  have HR : Hid (V ++ ⟨#[32]⟩ ++ joinS xs = recB r) := by show _ = recB r; unfold recB; rw [hV, hxs, hk]; rfl
  obtain ⟨RB, hRB⟩ : ∃ RB, RB = recB r := ⟨_, rfl⟩
  rw [← hRB] at HR ⊢
  rw [rV, hk]
  rw [rV, hk] at q1
  rw [hw0] at q1
  have HW0 : Hid (w0 = w.alloc (.cells #[.int .i64 (k : Int), .int .i64 r.x, .int .i64 r.p, .int .i64 r.t, .slice s.oo r.o.length s.oc, .slice s.no r.n.length s.nc, .string r.nm, .int .i64 r.org, .int .i64 r.tb.id, .int .i64 r.tb.ver, .string r.tb.nm, .slice s.co r.tb.cols.length s.cc, .int .i64 r.tb.key, .slice s.to s.P.length s.tc] 37)) := hw0
  generalize hBV : bV (cls (k : Int)) r s = BV at q1
  rw [hk] at HWO
  rw [hBV] at HWO
  have hBI : ∃ T v, BV = .iface T v := by
    have hc1 : 1 ≤ cls (k : Int) ∧ cls (k : Int) ≤ 10 := by
      rw [← hk]
      rcases cls_rng r.k with h0 | h0
      · have := hr.1; rw [h0] at this; exact this.elim
      · exact h0.2.2
    have hc0 : ∀ c, 1 ≤ c → c ≤ 10 → ∃ T v, bV c r s = .iface T v := fun c g1 g2 => by
      have : c = 1 ∨ c = 2 ∨ c = 3 ∨ c = 4 ∨ c = 5 ∨ c = 6 ∨ c = 7 ∨ c = 8 ∨ c = 9 ∨ c = 10 := by omega
      rcases this with rfl | rfl | rfl | rfl | rfl | rfl | rfl | rfl | rfl | rfl <;> exact ⟨_, _, rfl⟩
    rw [← hBV]
    exact hc0 _ hc1.1 hc1.2
  obtain ⟨BT, BX, rfl⟩ := hBI
  have hkI : (k : Int) < 16 := by omega
  clear h hg hvb hv hwd hr hl1 hl2 hl3 hw0 hxs hn hBV hjs hk hk15 hkr hvc hV hRB
  go_enter Tryz.func19, Tryz.ntmps19
  go_wp2_with fail
  refine q1.mono ?_
  rintro x w1 ⟨rfl, t1⟩
  rw [← HW0.out] at t1
  have T1 : Tch (fun _ => False) w w1 := t0.trans' t1
  have b1 : w1.heap[w.heap.size]? = some (.cells #[.int .i64 (k : Int), .int .i64 r.x, .int .i64 r.p, .int .i64 r.t, .slice s.oo r.o.length s.oc, .slice s.no r.n.length s.nc, .string r.nm, .int .i64 r.org, .int .i64 r.tb.id, .int .i64 r.tb.ver, .string r.tb.nm, .slice s.co r.tb.cols.length s.cc, .int .i64 r.tb.key, .slice s.to s.P.length s.tc] 37 (0, 0)) := (t1.block _ (blk_lt b0) (fun h => h)).trans b0
  have z1 : w1.cell? ⟨w.heap.size, 0, none⟩ = some (.int .i64 (k : Int)) := blk_cell b1 0
  have hlt := blk_lt b1
  obtain ⟨C, hC⟩ : ∃ C : List Value → World → Prop, C = fun st W => match st with
    | [] => Tch (fun _ => False) w1 W
    | [y] => (∃ g cap, y = .slice (some ⟨g, 0, none⟩) n cap ∧ n ≤ cap ∧ (∀ j y, xs[j]? = some y → W.cell? ⟨g, 0 + j, none⟩ = some (.string y)) ∧ g < W.heap.size) ∧ Tch (fun _ => False) w1 W
    | [_, z] => z = .string (joinS xs) ∧ Tch (fun _ => False) w1 W
    | _ => False := ⟨_, rfl⟩
  have h0' : C [] w1.drew := by rw [hC]; exact (Tch.refl _ _).drew
  have hT : ∀ s W, C s W → Tch (fun _ => False) w1 W := fun s W h => by
    rw [hC] at h
    match s, h with
    | [], h => exact h
    | [y], h => exact h.2
    | [_, z], h => exact h.2
  have hK : ∀ s W, C s W → W.cell? ⟨w.heap.size, 0, none⟩ = some (.int .i64 (k : Int)) ∧ W.cell? ⟨0, k, none⟩ = some (.string V) := fun s W h =>
    ⟨((hT s W h).cell (p := ⟨_, _, none⟩) hlt (fun h => h)).trans z1, HVW.out W (T1.trans' (hT s W h))⟩
  have h6 : ∀ W, C [] W → Calls Tryz.prog 49 #[.iface BT BX] W fun x w' => ∃ g cap, x = .returned (.slice (some ⟨g, 0, none⟩) n cap) ∧ C [.slice (some ⟨g, 0, none⟩) n cap] w' := fun W h => by
    have tW := hT _ _ h
    refine (HWO.out W (T1.trans' tW)).mono ?_
    intro x w' hx
    obtain ⟨g, cap, rfl, hcap, hc, t⟩ := HWN.out W x w' hx
    obtain ⟨y, hy⟩ := HX.out
    refine ⟨g, cap, rfl, ?_⟩
    rw [hC]
    exact ⟨⟨g, cap, rfl, hcap, hc, cell_lt (hc 0 y hy)⟩, tW.trans' t⟩
  have h7 : ∀ g cap W, C [.slice (some ⟨g, 0, none⟩) n cap] W → Calls Tryz.prog 48 #[.slice (some ⟨g, 0, none⟩) n cap, .string ⟨#[32]⟩] W fun x w' => x = .returned (.string (joinS xs)) ∧ C [.slice (some ⟨g, 0, none⟩) n cap, .string (joinS xs)] w' := fun g cap W h => by
    have tW := hT _ _ h
    rw [hC] at h
    obtain ⟨⟨g', cap', e, hcap, hc, hg⟩, _⟩ := h
    have e' : g = g' ∧ cap = cap' := by simpa using e
    obtain ⟨rfl, rfl⟩ := e'
    refine (HJ.out W g cap hc hg hcap).mono ?_
    rintro x w' ⟨rfl, t⟩
    refine ⟨rfl, ?_⟩
    rw [hC]
    exact ⟨rfl, tW.trans' t⟩
  have hs6 : ∀ y W, C [y] W → ∃ g cap, y = .slice (some ⟨g, 0, none⟩) n cap := fun y W h => by rw [hC] at h; obtain ⟨⟨g, cap, e, _⟩, _⟩ := h; exact ⟨g, cap, e⟩
  have hs7 : ∀ y z W, C [y, z] W → z = .string (joinS xs) := fun y z W h => by rw [hC] at h; exact h.1
  have HTT : Hid _ := hT
  obtain ⟨JS, hJS⟩ : ∃ JS, JS = joinS xs := ⟨_, rfl⟩
  rw [← hJS] at h7 hs7 hsz HR
  clear hJS
  have HT1 : Hid (Tch (fun _ => False) w w1) := T1
  clear hC hT q1 t1 T1 b0 b1 z1 t0 hlt HWO HJ HVW HX HWN
  go_wp2_with fail
  refine wp_region_ordv [6, 7] C 8 [0, 1, 2, 3, 4, 5, 6, 7] (by kernel_rfl) (by kernel_rfl) h0' ?_
  clear h0'
  refine ordv_read rfl (by go_simp) (by rfl) ?_
  apply Exists.intro
  refine ⟨fun s' W hW b K Q hK' => ?_, fun K hK' => ?_⟩
  · obtain ⟨y0, y1⟩ := hK _ W hW
    go_simp
    exact hK' W hW
  go_simp
  refine hK' _ ?_
  clear hK' K
  refine ordv_read rfl (by go_simp) (by rfl) ?_
  apply Exists.intro
  refine ⟨fun s' W hW b K Q hK' => ?_, fun K hK' => ?_⟩
  · obtain ⟨y0, y1⟩ := hK _ W hW
    go_simp
    exact hK' W hW
  go_simp
  refine hK' _ ?_
  clear hK' K
  refine ordv_read rfl (by go_simp) (by rfl) ?_
  apply Exists.intro
  refine ⟨fun s' W hW b K Q hK' => ?_, fun K hK' => ?_⟩
  · obtain ⟨y0, y1⟩ := hK _ W hW
    go_simp
    exact hK' W hW
  go_simp
  refine hK' _ ?_
  clear hK' K
  refine ordv_read rfl (by go_simp) (by rfl) ?_
  apply Exists.intro
  refine ⟨fun s' W hW b K Q hK' => ?_, fun K hK' => ?_⟩
  · obtain ⟨y0, y1⟩ := hK _ W hW
    go_simp
    exact hK' W hW
  go_simp
  refine hK' _ ?_
  clear hK' K
  refine ordv_read rfl (by go_simp) (by rfl) ?_
  apply Exists.intro
  refine ⟨fun s' W hW b K Q hK' => ?_, fun K hK' => ?_⟩
  · go_simp
    rw [if_neg (by omega)]
    exact hK' W hW
  go_simp
  refine hK' _ ?_
  clear hK' K
  refine ordv_read rfl (by go_simp) (by rfl) ?_
  apply Exists.intro
  refine ⟨fun s' W hW b K Q hK' => ?_, fun K hK' => ?_⟩
  · obtain ⟨y0, y1⟩ := hK _ W hW
    go_simp
    exact hK' W hW
  go_simp
  refine hK' _ ?_
  clear hK' K
  refine ordv_turn rfl (by go_simp) (by rfl) (fun W hW b K Q hK' => ?_) (fun u hu K hK' => ?_)
  · go_simp
    refine (h6 W hW).mono ?_
    rintro x w' ⟨g, cap, rfl, h1⟩
    exact hK' _ _ h1
  obtain ⟨g, cap, rfl⟩ : ∃ g cap, u = .slice (some ⟨g, 0, none⟩) n cap := by
    obtain ⟨W', hW'⟩ := hu
    exact hs6 _ W' hW'
  clear hu
  go_simp
  refine hK' _ ?_
  clear hK' K
  refine ordv_turn rfl (by go_simp) (by rfl) (fun W hW b K Q hK' => ?_) (fun u hu K hK' => ?_)
  · go_simp
    refine (h7 g cap W hW).mono ?_
    rintro x w' ⟨rfl, h1⟩
    exact hK' _ _ h1
  obtain ⟨W', hW'⟩ := hu
  have hu := hs7 _ u W' hW'
  subst hu
  clear hW' W'
  go_simp
  refine hK' _ ?_
  clear hK' K
  refine ordv_nil ?_
  intro w6 hw6
  have T6 := HT1.out.trans' (HTT.out _ _ hw6)
  have hVs : (V ++ ⟨#[32]⟩).size ≤ 100 := by rw [size_app]; show V.size + 1 ≤ 100; omega
  clear hw6 h6 h7 hs6 hs7 hK HTT
  go_wp2_with fail
  go_ret
  exact ⟨by rw [← HR.out]; rfl, T6⟩
end Go.Proofs.YtjiblajnfnmjnaaGreatDoor.C
