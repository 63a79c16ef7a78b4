import Derived.Test.YtnjiiebjdpipjaaTGo2
/- within of the law: an iterator gone over within a loop over itself. -/
namespace Go.Proofs.Ytnjiiebjdpipjaa
open Go.RowKit Go Go.Shelf
attribute [local go_sem] Oper.semAt_some

/-- A step of a script. -/
structure Opv where
  other : Bool
  kind : Int
  n : Int
  s : ByteArray
  t : ByteArray
abbrev opV (p : Opv) : Value := .agg #[.bool p.other, .int .i64 p.kind, .int .i64 p.n, .string p.s, .string p.t]
abbrev opC (p : Opv) : Array Value := #[.bool p.other, .int .i64 p.kind, .int .i64 p.n, .string p.s, .string p.t]
theorem rs_with : Try.f70.results = #[.cell 6 4] := by kernel_rfl
theorem res_cell {fn : Func} {p : Tmp} (h : fn.results = #[.cell p 4]) {tmps : Array Value} {g : Nat} (hp : tmps[p]?.getD undef = .pointer (some ⟨g, 0, none⟩)) {W : World} {x : Bool} (hc : W.cell? ⟨g, 0, none⟩ = some (.bool x)) : (results fn tmps).run Try.prog W = .ok (.bool x) W := by
  unfold results
  rw [h]
  simp [go_sem, hp, hc]
/-- Five blocks more. -/
theorem five_new (w : World) (o0 o1 o2 o3 o4 : Obj) : ((((((w.alloc o0).alloc o1).alloc o2).alloc o3).alloc o4).heap[w.heap.size]? = some o0 ∧ (((((w.alloc o0).alloc o1).alloc o2).alloc o3).alloc o4).heap[w.heap.size + 1]? = some o1 ∧ (((((w.alloc o0).alloc o1).alloc o2).alloc o3).alloc o4).heap[w.heap.size + 2]? = some o2 ∧ (((((w.alloc o0).alloc o1).alloc o2).alloc o3).alloc o4).heap[w.heap.size + 3]? = some o3 ∧ (((((w.alloc o0).alloc o1).alloc o2).alloc o3).alloc o4).heap[w.heap.size + 4]? = some o4) := by
  obtain ⟨h1, h2, h3, h4⟩ := four_new (w.alloc o0) o1 o2 o3 o4
  simp only [World.size_alloc] at h1 h2 h3 h4
  refine ⟨?_, h1, h2, h3, h4⟩
  rw [Below.heap_alloc _ _ _ (by simp only [World.size_alloc]; omega), Below.heap_alloc _ _ _ (by simp only [World.size_alloc]; omega), Below.heap_alloc _ _ _ (by simp only [World.size_alloc]; omega), Below.heap_alloc _ _ _ (by simp)]
  exact alloc_new _ _
set_option maxHeartbeats 4000000 in
set_option maxRecDepth 100000 in
theorem within_any (W : World) (b mb bt bs : Nat) (l : List It) (ht : Nat) (F FM : List Nat) (p : Opv) (d : Bool) (hd : d = decide (p.kind = 5)) (hT : TW W b l ht F) (hM : MW W mb l FM) (hl : l.length ≤ 1000000000) (hbt : W.heap[bt]? = some (.cells #[pv b] 23 (0, 0))) (hbs : W.heap[bs]? = some (.cells #[.string p.s, .string p.t, .bool d] 90 (0, 0))) :
    Calls Try.prog 70 #[.agg #[pv b, pv mb], .func (.func 72) #[] #[pv bt, pv bs], opV p] W fun x w' => x = .returned (.bool true) ∧ Tch (fun _ => False) W w' := by
  obtain ⟨q0, hq0⟩ : ∃ q0, q0 = W.heap.size := ⟨_, rfl⟩
  obtain ⟨W1, hW1⟩ : ∃ W1, W1 = ((((W.alloc (.cells #[pv b, pv mb] 53)).alloc (.cells #[.func (.func 72) #[] #[pv bt, pv bs]] 58)).alloc (.cells (opC p) 55)).alloc (.cells #[.bool false] 4)).alloc (.cells #[.int .i64 0] 3) := ⟨_, rfl⟩
  obtain ⟨k0, k1, k2, k3, k4⟩ := five_new W (.cells #[pv b, pv mb] 53) (.cells #[.func (.func 72) #[] #[pv bt, pv bs]] 58) (.cells (opC p) 55) (.cells #[.bool false] 4) (.cells #[.int .i64 0] 3)
  rw [← hW1, ← hq0] at k0 k1 k2 k3 k4
  have t1 : Tch (fun _ => False) W W1 := by rw [hW1]; exact ((((Tch.alloc _ _ _).allocR _).allocR _).allocR _).allocR _
  have s1 : W1.heap.size = q0 + 5 := by rw [hW1, hq0]; simp
  have HK : Hid (W1.heap[q0]? = some (.cells #[pv b, pv mb] 53 (0, 0)) ∧ W1.heap[q0 + 1]? = some (.cells #[.func (.func 72) #[] #[pv bt, pv bs]] 58 (0, 0)) ∧ W1.heap[q0 + 2]? = some (.cells (opC p) 55 (0, 0)) ∧ W1.heap[q0 + 3]? = some (.cells #[.bool false] 4 (0, 0)) ∧ W1.heap[q0 + 4]? = some (.cells #[.int .i64 0] 3 (0, 0)) ∧ W1.heap.size = q0 + 5) := ⟨k0, k1, k2, k3, k4, s1⟩
  have HTW : Hid (TW W1 b l ht F) := hT.tch t1 (fun _ _ h => h)
  have HMW : Hid (MW W1 mb l FM) := hM.tch t1 (fun _ _ h => h)
  have HF : Hid (q0 + 4 ∉ F ∧ q0 + 4 ∉ FM) := ⟨fun h => by have := hT.lt _ h; omega, fun h => by have := hM.lt _ h; omega⟩
  have Hbt : Hid (W1.heap[bt]? = some (.cells #[pv b] 23 (0, 0)) ∧ bt ≠ q0 + 4) := ⟨(t1.block _ (blk_lt hbt) (fun h => h)).trans hbt, by have := blk_lt hbt; omega⟩
  have Hbs : Hid (W1.heap[bs]? = some (.cells #[.string p.s, .string p.t, .bool d] 90 (0, 0)) ∧ bs ≠ q0 + 4) := ⟨(t1.block _ (blk_lt hbs) (fun h => h)).trans hbs, by have := blk_lt hbs; omega⟩
  have Hl : Hid (l.length ≤ 1000000000) := hl
  have HtW : Hid (Tch (fun _ => False) W W1) := t1
  have Hq0 : Hid (q0 = W.heap.size) := hq0
  have HW1 : Hid _ := hW1
  have hfe := feq 72 #[pv bt, pv bs]
  have z0 : W1.cell? ⟨q0 + 1, 0, none⟩ = some (.func (.func 72) #[] #[pv bt, pv bs]) := by rw [blk_cell k1]; rfl
  obtain ⟨pk, hpk⟩ : ∃ pk, pk = p.kind := ⟨_, rfl⟩
  have Hd : Hid (d = decide (p.kind = 5)) := hd
  clear k0 k1 k2 k3 k4 s1 hT hM hl hbt hbs t1 hd hpk pk
  refine (callsIn_wide (n := 9)).1 ?_
  refine callsIn_of_wp_marks Try.func70 rfl trivial ?_ rfl
  simp only [Try.ntmps70, List.size_toArray, List.length_cons, List.length_nil, Nat.reduceAdd, Nat.reduceSub, Array.replicate_succ, Array.replicate_zero, List.push_toArray, List.append_toArray, List.nil_append, List.cons_append]
  refine wpIn_wide.2 ?_
  rw [hW1, hq0] at z0
  clear hW1 hq0
  go_wp2_with fail
  have hw : W1 = ((((W.alloc (.cells #[pv b, pv mb] 53)).alloc (.cells #[.func (.func 72) #[] #[pv bt, pv bs]] 58)).alloc (.cells #[.bool p.other, .int .i64 p.kind, .int .i64 p.n, .string p.s, .string p.t] 55)).alloc (.cells #[.bool false] 4)).alloc (.cells #[.int .i64 0] 3) := HW1.out
  rw [← hw, ← Hq0.out]
  clear hw z0 hfe HW1
  refine (wpIn_wide (n := 9)).1 ?_
  have hse := over1_any (9 - 1) W1 b l ht F bt bs p.s p.t d HTW.out Hbt.out.1 Hbs.out.1
  have hq5 := blk_lt HK.out.2.2.2.2.1
  refine range_l (T := fun k => k = q0 + 4) (Z := fun _ => False) rfl (enters_of Try.func72 (by kernel_rfl) rfl) hse (fun _ => rfl) (fun x hx => ⟨by rw [hx]; exact hq5, fun hy => by
      rcases hy with hy | hy | hy
      · exact HF.out.1 (hx ▸ hy)
      · exact Hbt.out.2 (hy.symm.trans hx)
      · exact Hbs.out.2 (hy.symm.trans hx)⟩) (fun x hx => hx.elim) (fun x hx => by
      rcases hx with hx | rfl | rfl
      · exact HTW.out.lt x hx
      · exact blk_lt Hbt.out.1
      · exact blk_lt Hbs.out.1)
    (fun pre Z' W' => GI W1 (q0 + 4) pre.length Z' W')
    (fun cc pre Z' W' => cc = .exit 0 ∧ GI W1 (q0 + 4) pre.length Z' W')
    ?abI ?abX ?start (fun x => { tmps := #[.agg #[pv b, pv mb], .func (.func 72) #[] #[pv bt, pv bs], opV p, pv q0, pv (q0 + 1), pv (q0 + 1 + 1), pv (q0 + 1 + 1 + 1), pv (q0 + 1 + 1 + 1 + 1), undef, .func (.func 72) #[] #[pv bt, pv bs], .bool false, .func (.func 72) #[] #[pv bt, pv bs], .string x.1, ev x.2, undef, undef, undef, undef, undef, undef, undef, undef, undef, undef, undef, undef, undef, undef, undef, undef], defers := [] }) ?assign ?body ?done ?stop
  case abI =>
    intro pre Z' W' W'' h t
    exact ⟨h.t.trans t (fun i hi hs => by omega), (t.block _ (blk_lt h.n) (fun hs => by omega)).trans h.n, h.z⟩
  case abX =>
    rintro cc pre Z' W' W'' ⟨h1, h⟩ t
    exact ⟨h1, h.t.trans t (fun i hi hs => by omega), (t.block _ (blk_lt h.n) (fun hs => by omega)).trans h.n, h.z⟩
  case start => exact ⟨Tch.refl _ _, HK.out.2.2.2.2.1, fun k h => h⟩
  case assign =>
    intro l' x Wx K hK
    clear hse
    gi_wp2
    simpa [eI] using hK
  case body =>
    intro l' pre x Z' Wb hpre hI
    have keep : ∀ {q : Nat} {ob : Obj}, W1.heap[q]? = some ob → q ≠ q0 + 4 → Wb.heap[q]? = some ob := fun h hne => (hI.t.block _ (blk_lt h) (fun e => hne e)).trans h
    have b0 := keep HK.out.1 (by omega)
    have b1 := keep HK.out.2.1 (by omega)
    have b2 := keep HK.out.2.2.1 (by omega)
    have b4 := hI.n
    obtain ⟨m, hm⟩ : ∃ m, m = pre.length := ⟨_, rfl⟩
    rw [← hm] at b4
    have hTb : TW Wb b l ht F := HTW.out.tch hI.t (fun x hx e => HF.out.1 (e ▸ hx))
    have hMb : MW Wb mb l FM := HMW.out.tch hI.t (fun x hx e => HF.out.2 (e ▸ hx))
    have q := goes_any Wb b mb bt bs l ht F FM p.s p.t d (-1) hTb hMb Hl.out (keep Hbt.out.1 Hbt.out.2) (keep Hbs.out.1 Hbs.out.2)
    have hbd : d = (p.kind == 5) := by rw [Hd.out]; cases hpk : (p.kind == 5) <;> simp_all
    rw [hbd] at q
    clear hbd
    have x0 : Wb.cell? ⟨q0, 0, none⟩ = some (pv b) := by rw [blk_cell b0]; rfl
    have x1 : Wb.cell? ⟨q0, 1, none⟩ = some (pv mb) := by rw [blk_cell b0]; rfl
    have x2 : Wb.cell? ⟨q0 + 1, 0, none⟩ = some (.func (.func 72) #[] #[pv bt, pv bs]) := by rw [blk_cell b1]; rfl
    have x3 : Wb.cell? ⟨q0 + 2, 1, none⟩ = some (.int .i64 p.kind) := by rw [blk_cell b2]; rfl
    have x4 : Wb.cell? ⟨q0 + 2, 3, none⟩ = some (.string p.s) := by rw [blk_cell b2]; rfl
    have x5 : Wb.cell? ⟨q0 + 2, 4, none⟩ = some (.string p.t) := by rw [blk_cell b2]; rfl
    have HN : Hid (∀ W, Tch (fun _ => False) Wb W → W.cell? ⟨q0 + 4, 0, none⟩ = some (.int .i64 m) ∧ W.frozen? ⟨q0 + 4, 0, none⟩ = false) := fun W t => by
      have c5 := (t.block _ (blk_lt b4) (fun h => h)).trans b4
      exact ⟨by rw [blk_cell c5]; rfl, blk_frozen c5 0⟩
    have HEnd : Hid (∀ W, Tch (fun _ => False) Wb W → Lft (fun k => k = q0 + 4) Z' Wb (W.setCell ⟨q0 + 4, 0, none⟩ (.int .i64 ((m : Int) + 1))) (GI W1 (q0 + 4) (m + 1))) := fun W t => by
      have c5 := (t.block _ (blk_lt b4) (fun h => h)).trans b4
      have t9 : Tch (fun k => k = q0 + 4) W (W.setCell ⟨q0 + 4, 0, none⟩ (.int .i64 ((m : Int) + 1))) := Tch.setCell _ _ _ _ rfl
      have tt : Tch (fun k => k = q0 + 4) Wb (W.setCell ⟨q0 + 4, 0, none⟩ (.int .i64 ((m : Int) + 1))) := (t.mono (fun _ _ h => h.elim)).trans' t9
      refine ⟨fun _ => False, fun k hk => hk.elim, tt.mono (fun _ _ h => .inl h), hI.t.trans' tt, ?_, fun k h => h⟩
      have := blk_set (i := 0) c5 (.int .i64 ((m : Int) + 1))
      rw [show ((m + 1 : Nat) : Int) = (m : Int) + 1 by omega]
      exact this
    have Hlen : Hid ((pre ++ [x]).length = m + 1) := by show _ = _; rw [List.length_append, ← hm]; rfl
    have hmI : (m : Int) < 1000000000 := by
      have h8 := hpre.length_le
      have h9 : (wlk p.s p.t d l).length ≤ l.length := by
        unfold wlk fall sp
        cases d
        · simp only [Bool.false_eq_true, if_false]; exact List.length_filter_le _ _
        · simp only [if_true]; rw [List.length_reverse]; exact List.length_filter_le _ _
      have := Hl.out
      rw [List.length_append] at h8
      simp at h8
      omega
    clear keep b0 b1 b2 b4 hTb hMb hI hse hm hpre
    gi_wp2_with fail
    refine ⟨trivial, (CallsIn.inRound l' (callsIn_wide.2 q)).mono ?_⟩
    clear q x0 x1 x2 x3 x4 x5
    rintro y w2 ⟨rfl, t2⟩
    obtain ⟨x6, x7⟩ := HN.out w2 t2
    have hEnd := HEnd.out w2 t2
    have HE2 : Hid _ := hEnd
    have x9 : (w2.setCell ⟨q0 + 4, 0, none⟩ (.int .i64 ((m : Int) + 1))).cell? ⟨q0 + 4, 0, none⟩ = some (.int .i64 ((m : Int) + 1)) := World.cell?_setCell_same' _ _ _ (by rw [x6]; rfl)
    clear hEnd t2
    by_cases hmo : (m : Int) + 1 = 2
    · have hmo' : ((m : Int) + 1 == 2) = true := by rw [hmo]; rfl
      clear hmo
      gi_wp2_with fail
      obtain ⟨Z3, e1, e2, e3⟩ := HE2.out
      exact ⟨Z3, e1, e2, rfl, by rw [Hlen.out]; exact e3⟩
    · have hmo' : ((m : Int) + 1 == 2) = false := beq_eq_false_iff_ne.2 hmo
      gi_wp2_with fail
      obtain ⟨Z3, e1, e2, e3⟩ := HE2.out
      exact ⟨Z3, e1, e2, by show GI W1 (q0 + 4) (pre ++ [x]).length _ _; rw [Hlen.out]; exact e3⟩
  case done =>
    intro D Z' W2 hD hzD hI hdm
    have keep : ∀ {q : Nat} {ob : Obj}, W1.heap[q]? = some ob → q ≠ q0 + 4 → W2.heap[q]? = some ob := fun h hne => (hI.t.block _ (blk_lt h) (fun e => hne e)).trans h
    have z3 : W2.cell? ⟨q0 + 3, 0, none⟩ = some (.bool false) := by rw [blk_cell (keep HK.out.2.2.2.1 (by omega))]; rfl
    have z4 : W2.frozen? ⟨q0 + 3, 0, none⟩ = false := blk_frozen (keep HK.out.2.2.2.1 (by omega)) 0
    have HFin : Hid (∀ {fn : Func} {tmps : Array Value}, fn.results = #[.cell 6 4] → tmps[6]?.getD undef = pv (q0 + 3) → LeavesInM Fence.wide 9 Try.prog fn tmps (fun x w' => x = .returned (.bool true) ∧ Tch (fun _ => False) W w') [mkD D] .returning (W2.setCell ⟨q0 + 3, 0, none⟩ (.bool true))) := fun {fn} {tmps} h1 h2 => by
      refine leaves_marks [D] _ (fun y hy => ?_) (by simp) (fun W' tt => ?_)
      · rw [List.mem_singleton.1 hy, Below.heap_setCell _ _ _ _ (by show D ≠ q0 + 3; have := HK.out.2.2.2.2.2; omega)]
        exact hdm
      · have hc : (W2.setCell ⟨q0 + 3, 0, none⟩ (.bool true)).cell? ⟨q0 + 3, 0, none⟩ = some (.bool true) := World.cell?_setCell_same' _ _ _ (by rw [z3]; rfl)
        refine ⟨.bool true, res_cell h1 h2 ((tt.cell (p := ⟨q0 + 3, 0, none⟩) (cell_lt hc) (fun hm => by have h' : q0 + 3 = D := List.mem_singleton.1 hm; have := HK.out.2.2.2.2.2; omega)).trans hc), rfl, ?_⟩
        have h9 : Tch (fun k => q0 ≤ k) W1 W' := ((hI.t.mono (fun i _ h => by omega)).trans' (Tch.setCell (fun k => q0 ≤ k) W2 ⟨q0 + 3, 0, none⟩ (.bool true) (by show q0 ≤ q0 + 3; omega))).trans' (tt.mono (fun i _ h => by have h' : i = D := List.mem_singleton.1 h; have := HK.out.2.2.2.2.2; omega))
        exact HtW.out.trans h9 (fun i hi h => by have := Hq0.out; omega)
    clear keep
    go_wp2_with fail
    exact HFin.out rs_with rfl
  case stop =>
    rintro D cc pre Z' W2 hD hzD hpre ⟨rfl, hI⟩ hdm
    have keep : ∀ {q : Nat} {ob : Obj}, W1.heap[q]? = some ob → q ≠ q0 + 4 → W2.heap[q]? = some ob := fun h hne => (hI.t.block _ (blk_lt h) (fun e => hne e)).trans h
    have z3 : W2.cell? ⟨q0 + 3, 0, none⟩ = some (.bool false) := by rw [blk_cell (keep HK.out.2.2.2.1 (by omega))]; rfl
    have z4 : W2.frozen? ⟨q0 + 3, 0, none⟩ = false := blk_frozen (keep HK.out.2.2.2.1 (by omega)) 0
    have HFin : Hid (∀ {fn : Func} {tmps : Array Value}, fn.results = #[.cell 6 4] → tmps[6]?.getD undef = pv (q0 + 3) → LeavesInM Fence.wide 9 Try.prog fn tmps (fun x w' => x = .returned (.bool true) ∧ Tch (fun _ => False) W w') [mkD D] .returning (W2.setCell ⟨q0 + 3, 0, none⟩ (.bool true))) := fun {fn} {tmps} h1 h2 => by
      refine leaves_marks [D] _ (fun y hy => ?_) (by simp) (fun W' tt => ?_)
      · rw [List.mem_singleton.1 hy, Below.heap_setCell _ _ _ _ (by show D ≠ q0 + 3; have := HK.out.2.2.2.2.2; omega)]
        exact hdm
      · have hc : (W2.setCell ⟨q0 + 3, 0, none⟩ (.bool true)).cell? ⟨q0 + 3, 0, none⟩ = some (.bool true) := World.cell?_setCell_same' _ _ _ (by rw [z3]; rfl)
        refine ⟨.bool true, res_cell h1 h2 ((tt.cell (p := ⟨q0 + 3, 0, none⟩) (cell_lt hc) (fun hm => by have h' : q0 + 3 = D := List.mem_singleton.1 hm; have := HK.out.2.2.2.2.2; omega)).trans hc), rfl, ?_⟩
        have h9 : Tch (fun k => q0 ≤ k) W1 W' := ((hI.t.mono (fun i _ h => by omega)).trans' (Tch.setCell (fun k => q0 ≤ k) W2 ⟨q0 + 3, 0, none⟩ (.bool true) (by show q0 ≤ q0 + 3; omega))).trans' (tt.mono (fun i _ h => by have h' : i = D := List.mem_singleton.1 h; have := HK.out.2.2.2.2.2; omega))
        exact HtW.out.trans h9 (fun i hi h => by have := Hq0.out; omega)
    clear keep
    gi_wp2
    go_wp2_with fail
    refine HFin.out rs_with ?_
    rfl
end Go.Proofs.Ytnjiiebjdpipjaa
