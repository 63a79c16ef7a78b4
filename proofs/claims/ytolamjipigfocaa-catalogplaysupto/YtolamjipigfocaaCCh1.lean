import Derived.Test.YtolamjipigfocaaCPuts
import Derived.Test.YtolamjipigfocaaFloO
/- A step of a pair: Create. -/
namespace Go.Proofs.Ytolamjipigfocaa
open Go.RowKit Go

set_option maxHeartbeats 2000000 in
set_option maxRecDepth 100000 in
theorem chg_1 (w : World) (o : Nat → Nat) (Z : Nat → Prop) (b n k cb rb : Nat) (L : List Tbl) (gv : Int) (p : Opv) (be : BE w o b n) (pr : PR w o k cb rb L gv) (az : AZ Z w o) (ok : p.ok Z w) (hk : 20 ≤ k) (hn : n ≤ 80000000) (hkd : p.kd = 1) :
    Calls Try.prog 7 #[.agg #[.pointer (some ⟨cb, 0, none⟩), .pointer (some ⟨rb, 0, none⟩)], .pointer (some ⟨b, 0, none⟩), .agg #[.int .i64 p.kd, .int .i64 p.on, .int .i64 p.N, .string p.nm, .slice p.ca p.cols.length p.cc, .int .i64 p.T.id, .int .i64 p.T.ver, .string p.T.nm, .slice p.ta p.T.cols.length p.tc, .int .i64 p.T.key, .slice p.lo p.l.length p.lc, .slice p.ro p.vs.length p.rc]] w fun x w' => x = .returned (.bool true) ∧ StOut w o b n k cb rb w' := by
  obtain ⟨N, hN⟩ : ∃ N, N = w.heap.size := ⟨_, rfl⟩
  obtain ⟨w0, hw0⟩ : ∃ w0, w0 = (w.alloc (.cells #[.pointer (some ⟨cb, 0, none⟩), .pointer (some ⟨rb, 0, none⟩)] 28)).alloc (.cells #[.int .i64 p.kd, .int .i64 p.on, .int .i64 p.N, .string p.nm, .slice p.ca p.cols.length p.cc, .int .i64 p.T.id, .int .i64 p.T.ver, .string p.T.nm, .slice p.ta p.T.cols.length p.tc, .int .i64 p.T.key, .slice p.lo p.l.length p.lc, .slice p.ro p.vs.length p.rc] 45) := ⟨_, rfl⟩
  have HP0 : Hid (∃ o', PQ w o Z b n k cb rb N p w0 o' L gv L gv) := ⟨_, by rw [hN]; exact PQ.begin be pr az ok hk w0 hw0⟩
  have Hgi : Hid (GI L gv) := pr.gi
  have _un := hn
  clear _un
  obtain ⟨R, hR⟩ : ∃ R, R = creR L gv p.nm p.cols p.N := ⟨_, rfl⟩
  have Hok : Hid R.ok := by rw [hR]; exact creR_ok pr.gi p.nm p.cols p.N
  have hR8 := Hok.out.c8
  have hz0 : w0.heap.size = N + 2 := by rw [hw0, World.size_alloc, World.size_alloc, hN]
  have hlC := ok.lC
  have q0 : Calls Try.prog 16 #[.slice p.ca p.cols.length p.cc] w0 fun x W => x = .returned (.slice (some ⟨N + 2, 0, none⟩) ((p.cols.length + 2 : Nat)) (p.cols.length + 2)) ∧ ∃ o', PQ w o Z b n k cb rb N p W o' L gv L gv ∧ (W.heap[N + 2]? = some (.cells (ccl (lentC p.cols)).toArray 43 (0, 0)) ∧ o' (N + 2) = 4) := by
    obtain ⟨o', q⟩ := HP0.out
    have h1 := lent_any p.cols p.ca p.cc w0 q.ok.hC.sl (fun e => (q.ok.nC e).2) (by omega)
    rw [hz0] at h1
    refine h1.mono ?_
    rintro x W ⟨rfl, hA, t⟩
    exact ⟨rfl, _, q.no t hk, hA, if_neg (by omega)⟩
  obtain ⟨C, hC⟩ : ∃ C : List Value → Option Value → World → Prop, C = fun s pp W => ∃ o', (W.heap[N + 2]? = some (.cells (ccl (lentC p.cols)).toArray 43 (0, 0)) ∧ o' (N + 2) = 4) ∧ (∀ v, pp = some v → ∃ mb xs, v = .pointer (some ⟨mb, 0, none⟩) ∧ xs.size = 5 ∧ Bx W o' mb xs 36) ∧ match s with
    | [] => PQ w o Z b n k cb rb N p W o' L gv L gv
    | [y] => PQ w o Z b n k cb rb N p W o' R.L R.g L gv ∧ ∃ v, (∃ ao c, v = .slice ao R.t.cols.length c) ∧ y = (.tuple #[tA R.t.id R.t.ver R.t.nm v R.t.key, .int .i64 R.E]) ∧ RowC W o' 15 v R.t.cols
    | [y, _] => PQ w o Z b n k cb rb N p W o' R.L R.g L gv ∧ ∃ v mb, y = (.tuple #[tA R.t.id R.t.ver R.t.nm v R.t.key, .int .i64 R.E]) ∧ pp = some (.pointer (some ⟨mb, 0, none⟩)) ∧ Hd W o' 15 R.t v mb
    | _ => False := ⟨_, rfl⟩
  have hK : ∀ s pp W, C s pp W → W.cell? ⟨N, 0, none⟩ = some (.pointer (some ⟨cb, 0, none⟩)) ∧ W.cell? ⟨N, 1, none⟩ = some (.pointer (some ⟨rb, 0, none⟩)) ∧ W.cell? ⟨N + 1, 0, none⟩ = some (.int .i64 p.kd) ∧ W.cell? ⟨N + 1, 2, none⟩ = some (.int .i64 p.N) ∧ W.cell? ⟨N + 1, 3, none⟩ = some (.string p.nm) ∧ W.cell? ⟨N + 1, 4, none⟩ = some (.slice p.ca p.cols.length p.cc) := fun s pp W h => by
    rw [hC] at h
    obtain ⟨o', h1, h2, h3⟩ := h
    rcases s with _ | ⟨y, _ | ⟨z, _ | ⟨u, s⟩⟩⟩
    · have q := h3
      exact ⟨q.c0, q.c1, q.op 0 _ rfl, q.op 2 _ rfl, q.op 3 _ rfl, q.op 4 _ rfl⟩
    · obtain ⟨q, _⟩ := h3
      exact ⟨q.c0, q.c1, q.op 0 _ rfl, q.op 2 _ rfl, q.op 3 _ rfl, q.op 4 _ rfl⟩
    · obtain ⟨q, _⟩ := h3
      exact ⟨q.c0, q.c1, q.op 0 _ rfl, q.op 2 _ rfl, q.op 3 _ rfl, q.op 4 _ rfl⟩
    · exact h3.elim
  have hlb : ∀ (W W' : World) (o' o'' : Nat → Nat) (K : Nat → Prop), (W.heap[N + 2]? = some (.cells (ccl (lentC p.cols)).toArray 43 (0, 0)) ∧ o' (N + 2) = 4) → Ev K W o' W' o'' → ¬ K 4 → (W'.heap[N + 2]? = some (.cells (ccl (lentC p.cols)).toArray 43 (0, 0)) ∧ o'' (N + 2) = 4) := fun W W' o' o'' K h e h4 => by
    have hl := blk_lt h.1
    exact ⟨by rw [e.tch.block _ hl (by rw [h.2]; exact h4)]; exact h.1, by rw [e.old _ hl (by rw [h.2]; exact h4), h.2]⟩
  have hbx : ∀ (W W' : World) (o' o'' : Nat → Nat) (K : Nat → Prop) (pp : Option Value), (∀ v, pp = some v → ∃ mb xs, v = .pointer (some ⟨mb, 0, none⟩) ∧ xs.size = 5 ∧ Bx W o' mb xs 36) → Ev K W o' W' o'' → ¬ K 5 → (∀ v, pp = some v → ∃ mb xs, v = .pointer (some ⟨mb, 0, none⟩) ∧ xs.size = 5 ∧ Bx W' o'' mb xs 36) := fun W W' o' o'' K pp h e h5 v hv => by
    obtain ⟨mb, xs, e1, e2, e3⟩ := h v hv
    exact ⟨mb, xs, e1, e2, e3.ev e h5⟩
  have hFl : ∀ s (W : World), C s none W → C s (some (.pointer (some ⟨W.heap.size, 0, none⟩))) (W.alloc (.cells #[.int .i64 0, .int .i64 0, .string ⟨#[]⟩, .slice none 0 0, .int .i64 0] 36)) := fun s W h => by
    rw [hC] at h ⊢
    obtain ⟨o', h1, h2, h3⟩ := h
    have t : Tch (fun _ => False) W (W.alloc (.cells #[.int .i64 0, .int .i64 0, .string ⟨#[]⟩, .slice none 0 0, .int .i64 0] 36)) := Tch.alloc _ _ _
    have e := Ev.quiet (o := o') 5 t
    have hl := blk_lt h1.1
    refine ⟨ext W o' 5, ?_, ?_, ?_⟩
    · refine ⟨by rw [t.block _ hl (fun h => h)]; exact h1.1, ?_⟩
      show ext W o' 5 (N + 2) = 4
      unfold ext; rw [if_pos hl]; exact h1.2
    · intro v hv
      injection hv with hv
      exact ⟨W.heap.size, _, hv.symm, rfl, alloc_new _ _, if_neg (by omega)⟩
    · rcases s with _ | ⟨y, _ | ⟨z, _ | ⟨u, s⟩⟩⟩
      · exact h3.quiet t hk 5 (by omega)
      · obtain ⟨q, v, h4, h5, h6⟩ := h3
        exact ⟨q.quiet t hk 5 (by omega), v, h4, h5, h6.ev e (by omega)⟩
      · obtain ⟨q, v, mb, _, h6, _⟩ := h3
        cases h6
      · exact h3.elim
  have H0 : ∀ W, (∃ o', PQ w o Z b n k cb rb N p W o' L gv L gv ∧ (W.heap[N + 2]? = some (.cells (ccl (lentC p.cols)).toArray 43 (0, 0)) ∧ o' (N + 2) = 4)) → C [] none W.drew := fun W h => by
    rw [hC]
    obtain ⟨o', q, h1⟩ := h
    have t : Tch (fun _ => False) W W.drew := (Tch.refl _ _).drew
    have hl := blk_lt h1.1
    refine ⟨ext W o' 5, ⟨by rw [t.block _ hl (fun h => h)]; exact h1.1, ?_⟩, (fun v hv => by cases hv), q.quiet t hk 5 (by omega)⟩
    show ext W o' 5 (N + 2) = 4
    unfold ext; rw [if_pos hl]; exact h1.2
  have hcall : ∀ pp W, C [] pp W → Calls Try.prog 17 #[.pointer (some ⟨cb, 0, none⟩), .string p.nm, .slice (some ⟨N + 2, 0, none⟩) p.cols.length (p.cols.length + 2), .int .i64 p.N] W fun x w' => ∃ y, x = .returned y ∧ C [y] pp w' := fun pp W h => by
    rw [hC] at h
    obtain ⟨o', h1, h2, q⟩ := h
    have h9 : ∀ g o2, some (⟨N + 2, 0, none⟩ : Addr) = some ⟨g, o2, none⟩ → p.cols ≠ [] → g ≠ cb := fun g o2 e _ e2 => by
      have e3 : N + 2 = g := by simpa using congrArg (fun z : Option Addr => (z.map (·.block)).getD 0) e
      obtain ⟨P', to', tc', hca⟩ := q.cf
      have h1' := hca.ob
      rw [← e2, ← e3, h1.2] at h1'
      omega
    refine (create_x (kv := 15) q.cf Hgi.out (by omega) p.nm p.cols (some ⟨N + 2, 0, none⟩) (p.cols.length + 2) p.N (lent_sl h1.1) (fun e => by cases e) (by omega) (by omega) h9).mono ?_
    rintro x W' ⟨o2, v, hx, hc, hrow, e⟩
    rw [← hR] at hx hc hrow
    obtain ⟨ao, c, hv⟩ := hrow.slice
    refine ⟨_, hx, ?_⟩
    rw [hC]
    exact ⟨o2, hlb _ _ _ _ _ h1 e (by omega), hbx _ _ _ _ _ _ h2 e (by omega), q.code hc e hk (by omega), v, ⟨ao, c, hv⟩, rfl, hrow⟩
  have hshp : ∀ y pp W, C [y] pp W → ∃ ao c, y = .tuple #[tA R.t.id R.t.ver R.t.nm (.slice ao R.t.cols.length c) R.t.key, .int .i64 R.E] := fun y pp W h => by
    rw [hC] at h
    obtain ⟨o', _, _, _, v, ⟨ao, c, hv⟩, hy, _⟩ := h
    exact ⟨ao, c, by rw [hy, hv]⟩
  have hptr : ∀ s v W, C s (some v) W → ∃ mb, v = .pointer (some ⟨mb, 0, none⟩) := fun s v W h => by
    rw [hC] at h
    obtain ⟨o', _, h2, _⟩ := h
    obtain ⟨mb, _, e, _⟩ := h2 v rfl
    exact ⟨mb, e⟩
  have hst : ∀ ao c z mb (W : World), C [.tuple #[tA R.t.id R.t.ver R.t.nm (.slice ao R.t.cols.length c) R.t.key, .int .i64 R.E]] (some (.pointer (some ⟨mb, 0, none⟩))) W → ((∃ u, W.cell? ⟨mb, 0, none⟩ = some u) ∧ (∃ u, W.cell? ⟨mb, 1, none⟩ = some u) ∧ (∃ u, W.cell? ⟨mb, 2, none⟩ = some u) ∧ (∃ u, W.cell? ⟨mb, 3, none⟩ = some u) ∧ (∃ u, W.cell? ⟨mb, 4, none⟩ = some u)) ∧ (∀ j, W.frozen? ⟨mb, j, none⟩ = false) ∧ C [.tuple #[tA R.t.id R.t.ver R.t.nm (.slice ao R.t.cols.length c) R.t.key, .int .i64 R.E], z] (some (.pointer (some ⟨mb, 0, none⟩))) (((((W.setCell ⟨mb, 0, none⟩ (.int .i64 R.t.id)).setCell ⟨mb, 1, none⟩ (.int .i64 R.t.ver)).setCell ⟨mb, 2, none⟩ (.string R.t.nm)).setCell ⟨mb, 3, none⟩ (.slice ao R.t.cols.length c)).setCell ⟨mb, 4, none⟩ (.int .i64 R.t.key)) := fun ao c z mb W h => by
    rw [hC] at h
    obtain ⟨o', h1, h2, q, v, _, hy, hrow⟩ := h
    obtain ⟨mb', xs, e, h7, h8⟩ := h2 _ rfl
    injection e with e; injection e with e; injection e with e
    subst e
    have hvv : v = .slice ao R.t.cols.length c := by
      injection hy with hy
      have h9 := congrArg (fun a : Array Value => a[0]?) hy
      simp only [List.getElem?_toArray, List.getElem?_cons_zero, Option.some.injEq, tA, Value.agg.injEq] at h9
      have h10 := congrArg (fun a : Array Value => a[3]?) h9
      simpa using h10.symm
    subst hvv
    have hb8 := h8.bx
    have hc : ∀ j, j < 5 → ∃ u, W.cell? ⟨mb, j, none⟩ = some u := fun j hj => ⟨xs[j]'(by omega), by rw [blk_cell hb8]; exact Array.getElem?_eq_getElem _⟩
    refine ⟨⟨hc 0 (by omega), hc 1 (by omega), hc 2 (by omega), hc 3 (by omega), hc 4 (by omega)⟩, fun j => blk_frozen hb8 j, ?_⟩
    rw [hC]
    have tE : Tch (fun i => i = mb) W (((((W.setCell ⟨mb, 0, none⟩ (.int .i64 R.t.id)).setCell ⟨mb, 1, none⟩ (.int .i64 R.t.ver)).setCell ⟨mb, 2, none⟩ (.string R.t.nm)).setCell ⟨mb, 3, none⟩ (.slice ao R.t.cols.length c)).setCell ⟨mb, 4, none⟩ (.int .i64 R.t.key)) := ((((Tch.setCell (fun i => i = mb) W ⟨mb, 0, none⟩ _ rfl).setCellR ⟨mb, 1, none⟩ _ rfl).setCellR ⟨mb, 2, none⟩ _ rfl).setCellR ⟨mb, 3, none⟩ _ rfl).setCellR ⟨mb, 4, none⟩ _ rfl
    have a1 := blk_set (i := 0) hb8 (.int .i64 R.t.id)
    have a2 := blk_set (i := 1) a1 (.int .i64 R.t.ver)
    have a3 := blk_set (i := 2) a2 (.string R.t.nm)
    have a4 := blk_set (i := 3) a3 (.slice ao R.t.cols.length c)
    have a5 := blk_set (i := 4) a4 (.int .i64 R.t.key)
    have hxs : ((((xs.setIfInBounds 0 (.int .i64 R.t.id)).setIfInBounds 1 (.int .i64 R.t.ver)).setIfInBounds 2 (.string R.t.nm)).setIfInBounds 3 (.slice ao R.t.cols.length c)).setIfInBounds 4 (.int .i64 R.t.key) = #[.int .i64 R.t.id, .int .i64 R.t.ver, .string R.t.nm, .slice ao R.t.cols.length c, .int .i64 R.t.key] := by
      obtain ⟨xl⟩ := xs
      match xl, h7 with
      | [x0, x1, x2, x3, x4], _ => rfl
    rw [hxs] at a5
    obtain ⟨W', hW'⟩ : ∃ W', W' = (((((W.setCell ⟨mb, 0, none⟩ (.int .i64 R.t.id)).setCell ⟨mb, 1, none⟩ (.int .i64 R.t.ver)).setCell ⟨mb, 2, none⟩ (.string R.t.nm)).setCell ⟨mb, 3, none⟩ (.slice ao R.t.cols.length c)).setCell ⟨mb, 4, none⟩ (.int .i64 R.t.key)) := ⟨_, rfl⟩
    rw [← hW'] at tE a5 ⊢
    have e5 : Ev (fun j => j = 5) W o' W' (ext W o' 5) := Ev.own1 tE (fun i _ hi => by rw [show i = mb from hi]; exact h8.lb)
    have hl5 : ext W o' 5 mb = 5 := by unfold ext; rw [if_pos (blk_lt hb8)]; exact h8.lb
    have hNe : ∀ j, o' j = 5 → W.heap.size ≤ j ∨ ext W o' 5 j = 5 := fun j hj => by
      by_cases hjs : j < W.heap.size
      · right; unfold ext; rw [if_pos hjs]; exact hj
      · left; omega
    have hn1 : N ≠ mb := fun e => by
      have h11 := q.x1
      rw [e, hb8] at h11
      injection h11 with h11; injection h11 with h11 _
      rw [h11] at h7
      simp at h7
    have hn2 : N + 1 ≠ mb := fun e => by
      have h11 := q.x2
      rw [e, hb8] at h11
      injection h11 with h11; injection h11 with h11 _
      rw [h11] at h7
      simp [Opv.cel] at h7
    obtain ⟨az1, az2⟩ := q.az.ev e5 (by omega)
    refine ⟨ext W o' 5, hlb _ _ _ _ _ h1 e5 (by omega), ?_, ⟨q.be.ev e5 (fun j _ _ => by omega), q.cf.ev e5 (by omega), q.rf.ev e5 (by omega), az1, q.ok.tch az2, q.ev.trans (e5.mono (fun j hj => by unfold KS; omega)), ?_, ?_, ?_, ?_⟩, _, mb, rfl, rfl, hrow.ev e5 (by omega), a5, hl5⟩
    · intro v hv
      injection hv with hv
      exact ⟨mb, _, hv.symm, rfl, a5, hl5⟩
    · rw [tE.block N (blk_lt q.x1) hn1]; exact q.x1
    · rw [tE.block (N + 1) (blk_lt q.x2) hn2]; exact q.x2
    · show ext W o' 5 N = 5
      unfold ext; rw [if_pos (blk_lt q.x1)]; exact q.l1
    · show ext W o' 5 (N + 1) = 5
      unfold ext; rw [if_pos (blk_lt q.x2)]; exact q.l2
  have HEND : Hid (∀ ao c z mb W, C [.tuple #[tA R.t.id R.t.ver R.t.nm (.slice ao R.t.cols.length c) R.t.key, .int .i64 R.E], z] (some (.pointer (some ⟨mb, 0, none⟩))) W → ∃ o', PQ w o Z b n k cb rb N p W o' R.L R.g L gv ∧ (W.heap[N + 2]? = some (.cells (ccl (lentC p.cols)).toArray 43 (0, 0)) ∧ o' (N + 2) = 4) ∧ Hd W o' 15 R.t (.slice ao R.t.cols.length c) mb) := fun ao c z mb W h => by
    rw [hC] at h
    obtain ⟨o', h1, h2, q, v, mb', hy, hp, hd⟩ := h
    have hvv : v = .slice ao R.t.cols.length c := by
      injection hy with hy
      have h9 := congrArg (fun a : Array Value => a[0]?) hy
      simp only [List.getElem?_toArray, List.getElem?_cons_zero, Option.some.injEq, tA, Value.agg.injEq] at h9
      have h10 := congrArg (fun a : Array Value => a[3]?) h9
      simpa using h10.symm
    injection hp with hp; injection hp with hp; injection hp with hp; injection hp with hp
    subst hvv hp
    exact ⟨o', q, h1, hd⟩
  -- back
  have Hb : Hid (∀ v mb W, (∃ o', PQ w o Z b n k cb rb N p W o' R.L R.g L gv ∧ (W.heap[N + 2]? = some (.cells (ccl (lentC p.cols)).toArray 43 (0, 0)) ∧ o' (N + 2) = 4) ∧ Hd W o' 15 R.t v mb) → Calls Try.prog 18 #[.slice (some ⟨N + 2, 0, none⟩) (p.cols.length + 2) (p.cols.length + 2), .slice p.ca p.cols.length p.cc] W fun x W' => x = .returned (.bool true) ∧ ∃ o', PQ w o Z b n k cb rb N p W' o' R.L R.g L gv ∧ Hd W' o' 15 R.t v mb) := fun v mb W h => by
    obtain ⟨o', q, h1, hd⟩ := h
    refine (back_any p.cols p.ca p.cc (N + 2) W q.ok.hC.sl h1.1 (by omega)).mono ?_
    rintro x W' ⟨rfl, t'⟩
    have e : Ev (fun j => j = 4) W o' W' (ext W o' 4) := Ev.own1 t' (fun i _ hi => by rw [show i = N + 2 from hi]; exact h1.2)
    exact ⟨rfl, _, q.ev1 e (fun _ hj => Or.inl hj) hk, hd.ev e (by omega) (by omega)⟩
  have Hq1 : Hid (∀ v0 B0 W, (∃ o', PQ w o Z b n k cb rb N p W o' R.L R.g L gv ∧ Hd W o' 15 R.t v0 B0) → Calls Try.prog 19 #[.pointer (some ⟨rb, 0, none⟩), .string p.nm, .slice p.ca p.cols.length p.cc, .int .i64 p.N] W fun x W' => ∃ v, x = .returned (.tuple #[tA R.t.id R.t.ver R.t.nm v R.t.key, .int .i64 R.E]) ∧ (∃ ao c, v = .slice ao R.t.cols.length c) ∧ ∃ o', PQ w o Z b n k cb rb N p (W'.alloc (.cells #[.int .i64 R.t.id, .int .i64 R.t.ver, .string R.t.nm, v, .int .i64 R.t.key] 36)) o' R.L R.g R.L R.g ∧ Hd (W'.alloc (.cells #[.int .i64 R.t.id, .int .i64 R.t.ver, .string R.t.nm, v, .int .i64 R.t.key] 36)) o' 15 R.t v0 B0 ∧ Hd (W'.alloc (.cells #[.int .i64 R.t.id, .int .i64 R.t.ver, .string R.t.nm, v, .int .i64 R.t.key] 36)) o' 16 R.t v W'.heap.size) := fun v0 B0 W hW => by
    obtain ⟨o', q, g0⟩ := hW
    refine (rcreate_x (kv := 16) q.rf Hgi.out (by omega) p.nm p.cols p.ca p.cc p.N q.ok.hC.sl q.ok.nC).mono ?_
    rintro x W' ⟨o2, v, hx, hc, hrow, e⟩
    rw [← hR] at hx hc hrow
    obtain ⟨ao, c, hv⟩ := hrow.slice
    exact ⟨v, hx, ⟨ao, c, hv⟩, _, (q.doc hc e hk (by omega)).quiet (Tch.alloc _ _ _) hk 5 (by omega), (g0.ev e (by omega) (by omega)).quiet (Tch.alloc _ _ _) 5 (by omega), Hd.new hrow (by omega)⟩
  have Ht : Hid (∀ v0 B0 v1 B1 W, (∃ o', PQ w o Z b n k cb rb N p W o' R.L R.g R.L R.g ∧ Hd W o' 15 R.t v0 B0 ∧ Hd W o' 16 R.t v1 B1) → Calls Try.prog 20 #[.pointer (some ⟨b, 0, none⟩), tA R.t.id R.t.ver R.t.nm v0 R.t.key, .int .i64 R.E, tA R.t.id R.t.ver R.t.nm v1 R.t.key, .int .i64 R.E] W fun x W' => x = .returned (.bool true) ∧ StOut w o b n k cb rb W') := fun v0 _ v1 _ W hW => by
    obtain ⟨o', q, g0, g1⟩ := hW
    refine (told_any W o' b n q.be (by omega) R.t v0 v1 R.E 15 16 g0.row g1.row hR8 (by omega)).mono ?_
    rintro x W' ⟨rfl, o2, hb, e⟩
    exact ⟨rfl, (q.book hb e (fun j hj => by omega) hk).out Hok.out.gi (by omega)⟩
  have Hx : Hid (∀ v0 B0 v1 B1 W, (∃ o', PQ w o Z b n k cb rb N p W o' R.L R.g R.L R.g ∧ Hd W o' 15 R.t v0 B0 ∧ Hd W o' 16 R.t v1 B1) → (W.cell? ⟨B0, 0, none⟩ = some (.int .i64 R.t.id) ∧ W.cell? ⟨B0, 1, none⟩ = some (.int .i64 R.t.ver) ∧ W.cell? ⟨B0, 2, none⟩ = some (.string R.t.nm) ∧ W.cell? ⟨B0, 3, none⟩ = some v0 ∧ W.cell? ⟨B0, 4, none⟩ = some (.int .i64 R.t.key)) ∧ (W.cell? ⟨B1, 0, none⟩ = some (.int .i64 R.t.id) ∧ W.cell? ⟨B1, 1, none⟩ = some (.int .i64 R.t.ver) ∧ W.cell? ⟨B1, 2, none⟩ = some (.string R.t.nm) ∧ W.cell? ⟨B1, 3, none⟩ = some v1 ∧ W.cell? ⟨B1, 4, none⟩ = some (.int .i64 R.t.key))) := fun _ _ _ _ W hW => by
    obtain ⟨o', q, g0, g1⟩ := hW
    exact ⟨g0.cells, g1.cells⟩
  have Hc2 : Hid (∀ v mb W, (∃ o', PQ w o Z b n k cb rb N p W o' R.L R.g L gv ∧ (W.heap[N + 2]? = some (.cells (ccl (lentC p.cols)).toArray 43 (0, 0)) ∧ o' (N + 2) = 4) ∧ Hd W o' 15 R.t v mb) → W.cell? ⟨N + 1, 4, none⟩ = some (.slice p.ca p.cols.length p.cc)) := fun _ _ W hW => by
    obtain ⟨o', q, _⟩ := hW
    exact q.op 4 _ rfl
  have Hc3 : Hid (∀ v mb W, (∃ o', PQ w o Z b n k cb rb N p W o' R.L R.g L gv ∧ Hd W o' 15 R.t v mb) → W.cell? ⟨N, 0, none⟩ = some (.pointer (some ⟨cb, 0, none⟩)) ∧ W.cell? ⟨N, 1, none⟩ = some (.pointer (some ⟨rb, 0, none⟩)) ∧ W.cell? ⟨N + 1, 0, none⟩ = some (.int .i64 p.kd) ∧ W.cell? ⟨N + 1, 2, none⟩ = some (.int .i64 p.N) ∧ W.cell? ⟨N + 1, 3, none⟩ = some (.string p.nm) ∧ W.cell? ⟨N + 1, 4, none⟩ = some (.slice p.ca p.cols.length p.cc)) := fun _ _ W hW => by
    obtain ⟨o', q, _⟩ := hW
    exact ⟨q.c0, q.c1, q.op 0 _ rfl, q.op 2 _ rfl, q.op 3 _ rfl, q.op 4 _ rfl⟩
  have Hw0 : Hid _ := hw0
  have HN : Hid (N = w.heap.size) := hN
  have Hf0 : Hid (w0.cell? ⟨N, 0, none⟩ = some (.pointer (some ⟨cb, 0, none⟩)) ∧ w0.cell? ⟨N, 1, none⟩ = some (.pointer (some ⟨rb, 0, none⟩)) ∧ w0.cell? ⟨N + 1, 0, none⟩ = some (.int .i64 p.kd) ∧ w0.cell? ⟨N + 1, 2, none⟩ = some (.int .i64 p.N) ∧ w0.cell? ⟨N + 1, 3, none⟩ = some (.string p.nm) ∧ w0.cell? ⟨N + 1, 4, none⟩ = some (.slice p.ca p.cols.length p.cc)) := by
    obtain ⟨o', q⟩ := HP0.out
    exact ⟨q.c0, q.c1, q.op 0 _ rfl, q.op 2 _ rfl, q.op 3 _ rfl, q.op 4 _ rfl⟩
  obtain ⟨c0, c1, o0, o2, o3, o4⟩ := Hf0.out
  have kk1 : (p.kd == 1) = true := by rw [hkd]; decide
  rw [hw0, hN] at c0 c1 o0 o2 o3 o4
  have hlI : (p.cols.length : Int) ≤ 1048576 := by omega
  clear hlb hbx hC
  clear be pr az ok hw0 hN hR hR8 hkd hz0
  go_enter Try.func7, Try.ntmps7
  go_wp2_with fail
  have hw0 := Hw0.out
  rw [← hw0]
  rw [← HN.out]
  clear hw0 c0 c1 o0 o2 o3 o4
  refine q0.mono ?_
  rintro x w1 ⟨rfl, hq1⟩
  have h0' := H0 w1 hq1
  clear q0 hq1 H0
  go_wp2_with fail
  refine wp_region_floo [11, 16] 15 _ C [0, 1, 2, 3, 4, 5, 6, 7, 8, 9, 10, 11, 12, 13, 14, 15, 16, 17] (by kernel_rfl) (by kernel_rfl) rfl rfl (by rfl) (by kernel_rfl) (fun s a W hW b K Q hK' => ?_) h0' ?_
  · go_simp
    exact hK' _ _ (hFl s W hW)
  clear h0'
  refine floo_read rfl (by go_simp) (by rfl) (by rfl) ?_
  apply Exists.intro
  refine ⟨fun s' p' W hl hW b K Q hK' => ?_, fun K hK' => ?_⟩
  · obtain ⟨c0, c1, o0, o2, o3, o4⟩ := hK _ _ W hW
    go_simp
    exact hK' W hW
  go_simp
  refine hK' _ ?_
  clear hK' K
  refine floo_read rfl (by go_simp) (by rfl) (by rfl) ?_
  apply Exists.intro
  refine ⟨fun s' p' W hl hW b K Q hK' => ?_, fun K hK' => ?_⟩
  · obtain ⟨c0, c1, o0, o2, o3, o4⟩ := hK _ _ W hW
    go_simp
    exact hK' W hW
  go_simp
  refine hK' _ ?_
  clear hK' K
  refine floo_read rfl (by go_simp) (by rfl) (by rfl) ?_
  apply Exists.intro
  refine ⟨fun s' p' W hl hW b K Q hK' => ?_, fun K hK' => ?_⟩
  · obtain ⟨c0, c1, o0, o2, o3, o4⟩ := hK _ _ W hW
    go_simp
    exact hK' W hW
  go_simp
  refine hK' _ ?_
  clear hK' K
  refine floo_read rfl (by go_simp) (by rfl) (by rfl) ?_
  apply Exists.intro
  refine ⟨fun s' p' W hl hW b K Q hK' => ?_, fun K hK' => ?_⟩
  · obtain ⟨c0, c1, o0, o2, o3, o4⟩ := hK _ _ W hW
    go_simp
    exact hK' W hW
  go_simp
  refine hK' _ ?_
  clear hK' K
  refine floo_read rfl (by go_simp) (by rfl) (by rfl) ?_
  apply Exists.intro
  refine ⟨fun s' p' W hl hW b K Q hK' => ?_, fun K hK' => ?_⟩
  · obtain ⟨c0, c1, o0, o2, o3, o4⟩ := hK _ _ W hW
    go_simp
    exact hK' W hW
  go_simp
  refine hK' _ ?_
  clear hK' K
  refine floo_read rfl (by go_simp) (by rfl) (by rfl) ?_
  apply Exists.intro
  refine ⟨fun s' p' W hl hW b K Q hK' => ?_, fun K hK' => ?_⟩
  · obtain ⟨c0, c1, o0, o2, o3, o4⟩ := hK _ _ W hW
    go_simp
    exact hK' W hW
  go_simp
  refine hK' _ ?_
  clear hK' K
  refine floo_read rfl (by go_simp) (by rfl) (by rfl) ?_
  apply Exists.intro
  refine ⟨fun s' p' W hl hW b K Q hK' => ?_, fun K hK' => ?_⟩
  · obtain ⟨c0, c1, o0, o2, o3, o4⟩ := hK _ _ W hW
    go_simp
    exact hK' W hW
  go_simp
  refine hK' _ ?_
  clear hK' K
  refine floo_read rfl (by go_simp) (by rfl) (by rfl) ?_
  apply Exists.intro
  refine ⟨fun s' p' W hl hW b K Q hK' => ?_, fun K hK' => ?_⟩
  · obtain ⟨c0, c1, o0, o2, o3, o4⟩ := hK _ _ W hW
    go_simp
    exact hK' W hW
  go_simp
  refine hK' _ ?_
  clear hK' K
  refine floo_read rfl (by go_simp) (by rfl) (by rfl) ?_
  apply Exists.intro
  refine ⟨fun s' p' W hl hW b K Q hK' => ?_, fun K hK' => ?_⟩
  · obtain ⟨c0, c1, o0, o2, o3, o4⟩ := hK _ _ W hW
    go_simp
    rw [if_pos (by omega)]
    exact hK' W hW
  go_simp
  refine hK' _ ?_
  clear hK' K
  refine floo_read rfl (by go_simp) (by rfl) (by rfl) ?_
  apply Exists.intro
  refine ⟨fun s' p' W hl hW b K Q hK' => ?_, fun K hK' => ?_⟩
  · obtain ⟨c0, c1, o0, o2, o3, o4⟩ := hK _ _ W hW
    go_simp
    exact hK' W hW
  go_simp
  refine hK' _ ?_
  clear hK' K
  refine floo_read rfl (by go_simp) (by rfl) (by rfl) ?_
  apply Exists.intro
  refine ⟨fun s' p' W hl hW b K Q hK' => ?_, fun K hK' => ?_⟩
  · obtain ⟨c0, c1, o0, o2, o3, o4⟩ := hK _ _ W hW
    go_simp
    exact hK' W hW
  go_simp
  refine hK' _ ?_
  clear hK' K
  refine floo_turn rfl (by go_simp) (by rfl) (fun p' hl W hW b K Q hK' => ?_) (fun u hu K hK' => ?_)
  · go_simp
    go_at_call 17
    refine (hcall p' W hW).mono ?_
    rintro x w' ⟨y, rfl, h1⟩
    exact hK' y w' h1
  obtain ⟨a0, z0, hsu⟩ : ∃ ao c, u = .tuple #[tA R.t.id R.t.ver R.t.nm (.slice ao R.t.cols.length c) R.t.key, .int .i64 R.E] := by
    obtain ⟨p', W', _, hW'⟩ := hu
    exact hshp u p' W' hW'
  subst hsu
  clear hu hcall hshp
  go_simp
  refine hK' _ ?_
  clear hK' K
  refine floo_read rfl (by go_simp) (by rfl) (by rfl) ?_
  apply Exists.intro
  refine ⟨fun s' p' W hl hW b K Q hK' => ?_, fun K hK' => ?_⟩
  · go_simp
    exact hK' W hW
  go_simp
  refine hK' _ ?_
  clear hK' K
  refine floo_read rfl (by go_simp) (by rfl) (by rfl) ?_
  apply Exists.intro
  refine ⟨fun s' p' W hl hW b K Q hK' => ?_, fun K hK' => ?_⟩
  · go_simp
    exact hK' W hW
  go_simp
  refine hK' _ ?_
  clear hK' K
  refine floo_read rfl (by go_simp) (by rfl) (by rfl) ?_
  apply Exists.intro
  refine ⟨fun s' p' W hl hW b K Q hK' => ?_, fun K hK' => ?_⟩
  · go_simp
    exact hK' W hW
  go_simp
  refine hK' _ ?_
  clear hK' K
  refine floo_float rfl (by go_simp) (by rfl) (by rfl) (fun W hW b K Q hK' => ?_) (fun u hu K hK' => ?_)
  · go_simp
    exact hK' _ _ (hFl _ W hW)
  obtain ⟨mb, rfl⟩ : ∃ mb, u = .pointer (some ⟨mb, 0, none⟩) := by
    obtain ⟨s', W', hW'⟩ := hu
    exact hptr _ u W' hW'
  clear hu
  go_simp
  refine hK' _ ?_
  clear hK' K
  refine floo_turn rfl (by go_simp) (by rfl) (fun p' hl W hW b K Q hK' => ?_) (fun u hu K hK' => ?_)
  · obtain rfl := hl.some
    obtain ⟨⟨⟨y0, q0⟩, ⟨y1, q1⟩, ⟨y2, q2⟩, ⟨y3, q3⟩, ⟨y4, q4⟩⟩, qf, qC⟩ := hst _ _ undef mb W hW
    have f0 := qf 0
    have f1 := qf 1
    have f2 := qf 2
    have f3 := qf 3
    have f4 := qf 4
    clear qf
    go_simp
    exact hK' _ _ qC
  clear hu
  go_simp
  refine hK' _ ?_
  clear hK' K
  refine floo_read rfl (by go_simp) (by rfl) (by rfl) ?_
  apply Exists.intro
  refine ⟨fun s' p' W hl hW b K Q hK' => ?_, fun K hK' => ?_⟩
  · go_simp
    exact hK' W hW
  go_simp
  refine hK' _ ?_
  clear hK' K
  refine floo_nil ?_
  intro w3 hw3
  have H3 : Hid _ := HEND.out _ _ _ _ w3 hw3
  clear hK hw3 hst hFl HEND hptr
  have o4 := Hc2.out _ _ w3 H3.out
  have q2 := Hb.out _ _ w3 H3.out
  go_wp2_with fail
  refine q2.mono ?_
  rintro x w4 ⟨rfl, h4⟩
  have H4 : Hid _ := h4
  clear q2 h4 o4 H3
  obtain ⟨c0, c1, o0, o2, o3, o4⟩ := Hc3.out _ _ w4 H4.out
  have q3 := Hq1.out _ _ w4 H4.out
  go_wp2_with fail
  clear c0 c1 o0 o2 o3 o4
  refine q3.mono ?_
  rintro x w5 ⟨v1, rfl, ⟨a1, z1, hv1⟩, h5⟩
  subst hv1
  obtain ⟨B1, hB1⟩ : ∃ B1, B1 = w5.heap.size := ⟨_, rfl⟩
  obtain ⟨u1, hu1⟩ : ∃ u1, u1 = w5.alloc (.cells #[.int .i64 R.t.id, .int .i64 R.t.ver, .string R.t.nm, .slice a1 R.t.cols.length z1, .int .i64 R.t.key] 36) := ⟨_, rfl⟩
  rw [← hB1, ← hu1] at h5
  have H5 : Hid _ := h5
  have HB1 : Hid (B1 = w5.heap.size) := hB1
  have Hu1 : Hid _ := hu1
  obtain ⟨⟨s0, s1, s2, s3, s4⟩, y0, y1, y2, y3, y4⟩ := Hx.out _ _ _ _ u1 H5.out
  have t0 := Ht.out _ _ _ _ u1 H5.out
  rw [hu1, hB1] at y0 y1 y2 y3 y4
  rw [hu1] at s0 s1 s2 s3 s4
  clear q3 h5 hB1 hu1
  go_wp2_with fail
  have hu1 := Hu1.out
  rw [← hu1]
  try rw [← HB1.out]
  clear hu1 s0 s1 s2 s3 s4 y0 y1 y2 y3 y4
  refine t0.mono ?_
  rintro x r0 ⟨rfl, hr0⟩
  have HF : Hid _ := hr0
  clear t0 hr0
  go_wp2_with fail
  go_ret
  exact ⟨rfl, HF.out⟩
end Go.Proofs.Ytolamjipigfocaa
