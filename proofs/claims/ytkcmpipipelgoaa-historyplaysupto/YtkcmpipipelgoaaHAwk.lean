import Derived.Test.YtkcmpipipelgoaaHPut
import Derived.Test.YtkcmpipipelgoaaHAt
import Derived.Test.YtkcmpipipelgoaaHNew2
/- The law's own calls: pick, table. -/
namespace Go.Proofs.Ytkcmpipipelgoaa
open Go.RowKit Go
set_option maxRecDepth 100000

def pkN (c : Int) (n : Nat) : Nat := ((if c < 0 then -(c + 1) else c) % (n : Int)).toNat
theorem pkN_lt (c : Int) {n : Nat} (h : 0 < n) : pkN c n < n := by
  unfold pkN
  have h1 := Int.emod_nonneg (if c < 0 then -(c + 1) else c) (show (n : Int) ≠ 0 by omega)
  have h2 := Int.emod_lt_of_pos (if c < 0 then -(c + 1) else c) (show (0 : Int) < n by omega)
  omega
theorem pick_any (c : Int) (n : Nat) (w : World) (h1 : -9223372036854775808 ≤ c) (h2 : c ≤ 9223372036854775807) (hn : 0 < n) (hn2 : n ≤ 9223372036854775807) : Calls Try.prog 8 #[.int .i64 c, .int .i64 n] w fun x w' => x = .returned (.int .i64 (pkN c n)) ∧ w' = w := by
  have hn0 : ¬ (n : Int) = 0 := by omega
  have hnb : ((n : Int) == 0) = false := by simp; omega
  by_cases hc : c < 0
  · obtain ⟨d, hd⟩ : ∃ d : Nat, -(c + 1) = d := ⟨(-(c + 1)).toNat, by omega⟩
    obtain ⟨rfl⟩ : c = -(d : Int) - 1 := by omega
    have HE : Hid (((d : Int) % n) = (pkN (-(d : Int) - 1) n : Nat)) := by
      show _ = _
      have e : (if (-(d : Int) - 1) < 0 then -((-(d : Int) - 1) + 1) else (-(d : Int) - 1)) = (d : Int) := by rw [if_pos hc]; omega
      simp only [pkN, e]
      have := Int.emod_nonneg (d : Int) (show (n : Int) ≠ 0 by omega)
      omega
    clear hd
    go_enter Try.func8, Try.ntmps8
    go_wp2
    go_ret
    exact ⟨by rw [← HE.out]; rfl, rfl⟩
  · obtain ⟨d, rfl⟩ : ∃ d : Nat, c = d := ⟨c.toNat, by omega⟩
    have HE : Hid (((d : Int) % n) = (pkN (d : Int) n : Nat)) := by
      show _ = _
      have e : (if (d : Int) < 0 then -((d : Int) + 1) else (d : Int)) = (d : Int) := if_neg (by omega)
      simp only [pkN, e]
      have := Int.emod_nonneg (d : Int) (show (n : Int) ≠ 0 by omega)
      omega
    go_enter Try.func8, Try.ntmps8
    go_wp2
    go_ret
    exact ⟨by rw [← HE.out]; rfl, rfl⟩

def colA : Col := ⟨⟨#[105, 100]⟩, 1, false⟩
def colB : Col := ⟨⟨#[110]⟩, 2, true⟩
/-- The law's table of a number and a version. -/
def tabT (id ver : Int) : Tbl := ⟨id, ver, ⟨#[116]⟩, [colA, colB], 0⟩
theorem tabT_right {id ver : Int} (h1 : 1 ≤ id) (h2 : id ≤ 2147483647) (h3 : 1 ≤ ver) (h4 : ver ≤ 2147483647) : rightE (tabT id ver) = 0 := by
  unfold rightE
  have e1 : numOk (tabT id ver).id = true := by unfold numOk tabT; simp; omega
  have e2 : numOk (tabT id ver).ver = true := by unfold numOk tabT; simp; omega
  rw [e1, e2]
  have e3 : nmOk (tabT id ver).nm = true := by show nmOk ⟨#[116]⟩ = true; decide
  have e4 : colsE (tabT id ver).cols = 0 := by show colsE [colA, colB] = 0; decide
  have e5 : keyOk (tabT id ver).cols (tabT id ver).key = true := by show keyOk [colA, colB] 0 = true; decide
  rw [e3, e4, e5]
  simp
theorem siz_tbl : (Try.prog.info? 36).map (·.size) = some 5 := by kernel_rfl
set_option maxHeartbeats 1000000 in
theorem table_w (id ver : Int) (w : World) : Calls Try.prog 10 #[.int .i64 id, .int .i64 ver] w fun r w' => (∃ ao, r = .returned (tA id ver ⟨#[116]⟩ (.slice (some ao) 2 2) 0) ∧ SL w' (some ao) (ccl (tabT id ver).cols) ∧ w.heap.size ≤ ao.block) ∧ Tch (fun _ => False) w w' := by
  obtain ⟨N, hN⟩ : ∃ N, N = w.heap.size := ⟨_, rfl⟩
  obtain ⟨w1, hw1⟩ : ∃ w1, w1 = w.alloc (.cells #[.int .i64 0, .int .i64 0, .string ⟨#[]⟩, .slice none 0 0, .int .i64 0] 36) := ⟨_, rfl⟩
  obtain ⟨w2, hw2⟩ : ∃ w2, w2 = w1.alloc (.cells #[.string ⟨#[105, 100]⟩, .int .i64 1, .bool false, .string ⟨#[110]⟩, .int .i64 2, .bool true] 80) := ⟨_, rfl⟩
  have z1 : w1.heap.size = N + 1 := by rw [hw1, World.size_alloc, hN]
  have t1 : Tch (fun _ => False) w w1 := by rw [hw1]; exact Tch.alloc _ _ _
  have t2 : Tch (fun _ => False) w1 w2 := by rw [hw2]; exact Tch.alloc _ _ _
  have b1 : w1.heap[N]? = some (.cells #[.int .i64 0, .int .i64 0, .string ⟨#[]⟩, .slice none 0 0, .int .i64 0] 36 (0, 0)) := by rw [hw1, hN]; exact alloc_new _ _
  have b2 := (t2.block N (blk_lt b1) (fun e => e)).trans b1
  have bc : w2.heap[N + 1]? = some (.cells #[.string ⟨#[105, 100]⟩, .int .i64 1, .bool false, .string ⟨#[110]⟩, .int .i64 2, .bool true] 80 (0, 0)) := by rw [hw2, ← z1]; exact alloc_new _ _
  have hrs : Try.f10.results = #[.cell 4 36] := by kernel_rfl
  have HW1 : Hid (w1 = _) := hw1
  have HW2 : Hid (w2 = _) := hw2
  have HN : Hid (N = w.heap.size) := hN
  have HZ1 : Hid (w1.heap.size = N + 1) := z1
  have HB2 : Hid _ := b2
  have HBC : Hid _ := bc
  have HT2 : Hid (Tch (fun _ => False) w w2) := t1.trans' t2
  have y0 : w2.cell? ⟨N, 0, none⟩ = some (.int .i64 0) := blk_cell b2 0
  have y1 : w2.cell? ⟨N, 1, none⟩ = some (.int .i64 0) := blk_cell b2 1
  have y2 : w2.cell? ⟨N, 2, none⟩ = some (.string ⟨#[]⟩) := blk_cell b2 2
  have y3 : w2.cell? ⟨N, 3, none⟩ = some (.slice none 0 0) := blk_cell b2 3
  have y4 : w2.cell? ⟨N, 4, none⟩ = some (.int .i64 0) := blk_cell b2 4
  have yf := blk_frozen b2
  rw [hw2] at y0 y1 y2 y3 y4 yf
  clear hw1 hw2 hN z1 t1 t2 b1 b2 bc
  go_enter Try.func10, Try.ntmps10
  go_upto_region 1 with (fail)
  rw [← HW1.out, ← HN.out]
  go_wp2_with fail
  rw [HZ1.out, ← HW2.out]
  have t5 := tch5 w2 N (.int .i64 id) (.int .i64 ver) (.string ⟨#[116]⟩) (.slice (some ⟨N + 1, 0, none⟩) 2 2) (.int .i64 0)
  refine bodyPost_ret (results_cell_row hrs _ _ N 36 _ (0, 0) _ rfl (set5 HB2.out _ _ _ _ _) Try.underlying36 rfl siz_tbl) rfl ⟨⟨⟨N + 1, 0, none⟩, rfl, fun _ => ⟨N + 1, 0, rfl, fun j u hu => ?_⟩, ?_⟩, HT2.out.trans t5 (fun g hg e => by have := HN.out; have e' : g = N := e; omega)⟩
  · have h1 : w2.cell? ⟨N + 1, 0 + j, none⟩ = some u := by
      rw [Nat.zero_add, blk_cell HBC.out, ← Array.getElem?_toList]
      exact hu
    exact (t5.cell (p := ⟨N + 1, 0 + j, none⟩) (cell_lt h1) (by show ¬ N + 1 = N; omega)).trans h1
  · show _ ≤ N + 1
    have := HN.out
    omega
end Go.Proofs.Ytkcmpipipelgoaa
/- awake: the document's first example, in short. -/
namespace Go.Proofs.Ytkcmpipipelgoaa
open Go.RowKit Go
set_option maxRecDepth 100000

theorem HF.box {F F' : Nat → Prop} {w w' : World} {b : Nat} {h : Hs} (H : HF w F b h) (t : Tch (fun _ => False) w w') (hF : ∀ g, F' g → F g ∨ w.heap.size ≤ g) : HF w' F' b h :=
  (H.mono (fun g hg e => (hF g e).resolve_right (by omega))).no t
/-- The example's history as it goes on. -/
theorem awk_pure (n1 n2 : Nt) (h1 : n1.l = 100) (h1t : n1.th = true) (e1 : n1.t = tabT 1 1) (h2 : n2.l = 200) (h2t : n2.th = true) (e2 : n2.t = tabT 1 2) :
    let h := ((hs0 100).add 1 n1).add 1 n2
    atE h 199 1 = 0 ∧ atT h 199 1 = tabT 1 1 ∧ atE h 200 1 = 0 ∧ atT h 200 1 = tabT 1 2 ∧ goneE h 300 1 = 0 ∧ atE (h.gone 300 1) 300 1 = 170 ∧ (h.gone 300 1).sz = 3 ∧ (h.gone 300 1).T = 3 := by
  intro h
  have hK : h.K 1 = [n1, n2] := by
    show updK (updK (fun _ => []) 1 ([] ++ [n1])) 1 (updK (fun _ => []) 1 ([] ++ [n1]) 1 ++ [n2]) 1 = _
    rw [updK_same, updK_same]
    rfl
  have u199 : upL [n1, n2] 199 = 1 := by simp [upL, h1, h2]
  have u200 : upL [n1, n2] 200 = 2 := by simp [upL, h2]
  have w199 : wasL [n1, n2] 199 = n1 := by unfold wasL; rw [u199]; rfl
  have w200 : wasL [n1, n2] 200 = n2 := by unfold wasL; rw [u200]; rfl
  have hl : h.l = 200 := h2
  have hb : h.b = 100 := rfl
  have a1 : atE h 199 1 = 0 := by unfold atE; rw [hb, hK, w199, h1t]; rfl
  have a2 : atE h 200 1 = 0 := by unfold atE; rw [hb, hK, w200, h2t]; rfl
  have g0 : goneE h 300 1 = 0 := by unfold goneE; rw [hl, hK, w200, h2t]; rfl
  have hg : h.gone 300 1 = h.add 1 (ntG 300) := if_pos g0
  have hK3 : (h.gone 300 1).K 1 = [n1, n2, ntG 300] := by
    rw [hg]
    show updK h.K 1 (h.K 1 ++ [ntG 300]) 1 = _
    rw [updK_same, hK]
    rfl
  refine ⟨a1, ?_, a2, ?_, g0, ?_, ?_, ?_⟩
  · unfold atT; rw [if_pos a1, hK, w199, e1]
  · unfold atT; rw [if_pos a2, hK, w200, e2]
  · have u300 : upL [n1, n2, ntG 300] 300 = 3 := by simp [upL, ntG]
    have w300 : wasL [n1, n2, ntG 300] 300 = ntG 300 := by unfold wasL; rw [u300]; rfl
    have hb3 : (h.gone 300 1).b = 100 := by rw [hg]; rfl
    unfold atE
    rw [hb3, hK3, w300]
    rfl
  · rw [hg]; rfl
  · rw [hg]; rfl
theorem new_one : newE [tabT 1 1] 100 = 0 := by
  unfold newE
  rw [if_neg]
  have e : areGo 0 [tabT 1 1] = true := by
    show (if rightE (tabT 1 1) ≠ 0 ∨ (tabT 1 1).id ≤ 0 then false else true) = true
    rw [tabT_right (by omega) (by omega) (by omega) (by omega)]
    rfl
  rw [e]
  simp
theorem tl_one {w : World} {g : Nat} {t : Tbl} {ao : Addr} (hb : w.heap[g]? = some (.cells #[.int .i64 t.id, .int .i64 t.ver, .string t.nm, .slice (some ao) t.cols.length t.cols.length, .int .i64 t.key] 36 (0, 0))) (hs : SL w (some ao) (ccl t.cols)) : TL w (fun _ => False) (some ⟨g, 0, none⟩) [(t, .slice (some ao) t.cols.length t.cols.length)] := by
  refine ⟨fun _ => ⟨g, 0, rfl, fun j u hu => ?_⟩, fun _ _ _ _ e => e, fun i hi => ?_⟩
  · rw [Nat.zero_add, blk_cell hb, ← Array.getElem?_toList]
    simpa [tcl, tcs] using hu
  · have e : i = 0 := by simpa using hi
    subst e
    refine ⟨some ao, t.cols.length, rfl, hs, fun e => (by cases e), Nat.le_refl _, fun hc g o e => ⟨fun e => e, ?_⟩⟩
    obtain ⟨g', o', e', ha⟩ := hs (f3_nil _ _ _ hc)
    rw [e'] at e
    injection e with e
    injection e with e
    subst e
    exact ha.lt (f3_nil _ _ _ hc)

/-- At, told of a table of the law's. -/
theorem at_tab {w : World} {F : Nat → Prop} {b : Nat} {h : Hs} (H : HF w F b h) (x i : Int) (hi : inR i) (hT : h.T < 70368744177664) (id ver : Int) (e1 : atE h x i = 0) (e2 : atT h x i = tabT id ver) :
    Calls Try.prog 15 #[.pointer (some ⟨b, 0, none⟩), .int .i64 x, .int .i64 i] w fun r w' => (∃ vo vc, r = .returned (.tuple #[.agg #[.int .i64 id, .int .i64 ver, .string ⟨#[116]⟩, .slice vo 2 vc, .int .i64 0], .int .i64 0])) ∧ Tch (fun _ => False) w w' := by
  refine (at_f H x i hi hT).mono ?_
  rintro r w' ⟨⟨v, rfl, hv⟩, t⟩
  rw [e2] at hv
  obtain ⟨vo, vc, rfl⟩ := row_slice hv
  exact ⟨⟨vo, vc, by rw [e1, e2]; rfl⟩, t⟩
theorem at_none {w : World} {F : Nat → Prop} {b : Nat} {h : Hs} (H : HF w F b h) (x i : Int) (hi : inR i) (hT : h.T < 70368744177664) (e1 : atE h x i = 170) :
    Calls Try.prog 15 #[.pointer (some ⟨b, 0, none⟩), .int .i64 x, .int .i64 i] w fun r w' => (∃ vo vc, r = .returned (.tuple #[.agg #[.int .i64 0, .int .i64 0, .string ⟨#[]⟩, .slice vo 0 vc, .int .i64 0], .int .i64 170])) ∧ Tch (fun _ => False) w w' := by
  refine (at_f H x i hi hT).mono ?_
  rintro r w' ⟨⟨v, rfl, hv⟩, t⟩
  have e2 : atT h x i = tblZ := by unfold atT; rw [e1]; rfl
  rw [e2] at hv
  obtain ⟨vo, vc, rfl⟩ := row_slice hv
  exact ⟨⟨vo, vc, by rw [e1, e2]; rfl⟩, t⟩
/-- Put of a table of the law's. -/
theorem put_tab {w : World} {F : Nat → Prop} {b : Nat} {h : Hs} (H : HF w F b h) (x id ver : Int) (ao : Addr) (hs : SL w (some ao) (ccl (tabT id ver).cols)) (hT : h.T < 70368744177664) (hFl : ∀ g, F g → g < w.heap.size) (h1 : 1 ≤ id) (h2 : id ≤ 2147483647) (h3 : 1 ≤ ver) (h4 : ver ≤ 2147483647) (hx : h.l < x) :
    Calls Try.prog 9 #[.pointer (some ⟨b, 0, none⟩), .int .i64 x, .agg #[.int .i64 id, .int .i64 ver, .string ⟨#[116]⟩, .slice (some ao) 2 2, .int .i64 0]] w fun r w' => r = .returned (.int .i64 0) ∧ (∃ n : Nt, n.l = x ∧ n.th = true ∧ n.t = tabT id ver ∧ HF w' F b (h.add id n)) ∧ Tch (fun g => ¬ F g) w w' := by
  have e0 : putE h x (tabT id ver) = 0 := by
    unfold putE
    rw [tabT_right h1 h2 h3 h4]
    simp
    omega
  refine (put_f H x (tabT id ver) (some ao) 2 hs (fun e => by cases e) (Nat.le_refl 2) (by show 2 * 32 ≤ _; omega) hT hFl).mono ?_
  rintro r w' ⟨rfl, ⟨h', hH, -, hn⟩, t⟩
  obtain ⟨n, n1, n2, n3, rfl⟩ := hn e0
  exact ⟨by rw [e0], ⟨n, n1, n2, n3, hH⟩, t⟩

theorem notes_one {x : Int} {t : Tbl} {l : List Nt} (h : NotesOf x [t] l) : ∃ n, l = [n] ∧ n.l = x ∧ n.th = true ∧ n.t = t := by
  obtain ⟨h1, h2⟩ := h
  obtain ⟨n, rfl, e⟩ := List.map_eq_singleton_iff.1 h1
  obtain ⟨a, b⟩ := h2 n (List.mem_singleton.2 rfl)
  exact ⟨n, rfl, a, b, e⟩
set_option maxHeartbeats 4000000 in
theorem awake_w (w : World) : Calls Try.prog 6 #[] w fun r w' => r = .returned (.bool true) ∧ Tch (fun _ => False) w w' := by
  have q1 := table_w 1 1 w
  unfold tA at q1
  go_enter Try.func6, Try.ntmps6
  go_wp2_with fail
  refine q1.mono ?_
  rintro e w1 ⟨⟨ao, rfl, hs, hao⟩, t1⟩
  clear q1 hao
  obtain ⟨A, hA⟩ : ∃ A, A = w1.heap.size := ⟨_, rfl⟩
  obtain ⟨w2, hw2⟩ : ∃ w2, w2 = w1.alloc (.cells #[.int .i64 1, .int .i64 1, .string ⟨#[116]⟩, .slice (some ao) 2 2, .int .i64 0] 36) := ⟨_, rfl⟩
  have t2 : Tch (fun _ => False) w1 w2 := by rw [hw2]; exact Tch.alloc _ _ _
  have b2 : w2.heap[A]? = some (.cells #[.int .i64 1, .int .i64 1, .string ⟨#[116]⟩, .slice (some ao) 2 2, .int .i64 0] 36 (0, 0)) := by rw [hw2, hA]; exact alloc_new _ _
  obtain ⟨F0, hF0⟩ : ∃ F0 : Nat → Prop, F0 = fun g => g < w.heap.size := ⟨_, rfl⟩
  have q2 := new_f [(tabT 1 1, .slice (some ao) 2 2)] (some ⟨A, 0, none⟩) 1 F0 (fun _ => False) 100 w2 (tl_one (t := tabT 1 1) b2 (hs.no t2)) (by show 1 < _; omega) (fun p hp => by rw [List.mem_singleton.1 hp]; show 2 ≤ _; omega) (fun g hg => by rw [hF0] at hg; have h1 := t1.size; have h2 := t2.size; have hg' : g < w.heap.size := hg; omega)
  have HW2 : Hid (w2 = _) := hw2
  have HA : Hid (A = w1.heap.size) := hA
  have HT2 : Hid (Tch (fun _ => False) w w2) := t1.trans' t2
  have HF0 : Hid (F0 = fun g => g < w.heap.size) := hF0
  have q2' : Calls Try.prog 7 #[.slice (some ⟨A, 0, none⟩) 1 1, .int .i64 100] (w1.alloc (.cells #[.int .i64 1, .int .i64 1, .string ⟨#[116]⟩, .slice (some ao) 2 2, .int .i64 0] 36)) fun r w' => (∃ b n, r = .returned (.tuple #[.pointer (some ⟨b, 0, none⟩), .int .i64 0]) ∧ n.l = 100 ∧ n.th = true ∧ n.t = tabT 1 1 ∧ HF w' F0 b ((hs0 100).add 1 n)) ∧ Tch (fun _ => False) w2 w' := by
    rw [← hw2]
    refine q2.mono ?_
    rintro r w' ⟨ho, t⟩
    refine ⟨?_, t⟩
    rcases ho with ⟨e, _⟩ | ⟨_, b, l, rfl, hn, hH⟩
    · exact absurd (e.symm.trans new_one) (by decide)
    · obtain ⟨n, rfl, n1, n2, e1⟩ := notes_one hn
      refine ⟨b, n, rfl, n1, n2, e1, ?_⟩
      have e2 : n.t.id = 1 := by rw [e1]; rfl
      have : HF w' F0 b ((hs0 100).add n.t.id n) := hH
      rw [e2] at this
      exact this
  clear hw2 hA t1 t2 b2 hF0 q2 hs
  go_wp2_with fail
  rw [← HA.out]
  refine q2'.mono ?_
  rintro e w3 ⟨⟨b, n1, rfl, n1l, n1t, n1e, H3⟩, t3⟩
  have HT3 : Hid (Tch (fun _ => False) w w3) := HT2.out.trans' t3
  have HH3 : Hid (HF w3 F0 b ((hs0 100).add 1 n1)) := H3
  have HL3 : Hid (n1.l = 100 ∧ n1.th = true ∧ n1.t = tabT 1 1) := ⟨n1l, n1t, n1e⟩
  clear q2' n1l n1t n1e H3 t3
  have q3 := table_w 1 2 w3
  unfold tA at q3
  go_wp2_with fail
  refine q3.mono ?_
  rintro e w4 ⟨⟨ao2, rfl, hs4, -⟩, t4⟩
  have HT4 : Hid (Tch (fun _ => False) w w4) := HT3.out.trans' t4
  have q4 := put_tab (HH3.out.no t4) 200 1 2 ao2 hs4 (by show 0 + 1 < _; omega) (fun g hg => by have h1 := HT4.out.size; rw [HF0.out] at hg; exact Nat.lt_of_lt_of_le hg h1) (by omega) (by omega) (by omega) (by omega) (by show n1.l < 200; rw [HL3.out.1]; omega)
  clear q3 hs4 t4
  go_wp2_with fail
  refine q4.mono ?_
  rintro e w5 ⟨rfl, ⟨n2, n2l, n2t, n2e, H5⟩, t5⟩
  have HT5 : Hid (Tch (fun _ => False) w w5) := HT4.out.trans t5 (fun g hg e => e (by rw [HF0.out]; exact hg))
  obtain ⟨p1, p2, p3, p4, p5, p6, p7, p8⟩ := awk_pure n1 n2 HL3.out.1 HL3.out.2.1 HL3.out.2.2 n2l n2t n2e
  obtain ⟨hh, hhh⟩ : ∃ hh, hh = ((hs0 100).add 1 n1).add 1 n2 := ⟨_, rfl⟩
  rw [← hhh] at H5 p1 p2 p3 p4 p5 p6 p7 p8
  have hTh : hh.T = 2 := by rw [hhh]; rfl
  have hi1 : inR 1 := by unfold inR; omega
  have HP : Hid (atE hh 200 1 = 0 ∧ atT hh 200 1 = tabT 1 2 ∧ goneE hh 300 1 = 0 ∧ atE (hh.gone 300 1) 300 1 = 170 ∧ (hh.gone 300 1).sz = 3 ∧ (hh.gone 300 1).T = 3 ∧ hh.T = 2 ∧ inR 1) := ⟨p3, p4, p5, p6, p7, p8, hTh, hi1⟩
  have q5 := at_tab H5 199 1 hi1 (by omega) 1 1 p1 p2
  have HH5 : Hid (HF w5 F0 b hh) := H5
  clear q4 n2l n2t n2e H5 t5 p1 p2 p3 p4 p5 p6 p7 p8 hhh hTh hi1
  go_wp2_with fail
  refine q5.mono ?_
  rintro e w6 ⟨⟨vo6, vc6, rfl⟩, t6⟩
  obtain ⟨B, hB⟩ : ∃ B, B = w6.heap.size := ⟨_, rfl⟩
  obtain ⟨w7, hw7⟩ : ∃ w7, w7 = w6.alloc (.cells #[.int .i64 1, .int .i64 1, .string ⟨#[116]⟩, .slice vo6 2 vc6, .int .i64 0] 36) := ⟨_, rfl⟩
  have t7 : Tch (fun _ => False) w6 w7 := by rw [hw7]; exact Tch.alloc _ _ _
  have b7 : w7.heap[B]? = some (.cells #[.int .i64 1, .int .i64 1, .string ⟨#[116]⟩, .slice vo6 2 vc6, .int .i64 0] 36 (0, 0)) := by rw [hw7, hB]; exact alloc_new _ _
  have q6 := at_tab (HH5.out.no (t6.trans' t7)) 200 1 HP.out.2.2.2.2.2.2.2 (by have := HP.out.2.2.2.2.2.2.1; omega) 1 2 HP.out.1 HP.out.2.1
  have HW7 : Hid (w7 = _) := hw7
  have HB : Hid (B = w6.heap.size) := hB
  have HT7 : Hid (Tch (fun _ => False) w5 w7) := t6.trans' t7
  have HB7 : Hid _ := b7
  have HBz : Hid (w5.heap.size ≤ B) := by have := t6.size; show _ ≤ _; omega
  clear q5 hw7 hB t6 t7 b7
  go_upto_region 6 with (fail)
  rw [← HW7.out, ← HB.out]
  go_wp2_with fail
  refine q6.mono ?_
  rintro e w8 ⟨⟨vo8, vc8, rfl⟩, t8⟩
  obtain ⟨D, hD⟩ : ∃ D, D = w8.heap.size := ⟨_, rfl⟩
  obtain ⟨w9, hw9⟩ : ∃ w9, w9 = w8.alloc (.cells #[.int .i64 1, .int .i64 2, .string ⟨#[116]⟩, .slice vo8 2 vc8, .int .i64 0] 36) := ⟨_, rfl⟩
  have t9 : Tch (fun _ => False) w8 w9 := by rw [hw9]; exact Tch.alloc _ _ _
  have b9 : w9.heap[D]? = some (.cells #[.int .i64 1, .int .i64 2, .string ⟨#[116]⟩, .slice vo8 2 vc8, .int .i64 0] 36 (0, 0)) := by rw [hw9, hD]; exact alloc_new _ _
  have hb9 := ((t8.trans' t9).block B (blk_lt HB7.out) (fun e => e)).trans HB7.out
  obtain ⟨F1, hF1⟩ : ∃ F1 : Nat → Prop, F1 = fun g => g < w.heap.size ∨ g = B ∨ g = D := ⟨_, rfl⟩
  have hBD : w5.heap.size ≤ D := by have h1 := HT7.out.size; have h2 := t8.size; omega
  have H9 : HF w9 F1 b hh := HH5.out.box (HT7.out.trans' (t8.trans' t9)) (fun g hg => by
    rw [hF1] at hg
    rw [HF0.out]
    rcases hg with hg | hg | hg
    · exact .inl hg
    · rw [hg]; exact .inr HBz.out
    · rw [hg]; exact .inr hBD)
  have q7 := gone_f H9 300 1 HP.out.2.2.2.2.2.2.2 (by have := HP.out.2.2.2.2.2.2.1; omega)
  rw [HP.out.2.2.1] at q7
  have HW9 : Hid (w9 = _) := hw9
  have HD : Hid (D = w8.heap.size) := hD
  have HT9 : Hid (Tch (fun _ => False) w5 w9) := HT7.out.trans' (t8.trans' t9)
  have HB9 : Hid _ := And.intro hb9 b9
  have HF1 : Hid (F1 = fun g => g < w.heap.size ∨ g = B ∨ g = D) := hF1
  clear q6 hw9 hD t8 t9 b9 hb9 hF1 hBD H9
  go_upto_region 7 with (fail)
  rw [← HW9.out, ← HD.out]
  go_wp2_with fail
  refine q7.mono ?_
  rintro e w10 ⟨rfl, H10, t10⟩
  have bB10 := (t10.block B (blk_lt HB9.out.1) (fun e => e (by rw [HF1.out]; exact .inr (.inl rfl)))).trans HB9.out.1
  have bD10 := (t10.block D (blk_lt HB9.out.2) (fun e => e (by rw [HF1.out]; exact .inr (.inr rfl)))).trans HB9.out.2
  have HT10 : Hid (Tch (fun _ => False) w w10) := (HT5.out.trans' HT9.out).trans t10 (fun g hg e => e (by rw [HF1.out]; exact .inl hg))
  have q8 := at_none H10 300 1 HP.out.2.2.2.2.2.2.2 (by have := HP.out.2.2.2.2.2.1; omega) HP.out.2.2.2.1
  have HH10 : Hid (HF w10 F1 b (hh.gone 300 1)) := H10
  have HB10 : Hid _ := And.intro bB10 bD10
  clear q7 H10 t10 bB10 bD10
  go_wp2_with fail
  refine q8.mono ?_
  rintro e w11 ⟨⟨vo11, vc11, rfl⟩, t11⟩
  obtain ⟨w12, hw12⟩ : ∃ w12, w12 = w11.alloc (.cells #[.int .i64 0, .int .i64 0, .string ⟨#[]⟩, .slice vo11 0 vc11, .int .i64 0] 36) := ⟨_, rfl⟩
  have t12 : Tch (fun _ => False) w10 w12 := by rw [hw12]; exact t11.allocR _
  have q9 := noted_f (HH10.out.no t12)
  rw [HP.out.2.2.2.2.1] at q9
  have bB := (t12.block B (blk_lt HB10.out.1) (fun e => e)).trans HB10.out.1
  have bD := (t12.block D (blk_lt HB10.out.2) (fun e => e)).trans HB10.out.2
  have xB : w12.cell? ⟨B, 1, none⟩ = some (.int .i64 1) := blk_cell bB 1
  have xD : w12.cell? ⟨D, 1, none⟩ = some (.int .i64 2) := blk_cell bD 1
  have HW12 : Hid (w12 = _) := hw12
  have HT12 : Hid (Tch (fun _ => False) w w12) := HT10.out.trans' t12
  clear q8 t11 hw12 t12 bB bD
  go_upto_region 9 with (fail)
  rw [← HW12.out]
  go_wp2_with fail
  refine q9.mono ?_
  rintro e w13 ⟨rfl, hw13⟩
  subst hw13
  clear q9
  go_wp2_with fail
  go_ret
  exact ⟨rfl, HT12.out⟩
end Go.Proofs.Ytkcmpipipelgoaa
