import Derived.Test.YtnjiiebjdpipjaaTSp0
import Derived.Test.YtnjiiebjdpipjaaOrdv
/- split: a leaf. -/
namespace Go.Proofs.Ytnjiiebjdpipjaa
open Go.RowKit Go

set_option maxHeartbeats 4000000 in
set_option maxRecDepth 100000 in
theorem split_leaf (w : World) (p : Nat) (iv kv : Value) (L : List It) (ps : List Nat) (s : Int) (a : Nat) (ia ka : Value) (l : List It) (ql : List Nat) (sa : Int) (pl : Nat) (m : It)
    (hP : FN w p iv kv L ps s) (hA : FN w a ia ka l ql sa) (hnod : Nod (fb p iv kv ++ fb a ia ka)) (hpl : ps[pl]? = some a) (hL : L.length < 100) (hps : ps.length = L.length + 1) (hl : l.length = 16) (hq : ql = [])
    (hz : ∀ q ∈ ql, w.cell? ⟨q, 2, none⟩ = some (.int .i64 (zsz w q)) ∧ 0 ≤ zsz w q ∧ q ∉ fb p iv kv ++ fb a ia ka) (hb : zsum w ql ≤ 1000000000000000000) (hm : l[7]? = some m) :
    Calls Try.prog 53 #[pv p, .int .i64 pl] w fun x w' => x = .returned (.tuple #[]) ∧ SplitOut w w' (fb p iv kv ++ fb a ia ka) p L ps s a l ql pl m := by
  obtain ⟨po, pc, rfl⟩ := row_slice hP.its
  obtain ⟨ko, kd, rfl⟩ := row_slice hP.kids
  obtain ⟨ao, ac, rfl⟩ := row_slice hA.its
  obtain ⟨qo, qc, rfl⟩ := row_slice hA.kids
  obtain ⟨hplt, hpa⟩ := List.getElem?_eq_some_iff.1 hpl
  obtain ⟨h7, hm7⟩ := List.getElem?_eq_some_iff.1 hm
  obtain ⟨N, hN⟩ : ∃ N, N = w.heap.size := ⟨_, rfl⟩
  obtain ⟨kg, kd', ek, hkc, hkm, hkg, k0, -⟩ := kid_at hP.kids hplt
  injection ek with ek1 ek2 ek3
  subst ek1; subst ek3
  rw [hpa] at k0
  obtain ⟨-, d1, -, -⟩ := hP.nd.cells
  obtain ⟨g7, ac', e7, h7c, h7m, h7g, i0, i1, -⟩ := it_at hA.its h7
  injection e7 with e71 e72 e73
  subst e71; subst e73
  rw [hm7] at i0 i1
  obtain ⟨e0, -, -, -⟩ := hA.nd.cells
  obtain ⟨F1, hF1⟩ : ∃ F1, F1 = fb p (.slice po L.length pc) (.slice (some ⟨kg, 0, none⟩) ps.length kd) := ⟨_, rfl⟩
  obtain ⟨F2, hF2⟩ : ∃ F2, F2 = fb a (.slice (some ⟨g7, 0, none⟩) l.length ac) (.slice qo ql.length qc) := ⟨_, rfl⟩
  rw [← hF1, ← hF2] at hnod hz ⊢
  have HF1 : Hid (∀ b ∈ F1, b < w.heap.size) := by rw [hF1]; exact hP.lt
  have HF2 : Hid (∀ b ∈ F2, b < w.heap.size) := by rw [hF2]; exact hA.lt
  obtain ⟨w1, hw1⟩ : ∃ w1, w1 = w.alloc (.cells #[.slice none 0 0, .slice none 0 0, .int .i64 0] 68) := ⟨_, rfl⟩
  obtain ⟨w2, hw2⟩ : ∃ w2, w2 = w1.alloc (.cells #[.string m.1, ev m.2] 74) := ⟨_, rfl⟩
  have t1 : Tch (fun _ => False) w w1 := by rw [hw1]; exact Tch.alloc _ _ _
  have t2 : Tch (fun _ => False) w1 w2 := by rw [hw2]; exact Tch.alloc _ _ _
  have hN1 : ND w1 N (.slice none 0 0) (.slice none 0 0) 0 := by unfold ND; rw [hw1, hN]; exact alloc_new _ _
  have hs1 : w1.heap.size = N + 1 := by rw [hw1, hN, World.size_alloc]
  have B2 : w2.heap[N + 1]? = some (.cells #[.string m.1, ev m.2] 74 (0, 0)) := by rw [hw2, ← hs1]; exact alloc_new _ _
  have T12 : Hid (Tch (fun _ => False) w w2) := t1.trans' t2
  have HFt : Hid (Fits w.heap.size (F1 ++ F2) (F1 ++ (F2 ++ [N]))) := fits_new hnod HF1.out HF2.out (by omega)
  have H2 : Hid (S3 w2 w2 (F1 ++ (F2 ++ [N])) p (.slice po L.length pc) (.slice (some ⟨kg, 0, none⟩) ps.length kd) L ps s a (.slice (some ⟨g7, 0, none⟩) l.length ac) (.slice qo ql.length qc) l ql sa N (.slice none 0 0) (.slice none 0 0) [] [] 0) := by
    have h := HFt.out.nod hnod
    rw [hF1, hF2, ← fb_new N] at h ⊢
    exact S3.start (hP.tch T12.out (fun _ _ h => h)) (hA.tch T12.out (fun _ _ h => h)) ⟨hN1.tch t2 (fun h => h), World.ownsRow_nil _ _ _ _, World.ownsRow_nil _ _ _ _⟩ h
  have HX : Hid (∀ W, Tch (fun i => i ∈ F1 ++ (F2 ++ [N])) w2 W → W.heap[N + 1]? = some (.cells #[.string m.1, ev m.2] 74 (0, 0))) := fun W tW => by
    rw [tW.block (N + 1) (blk_lt B2) (fun hm => ?_)]
    · exact B2
    · simp only [List.mem_append, List.mem_singleton] at hm
      rcases hm with h | h | h
      · have := HF1.out _ h; omega
      · have := HF2.out _ h; omega
      · omega
  have Ha : a ∈ F1 ++ (F2 ++ [N]) := by rw [hF2]; simp [fb]
  have H7inA : Hid (a ∈ F1 ++ (F2 ++ [N])) := Ha
  have H8inB : Hid (N ∈ F1 ++ (F2 ++ [N])) := by show N ∈ _; simp
  obtain ⟨hz2, hz3⟩ := zs_no T12.out hz (N := N) (by omega)
  have HZ : Hid (∀ q ∈ ql, w2.cell? ⟨q, 2, none⟩ = some (.int .i64 (zsz w2 q)) ∧ 0 ≤ zsz w2 q ∧ q ∉ F1 ++ (F2 ++ [N])) := fun q hq => by
    obtain ⟨z1, z2, z3, z4⟩ := hz2 q hq
    refine ⟨z1, z2, fun hm => ?_⟩
    simp only [List.mem_append, List.mem_singleton] at hm z3
    rcases hm with h | h | h
    · exact z3 (Or.inl h)
    · exact z3 (Or.inr h)
    · exact z4 h
  have HZ3 : Hid (∀ q ∈ ql, zsz w2 q = zsz w q) := hz3
  have HB2 : Hid (zsum w2 ql ≤ 1000000000000000000) := by show _ ≤ _; rw [zsum_eq hz3]; exact hb
  have e0a : w1.cell? ⟨a, 0, none⟩ = some (.slice (some ⟨g7, 0, none⟩) l.length ac) := by rw [t1.cell (p := ⟨a, 0, none⟩) (cell_lt e0) (fun h => h)]; exact e0
  have i0a : w1.cell? ⟨g7, 14, none⟩ = some (.string m.1) := by rw [t1.cell (p := ⟨g7, 14, none⟩) h7g (fun h => h)]; exact i0
  have i1a : w1.cell? ⟨g7, 15, none⟩ = some (ev m.2) := by rw [t1.cell (p := ⟨g7, 15, none⟩) h7g (fun h => h)]; exact i1
  have e0b : w2.cell? ⟨a, 0, none⟩ = some (.slice (some ⟨g7, 0, none⟩) l.length ac) := by rw [t2.cell (p := ⟨a, 0, none⟩) (cell_lt e0a) (fun h => h)]; exact e0a
  have hw2' : w2 = (w.alloc (.cells #[.slice none 0 0, .slice none 0 0, .int .i64 0] 68)).alloc (.cells #[.string m.1, ev m.2] 74) := by rw [hw2, hw1]
  rw [hw2'] at e0b
  rw [hw1] at e0a i0a i1a
  rw [hl] at e0b
  have hpi : (pl : Int) < ps.length := by omega
  rw [hl] at e0a H2
  have Hw2 : Hid _ := hw2'
  have HN : Hid (N = w.heap.size) := hN
  have Hnod : Hid _ := hnod
  obtain ⟨np, hnp⟩ : ∃ np, np = L.length := ⟨_, rfl⟩
  obtain ⟨mp, hmp⟩ : ∃ mp, mp = ps.length := ⟨_, rfl⟩
  obtain ⟨nq, hnq⟩ : ∃ nq, nq = ql.length := ⟨_, rfl⟩
  rw [← hnp, ← hmp, ← hnq] at H2
  rw [← hmp] at d1 hpi
  have Hnp : Hid (np = L.length) := hnp
  have Hmp : Hid (mp = ps.length) := hmp
  have Hnq : Hid (nq = ql.length) := hnq
  have hpln : pl ≤ np := by omega
  have hnp1 : np < 100 := by omega
  have Hmpn : Hid (mp = np + 1) := by show _ = _; omega
  have Hl16 : Hid (l.length = 16) := hl
  have hac : 16 ≤ ac := by omega
  have Hql : Hid (ql = []) := hq
  have hnq0 : nq = 0 := by rw [hnq, hq]; rfl
  subst hnq0
  clear hP hA hnod hw1 hw2 hw2' t1 t2 hN1 B2 hs1 e0 i0 i1 hz hz2 hz3 hb hm hm7 hpa hpl hps hN hnp hmp hnq hl hkc hkm hkg h7c h7m h7g ek2 e72 hplt h7 hL hF1 hF2 Ha hq
  go_enter Try.func53, Try.ntmps53
  obtain ⟨r1, hr1⟩ : ∃ r1, r1 = l.drop 8 := ⟨_, rfl⟩
  have Hr1 : Hid (r1 = l.drop 8) := hr1
  have hr8 : r1.length = 8 := by rw [hr1, List.length_drop]; have := Hl16.out; omega
  have q := Iclone_any (icl r1) 8 ⟨g7, 16, none⟩ (ac - 8) w2 (by rw [icl_len]; omega) (fun j u hu => by
    obtain ⟨g, c, ev1, _, _, _, ha, _⟩ := own_at H2.out.A.its (by have := Hl16.out; omega)
    injection ev1 with ev1
    injection ev1 with ev1
    injection ev1 with ev1
    rw [add_plain]
    have := ha (16 + j) u (by rw [show icl l = (icl l).take (8 * 2) ++ (icl l).drop (8 * 2) from (List.take_append_drop _ _).symm, icl_drop, ← hr1, List.getElem?_append_right (by rw [List.length_take, icl_len]; omega), List.length_take, icl_len]; have := Hl16.out; rw [show 16 + j - min (8 * 2) (l.length * 2) = j by omega]; exact hu)
    rw [Nat.zero_add, ← ev1] at this
    exact this) (fun _ => by
    obtain ⟨g, c, ev1, _, _, hg, _, _⟩ := own_at H2.out.A.its (by have := Hl16.out; omega)
    injection ev1 with ev1
    injection ev1 with ev1
    injection ev1 with ev1
    show g7 < _
    rw [ev1]; exact hg) (icl_one r1) (by omega)
  have hac8 : ¬ ac = 8 := by omega
  clear hr1
  go_wp2_with fail
  have hw := Hw2.out
  rw [← hw, ← HN.out]
  clear hw k0 d1 e0a i0a i1a e0b
  refine q.mono ?_
  rintro x w3 ⟨⟨v3, rfl, own3⟩, t3⟩
  have R3 : Hid (RI (.slice none 0 0) v3 r1 w2 w3) := ⟨by rw [hr8]; exact own_low own3 (Nat.zero_le _), by
    obtain ⟨g, c, cur, e, hg, _⟩ := own_open own3 (by omega)
    exact Or.inr ⟨g, by rw [e]; rfl, hg⟩, t3.mono (fun _ _ h => h.elim)⟩
  obtain ⟨o3, c3, rfl⟩ := row_slice own3
  have H3 : Hid (S3 w2 (w3.setCell ⟨N, 0, none⟩ (.slice o3 8 c3)) (F1 ++ (F2 ++ [N])) p (.slice po np pc) (.slice (some ⟨kg, 0, none⟩) mp kd) L ps s a (.slice (some ⟨g7, 0, none⟩) 16 ac) (.slice qo 0 qc) l ql sa N (.slice o3 8 c3) (.slice none 0 0) r1 [] 0) := H2.out.bI R3.out
  obtain ⟨w4, hw4⟩ : ∃ w4, w4 = w3.setCell ⟨N, 0, none⟩ (.slice o3 8 c3) := ⟨_, rfl⟩
  rw [← hw4] at H3
  have f3 := (H2.out.B.tch t3 (fun _ _ h => h)).nd.cells.1
  have f4 := (H2.out.B.tch t3 (fun _ _ h => h)).nd.cells.2.2.2 0
  have Hw4 : Hid _ := hw4
  clear own3 t3 q R3 hw4
  go_wp2_with fail
  have hw := Hw4.out
  rw [← hw]
  clear hw f3 f4
  obtain ⟨l1, hl1⟩ : ∃ l1, l1 = l.take 7 := ⟨_, rfl⟩
  have Hl1 : Hid (l1 = l.take 7) := hl1
  have hl7 : l1.length = 7 := by rw [hl1, List.length_take]; have := Hl16.out; omega
  have f0 := H3.out.A.nd.cells.1
  have n0 : (Value.slice (some ⟨g7, 0, none⟩) 16 ac).ownBlock ≠ some a := (nod_self H3.out.apA.2.1).1
  have HD : Hid (∀ W, Tch (fun _ => False) w4 W → Calls Try.prog 54 #[.slice (some ⟨g7, 0, none⟩) 16 ac, .int .i64 7, .int .i64 16] W fun x w' => ∃ o c, x = .returned (.slice o 7 c) ∧ RI (.slice (some ⟨g7, 0, none⟩) 16 ac) (.slice o 7 c) l1 w4 w') := fun W tW => by
    have ho := own_tch H3.out.A.its tW (fun _ _ h => h)
    rw [Hl16.out] at ho
    refine (Idelete_any (.slice (some ⟨g7, 0, none⟩) 16 ac) 16 7 9 (icl l) W ho (by omega) (by omega) (by omega) (icl_one l)).mono ?_
    rintro x w' ⟨⟨v', rfl, hb', own'⟩, t'⟩
    have e : (icl l).take (7 * 2) ++ (icl l).drop ((7 + 9) * 2) = icl l1 := by
      rw [icl_take, icl_drop, ← Hl1.out, List.drop_eq_nil_of_le (by have := Hl16.out; omega)]
      simp [icl]
    rw [e] at own'
    obtain ⟨o, c, rfl⟩ := row_slice own'
    exact ⟨o, c, rfl, RS.pre ⟨by rw [hl7]; exact own', Or.inl hb', t'⟩ tW⟩
  clear hl1
  have HK : Hid (∀ W, Tch (fun i => (Value.slice (some ⟨g7, 0, none⟩) 16 ac).ownBlock = some i) w4 W → (W.cell? ⟨a, 0, none⟩ = some (.slice (some ⟨g7, 0, none⟩) 16 ac) ∧ True)) := fun W tW => ⟨by rw [tW.cell (p := ⟨a, 0, none⟩) (cell_lt f0) n0]; exact f0, trivial⟩
  obtain ⟨C, hC⟩ : ∃ C : List Value → World → Prop, C = fun s W => match s with
    | [] => Tch (fun _ => False) w4 W
    | [y] => ∃ o c, y = .slice o (7) c ∧ RI (.slice (some ⟨g7, 0, none⟩) 16 ac) (.slice o (7) c) l1 w4 W
    | _ => False := ⟨_, rfl⟩
  have hK : ∀ s W, C s W → W.cell? ⟨a, 0, none⟩ = some (.slice (some ⟨g7, 0, none⟩) 16 ac) ∧ True := fun s W h => by
    rw [hC] at h
    match s, h with
    | [], h => exact HK.out W (h.mono (fun _ _ h => h.elim))
    | [_], ⟨o, c, _, h⟩ => exact HK.out W h.tch
  have h2s : ∀ y W, C [y] W → ∃ o c, y = .slice o (7) c := fun y W h => by
    rw [hC] at h
    obtain ⟨o, c, e, _⟩ := h
    exact ⟨o, c, e⟩
  have Hfin : Hid (∀ o c W, C [.slice o (7) c] W → RI (.slice (some ⟨g7, 0, none⟩) 16 ac) (.slice o (7) c) l1 w4 W) := fun o c W h => by
    rw [hC] at h
    obtain ⟨o', c', e, hr⟩ := h
    rw [e]; exact hr
  have h2 : ∀ W, C [] W → Calls Try.prog 54 #[.slice (some ⟨g7, 0, none⟩) 16 ac, .int .i64 7, .int .i64 16] W fun x w' => ∃ o c, x = .returned (.slice o (7) c) ∧ C [.slice o (7) c] w' := fun W tW => by
    rw [hC] at tW
    refine (HD.out W tW).mono ?_
    rintro x w' ⟨o, c, rfl, hr⟩
    exact ⟨o, c, rfl, by rw [hC]; exact ⟨o, c, rfl, hr⟩⟩
  have h0' : C [] w4.drew := by rw [hC]; exact (Tch.refl _ _).drew
  clear hC HK
  refine wp_region_ordv [10] C 11 [0, 1, 2, 3, 4, 5, 6, 7, 8, 9, 10] (by kernel_rfl) (by kernel_rfl) h0' ?_
  clear h0'
  refine ordv_read rfl (by go_simp) (by rfl) ?_
  apply Exists.intro
  refine ⟨fun s' Wy hW b K Q hK' => ?_, fun K hK' => ?_⟩
  · obtain ⟨y0, -⟩ := hK _ Wy hW
    go_simp
    exact hK' Wy hW
  go_simp
  refine hK' _ ?_
  clear hK' K
  refine ordv_read rfl (by go_simp) (by rfl) ?_
  apply Exists.intro
  refine ⟨fun s' Wy hW b K Q hK' => ?_, fun K hK' => ?_⟩
  · obtain ⟨y0, -⟩ := hK _ Wy hW
    go_simp
    exact hK' Wy hW
  go_simp
  refine hK' _ ?_
  clear hK' K
  refine ordv_read rfl (by go_simp) (by rfl) ?_
  apply Exists.intro
  refine ⟨fun s' Wy hW b K Q hK' => ?_, fun K hK' => ?_⟩
  · obtain ⟨y0, -⟩ := hK _ Wy hW
    go_simp
    exact hK' Wy hW
  go_simp
  refine hK' _ ?_
  clear hK' K
  refine ordv_read rfl (by go_simp) (by rfl) ?_
  apply Exists.intro
  refine ⟨fun s' Wy hW b K Q hK' => ?_, fun K hK' => ?_⟩
  · obtain ⟨y0, -⟩ := hK _ Wy hW
    go_simp
    exact hK' Wy hW
  go_simp
  refine hK' _ ?_
  clear hK' K
  refine ordv_read rfl (by go_simp) (by rfl) ?_
  apply Exists.intro
  refine ⟨fun s' Wy hW b K Q hK' => ?_, fun K hK' => ?_⟩
  · obtain ⟨y0, -⟩ := hK _ Wy hW
    go_simp
    exact hK' Wy hW
  go_simp
  refine hK' _ ?_
  clear hK' K
  refine ordv_read rfl (by go_simp) (by rfl) ?_
  apply Exists.intro
  refine ⟨fun s' Wy hW b K Q hK' => ?_, fun K hK' => ?_⟩
  · obtain ⟨y0, -⟩ := hK _ Wy hW
    go_simp
    exact hK' Wy hW
  go_simp
  refine hK' _ ?_
  clear hK' K
  refine ordv_read rfl (by go_simp) (by rfl) ?_
  apply Exists.intro
  refine ⟨fun s' Wy hW b K Q hK' => ?_, fun K hK' => ?_⟩
  · obtain ⟨y0, -⟩ := hK _ Wy hW
    go_simp
    exact hK' Wy hW
  go_simp
  refine hK' _ ?_
  clear hK' K
  refine ordv_read rfl (by go_simp) (by rfl) ?_
  apply Exists.intro
  refine ⟨fun s' Wy hW b K Q hK' => ?_, fun K hK' => ?_⟩
  · obtain ⟨y0, -⟩ := hK _ Wy hW
    go_simp
    exact hK' Wy hW
  go_simp
  refine hK' _ ?_
  clear hK' K
  refine ordv_read rfl (by go_simp) (by rfl) ?_
  apply Exists.intro
  refine ⟨fun s' Wy hW b K Q hK' => ?_, fun K hK' => ?_⟩
  · obtain ⟨y0, -⟩ := hK _ Wy hW
    go_simp
    exact hK' Wy hW
  go_simp
  refine hK' _ ?_
  clear hK' K
  refine ordv_read rfl (by go_simp) (by rfl) ?_
  apply Exists.intro
  refine ⟨fun s' Wy hW b K Q hK' => ?_, fun K hK' => ?_⟩
  · obtain ⟨y0, -⟩ := hK _ Wy hW
    go_simp
    exact hK' Wy hW
  go_simp
  refine hK' _ ?_
  clear hK' K
  refine ordv_turn rfl (by go_simp) (by rfl) (fun Wy hW b K Q hK' => ?_) (fun u hu K hK' => ?_)
  · go_simp
    go_at_call 54
    refine (h2 Wy hW).mono ?_
    rintro x w' ⟨o, c, rfl, h3⟩
    exact hK' _ w' h3
  obtain ⟨o5, c5, rfl⟩ : ∃ o c, u = .slice o (7) c := by
    obtain ⟨W', hW'⟩ := hu
    exact h2s u W' hW'
  clear hu h2 h2s
  go_simp
  refine hK' _ ?_
  clear hK' K
  refine ordv_nil ?_
  intro w5 hw9
  have R9 : Hid (RI (.slice (some ⟨g7, 0, none⟩) 16 ac) (.slice o5 (7) c5) l1 w4 w5) := Hfin.out _ _ _ hw9
  clear Hfin hK hw9
  have H5 : Hid (S3 w2 (w5.setCell ⟨a, 0, none⟩ (.slice o5 7 c5)) (F1 ++ (F2 ++ [N])) p (.slice po np pc) (.slice (some ⟨kg, 0, none⟩) mp kd) L ps s a (.slice o5 7 c5) (.slice qo 0 qc) l1 ql sa N (.slice o3 8 c3) (.slice none 0 0) r1 [] 0) := H3.out.aI R9.out
  have f3 := (H3.out.A.nd.tch R9.out.tch n0).cells.1
  have f4 := (H3.out.A.nd.tch R9.out.tch n0).cells.2.2.2 0
  obtain ⟨w6, hw6⟩ : ∃ w6, w6 = w5.setCell ⟨a, 0, none⟩ (.slice o5 7 c5) := ⟨_, rfl⟩
  rw [← hw6] at H5
  have Hw6 : Hid _ := hw6
  have q := leaf_any a (.slice o5 7 c5) (.slice qo 0 qc) l1 ql sa w6 H5.out.A
  rw [show ql.isEmpty = true by rw [Hql.out]; rfl] at q
  clear hw6 f0 n0 HD R9 C
  go_wp2_with fail
  have hw := Hw6.out
  rw [← hw]
  clear hw f3 f4
  refine q.mono ?_
  rintro x w6' ⟨rfl, rfl⟩
  clear q
  have HBA : Hid (zsum w2 ql ≤ 1000000000000000000) := HB2
  have HBB : Hid (zsum w2 [] ≤ 1000000000000000000) := by show zsum w2 [] ≤ _; simp [zsum]
  have z1 := H5.out.zs (qs := ql) (fun q hq => HZ.out q ((fun h => h) hq))
  have q := recount_any a (.slice o5 7 c5) (.slice qo 0 qc) l1 ql sa w6' H5.out.A (fun q hq => ⟨(z1.1 q hq).1, (z1.1 q hq).2, fun e => (HZ.out q ((fun h => h) hq)).2.2 (by rw [e]; exact H7inA.out)⟩) (by rw [z1.2]; exact HBA.out) (by omega) (by have := Hql.out; rw [this]; simp) (nod_self H5.out.apA.2.1).1 (nod_self H5.out.apA.2.1).2
  rw [z1.2] at q
  clear z1
  go_wp2_with fail
  refine q.mono ?_
  rintro x w11 ⟨rfl, Fq, tq⟩
  have H11 : Hid (S3 w2 w11 (F1 ++ (F2 ++ [N])) p (.slice po np pc) (.slice (some ⟨kg, 0, none⟩) mp kd) L ps s a (.slice o5 7 c5) (.slice qo 0 qc) l1 ql (l1.length + zsum w2 ql) N (.slice o3 8 c3) (.slice none 0 0) r1 [] 0) := H5.out.aZ Fq tq
  clear q Fq tq
  have z1 := H11.out.zs (qs := []) (fun q hq => HZ.out q ((fun h => absurd h (List.not_mem_nil)) hq))
  have q := recount_any N (.slice o3 8 c3) (.slice none 0 0) r1 [] 0 w11 H11.out.B (fun q hq => ⟨(z1.1 q hq).1, (z1.1 q hq).2, fun e => (HZ.out q ((fun h => absurd h (List.not_mem_nil)) hq)).2.2 (by rw [e]; exact H8inB.out)⟩) (by rw [z1.2]; exact HBB.out) (by omega) (by simp) (nod_self H11.out.apA.2.2).1 (nod_self H11.out.apA.2.2).2
  rw [z1.2] at q
  clear z1
  go_wp2_with fail
  refine q.mono ?_
  rintro x w12 ⟨rfl, Fq, tq⟩
  have H12 : Hid (S3 w2 w12 (F1 ++ (F2 ++ [N])) p (.slice po np pc) (.slice (some ⟨kg, 0, none⟩) mp kd) L ps s a (.slice o5 7 c5) (.slice qo 0 qc) l1 ql (l1.length + zsum w2 ql) N (.slice o3 8 c3) (.slice none 0 0) r1 [] (r1.length + zsum w2 [])) := H11.out.bZ Fq tq
  clear q Fq tq
  go_wp2_with fail
  obtain ⟨L1, hL1⟩ : ∃ L1, L1 = L.take pl ++ m :: L.drop pl := ⟨_, rfl⟩
  have HL1 : Hid (L1 = L.take pl ++ m :: L.drop pl) := hL1
  have hLl : L1.length = np + 1 := by rw [hL1]; have := Hnp.out; simp only [List.length_append, List.length_take, List.length_cons, List.length_drop]; omega
  have hXb := HX.out w12 H12.out.t
  have f0 := H12.out.P.nd.cells.1
  have f1 : w12.cell? ⟨N + 1, 0, none⟩ = some (.string m.1) := by rw [blk_cell hXb]; rfl
  have f2 : w12.cell? ⟨N + 1, 1, none⟩ = some (ev m.2) := by rw [blk_cell hXb]; rfl
  have n0 : (Value.slice po np pc).ownBlock ≠ some p := (nod_self H12.out.apA.1).1
  have n1 : (Value.slice po np pc).ownBlock ≠ some (N + 1) := fun e => by
    rcases H12.out.f.old (b := N + 1) (by simp only [List.mem_append]; exact Or.inl (by simp [fb, mem_bl.2 e])) with h | h
    · simp only [List.mem_append, List.mem_singleton] at h
      rcases h with h | h | h
      · have := HF1.out _ h; have := HN.out; omega
      · have := HF2.out _ h; have := HN.out; omega
      · omega
    · have h1 := blk_lt (HX.out w2 (Tch.refl _ _)); omega
  have HD : Hid (∀ g W, Tch (fun _ => False) w12 W → W.heap[g]? = some (.cells #[.string m.1, ev m.2] 74 (0, 0)) → w12.heap.size ≤ g → Calls Try.prog 52 #[.slice po np pc, .int .i64 pl, .slice (some ⟨g, 0, none⟩) 1 1] W fun x w' => ∃ o c, x = .returned (.slice o (np + 1) c) ∧ RI (.slice po np pc) (.slice o (np + 1) c) L1 w12 w') := fun g W tW hg hge => by
    have ho := own_tch H12.out.P.its tW (fun _ _ h => h)
    rw [← Hnp.out] at ho
    refine (Iinsert_any (.slice po np pc) np pl g (icl L) [.string m.1, ev m.2] W ho hg rfl (fun e => by have := (H12.out.P.its.lt g e).2; omega) (by omega) (by omega) (icl_one L) (by simp [Value.oneCell'])).mono ?_
    rintro x w' ⟨⟨v', rfl, own', hb'⟩, t'⟩
    have e : (icl L).take (pl * 2) ++ [.string m.1, ev m.2] ++ (icl L).drop (pl * 2) = icl L1 := by
      rw [icl_take, icl_drop, HL1.out, icl_app, icl_cons, List.append_assoc]
    rw [e] at own'
    obtain ⟨o, c, rfl⟩ := row_slice own'
    exact ⟨o, c, rfl, RS.pre ⟨by rw [hLl]; exact own', hb', t'⟩ tW⟩
  clear hL1 hXb
  have HK : Hid (∀ W, Tch (fun i => (Value.slice po np pc).ownBlock = some i) w12 W → (W.cell? ⟨p, 0, none⟩ = some (.slice po np pc) ∧ W.cell? ⟨N + 1, 0, none⟩ = some (.string m.1) ∧ W.cell? ⟨N + 1, 1, none⟩ = some (ev m.2))) := fun W tW => ⟨by rw [tW.cell (p := ⟨p, 0, none⟩) (cell_lt f0) n0]; exact f0, by rw [tW.cell (p := ⟨N + 1, 0, none⟩) (cell_lt f1) n1]; exact f1, by rw [tW.cell (p := ⟨N + 1, 1, none⟩) (cell_lt f2) n1]; exact f2⟩
  obtain ⟨C, hC⟩ : ∃ C : List Value → World → Prop, C = fun s W => match s with
    | [] => Tch (fun _ => False) w12 W
    | [x] => Tch (fun _ => False) w12 W ∧ ∃ g, x = .slice (some ⟨g, 0, none⟩) 1 1 ∧ W.heap[g]? = some (.cells #[.string m.1, ev m.2] 74 (0, 0)) ∧ w12.heap.size ≤ g
    | [_, y] => ∃ o c, y = .slice o (np + 1) c ∧ RI (.slice po np pc) (.slice o (np + 1) c) L1 w12 W
    | _ => False := ⟨_, rfl⟩
  have hK : ∀ s W, C s W → W.cell? ⟨p, 0, none⟩ = some (.slice po np pc) ∧ W.cell? ⟨N + 1, 0, none⟩ = some (.string m.1) ∧ W.cell? ⟨N + 1, 1, none⟩ = some (ev m.2) := fun s W h => by
    rw [hC] at h
    match s, h with
    | [], h => exact HK.out W (h.mono (fun _ _ h => h.elim))
    | [_], h => exact HK.out W (h.1.mono (fun _ _ h => h.elim))
    | [_, _], ⟨o, c, _, h⟩ => exact HK.out W h.tch
  have h1 : ∀ W, C [] W → C [.slice (some ⟨W.heap.size, 0, none⟩) 1 1] (W.alloc (.cells #[.string m.1, ev m.2] 74)) := fun W h => by
    rw [hC] at h ⊢
    exact ⟨h.allocR _, W.heap.size, rfl, alloc_new _ _, h.size⟩
  have h1s : ∀ x W, C [x] W → ∃ g, x = .slice (some ⟨g, 0, none⟩) 1 1 := fun x W h => by
    rw [hC] at h
    obtain ⟨_, g, e, _⟩ := h
    exact ⟨g, e⟩
  have h2s : ∀ x y W, C [x, y] W → ∃ o c, y = .slice o (np + 1) c := fun x y W h => by
    rw [hC] at h
    obtain ⟨o, c, e, _⟩ := h
    exact ⟨o, c, e⟩
  have Hfin : Hid (∀ x o c W, C [x, .slice o (np + 1) c] W → RI (.slice po np pc) (.slice o (np + 1) c) L1 w12 W) := fun x o c W h => by
    rw [hC] at h
    obtain ⟨o', c', e, hr⟩ := h
    rw [e]; exact hr
  have h2 : ∀ g W, C [.slice (some ⟨g, 0, none⟩) 1 1] W → Calls Try.prog 52 #[.slice po np pc, .int .i64 pl, .slice (some ⟨g, 0, none⟩) 1 1] W fun x w' => ∃ o c, x = .returned (.slice o (np + 1) c) ∧ C [.slice (some ⟨g, 0, none⟩) 1 1, .slice o (np + 1) c] w' := fun g W h => by
    rw [hC] at h
    obtain ⟨tW, g', e, hg, hge⟩ := h
    have e' : g = g' := by simpa using e
    subst e'
    refine (HD.out g W tW hg hge).mono ?_
    rintro x w' ⟨o, c, rfl, hr⟩
    exact ⟨o, c, rfl, by rw [hC]; exact ⟨o, c, rfl, hr⟩⟩
  have h0' : C [] w12.drew := by rw [hC]; exact (Tch.refl _ _).drew
  clear hC HK
  refine wp_region_ordv [7, 8] C 9 [0, 1, 2, 3, 4, 5, 6, 7, 8] (by kernel_rfl) (by kernel_rfl) h0' ?_
  clear h0'
  refine ordv_read rfl (by go_simp) (by rfl) ?_
  apply Exists.intro
  refine ⟨fun s' Wy hW b K Q hK' => ?_, fun K hK' => ?_⟩
  · obtain ⟨y0, y1, y2⟩ := hK _ Wy hW
    go_simp
    exact hK' Wy hW
  go_simp
  refine hK' _ ?_
  clear hK' K
  refine ordv_read rfl (by go_simp) (by rfl) ?_
  apply Exists.intro
  refine ⟨fun s' Wy hW b K Q hK' => ?_, fun K hK' => ?_⟩
  · obtain ⟨y0, y1, y2⟩ := hK _ Wy hW
    go_simp
    exact hK' Wy hW
  go_simp
  refine hK' _ ?_
  clear hK' K
  refine ordv_read rfl (by go_simp) (by rfl) ?_
  apply Exists.intro
  refine ⟨fun s' Wy hW b K Q hK' => ?_, fun K hK' => ?_⟩
  · obtain ⟨y0, y1, y2⟩ := hK _ Wy hW
    go_simp
    exact hK' Wy hW
  go_simp
  refine hK' _ ?_
  clear hK' K
  refine ordv_read rfl (by go_simp) (by rfl) ?_
  apply Exists.intro
  refine ⟨fun s' Wy hW b K Q hK' => ?_, fun K hK' => ?_⟩
  · obtain ⟨y0, y1, y2⟩ := hK _ Wy hW
    go_simp
    exact hK' Wy hW
  go_simp
  refine hK' _ ?_
  clear hK' K
  refine ordv_read rfl (by go_simp) (by rfl) ?_
  apply Exists.intro
  refine ⟨fun s' Wy hW b K Q hK' => ?_, fun K hK' => ?_⟩
  · obtain ⟨y0, y1, y2⟩ := hK _ Wy hW
    go_simp
    exact hK' Wy hW
  go_simp
  refine hK' _ ?_
  clear hK' K
  refine ordv_read rfl (by go_simp) (by rfl) ?_
  apply Exists.intro
  refine ⟨fun s' Wy hW b K Q hK' => ?_, fun K hK' => ?_⟩
  · obtain ⟨y0, y1, y2⟩ := hK _ Wy hW
    go_simp
    exact hK' Wy hW
  go_simp
  refine hK' _ ?_
  clear hK' K
  refine ordv_read rfl (by go_simp) (by rfl) ?_
  apply Exists.intro
  refine ⟨fun s' Wy hW b K Q hK' => ?_, fun K hK' => ?_⟩
  · obtain ⟨y0, y1, y2⟩ := hK _ Wy hW
    go_simp
    exact hK' Wy hW
  go_simp
  refine hK' _ ?_
  clear hK' K
  refine ordv_turn rfl (by go_simp) (by rfl) (fun Wy hW b K Q hK' => ?_) (fun u hu K hK' => ?_)
  · go_simp
    exact hK' _ _ (h1 Wy hW)
  obtain ⟨g, rfl⟩ : ∃ g, u = .slice (some ⟨g, 0, none⟩) 1 1 := by
    obtain ⟨W', hW'⟩ := hu
    exact h1s u W' hW'
  clear hu h1 h1s
  go_simp
  refine hK' _ ?_
  clear hK' K
  refine ordv_turn rfl (by go_simp) (by rfl) (fun Wy hW b K Q hK' => ?_) (fun u hu K hK' => ?_)
  · go_simp
    go_at_call 52
    refine (h2 g Wy hW).mono ?_
    rintro x w' ⟨o, c, rfl, h3⟩
    exact hK' _ w' h3
  obtain ⟨o13, c13, rfl⟩ : ∃ o c, u = .slice o (np + 1) c := by
    obtain ⟨W', hW'⟩ := hu
    exact h2s _ u W' hW'
  clear hu h2 h2s
  go_simp
  refine hK' _ ?_
  clear hK' K
  refine ordv_nil ?_
  intro w13 hw9
  have R9 : Hid (RI (.slice po np pc) (.slice o13 (np + 1) c13) L1 w12 w13) := Hfin.out _ _ _ _ hw9
  clear Hfin hK hw9
  have H13 : Hid (S3 w2 (w13.setCell ⟨p, 0, none⟩ (.slice o13 (np + 1) c13)) (F1 ++ (F2 ++ [N])) p (.slice o13 (np + 1) c13) (.slice (some ⟨kg, 0, none⟩) mp kd) L1 ps s a (.slice o5 7 c5) (.slice qo 0 qc) l1 ql (l1.length + zsum w2 ql) N (.slice o3 8 c3) (.slice none 0 0) r1 [] (r1.length + zsum w2 [])) := H12.out.pI R9.out
  have f3 := (H12.out.P.nd.tch R9.out.tch n0).cells.1
  have f4 := (H12.out.P.nd.tch R9.out.tch n0).cells.2.2.2 0
  have f5 := (H12.out.P.nd.tch R9.out.tch n0).cells.2.1
  obtain ⟨w14, hw14⟩ : ∃ w14, w14 = w13.setCell ⟨p, 0, none⟩ (.slice o13 (np + 1) c13) := ⟨_, rfl⟩
  rw [← hw14] at H13
  have Hw14 : Hid _ := hw14
  clear hw14 f0 f1 f2 n0 n1 HD R9 C
  obtain ⟨ps1, hps1⟩ : ∃ ps1, ps1 = ps.take (pl + 1) ++ N :: ps.drop (pl + 1) := ⟨_, rfl⟩
  have Hps1 : Hid (ps1 = ps.take (pl + 1) ++ N :: ps.drop (pl + 1)) := hps1
  have hpsl : ps1.length = mp + 1 := by rw [hps1]; have := Hmp.out; simp only [List.length_append, List.length_take, List.length_cons, List.length_drop]; omega
  obtain ⟨w15, hw15⟩ : ∃ w15, w15 = w14.alloc (.cells #[pv N] 62) := ⟨_, rfl⟩
  have t15 : Tch (fun _ => False) w14 w15 := by rw [hw15]; exact Tch.alloc _ _ _
  have q : Calls Try.prog 82 #[.slice (some ⟨kg, 0, none⟩) mp kd, .int .i64 (pl + 1), .slice (some ⟨w14.heap.size, 0, none⟩) 1 1] w15 fun x w' => ∃ o c, x = .returned (.slice o (mp + 1) c) ∧ RK (.slice (some ⟨kg, 0, none⟩) mp kd) (.slice o (mp + 1) c) ps1 w14 w' := by
    have ho := own_tch H13.out.P.kids t15 (fun _ _ h => h)
    rw [← Hmp.out] at ho
    have hg : w15.heap[w14.heap.size]? = some (.cells [pv N].toArray 62 (0, 0)) := by rw [hw15]; exact alloc_new _ _
    have := Hmpn.out
    refine (Kinsert_any (.slice (some ⟨kg, 0, none⟩) mp kd) mp (pl + 1) w14.heap.size (pcl ps) [pv N] w15 ho hg rfl (fun e => by have := (H13.out.P.kids.lt _ e).2; omega) (by omega) (by omega) (pcl_one ps) (by simp [Value.oneCell'])).mono ?_
    rintro x w' ⟨⟨v', rfl, own', hb'⟩, t'⟩
    have e : (pcl ps).take ((pl + 1) * 1) ++ [pv N] ++ (pcl ps).drop ((pl + 1) * 1) = pcl ps1 := by
      rw [pcl_take, pcl_drop, Hps1.out, pcl_app, List.append_assoc]
      rfl
    rw [e] at own'
    obtain ⟨o, c, rfl⟩ := row_slice own'
    exact ⟨o, c, rfl, RS.pre ⟨by rw [hpsl]; exact own', hb', t'⟩ t15⟩
  have n0 : (Value.slice (some ⟨kg, 0, none⟩) mp kd).ownBlock ≠ some p := (nod_self H13.out.apA.1).2
  have Hw15 : Hid _ := hw15
  have h14 := Hw14.out
  have hsz : w14.heap.size = w13.heap.size := by rw [h14]; simp [World.setCell]
  rw [hsz] at q
  have Hsz : Hid _ := hsz
  have hpw : IntKind.i64.wrap ((pl : Int) + 1) = (pl : Int) + 1 := by rw [IntKind.wrap_i64]; omega
  clear hps1 t15 hw15 h14 hsz
  go_wp2_with fail
  have hw := Hw15.out
  rw [Hw14.out] at hw
  rw [← hw]
  clear hw f3 f4 f5
  refine q.mono ?_
  rintro x w16 ⟨o15, c15, rfl, R9⟩
  have H15 : Hid (S3 w2 (w16.setCell ⟨p, 1, none⟩ (.slice o15 (mp + 1) c15)) (F1 ++ (F2 ++ [N])) p (.slice o13 (np + 1) c13) (.slice o15 (mp + 1) c15) L1 ps1 s a (.slice o5 7 c5) (.slice qo 0 qc) l1 ql (l1.length + zsum w2 ql) N (.slice o3 8 c3) (.slice none 0 0) r1 [] (r1.length + zsum w2 [])) := H13.out.pK R9
  have f3 := (H13.out.P.nd.tch R9.tch n0).cells.2.1
  have f4 := (H13.out.P.nd.tch R9.tch n0).cells.2.2.2 1
  clear R9 n0 q
  go_wp2_with fail
  go_end0
  have h := H15.out.rebase T12.out Hnod.out HF1.out HF2.out (by have := HN.out; omega)
  rw [hl7, hr8, HL1.out, Hps1.out, Hl1.out, Hr1.out] at h
  have hq := Hql.out
  subst hq
  have e0 : zsum w2 [] = zsum w [] := rfl
  rw [e0] at h
  exact ⟨rfl, _, _, _, _, N, _, _, h, by have := HN.out; omega⟩
end Go.Proofs.Ytnjiiebjdpipjaa
