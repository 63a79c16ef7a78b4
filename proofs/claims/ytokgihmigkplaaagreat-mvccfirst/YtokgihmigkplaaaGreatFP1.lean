import Derived.Test.YtokgihmigkplaaaGreatFE3
set_option maxHeartbeats 8000000
set_option maxRecDepth 100000
namespace Go.Proofs.YtokgihmigkplaaaGreat.F
open Go.RowKit Go Go.Sort
set_option maxRecDepth 100000
def qj (q : Mo) (s : Se) : Nat → Mo
  | 0 => { q with n := q.n + 1 }
  | κ + 1 => if wroteS s κ then { qj q s κ with now := set6 (qj q s κ).now κ (seesS s κ), wn := set6 (qj q s κ).wn κ (q.n + 1) } else qj q s κ
theorem qj_l (q : Mo) (s : Se) : ∀ κ, (qj q s κ).l = q.l
  | 0 => rfl
  | κ + 1 => by
    unfold qj
    split
    · exact qj_l q s κ
    · exact qj_l q s κ
theorem qj_n (q : Mo) (s : Se) : ∀ κ, (qj q s κ).n = q.n + 1
  | 0 => rfl
  | κ + 1 => by
    unfold qj
    split
    · exact qj_n q s κ
    · exact qj_n q s κ
theorem qj_now (q : Mo) (s : Se) : ∀ κ, κ ≤ 6 → ∀ j, j < 6 → (qj q s κ).now.getD j 0 = if j < κ ∧ wroteS s j = true then seesS s j else q.now.getD j 0
  | 0, _, j, _ => by rw [if_neg (by omega)]; rfl
  | κ + 1, hκ, j, hj => by
    have ih := qj_now q s κ (by omega) j hj
    unfold qj
    split
    · rename_i hw
      show (set6 (qj q s κ).now κ (seesS s κ)).getD j 0 = _
      rw [set6_get _ (by omega) hj]
      by_cases e : j = κ
      · subst e; rw [if_pos rfl, if_pos ⟨by omega, hw⟩]
      · rw [if_neg e, ih]
        by_cases h2 : j < κ ∧ wroteS s j = true
        · rw [if_pos h2, if_pos ⟨by omega, h2.2⟩]
        · rw [if_neg h2, if_neg (fun h3 => h2 ⟨by omega, h3.2⟩)]
    · rename_i hw
      rw [ih]
      by_cases e : j = κ
      · subst e; rw [if_neg (fun h => by omega), if_neg (fun h => hw h.2)]
      · by_cases h2 : j < κ ∧ wroteS s j = true
        · rw [if_pos h2, if_pos ⟨by omega, h2.2⟩]
        · rw [if_neg h2, if_neg (fun h3 => h2 ⟨by omega, h3.2⟩)]
theorem qj_wn (q : Mo) (s : Se) : ∀ κ, κ ≤ 6 → ∀ j, j < 6 → (qj q s κ).wn.getD j 0 = if j < κ ∧ wroteS s j = true then q.n + 1 else q.wn.getD j 0
  | 0, _, j, _ => by rw [if_neg (by omega)]; rfl
  | κ + 1, hκ, j, hj => by
    have ih := qj_wn q s κ (by omega) j hj
    unfold qj
    split
    · rename_i hw
      show (set6 (qj q s κ).wn κ (q.n + 1)).getD j 0 = _
      rw [set6_get _ (by omega) hj]
      by_cases e : j = κ
      · subst e; rw [if_pos rfl, if_pos ⟨by omega, hw⟩]
      · rw [if_neg e, ih]
        by_cases h2 : j < κ ∧ wroteS s j = true
        · rw [if_pos h2, if_pos ⟨by omega, h2.2⟩]
        · rw [if_neg h2, if_neg (fun h3 => h2 ⟨by omega, h3.2⟩)]
    · rename_i hw
      rw [ih]
      by_cases e : j = κ
      · subst e; rw [if_neg (fun h => by omega), if_neg (fun h => hw h.2)]
      · by_cases h2 : j < κ ∧ wroteS s j = true
        · rw [if_pos h2, if_pos ⟨by omega, h2.2⟩]
        · rw [if_neg h2, if_neg (fun h3 => h2 ⟨by omega, h3.2⟩)]
theorem ends_commit {w0 : Fr} {w : World} {qb hb mb nq : Nat} {m : Mg} {L : HL} {q : Mo} {A : Nat → Sx} {F : Nat → Prop} (h : LW w0 w qb hb mb nq m L q A F) (hwf : Wf m) {k : Nat} {s : Se} (hs : q.l[k]? = some s) {t : Tx} (ht : SesTx m s t) (hx : s.x ≤ 1000000) (hqn : q.n ≤ 1000000) (who key n : Int) :
    Calls Tryz.prog 22 #[.pointer (some ⟨qb, 0, none⟩), .int .i64 k, actV 1 who key n] w fun x w' => x = .returned (.bool true) ∧ LW w0 w' qb hb mb nq (m.fin t.x 3) L { qj q s 6 with l := q.l.set k se0 } (updA A k sx0) F ∧ SeIn w0 w' F s (A k) := by
  have hk : k < 5 := by have := (List.getElem?_eq_some_iff.1 hs).1; have := h.ln; omega
  have HSs : Hid (q.l[k]? = some s) := hs
  obtain ⟨w1, hw1⟩ : ∃ w1, w1 = w.alloc (.cells #[.int .i64 1, .int .i64 who, .int .i64 key, .int .i64 n] 29) := ⟨_, rfl⟩
  have h1 : LW w0 w1 qb hb mb nq m L q A F := h.no (by rw [hw1]; exact Tch.alloc _ _ _)
  obtain ⟨N, hN⟩ : ∃ N, N = w.heap.size := ⟨_, rfl⟩
  have x0 : w1.cell? ⟨N, 0, none⟩ = some (.int .i64 1) := by rw [hw1, hN, blk_cell (alloc_new _ _)]; rfl
  have hf := ses_x hwf ht
  have hst := ht.lt3.2
  have hbd := h.bd k s hs
  obtain ⟨m', hm'⟩ : ∃ m', m' = m.fin t.x 3 := ⟨_, rfl⟩
  obtain ⟨C, hC⟩ : ∃ C : List Value → World → Prop, C = E1 w0 qb hb mb nq m m' L q A F (.int .i64 0) := ⟨_, rfl⟩
  have hK : Hid (∀ s1 W, C s1 W → W.cell? ⟨qb, 0, none⟩ = some (.pointer (some ⟨mb, 0, none⟩)) ∧ W.cell? ⟨qb, 2 + k * 15 + 2, none⟩ = some (.int .i64 s.x)) := fun s1 W hW => by
    rw [hC] at hW
    exact ⟨hW.mor.cm, (hW.mor.se k s hs).c 2 _ rfl⟩
  have h0' : C [] w1.drew := by
    rw [hC]
    exact LW.no h1 (Tch.refl _ _).drew
  have c1 : Hid (∀ W, C [] W → Calls Tryz.prog 20 #[.pointer (some ⟨mb, 0, none⟩), .int .i64 s.x] W fun x W' => ∃ y, x = .returned y ∧ C [y] W') := fun W hW => by
    rw [hC] at hW ⊢
    rw [hm']
    exact (LW.commits hW hf hst (by omega) (by omega)).mono fun x W' ⟨e, h2⟩ => ⟨_, e, rfl, h2⟩
  have s1 : Hid (∀ y W, C [y] W → y = .int .i64 0) := fun y W hW => by
    rw [hC] at hW
    exact hW.1
  have HF : Hid (∀ y W, C [y] W → LW w0 W qb hb mb nq m' L q A F) := fun y W hW => by
    rw [hC] at hW
    exact hW.2
  have HS : Hid (q.l[k]? = some s) := hs
  have HBd : Hid (SeBd s) := hbd
  have HW1 : Hid (w1 = _) := hw1
  have HN : Hid (N = w.heap.size) := hN
  unfold actV
  rw [← hm']
  clear h h1 hC hf hst ht hs hwf hx hw1 hN hbd hm'
  go_enter Tryz.func22, Tryz.ntmps22
  go_upto_region 3 with (fail)
  rw [← HW1.out, ← HN.out]
  go_upto_region 5 with (fail)
  refine wp_region_ordv [8] C 9 [0, 1, 2, 3, 4, 5, 6, 7, 8] (by kernel_rfl) (by kernel_rfl) h0' ?_
  clear h0'
  refine ordv_read rfl (by go_simp) (by rfl) ?_
  apply Exists.intro
  refine ⟨fun s' W hW b K Q hK' => ?_, fun K hK' => ?_⟩
  · obtain ⟨q0, q1⟩ := hK.out _ W hW
    go_simp
    exact hK' W hW
  go_simp
  refine hK' _ ?_
  clear hK' K
  refine ordv_read rfl (by go_simp) (by rfl) ?_
  apply Exists.intro
  refine ⟨fun s' W hW b K Q hK' => ?_, fun K hK' => ?_⟩
  · obtain ⟨q0, q1⟩ := hK.out _ W hW
    go_simp
    exact hK' W hW
  go_simp
  refine hK' _ ?_
  clear hK' K
  refine ordv_read rfl (by go_simp) (by rfl) ?_
  apply Exists.intro
  refine ⟨fun s' W hW b K Q hK' => ?_, fun K hK' => ?_⟩
  · obtain ⟨q0, q1⟩ := hK.out _ W hW
    go_simp
    exact hK' W hW
  go_simp
  refine hK' _ ?_
  clear hK' K
  refine ordv_read rfl (by go_simp) (by rfl) ?_
  apply Exists.intro
  refine ⟨fun s' W hW b K Q hK' => ?_, fun K hK' => ?_⟩
  · obtain ⟨q0, q1⟩ := hK.out _ W hW
    go_simp
    exact hK' W hW
  go_simp
  refine hK' _ ?_
  clear hK' K
  refine ordv_read rfl (by go_simp) (by rfl) ?_
  apply Exists.intro
  refine ⟨fun s' W hW b K Q hK' => ?_, fun K hK' => ?_⟩
  · obtain ⟨q0, q1⟩ := hK.out _ W hW
    go_simp
    exact hK' W hW
  go_simp
  refine hK' _ ?_
  clear hK' K
  refine ordv_read rfl (by go_simp) (by rfl) ?_
  apply Exists.intro
  refine ⟨fun s' W hW b K Q hK' => ?_, fun K hK' => ?_⟩
  · obtain ⟨q0, q1⟩ := hK.out _ W hW
    go_simp
    exact hK' W hW
  go_simp
  refine hK' _ ?_
  clear hK' K
  refine ordv_read rfl (by go_simp) (by rfl) ?_
  apply Exists.intro
  refine ⟨fun s' W hW b K Q hK' => ?_, fun K hK' => ?_⟩
  · obtain ⟨q0, q1⟩ := hK.out _ W hW
    go_simp
    exact hK' W hW
  go_simp
  refine hK' _ ?_
  clear hK' K
  refine ordv_read rfl (by go_simp) (by rfl) ?_
  apply Exists.intro
  refine ⟨fun s' W hW b K Q hK' => ?_, fun K hK' => ?_⟩
  · obtain ⟨q0, q1⟩ := hK.out _ W hW
    go_simp
    exact hK' W hW
  go_simp
  refine hK' _ ?_
  clear hK' K
  refine ordv_turn rfl (by go_simp) (by rfl) (fun W hW b K Q hK' => ?_) (fun u hu K hK' => ?_)
  · go_simp
    go_at_call 20
    refine (c1.out W hW).mono ?_
    rintro x w' ⟨y, rfl, h1⟩
    exact hK' y w' h1
  obtain rfl : u = .int .i64 0 := by
    obtain ⟨W', hW'⟩ := hu
    exact s1.out u W' hW'
  clear hu
  go_simp
  refine hK' _ ?_
  clear hK' K
  refine ordv_nil ?_
  intro w5 hw5
  have h5 := HF.out _ w5 hw5
  have y89 := h5.mor.n
  have f89 := h5.frz 89
  have H6 : Hid (LW w0 (w5.setCell ⟨qb, 89, none⟩ (.int .i64 (q.n + 1 : Nat))) qb hb mb nq m' L (qj q s 0) A F) := h5.setN (q.n + 1)
  clear hK HF hw5 x0 HW1 HN c1 s1 h5
  go_wp2_with fail
  obtain ⟨w6, hw6⟩ : ∃ w6, w6 = w5.setCell ⟨qb, 89, none⟩ (.int .i64 ((q.n : Int) + 1)) := ⟨_, rfl⟩
  have H6' : Hid (LW w0 w6 qb hb mb nq m' L (qj q s 0) A F) := by rw [hw6]; exact H6.out
  rw [← hw6]
  clear hw6 H6 y89 f89
  go_loopw [9] (fun x wr => ∃ κ : Nat, x = .int .i64 κ ∧ κ ≤ 6 ∧ Hid (LW w0 wr qb hb mb nq m' L (qj q s κ) A F)) (fun x _ => 6 - (intOf x).toNat)
  case atStart => exact ⟨0, rfl, by omega, H6'⟩
  case round =>
    obtain ⟨κ, rfl, hκ, HT⟩ := hrel
    obtain ⟨wV, hwV⟩ : ∃ wV, wV = wr := ⟨_, rfl⟩
    subst hwV
    by_cases hlt : (κ : Int) < 6
    · have hR := HT.out.mor.se k s (by rw [qj_l]; exact HS.out)
      have q1 := wrote_any wV qb (2 + k * 15) s (A k) hR κ
      have hκ6 : κ < 6 := by omega
      obtain ⟨d, hd⟩ : ∃ d, d = wroteS s κ := ⟨_, rfl⟩
      rw [← hd] at q1
      have HQ : Hid (qj q s (κ + 1) = if d = true then { qj q s κ with now := set6 (qj q s κ).now κ (seesS s κ), wn := set6 (qj q s κ).wn κ (q.n + 1) } else qj q s κ) := by
        show _ = _
        rw [hd]; rfl
      clear hR hd
      go_wp2_with fail
      refine q1.mono ?_
      rintro x w7 ⟨rfl, t7⟩
      have H7 : Hid (LW w0 w7 qb hb mb nq m' L (qj q s κ) A F) := HT.out.no t7
      clear q1 t7 HT
      cases d with
      | false =>
        have HQ2 : Hid (LW w0 w7 qb hb mb nq m' L (qj q s (κ + 1)) A F) := by
          rw [HQ.out, if_neg (by simp)]; exact H7.out
        clear HQ
        go_wp2_with fail
        go_roundw
        case rel => exact ⟨κ + 1, by go_num, by omega, HQ2⟩
        case measure => (simp [intOf] <;> omega)
      | true =>
        have HQ3 : Hid (qj q s (κ + 1) = { qj q s κ with now := set6 (qj q s κ).now κ (seesS s κ), wn := set6 (qj q s κ).wn κ (q.n + 1) }) := by
          show _ = _
          rw [HQ.out, if_pos rfl]
        obtain ⟨C2, hC2⟩ : ∃ C2 : List Value → World → Prop, C2 = E1 w0 qb hb mb nq m' m' L (qj q s κ) A F (.int .i64 (seesS s κ)) := ⟨_, rfl⟩
        have h02 : C2 [] w7.drew := by
          rw [hC2]
          exact LW.no H7.out (Tch.refl _ _).drew
        have c2 : Hid (∀ W, C2 [] W → Calls Tryz.prog 44 #[.pointer (some ⟨qb, 2 + k * 15, none⟩), .int .i64 κ] W fun x W' => ∃ y, x = .returned y ∧ C2 [y] W') := fun W hW => by
          rw [hC2] at hW ⊢
          exact (sees_any W qb (2 + k * 15) s (A k) ((LW.mor hW).se k s (by rw [qj_l]; exact HS.out)) κ hκ6 (HBd.out.ba κ hκ6)).mono fun x W' ⟨e, t⟩ => ⟨_, e, rfl, LW.no hW t⟩
        have s2 : Hid (∀ y W, C2 [y] W → y = .int .i64 (seesS s κ)) := fun y W hW => by
          rw [hC2] at hW
          exact hW.1
        have HF2 : Hid (∀ y W, C2 [y] W → LW w0 W qb hb mb nq m' L (qj q s κ) A F) := fun y W hW => by
          rw [hC2] at hW
          exact hW.2
        have hK2 : Hid (∀ s1 W, C2 s1 W → True) := fun _ _ _ => trivial
        obtain ⟨sv, hsv⟩ : ∃ sv, sv = seesS s κ := ⟨_, rfl⟩
        rw [← hsv] at s2 HQ3
        clear hC2 HQ H7 hsv
        go_wp2_with fail
        refine wp_region_ordv [4] C2 8 [0, 1, 2, 3, 5, 6, 4, 7] (by kernel_rfl) (by kernel_rfl) h02 ?_
        clear h02
        refine ordv_read rfl (by go_simp) (by rfl) ?_
        apply Exists.intro
        refine ⟨fun s' W hW b K Q hK' => ?_, fun K hK' => ?_⟩
        · have q0 := hK2.out _ W hW
          go_simp
          exact hK' W hW
        go_simp
        refine hK' _ ?_
        clear hK' K
        refine ordv_read rfl (by go_simp) (by rfl) ?_
        apply Exists.intro
        refine ⟨fun s' W hW b K Q hK' => ?_, fun K hK' => ?_⟩
        · have q0 := hK2.out _ W hW
          go_simp
          exact hK' W hW
        go_simp
        refine hK' _ ?_
        clear hK' K
        refine ordv_read rfl (by go_simp) (by rfl) ?_
        apply Exists.intro
        refine ⟨fun s' W hW b K Q hK' => ?_, fun K hK' => ?_⟩
        · have q0 := hK2.out _ W hW
          go_simp
          exact hK' W hW
        go_simp
        refine hK' _ ?_
        clear hK' K
        refine ordv_read rfl (by go_simp) (by rfl) ?_
        apply Exists.intro
        refine ⟨fun s' W hW b K Q hK' => ?_, fun K hK' => ?_⟩
        · have q0 := hK2.out _ W hW
          go_simp
          exact hK' W hW
        go_simp
        refine hK' _ ?_
        clear hK' K
        refine ordv_read rfl (by go_simp) (by rfl) ?_
        apply Exists.intro
        refine ⟨fun s' W hW b K Q hK' => ?_, fun K hK' => ?_⟩
        · have q0 := hK2.out _ W hW
          go_simp
          exact hK' W hW
        go_simp
        refine hK' _ ?_
        clear hK' K
        refine ordv_read rfl (by go_simp) (by rfl) ?_
        apply Exists.intro
        refine ⟨fun s' W hW b K Q hK' => ?_, fun K hK' => ?_⟩
        · have q0 := hK2.out _ W hW
          go_simp
          exact hK' W hW
        go_simp
        refine hK' _ ?_
        clear hK' K
        refine ordv_turn rfl (by go_simp) (by rfl) (fun W hW b K Q hK' => ?_) (fun u hu K hK' => ?_)
        · go_simp
          go_at_call 44
          refine (c2.out W hW).mono ?_
          rintro x w' ⟨y, rfl, h1⟩
          exact hK' y w' h1
        obtain rfl : u = .int .i64 sv := by
          obtain ⟨W', hW'⟩ := hu
          exact s2.out u W' hW'
        clear hu
        go_simp
        refine hK' _ ?_
        clear hK' K
        refine ordv_read rfl (by go_simp) (by rfl) ?_
        apply Exists.intro
        refine ⟨fun s' W hW b K Q hK' => ?_, fun K hK' => ?_⟩
        · have q0 := hK2.out _ W hW
          go_simp
          exact hK' W hW
        go_simp
        refine hK' _ ?_
        clear hK' K
        refine ordv_nil ?_
        intro w8 hw8
        have h8 := HF2.out _ w8 hw8
        have y77 := h8.mor.now κ hκ6
        have f77 := h8.frz (77 + κ)
        have h9 := h8.setNow hκ6 sv
        obtain ⟨w9, hw9⟩ : ∃ w9, w9 = w8.setCell ⟨qb, 77 + κ, none⟩ (.int .i64 sv) := ⟨_, rfl⟩
        rw [← hw9] at h9
        obtain ⟨q9, hq9⟩ : ∃ q9 : Mo, q9 = { qj q s κ with now := set6 (qj q s κ).now κ sv } := ⟨_, rfl⟩
        rw [← hq9] at h9
        obtain ⟨C3, hC3⟩ : ∃ C3 : List Value → World → Prop, C3 = E1 w0 qb hb mb nq m' m' L q9 A F (.int .i64 0) := ⟨_, rfl⟩
        have h03 : C3 [] w9.drew := by
          rw [hC3]
          exact LW.no h9 (Tch.refl _ _).drew
        have hn9 : q9.n = q.n + 1 := by rw [hq9]; exact qj_n q s κ
        have hK3 : Hid (∀ s1 W, C3 s1 W → W.cell? ⟨qb, 89, none⟩ = some (.int .i64 ((q.n : Int) + 1)) ∧ True) := fun s1 W hW => by
          rw [hC3] at hW
          have := hW.mor.n
          rw [hn9] at this
          exact ⟨this, trivial⟩
        have HF3 : Hid (∀ W, C3 [] W → LW w0 W qb hb mb nq m' L q9 A F) := fun W hW => by
          rw [hC3] at hW
          exact hW
        have HQ9 : Hid ({ q9 with wn := set6 q9.wn κ (q.n + 1) } = qj q s (κ + 1)) := by
          show _ = _
          rw [HQ3.out, hq9]
        have HW9 : Hid (w9 = _) := hw9
        clear hw8 h8 hw9 h9 hq9 hC3 hn9 hK2 HF2 c2 s2 HQ3
        go_wp2_with fail
        rw [← HW9.out]
        refine wp_region_ordv [] C3 9 [0, 1, 2, 3, 4, 5, 6, 7, 8] (by kernel_rfl) (by kernel_rfl) h03 ?_
        clear h03
        refine ordv_read rfl (by go_simp) (by rfl) ?_
        apply Exists.intro
        refine ⟨fun s' W hW b K Q hK' => ?_, fun K hK' => ?_⟩
        · obtain ⟨q0, _⟩ := hK3.out _ W hW
          go_simp
          exact hK' W hW
        go_simp
        refine hK' _ ?_
        clear hK' K
        refine ordv_read rfl (by go_simp) (by rfl) ?_
        apply Exists.intro
        refine ⟨fun s' W hW b K Q hK' => ?_, fun K hK' => ?_⟩
        · obtain ⟨q0, _⟩ := hK3.out _ W hW
          go_simp
          exact hK' W hW
        go_simp
        refine hK' _ ?_
        clear hK' K
        refine ordv_read rfl (by go_simp) (by rfl) ?_
        apply Exists.intro
        refine ⟨fun s' W hW b K Q hK' => ?_, fun K hK' => ?_⟩
        · obtain ⟨q0, _⟩ := hK3.out _ W hW
          go_simp
          exact hK' W hW
        go_simp
        refine hK' _ ?_
        clear hK' K
        refine ordv_read rfl (by go_simp) (by rfl) ?_
        apply Exists.intro
        refine ⟨fun s' W hW b K Q hK' => ?_, fun K hK' => ?_⟩
        · obtain ⟨q0, _⟩ := hK3.out _ W hW
          go_simp
          exact hK' W hW
        go_simp
        refine hK' _ ?_
        clear hK' K
        refine ordv_read rfl (by go_simp) (by rfl) ?_
        apply Exists.intro
        refine ⟨fun s' W hW b K Q hK' => ?_, fun K hK' => ?_⟩
        · obtain ⟨q0, _⟩ := hK3.out _ W hW
          go_simp
          exact hK' W hW
        go_simp
        refine hK' _ ?_
        clear hK' K
        refine ordv_read rfl (by go_simp) (by rfl) ?_
        apply Exists.intro
        refine ⟨fun s' W hW b K Q hK' => ?_, fun K hK' => ?_⟩
        · obtain ⟨q0, _⟩ := hK3.out _ W hW
          go_simp
          exact hK' W hW
        go_simp
        refine hK' _ ?_
        clear hK' K
        refine ordv_read rfl (by go_simp) (by rfl) ?_
        apply Exists.intro
        refine ⟨fun s' W hW b K Q hK' => ?_, fun K hK' => ?_⟩
        · obtain ⟨q0, _⟩ := hK3.out _ W hW
          go_simp
          exact hK' W hW
        go_simp
        refine hK' _ ?_
        clear hK' K
        refine ordv_read rfl (by go_simp) (by rfl) ?_
        apply Exists.intro
        refine ⟨fun s' W hW b K Q hK' => ?_, fun K hK' => ?_⟩
        · obtain ⟨q0, _⟩ := hK3.out _ W hW
          go_simp
          exact hK' W hW
        go_simp
        refine hK' _ ?_
        clear hK' K
        refine ordv_read rfl (by go_simp) (by rfl) ?_
        apply Exists.intro
        refine ⟨fun s' W hW b K Q hK' => ?_, fun K hK' => ?_⟩
        · obtain ⟨q0, _⟩ := hK3.out _ W hW
          go_simp
          exact hK' W hW
        go_simp
        refine hK' _ ?_
        clear hK' K
        refine ordv_nil ?_
        intro w10 hw10
        have h10 := HF3.out w10 hw10
        have y83 := h10.mor.wn κ hκ6
        have f83 := h10.frz (83 + κ)
        have H11 : Hid (LW w0 (w10.setCell ⟨qb, 83 + κ, none⟩ (.int .i64 ((q.n : Int) + 1))) qb hb mb nq m' L (qj q s (κ + 1)) A F) := by
          rw [← HQ9.out]
          exact h10.setWn hκ6 (q.n + 1)
        clear hw10 h10 hK3 HF3 HQ9 HW9 y77 f77
        go_wp2_with fail
        go_roundw
        case rel => exact ⟨κ + 1, by go_num, by omega, H11⟩
        case measure => (simp [intOf] <;> omega)
    · have hκ6 : κ = 6 := by omega
      subst hκ6
      have H5 : Hid (LW w0 wV qb hb mb nq m' L (qj q s 6) A F) := HT
      have HL : Hid ((qj q s 6).l = q.l) := qj_l q s 6
      clear HT
      go_upto_region 14 with (fail)
      go_simp
      iterate 19 (first | go_values | go_skip | go_guarded | go_step | go_upon | go_in | go_back)
      refine wpList_store_mid rfl 38 (.tmp 74) (.tmp 71) rfl qb (2 + k * 15) (seC se0 sx0).toArray rfl rfl (H5.out.there (by show 2 + k * 15 + 15 ≤ 90; omega)) siz_ses (one_seC _ _) ?_
      have H8 : Hid (LW w0 (wV.setCells qb (2 + k * 15) (seC se0 sx0)) qb hb mb nq m' L { qj q s 6 with l := q.l.set k se0 } (updA A k sx0) F ∧ SeIn w0 (wV.setCells qb (2 + k * 15) (seC se0 sx0)) F s (A k)) := by
        have := H5.out.close hk
        rw [HL.out] at this
        exact ⟨this, H5.out.seKept (by rw [HL.out]; exact HSs.out) (tch_cells qb (seC se0 sx0) (2 + k * 15) wV)⟩
      obtain ⟨w8, hw8⟩ : ∃ w8, w8 = wV.setCells qb (2 + k * 15) (seC se0 sx0) := ⟨_, rfl⟩
      rw [← hw8] at H8
      have e8 : wV.setCells qb (2 + k * 15) (seC se0 sx0).toArray.toList = w8 := by rw [hw8]
      rw [e8]
      clear e8 hw8 H5
      go_wp2_with fail
      go_ret
      exact ⟨rfl, H8.out.1, H8.out.2⟩
end Go.Proofs.YtokgihmigkplaaaGreat.F
namespace Go.Proofs.YtokgihmigkplaaaGreat.F
open Go.RowKit Go Go.Sort
set_option maxRecDepth 100000
theorem own_ty {w : World} {b1 b2 s1 s2 n1 n2 : Nat} {t1 t2 : TypeId} {v1 v2 : Value} {x1 x2 : List Value} (h1 : w.ownsRow b1 t1 s1 v1 n1 x1) (h2 : w.ownsRow b2 t2 s2 v2 n2 x2) {g : Nat} (e1 : v1.ownBlock = some g) (e2 : v2.ownBlock = some g) : t1 = t2 := by
  rcases h1.2 with ⟨rfl, _⟩ | ⟨g1, c1, u1, rfl, _, k1, _⟩
  · cases e1
  · rcases h2.2 with ⟨rfl, _⟩ | ⟨g2, c2, u2, rfl, _, k2, _⟩
    · cases e2
    · have a1 : g1 = g := by injection e1
      have a2 : g2 = g := by injection e2
      subst a1 a2
      rw [k1] at k2
      injection k2 with k2
      injection k2
theorem own_addr {w : World} {b sz n : Nat} {t : TypeId} {ao : Option Addr} {c : Nat} {xs : List Value} (h : w.ownsRow b t sz (.slice ao n c) n xs) {g : Nat} (e : (Value.slice ao n c).ownBlock = some g) : ao = some ⟨g, 0, none⟩ := by
  rcases h.2 with ⟨e1, _⟩ | ⟨g1, c1, u1, e1, _⟩
  · rw [e1] at e; cases e
  · injection e1 with e2
    rw [e2] at e
    have : g1 = g := by injection e
    rw [e2, this]
theorem slice_lt {w : World} {b sz n : Nat} {t : TypeId} {ad : Addr} {c : Nat} {xs : List Value} (h : w.ownsRow b t sz (.slice (some ad) n c) n xs) : ad.block < w.heap.size := by
  rcases h.2 with ⟨e1, _⟩ | ⟨g1, c1, u1, e1, _, hg, _⟩
  · cases e1
  · injection e1 with e2
    injection e2 with e2
    rw [e2]; exact blk_lt hg
section
variable {w0 : Fr} {w w' : World} {qb hb mb nq : Nat} {m : Mg} {L : HL} {q : Mo} {A : Nat → Sx} {F : Nat → Prop}
theorem LW.relist (h : LW w0 w qb hb mb nq m L q A F) {k : Nat} {s s' : Se} {a' : Sx} (hs : q.l[k]? = some s) {S : Nat → Prop} (t : Tch S w w')
    (hS : ∀ i, S i → (Value.slice (A k).po s.ps.length (A k).pc).ownBlock = some i ∨ (Value.slice (A k).wo s.ws.length (A k).wc).ownBlock = some i)
    (hI : SeIn w0 w' (fun i => F i ∨ w.heap.size ≤ i ∧ i < w'.heap.size) s' a') (hb' : SeBd s')
    (hpo : a'.po = (A k).po ∨ ∀ ad, a'.po = some ad → w.heap.size ≤ ad.block) (hwo : a'.wo = (A k).wo ∨ ∀ ad, a'.wo = some ad → w.heap.size ≤ ad.block)
    {j : Nat} (hj : j < 15) {v : Value} (hv : (seC s (A k)).set j v = seC s' a') :
    LW w0 (w'.setCell ⟨qb, 2 + k * 15 + j, none⟩ v) qb hb mb nq m L { q with l := q.l.set k s' } (updA A k a') (fun i => F i ∨ w.heap.size ≤ i ∧ i < w'.heap.size) := by
  have hk : k < 5 := by have := (List.getElem?_eq_some_iff.1 hs).1; have := h.ln; omega
  have hsk := h.se k s hs
  have j5 : ∀ (j2 : Nat) (u : Se), q.l[j2]? = some u → j2 < 5 := fun j2 u hu => by have := (List.getElem?_eq_some_iff.1 hu).1; have := h.ln; omega
  have hSq : ¬ S qb := fun e => by
    rcases hS qb e with e | e
    · exact row_ne hsk.ps h.bk (by decide) e rfl
    · exact row_ne hsk.ws h.bk (by decide) e rfl
  have hSF : ∀ i, S i → F i ∧ w0.heap.size ≤ i := fun i e => by
    rcases hS i e with e | e
    · exact ⟨hsk.psf i e, row_ge hsk.ps e⟩
    · exact ⟨hsk.wsf i e, row_ge hsk.ws e⟩
  have bk1 : w'.heap[qb]? = some (.cells (moC q mb hb A).toArray 43 (0, 0)) := (t.block qb (blk_lt h.bk) hSq).trans h.bk
  have tS : Tch (fun i => i = qb) w' (w'.setCell ⟨qb, 2 + k * 15 + j, none⟩ v) := Tch.setCell _ _ _ _ rfl
  have t2 : Tch (fun i => S i ∨ i = qb) w (w'.setCell ⟨qb, 2 + k * 15 + j, none⟩ v) := (t.mono (fun _ _ e => .inl e)).trans tS (fun _ _ e => .inr e)
  have hz : (w'.setCell ⟨qb, 2 + k * 15 + j, none⟩ v).heap.size = w'.heap.size := by simp [World.setCell]
  have hother : ∀ (j2 : Nat) (u : Se), j2 ≠ k → q.l[j2]? = some u → SeIn w0 (w'.setCell ⟨qb, 2 + k * 15 + j, none⟩ v) (fun i => F i ∨ w.heap.size ≤ i ∧ i < w'.heap.size) u (A j2) := fun j2 u hne hu => by
    have hI2 := h.se j2 u hu
    refine SeIn.mono (F := F) ⟨own_tch hI2.on t2 (fun g e e2 => ?_), hI2.onf, own_tch hI2.ps t2 (fun g e e2 => ?_), hI2.psf, own_tch hI2.ws t2 (fun g e e2 => ?_), hI2.wsf⟩ (fun _ e => .inl e)
    · rcases e2 with e2 | e2
      · rcases hS g e2 with e3 | e3
        · exact absurd (own_ty hI2.on hsk.ps e e3) (by decide)
        · exact absurd (own_ty hI2.on hsk.ws e e3) (by decide)
      · rw [e2] at e; exact row_ne hI2.on h.bk (by decide) e rfl
    · rcases e2 with e2 | e2
      · rcases hS g e2 with e3 | e3
        · exact (h.ap j2 k hne (j5 j2 u hu) hk ⟨g, 0, none⟩ ⟨g, 0, none⟩).1 (own_addr hI2.ps e) (own_addr hsk.ps e3) rfl
        · exact absurd (own_ty hI2.ps hsk.ws e e3) (by decide)
      · rw [e2] at e; exact row_ne hI2.ps h.bk (by decide) e rfl
    · rcases e2 with e2 | e2
      · rcases hS g e2 with e3 | e3
        · exact absurd (own_ty hI2.ws hsk.ps e e3) (by decide)
        · exact (h.ap j2 k hne (j5 j2 u hu) hk ⟨g, 0, none⟩ ⟨g, 0, none⟩).2 (own_addr hI2.ws e) (own_addr hsk.ws e3) rfl
      · rw [e2] at e; exact row_ne hI2.ws h.bk (by decide) e rfl
  have hmine : SeIn w0 (w'.setCell ⟨qb, 2 + k * 15 + j, none⟩ v) (fun i => F i ∨ w.heap.size ≤ i ∧ i < w'.heap.size) s' a' :=
    ⟨own_tch hI.on tS (fun g e e2 => by rw [e2] at e; exact row_ne hI.on bk1 (by decide) e rfl), hI.onf, own_tch hI.ps tS (fun g e e2 => by rw [e2] at e; exact row_ne hI.ps bk1 (by decide) e rfl), hI.psf, own_tch hI.ws tS (fun g e e2 => by rw [e2] at e; exact row_ne hI.ws bk1 (by decide) e rfl), hI.wsf⟩
  have hs2 := h.hs.freshS t (fun i _ e => (hSF i e).1)
  refine ⟨hs2.tch tS (fun i _ e => by rw [e]; exact .inl h.fq), fun i hi => .inl (h.f0 i hi), .inl h.fq, h.q0, ?_, by show (q.l.set k s').length = 5; rw [List.length_set]; exact h.ln, fun j2 u hu => ?_, fun j2 u hu => ?_, ?_, h.t.trans t2 (fun i hi e => ?_) (fun i _ g e => e.elim (fun e => (hS i e).elim (g.own hsk.ps (.inl rfl)) (g.own hsk.ws (.inr rfl))) (g.ne h.bk))⟩
  · rw [blk_set (i := 2 + k * 15 + j) bk1, List.setIfInBounds_toArray, moC_cell q h.ln mb hb A hk hs hj hv]
  · rcases set_get hs hu with ⟨e1, e2⟩ | ⟨hne, hu⟩
    · rw [e1, e2, updA_same]; exact hmine
    · rw [updA_other A a' hne]; exact hother j2 u hne hu
  · rcases set_get hs hu with ⟨e1, e2⟩ | ⟨hne, hu⟩
    · rw [e2]; exact hb'
    · exact h.bd j2 u hu
  · have one : ∀ j2, j2 ≠ k → j2 < 5 → ∀ ad a2, (a'.po = some ad → (A j2).po = some a2 → ad.block ≠ a2.block) ∧ (a'.wo = some ad → (A j2).wo = some a2 → ad.block ≠ a2.block) := fun j2 hne hj5 ad a2 => by
      obtain ⟨u, hu⟩ : ∃ u, q.l[j2]? = some u := ⟨_, List.getElem?_eq_getElem (by have := h.ln; omega)⟩
      have hI2 := h.se j2 u hu
      refine ⟨fun e1 e2 => ?_, fun e1 e2 => ?_⟩
      · rcases hpo with e | e
        · rw [e] at e1; exact (h.ap k j2 (fun e => hne e.symm) hk hj5 ad a2).1 e1 e2
        · have h1 := e ad e1
          have h2 : a2.block < w.heap.size := slice_lt (ad := a2) (by rw [← e2]; exact hI2.ps)
          omega
      · rcases hwo with e | e
        · rw [e] at e1; exact (h.ap k j2 (fun e => hne e.symm) hk hj5 ad a2).2 e1 e2
        · have h1 := e ad e1
          have h2 : a2.block < w.heap.size := slice_lt (ad := a2) (by rw [← e2]; exact hI2.ws)
          omega
    intro i i' hii h5 h5' ad a2
    by_cases e : i = k
    · subst e
      rw [updA_same, updA_other A a' (fun e => hii e.symm)]
      exact one i' (fun e => hii e.symm) h5' ad a2
    · by_cases e' : i' = k
      · subst e'
        rw [updA_other A a' e, updA_same]
        have := one i e h5 a2 ad
        exact ⟨fun h1 h2 e2 => this.1 h2 h1 e2.symm, fun h1 h2 e2 => this.2 h2 h1 e2.symm⟩
      · rw [updA_other A a' e, updA_other A a' e']
        exact h.ap i i' hii h5 h5' ad a2
  · rcases e with e | e
    · have := (hSF i e).2; omega
    · have := h.q0; omega
end
end Go.Proofs.YtokgihmigkplaaaGreat.F
namespace Go.Proofs.YtokgihmigkplaaaGreat.F
open Go.RowKit Go Go.Sort
set_option maxRecDepth 100000
theorem info_part : (Tryz.prog.info? 109).map (fun i => (i.zero, i.size, i.bytes)) = some (some (.agg #[.int .i64 0, .int .i64 0, .bool false, .bool false]), 4, 24) := by kernel_rfl
theorem prC_snoc (l : List Pr) (p : Pr) : prC (l ++ [p]) = prC l ++ [.int .i64 p.x, .int .i64 p.par, .bool p.live, .bool p.bk] := by
  unfold prC
  rw [List.flatMap_append]; rfl
def addS (s : Se) (x : Nat) : Se := { s with ps := s.ps ++ [⟨x, innS s, true, false⟩] }
theorem addS_tx {m : Mg} {s : Se} {t : Tx} (ht : SesTx m s t) {m' : Mg} (hmem : addP ⟨m.nx, innS s, 0⟩ t ∈ m'.tx) : SesTx m' (addS s m.nx) (addP ⟨m.nx, innS s, 0⟩ t) :=
  ⟨hmem, ht.x, ht.st, by show t.ps ++ [_] = (s.ps ++ [_]).map ptOf; rw [List.map_append, ht.ps]; rfl⟩
theorem addS_wr (s : Se) (x : Nat) (i : Int) (h2 : i < s.ps.length) : wrN (addS s x) i = wrN s i ∧ (stdI (addS s x) i = true → stdI s i = true) := by
  have e : 0 ≤ i → (addS s x).ps[i.toNat]? = s.ps[i.toNat]? := fun h0 => by
    show (s.ps ++ [_])[i.toNat]? = _
    rw [List.getElem?_append_left (by omega)]
  unfold wrN stdI
  by_cases h0 : 0 ≤ i
  · rw [if_pos h0, if_pos h0, if_pos h0, if_pos h0, e h0]
    exact ⟨rfl, fun h => h⟩
  · rw [if_neg h0, if_neg h0, if_neg h0, if_neg h0]
    exact ⟨rfl, fun h => h⟩
theorem inn_ok {m : Mg} {s : Se} {t : Tx} (ht : SesTx m s t) (hpp : s.pp = false) : -1 ≤ innS s ∧ innS s < s.ps.length ∧ stdI s (innS s) = true ∧ may t (innS s) = true := by
  have hr := innI_rng s.ps s.ps.length
  have hst : t.st = 1 := by rw [ht.st, hpp]; rfl
  have hps := ht.ps
  refine ⟨hr.1, hr.2, ?_⟩
  rcases innI_live s.ps s.ps.length with e | ⟨i, p, e, hp, hl, hb⟩
  · have e' : innS s = -1 := e
    rw [e']
    refine ⟨rfl, ?_⟩
    unfold may fate
    rw [hst]; rfl
  · have e' : innS s = (i : Int) := e
    rw [e']
    refine ⟨?_, ?_⟩
    · unfold stdI
      rw [if_pos (by omega)]
      simp only [Int.toNat_natCast, hp, hb]; rfl
    · unfold may fate
      rw [hst, hps, if_pos (by omega)]
      simp only [Int.toNat_natCast, List.getElem?_map, hp, Option.map_some, ptOf, hl, hb]
      rfl
theorem addS_inv {m : Mg} {q : Mo} {K : Nat → List Vn} {σ : Nat → Nat} {k : Nat} {s : Se} {t : Tx} (hI : Inv m q K σ) (hs : q.l[k]? = some s) (ho : s.op = true) (ht : SesTx m s t) (hpp : s.pp = false) (hn : m.nx ≤ 2147483647) (hl : t.ps.length < 64) : Inv (m.part t (innS s)) { q with l := q.l.set k (addS s m.nx) } K σ := by
  obtain ⟨h1, h2, h3, h4⟩ := inn_ok ht hpp
  have hc := ch_part hI.wf ht.mem (i := innS s) ⟨h1, by rw [ht.ps, List.length_map]; exact h2⟩ hn hl
  exact hI.turn hs ho ht hc ho (addS_tx ht hc.mem) rfl rfl rfl rfl rfl rfl (by show s.ps.length ≤ (s.ps ++ [_]).length; rw [List.length_append]; omega) (fun i _ hi => addS_wr s m.nx i hi)
end Go.Proofs.YtokgihmigkplaaaGreat.F
