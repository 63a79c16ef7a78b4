/- ValueOrders: the law. -/
import Derived.Test.YtnjbkkccofjmgaaDoorVRights
import Derived.Test.YtnjbkkccofjmgaaDoorVKey
import Derived.Test.YtnjbkkccofjmgaaDoorBarv
import Derived.Test.YtnjbkkccofjmgaaDoorVLit
namespace Go.Proofs.YtnjbkkccofjmgaaDoor
open Go.RowKit

theorem less_cmp : ∀ x y : List UInt8, Op.bytesLess x y = decide (Lib.compareBytes x y = -1)
  | [], [] => by simp [Op.bytesLess, Lib.compareBytes]
  | _ :: _, [] => by simp [Op.bytesLess, Lib.compareBytes]
  | [], _ :: _ => by simp [Op.bytesLess, Lib.compareBytes]
  | a :: x, b :: y => by
    have ih := less_cmp x y
    unfold Op.bytesLess Lib.compareBytes
    rcases Nat.lt_trichotomy a.toNat b.toNat with h | h | h
    · have h1 : a < b := UInt8.lt_iff_toNat_lt.2 h
      simp [h1]
    · have h1 : a = b := UInt8.toNat.inj h
      subst h1
      rw [ih]
      simp [UInt8.lt_irrefl]
    · have h1 : b < a := UInt8.lt_iff_toNat_lt.2 h
      have h2 : ¬ a < b := UInt8.lt_asymm h1
      have h3 : ¬ a = b := fun e => by rw [e] at h; omega
      simp [h1, h2, h3]

set_option maxHeartbeats 8000000 in
set_option maxRecDepth 100000 in
theorem orders_law (a b c : Val) (w : World) (hg : HE w) (hw : HWd w) (ia : a.i64) (ib : b.i64) (ic : c.i64) :
    Calls Tryd.prog 5 #[vA a.k a.n a.s, vA b.k b.n b.s, vA c.k c.n c.s] w fun x w' => x = .returned (.bool true) ∧ Tch (fun _ => False) w w' := by
  obtain ⟨w0, hw0⟩ : ∃ w0, w0 = ((w.alloc (.cells #[.int .i64 a.k, .int .i64 a.n, .string a.s] 23)).alloc (.cells #[.int .i64 b.k, .int .i64 b.n, .string b.s] 23)).alloc (.cells #[.int .i64 c.k, .int .i64 c.n, .string c.s] 23) := ⟨_, rfl⟩
  have T0 : Tch (fun _ => False) w w0 := by rw [hw0]; exact ((Tch.alloc _ _ _).allocR _).allocR _
  have hkn := known_any w0 (hg.tch T0 (fun h => h)) (hw.tch T0 (fun h => h))
  have hbx : ∀ W, Tch (fun _ => False) w0 W → (W.cell? ⟨w.heap.size, 0, none⟩ = some (.int .i64 a.k) ∧ W.cell? ⟨w.heap.size, 1, none⟩ = some (.int .i64 a.n) ∧ W.cell? ⟨w.heap.size, 2, none⟩ = some (.string a.s)) ∧ (W.cell? ⟨w.heap.size + 1, 0, none⟩ = some (.int .i64 b.k) ∧ W.cell? ⟨w.heap.size + 1, 1, none⟩ = some (.int .i64 b.n) ∧ W.cell? ⟨w.heap.size + 1, 2, none⟩ = some (.string b.s)) ∧ W.cell? ⟨w.heap.size + 2, 0, none⟩ = some (.int .i64 c.k) ∧ W.cell? ⟨w.heap.size + 2, 1, none⟩ = some (.int .i64 c.n) ∧ W.cell? ⟨w.heap.size + 2, 2, none⟩ = some (.string c.s) := fun W t => by
    have h1 : Tch (fun _ => False) ((w.alloc (.cells #[.int .i64 a.k, .int .i64 a.n, .string a.s] 23)).alloc (.cells #[.int .i64 b.k, .int .i64 b.n, .string b.s] 23)) W := by rw [hw0] at t; exact (Tch.alloc _ _ _).trans' t
    have h2 := box_tch (by rw [hw0] at t; exact t)
    simp at h2
    obtain ⟨g1, g2⟩ := box_tch2 h1
    exact ⟨g1, g2, h2⟩
  have HX : Hid _ := hbx
  have hra := fun W g cp (h : RowAt W g 0 [a, b, c]) => rights_any [a, b, c] g cp W rfl h (by intro v hv; simp at hv; rcases hv with rfl | rfl | rfl <;> assumption)
  clear hg hw hbx
  go_enter Tryd.func5, Tryd.ntmps5
  go_wp2_with fail
  rw [← hw0]
  clear hw0
  refine hkn.mono ?_
  rintro x w1 ⟨rfl, t1⟩
  obtain ⟨⟨a0, a1, a2⟩, ⟨b0, b1, b2⟩, c0, c1, c2⟩ := HX.out w1 t1
  have T1 := T0.trans' t1
  clear hkn t1 T0
  have hrw : RowAt (w1.alloc (.cells #[.int .i64 a.k, .int .i64 a.n, .string a.s, .int .i64 b.k, .int .i64 b.n, .string b.s, .int .i64 c.k, .int .i64 c.n, .string c.s] 23)) w1.heap.size 0 [a, b, c] := by
    intro j hj
    simp only [List.length_cons, List.length_nil] at hj
    rcases j with _ | _ | _ | j
    · refine ⟨?_, ?_, ?_⟩ <;> simp
    · refine ⟨?_, ?_, ?_⟩ <;> simp
    · refine ⟨?_, ?_, ?_⟩ <;> simp
    · omega
  have hra := hra _ _ 3 hrw
  clear hrw
  go_wp2_with fail
  refine hra.mono ?_
  rintro x w2 ⟨⟨R, cp, rfl, hr⟩, t2⟩
  have T2 := (T1.allocR _).trans' t2
  clear hra t2 T1 a0 a1 a2 b0 b1 b2 c0 c1 c2 HX
  obtain ⟨L, hL⟩ : ∃ L, L = [a, b, c].map rt := ⟨_, rfl⟩
  have H3 : Hid (L.length = 3) := by show _ = _; rw [hL]; rfl
  have HK : Hid (∀ j (hj : j < L.length), frm L[j] ∧ L[j].s.size ≤ 200 ∧ L[j].i64) := fun j hj => by
    have hm : L[j] ∈ L := List.getElem_mem hj
    generalize L[j] = u at hm
    rw [hL] at hm
    simp at hm
    rcases hm with rfl | rfl | rfl
    · exact rt_ok a ia
    · exact rt_ok b ib
    · exact rt_ok c ic
  rw [← hL] at hr
  have HR : Hid (∀ W, Tch (fun _ => False) w2 W → ∀ j (hj : j < L.length), W.cell? ⟨R, j * 3, none⟩ = some (.int .i64 L[j].k) ∧ W.cell? ⟨R, j * 3 + 1, none⟩ = some (.int .i64 L[j].n) ∧ W.cell? ⟨R, j * 3 + 2, none⟩ = some (.string L[j].s)) := fun W t j hj => by
    have := (hr.tch t (fun _ h => h)) j hj
    simpa only [Nat.zero_add] using this
  clear hL hr ia ib ic
  go_wp2_with fail
  go_loopw [9] (fun i wr => ∃ k : Nat, i = .int .i64 k ∧ k ≤ 3 ∧ Tch (fun _ => False) w2 wr) (fun i _ => 3 - (intOf i).toNat)
  case atStart => exact ⟨0, rfl, by omega, Tch.refl _ _⟩
  case round =>
    obtain ⟨k, rfl, hk, hT⟩ := hrel
    by_cases hkl : (k : Int) < 3
    · go_wp2_with fail
      go_loopw [10] (fun i wr => ∃ q : Nat, i = .int .i64 q ∧ q ≤ 3 ∧ Tch (fun _ => False) w2 wr) (fun i _ => 3 - (intOf i).toNat)
      case atStart => exact ⟨0, rfl, by omega, hT⟩
      case round =>
        clear hT
        obtain ⟨q, rfl, hq, hT⟩ := hrel
        by_cases hql : (q : Int) < 3
        · have hk3 : k < L.length := by rw [H3.out]; omega
          have hq3 : q < L.length := by rw [H3.out]; omega
          obtain ⟨u, hu⟩ : ∃ u, u = L[k] := ⟨_, rfl⟩
          obtain ⟨v, hv⟩ : ∃ v, v = L[q] := ⟨_, rfl⟩
          obtain ⟨fu, su, iu⟩ := HK.out k hk3
          obtain ⟨fv, sv, iv⟩ := HK.out q hq3
          rw [← hu] at fu su iu
          rw [← hv] at fv sv iv
          have HUV : Hid (∀ W, Tch (fun _ => False) w2 W → (W.cell? ⟨R, k * 3, none⟩ = some (.int .i64 u.k) ∧ W.cell? ⟨R, k * 3 + 1, none⟩ = some (.int .i64 u.n) ∧ W.cell? ⟨R, k * 3 + 2, none⟩ = some (.string u.s)) ∧ W.cell? ⟨R, q * 3, none⟩ = some (.int .i64 v.k) ∧ W.cell? ⟨R, q * 3 + 1, none⟩ = some (.int .i64 v.n) ∧ W.cell? ⟨R, q * 3 + 2, none⟩ = some (.string v.s)) := fun W t => by
            rw [hu, hv]; exact ⟨HR.out W t k hk3, HR.out W t q hq3⟩
          have HTr : Hid (∀ m (hm : m < L.length), cmpV u v ≤ 0 → cmpV v L[m] ≤ 0 → cmpV u L[m] ≤ 0) := fun m hm h1 h2 => by
            obtain ⟨fm, _, im⟩ := HK.out m hm
            exact cmpV_trans fu fv fm iu iv im h1 h2
          have HLow : Hid (Op.bytesLess (⟨(key u).toArray⟩ : ByteArray).toList (⟨(key v).toArray⟩ : ByteArray).toList = decide (cmpV u v = -1) ∧ ((⟨(key u).toArray⟩ : ByteArray).toList == (⟨(key v).toArray⟩ : ByteArray).toList) = decide (cmpV u v = 0)) := by
            show _ ∧ _
            rw [ByteArray.toList_eq, ByteArray.toList_eq, less_cmp, ← key_cmp fu fv iu iv]
            refine ⟨rfl, ?_⟩
            rw [Bool.eq_iff_iff, beq_iff_eq, decide_eq_true_eq]
            exact ⟨fun h => by show Lib.compareBytes (key u) (key v) = 0; rw [show key u = key v from h]; exact compareBytes_refl _, compareBytes_eq⟩
          have HKu : Hid (∀ W, Calls Tryd.prog 11 #[vA u.k u.n u.s] W fun x w' => x = .returned (.tuple #[.string ⟨(key u).toArray⟩, .int .i64 0]) ∧ Tch (fun _ => False) W w') := fun W => by
            have h1 := key_any u.k u.n u.s W iu
            rw [key_str (by unfold wrg; rw [if_pos fu, if_pos su])] at h1
            exact h1
          have HKv : Hid (∀ W, Calls Tryd.prog 11 #[vA v.k v.n v.s] W fun x w' => x = .returned (.tuple #[.string ⟨(key v).toArray⟩, .int .i64 0]) ∧ Tch (fun _ => False) W w') := fun W => by
            have h1 := key_any v.k v.n v.s W iv
            rw [key_str (by unfold wrg; rw [if_pos fv, if_pos sv])] at h1
            exact h1
          have hneg := cmpV_neg fu fv iu iv
          have hrng := cmpV_rng fu fv iu iv
          obtain ⟨d, hd1, hd⟩ := eql_val u v
          have hd2 : d = decide (cmpV u v = 0) := by
            rw [Bool.eq_iff_iff, hd1, decide_eq_true_eq, cmpV_iff]
          clear hd1 fu fv su sv iu iv
          obtain ⟨X, hX⟩ : ∃ X, X = cmpV u v := ⟨_, rfl⟩
          obtain ⟨Y, hY⟩ : ∃ Y, Y = cmpV v u := ⟨_, rfl⟩
          obtain ⟨P, hP⟩ : ∃ P : ByteArray, P = ⟨(key u).toArray⟩ := ⟨_, rfl⟩
          obtain ⟨Q, hQ⟩ : ∃ Q : ByteArray, Q = ⟨(key v).toArray⟩ := ⟨_, rfl⟩
          have HCu : Hid (∀ W, Calls Tryd.prog 16 #[vA u.k u.n u.s, vA v.k v.n v.s] W fun x w' => x = .returned (.int .i64 X) ∧ Tch (fun _ => False) W w') := fun W => by rw [hX]; exact compare_any u v W
          have HCv : Hid (∀ W, Calls Tryd.prog 16 #[vA v.k v.n v.s, vA u.k u.n u.s] W fun x w' => x = .returned (.int .i64 Y) ∧ Tch (fun _ => False) W w') := fun W => by rw [hY]; exact compare_any v u W
          rw [← hX, ← hP, ← hQ] at HLow
          rw [← hX] at hd2 hrng HTr
          rw [← hX, ← hY] at hneg
          rw [← hP] at HKu
          rw [← hQ] at HKv
          have HUm : Hid (∀ m (hm : m < L.length) W, Calls Tryd.prog 16 #[vA u.k u.n u.s, vA L[m].k L[m].n L[m].s] W fun x w' => x = .returned (.int .i64 (cmpV u L[m])) ∧ Tch (fun _ => False) W w') := fun m hm W => compare_any u L[m] W
          have HVm : Hid (∀ m (hm : m < L.length) W, Calls Tryd.prog 16 #[vA v.k v.n v.s, vA L[m].k L[m].n L[m].s] W fun x w' => x = .returned (.int .i64 (cmpV v L[m])) ∧ Tch (fun _ => False) W w') := fun m hm W => compare_any v L[m] W
          clear hX hY hP hQ hu hv
          obtain ⟨C, hC⟩ : ∃ C : List Value → World → Prop, C = fun _ W => Tch (fun _ => False) w2 W := ⟨_, rfl⟩
          have hc : ∀ s' W, C s' W → (W.cell? ⟨R, k * 3, none⟩ = some (.int .i64 u.k) ∧ W.cell? ⟨R, k * 3 + 1, none⟩ = some (.int .i64 u.n) ∧ W.cell? ⟨R, k * 3 + 2, none⟩ = some (.string u.s)) ∧ W.cell? ⟨R, q * 3, none⟩ = some (.int .i64 v.k) ∧ W.cell? ⟨R, q * 3 + 1, none⟩ = some (.int .i64 v.n) ∧ W.cell? ⟨R, q * 3 + 2, none⟩ = some (.string v.s) := fun s' W h => HUV.out W (by rw [hC] at h; exact h)
          have hA : ∀ s' W, C s' W → Calls Tryd.prog 16 #[vA u.k u.n u.s, vA v.k v.n v.s] W fun x w' => x = .returned (.int .i64 X) ∧ C s' w' := fun s' W h => by
            rw [hC] at h ⊢
            refine (HCu.out W).mono ?_
            rintro x w' ⟨hx, t⟩
            exact ⟨hx, h.trans' t⟩
          have hB : ∀ s' W, C s' W → Calls Tryd.prog 16 #[vA v.k v.n v.s, vA u.k u.n u.s] W fun x w' => x = .returned (.int .i64 Y) ∧ C s' w' := fun s' W h => by
            rw [hC] at h ⊢
            refine (HCv.out W).mono ?_
            rintro x w' ⟨hx, t⟩
            exact ⟨hx, h.trans' t⟩
          have HS : Hid (∀ W, Tch (fun _ => False) w2 W → C [] W.drew) := fun W t => by rw [hC]; exact t.drew
          have hend : ∀ s' W, C s' W → Tch (fun _ => False) w2 W := fun s' W h => by rw [hC] at h; exact h
          have HCC : Hid (∀ s' s'' W w', C s' W → Tch (fun _ => False) W w' → C s'' w') := fun s' s'' W w' h t => by rw [hC] at h ⊢; exact h.trans' t
          clear hC
          have s0 := HS.out wr hT
          go_wp2_with fail
          refine wp_region_barv [] C (by kernel_rfl) (by kernel_rfl) (by kernel_rfl) s0 ?_
          clear s0
          iterate 8 (refine barv_read (by go_simp) (by rfl) ?_
                     apply Exists.intro
                     refine ⟨fun s' W hW b K Q hK => ?_, fun K hK => ?_⟩
                     obtain ⟨⟨q0, q1, q2⟩, q3, q4, q5⟩ := hc _ W hW
                     go_simp
                     exact hK W hW
                     go_simp
                     refine hK _ ?_
                     clear hK K)
          refine barv_read (by go_simp) (by rfl) ?_
          apply Exists.intro
          refine ⟨fun s' W hW b K Q hK => ?_, fun K hK => ?_⟩
          go_simp
          go_at_call 16
          refine (hA _ W hW).mono ?_
          rintro x w' ⟨rfl, h1⟩
          exact hK _ h1
          go_simp
          refine hK _ ?_
          clear hK K
          iterate 1 (refine barv_read (by go_simp) (by rfl) ?_
                     apply Exists.intro
                     refine ⟨fun s' W hW b K Q hK => ?_, fun K hK => ?_⟩
                     obtain ⟨⟨q0, q1, q2⟩, q3, q4, q5⟩ := hc _ W hW
                     go_simp
                     exact hK W hW
                     go_simp
                     refine hK _ ?_
                     clear hK K)
          refine barv_nil ?_
          intro w3 hw3
          have hT3 := hend _ w3 hw3
          clear hw3 hT
          have s0 := HS.out w3 hT3
          go_wp2_with fail
          refine wp_region_barv [] C (by kernel_rfl) (by kernel_rfl) (by kernel_rfl) s0 ?_
          clear s0
          iterate 8 (refine barv_read (by go_simp) (by rfl) ?_
                     apply Exists.intro
                     refine ⟨fun s' W hW b K Q hK => ?_, fun K hK => ?_⟩
                     obtain ⟨⟨q0, q1, q2⟩, q3, q4, q5⟩ := hc _ W hW
                     go_simp
                     exact hK W hW
                     go_simp
                     refine hK _ ?_
                     clear hK K)
          refine barv_read (by go_simp) (by rfl) ?_
          apply Exists.intro
          refine ⟨fun s' W hW b K Q hK => ?_, fun K hK => ?_⟩
          go_simp
          go_at_call 16
          refine (hB _ W hW).mono ?_
          rintro x w' ⟨rfl, h1⟩
          exact hK _ h1
          go_simp
          refine hK _ ?_
          clear hK K
          iterate 1 (refine barv_read (by go_simp) (by rfl) ?_
                     apply Exists.intro
                     refine ⟨fun s' W hW b K Q hK => ?_, fun K hK => ?_⟩
                     obtain ⟨⟨q0, q1, q2⟩, q3, q4, q5⟩ := hc _ W hW
                     go_simp
                     exact hK W hW
                     go_simp
                     refine hK _ ?_
                     clear hK K)
          refine barv_nil ?_
          intro w4 hw4
          have hT4 := hend _ w4 hw4
          clear hw4 hT3
          obtain ⟨⟨q0, q1, q2⟩, q3, q4, q5⟩ := HUV.out w4 hT4
          go_wp2_with fail
          refine (HKu.out w4).mono ?_
          rintro x w5 ⟨rfl, t5⟩
          have hT5 := hT4.trans' t5
          clear q0 q1 q2 q3 q4 q5 t5 hT4
          obtain ⟨⟨q0, q1, q2⟩, q3, q4, q5⟩ := HUV.out w5 hT5
          go_wp2_with fail
          refine (HKv.out w5).mono ?_
          rintro x w6 ⟨rfl, t6⟩
          have hT6 := hT5.trans' t6
          clear q0 q1 q2 q3 q4 q5 t6 hT5 hA hB
          obtain ⟨l1, l2⟩ := HLow.out
          rcases hrng with rfl | rfl | rfl
          · obtain rfl : Y = 1 := by omega
            clear hneg
            simp only [decide_true] at l1
            simp only [show ((-1 : Int) = 0) = False from by simp, decide_false] at l2 hd2
            subst hd2
            obtain ⟨⟨q0, q1, q2⟩, q3, q4, q5⟩ := HUV.out w6 hT6
            go_wp2_with fail
            go_quiet (fail)
            clear q0 q1 q2 q3 q4 q5
            have hT7 : Tch (fun _ => False) w2 (w6.drewN nq) := hT6.drewN nq
            clear hT6
            go_wp2_with fail
            go_loopw [17] (fun i wr => ∃ m : Nat, i = .int .i64 m ∧ m ≤ 3 ∧ Tch (fun _ => False) w2 wr) (fun i _ => 3 - (intOf i).toNat)
            case atStart => exact ⟨0, rfl, by omega, hT7⟩
            case round =>
              clear hT7
              obtain ⟨m, rfl, hm, hT7⟩ := hrel
              by_cases hml : (m : Int) < 3
              · have hm3 : m < L.length := by rw [H3.out]; omega
                obtain ⟨t, ht⟩ : ∃ t, t = L[m] := ⟨_, rfl⟩
                have hc2 : ∀ s' W, C s' W → (W.cell? ⟨R, k * 3, none⟩ = some (.int .i64 u.k) ∧ W.cell? ⟨R, k * 3 + 1, none⟩ = some (.int .i64 u.n) ∧ W.cell? ⟨R, k * 3 + 2, none⟩ = some (.string u.s)) ∧ (W.cell? ⟨R, q * 3, none⟩ = some (.int .i64 v.k) ∧ W.cell? ⟨R, q * 3 + 1, none⟩ = some (.int .i64 v.n) ∧ W.cell? ⟨R, q * 3 + 2, none⟩ = some (.string v.s)) ∧ W.cell? ⟨R, m * 3, none⟩ = some (.int .i64 t.k) ∧ W.cell? ⟨R, m * 3 + 1, none⟩ = some (.int .i64 t.n) ∧ W.cell? ⟨R, m * 3 + 2, none⟩ = some (.string t.s) := fun s' W h => by
                  obtain ⟨g1, g2⟩ := hc s' W h
                  refine ⟨g1, g2, ?_⟩
                  rw [ht]; exact HR.out W (hend _ W h) m hm3
                obtain ⟨c1, hc1⟩ : ∃ c1, c1 = cmpV v t := ⟨_, rfl⟩
                obtain ⟨c2, hc2'⟩ : ∃ c2, c2 = cmpV u t := ⟨_, rfl⟩
                have hA2 : ∀ s' W, C s' W → Calls Tryd.prog 16 #[vA v.k v.n v.s, vA t.k t.n t.s] W fun x w' => x = .returned (.int .i64 c1) ∧ C s' w' := fun s' W h => by
                  rw [hc1, ht]
                  refine (HVm.out m hm3 W).mono ?_
                  rintro x w' ⟨hx, t'⟩
                  exact ⟨hx, HCC.out _ _ _ _ h t'⟩
                have hB2 : ∀ s' W, C s' W → Calls Tryd.prog 16 #[vA u.k u.n u.s, vA t.k t.n t.s] W fun x w' => x = .returned (.int .i64 c2) ∧ C s' w' := fun s' W h => by
                  rw [hc2', ht]
                  refine (HUm.out m hm3 W).mono ?_
                  rintro x w' ⟨hx, t'⟩
                  exact ⟨hx, HCC.out _ _ _ _ h t'⟩
                by_cases hcl : c1 ≤ 0
                · have hc3 : c2 ≤ 0 := by rw [hc2', ht]; exact HTr.out m hm3 (by omega) (by rw [← ht, ← hc1]; exact hcl)
                  have hc3' : ¬ 0 < c2 := by omega
                  clear hc1 hc2' ht hc3
                  have s0 := HS.out wr hT7
                  go_wp2_with fail
                  refine wp_region_barv [] C (by kernel_rfl) (by kernel_rfl) (by kernel_rfl) s0 ?_
                  clear s0
                  iterate 11 (refine barv_read (by go_simp) (by rfl) ?_
                              apply Exists.intro
                              refine ⟨fun s' W hW b K Q hK => ?_, fun K hK => ?_⟩
                              obtain ⟨⟨q0, q1, q2⟩, ⟨q3, q4, q5⟩, q6, q7, q8⟩ := hc2 _ W hW
                              go_simp
                              exact hK W hW
                              go_simp
                              refine hK _ ?_
                              clear hK K)
                  refine barv_read (by go_simp) (by rfl) ?_
                  apply Exists.intro
                  refine ⟨fun s' W hW b K Q hK => ?_, fun K hK => ?_⟩
                  go_simp
                  go_at_call 16
                  refine (hA2 _ W hW).mono ?_
                  rintro x w' ⟨rfl, h1⟩
                  exact hK _ h1
                  go_simp
                  refine hK _ ?_
                  clear hK K
                  iterate 11 (refine barv_read (by go_simp) (by rfl) ?_
                              apply Exists.intro
                              refine ⟨fun s' W hW b K Q hK => ?_, fun K hK => ?_⟩
                              obtain ⟨⟨q0, q1, q2⟩, ⟨q3, q4, q5⟩, q6, q7, q8⟩ := hc2 _ W hW
                              go_simp
                              exact hK W hW
                              go_simp
                              refine hK _ ?_
                              clear hK K)
                  refine barv_read (by go_simp) (by rfl) ?_
                  apply Exists.intro
                  refine ⟨fun s' W hW b K Q hK => ?_, fun K hK => ?_⟩
                  go_simp
                  go_at_call 16
                  refine (hB2 _ W hW).mono ?_
                  rintro x w' ⟨rfl, h1⟩
                  exact hK _ h1
                  go_simp
                  refine hK _ ?_
                  clear hK K
                  iterate 2 (refine barv_read (by go_simp) (by rfl) ?_
                             apply Exists.intro
                             refine ⟨fun s' W hW b K Q hK => ?_, fun K hK => ?_⟩
                             obtain ⟨⟨q0, q1, q2⟩, ⟨q3, q4, q5⟩, q6, q7, q8⟩ := hc2 _ W hW
                             go_simp
                             exact hK W hW
                             go_simp
                             refine hK _ ?_
                             clear hK K)
                  refine barv_nil ?_
                  intro w8 hw8
                  have hT8 := hend _ w8 hw8
                  clear hw8 hT7 hc2 hA2 hB2
                  go_wp2_with fail
                  go_roundw
                  case rel => exact ⟨m + 1, by go_num, by omega, hT8⟩
                  case measure => simp [intOf]; omega
                · have hcl' : 0 < c1 := by omega
                  clear hc1 hc2' ht hcl
                  have s0 := HS.out wr hT7
                  go_wp2_with fail
                  refine wp_region_barv [] C (by kernel_rfl) (by kernel_rfl) (by kernel_rfl) s0 ?_
                  clear s0
                  iterate 11 (refine barv_read (by go_simp) (by rfl) ?_
                              apply Exists.intro
                              refine ⟨fun s' W hW b K Q hK => ?_, fun K hK => ?_⟩
                              obtain ⟨⟨q0, q1, q2⟩, ⟨q3, q4, q5⟩, q6, q7, q8⟩ := hc2 _ W hW
                              go_simp
                              exact hK W hW
                              go_simp
                              refine hK _ ?_
                              clear hK K)
                  refine barv_read (by go_simp) (by rfl) ?_
                  apply Exists.intro
                  refine ⟨fun s' W hW b K Q hK => ?_, fun K hK => ?_⟩
                  go_simp
                  go_at_call 16
                  refine (hA2 _ W hW).mono ?_
                  rintro x w' ⟨rfl, h1⟩
                  exact hK _ h1
                  go_simp
                  refine hK _ ?_
                  clear hK K
                  iterate 3 (refine barv_read (by go_simp) (by rfl) ?_
                             apply Exists.intro
                             refine ⟨fun s' W hW b K Q hK => ?_, fun K hK => ?_⟩
                             obtain ⟨⟨q0, q1, q2⟩, ⟨q3, q4, q5⟩, q6, q7, q8⟩ := hc2 _ W hW
                             go_simp
                             exact hK W hW
                             go_simp
                             refine hK _ ?_
                             clear hK K)
                  iterate 10 (refine barv_skip (by go_simp) ?_
                              intro K hK
                              go_simp
                              refine hK _ ?_
                              clear hK K)
                  iterate 1 (refine barv_read (by go_simp) (by rfl) ?_
                             apply Exists.intro
                             refine ⟨fun s' W hW b K Q hK => ?_, fun K hK => ?_⟩
                             obtain ⟨⟨q0, q1, q2⟩, ⟨q3, q4, q5⟩, q6, q7, q8⟩ := hc2 _ W hW
                             go_simp
                             exact hK W hW
                             go_simp
                             refine hK _ ?_
                             clear hK K)
                  refine barv_nil ?_
                  intro w8 hw8
                  have hT8 := hend _ w8 hw8
                  clear hw8 hT7 hc2 hA2 hB2
                  go_wp2_with fail
                  go_roundw
                  case rel => exact ⟨m + 1, by go_num, by omega, hT8⟩
                  case measure => simp [intOf]; omega
              · go_wp2_with fail
                go_roundw
                case rel => exact ⟨q + 1, by go_num, by omega, hT7⟩
                case measure => simp [intOf]; omega
          · obtain rfl : Y = 0 := by omega
            clear hneg
            simp only [show ((0 : Int) = -1) = False from by simp, decide_false] at l1
            simp only [decide_true] at l2 hd2
            subst hd2
            obtain ⟨⟨q0, q1, q2⟩, q3, q4, q5⟩ := HUV.out w6 hT6
            go_wp2_with fail
            go_quiet (fail)
            clear q0 q1 q2 q3 q4 q5
            have hT7 : Tch (fun _ => False) w2 (w6.drewN nq) := hT6.drewN nq
            clear hT6
            go_wp2_with fail
            go_loopw [17] (fun i wr => ∃ m : Nat, i = .int .i64 m ∧ m ≤ 3 ∧ Tch (fun _ => False) w2 wr) (fun i _ => 3 - (intOf i).toNat)
            case atStart => exact ⟨0, rfl, by omega, hT7⟩
            case round =>
              clear hT7
              obtain ⟨m, rfl, hm, hT7⟩ := hrel
              by_cases hml : (m : Int) < 3
              · have hm3 : m < L.length := by rw [H3.out]; omega
                obtain ⟨t, ht⟩ : ∃ t, t = L[m] := ⟨_, rfl⟩
                have hc2 : ∀ s' W, C s' W → (W.cell? ⟨R, k * 3, none⟩ = some (.int .i64 u.k) ∧ W.cell? ⟨R, k * 3 + 1, none⟩ = some (.int .i64 u.n) ∧ W.cell? ⟨R, k * 3 + 2, none⟩ = some (.string u.s)) ∧ (W.cell? ⟨R, q * 3, none⟩ = some (.int .i64 v.k) ∧ W.cell? ⟨R, q * 3 + 1, none⟩ = some (.int .i64 v.n) ∧ W.cell? ⟨R, q * 3 + 2, none⟩ = some (.string v.s)) ∧ W.cell? ⟨R, m * 3, none⟩ = some (.int .i64 t.k) ∧ W.cell? ⟨R, m * 3 + 1, none⟩ = some (.int .i64 t.n) ∧ W.cell? ⟨R, m * 3 + 2, none⟩ = some (.string t.s) := fun s' W h => by
                  obtain ⟨g1, g2⟩ := hc s' W h
                  refine ⟨g1, g2, ?_⟩
                  rw [ht]; exact HR.out W (hend _ W h) m hm3
                obtain ⟨c1, hc1⟩ : ∃ c1, c1 = cmpV v t := ⟨_, rfl⟩
                obtain ⟨c2, hc2'⟩ : ∃ c2, c2 = cmpV u t := ⟨_, rfl⟩
                have hA2 : ∀ s' W, C s' W → Calls Tryd.prog 16 #[vA v.k v.n v.s, vA t.k t.n t.s] W fun x w' => x = .returned (.int .i64 c1) ∧ C s' w' := fun s' W h => by
                  rw [hc1, ht]
                  refine (HVm.out m hm3 W).mono ?_
                  rintro x w' ⟨hx, t'⟩
                  exact ⟨hx, HCC.out _ _ _ _ h t'⟩
                have hB2 : ∀ s' W, C s' W → Calls Tryd.prog 16 #[vA u.k u.n u.s, vA t.k t.n t.s] W fun x w' => x = .returned (.int .i64 c2) ∧ C s' w' := fun s' W h => by
                  rw [hc2', ht]
                  refine (HUm.out m hm3 W).mono ?_
                  rintro x w' ⟨hx, t'⟩
                  exact ⟨hx, HCC.out _ _ _ _ h t'⟩
                by_cases hcl : c1 ≤ 0
                · have hc3 : c2 ≤ 0 := by rw [hc2', ht]; exact HTr.out m hm3 (by omega) (by rw [← ht, ← hc1]; exact hcl)
                  have hc3' : ¬ 0 < c2 := by omega
                  clear hc1 hc2' ht hc3
                  have s0 := HS.out wr hT7
                  go_wp2_with fail
                  refine wp_region_barv [] C (by kernel_rfl) (by kernel_rfl) (by kernel_rfl) s0 ?_
                  clear s0
                  iterate 11 (refine barv_read (by go_simp) (by rfl) ?_
                              apply Exists.intro
                              refine ⟨fun s' W hW b K Q hK => ?_, fun K hK => ?_⟩
                              obtain ⟨⟨q0, q1, q2⟩, ⟨q3, q4, q5⟩, q6, q7, q8⟩ := hc2 _ W hW
                              go_simp
                              exact hK W hW
                              go_simp
                              refine hK _ ?_
                              clear hK K)
                  refine barv_read (by go_simp) (by rfl) ?_
                  apply Exists.intro
                  refine ⟨fun s' W hW b K Q hK => ?_, fun K hK => ?_⟩
                  go_simp
                  go_at_call 16
                  refine (hA2 _ W hW).mono ?_
                  rintro x w' ⟨rfl, h1⟩
                  exact hK _ h1
                  go_simp
                  refine hK _ ?_
                  clear hK K
                  iterate 11 (refine barv_read (by go_simp) (by rfl) ?_
                              apply Exists.intro
                              refine ⟨fun s' W hW b K Q hK => ?_, fun K hK => ?_⟩
                              obtain ⟨⟨q0, q1, q2⟩, ⟨q3, q4, q5⟩, q6, q7, q8⟩ := hc2 _ W hW
                              go_simp
                              exact hK W hW
                              go_simp
                              refine hK _ ?_
                              clear hK K)
                  refine barv_read (by go_simp) (by rfl) ?_
                  apply Exists.intro
                  refine ⟨fun s' W hW b K Q hK => ?_, fun K hK => ?_⟩
                  go_simp
                  go_at_call 16
                  refine (hB2 _ W hW).mono ?_
                  rintro x w' ⟨rfl, h1⟩
                  exact hK _ h1
                  go_simp
                  refine hK _ ?_
                  clear hK K
                  iterate 2 (refine barv_read (by go_simp) (by rfl) ?_
                             apply Exists.intro
                             refine ⟨fun s' W hW b K Q hK => ?_, fun K hK => ?_⟩
                             obtain ⟨⟨q0, q1, q2⟩, ⟨q3, q4, q5⟩, q6, q7, q8⟩ := hc2 _ W hW
                             go_simp
                             exact hK W hW
                             go_simp
                             refine hK _ ?_
                             clear hK K)
                  refine barv_nil ?_
                  intro w8 hw8
                  have hT8 := hend _ w8 hw8
                  clear hw8 hT7 hc2 hA2 hB2
                  go_wp2_with fail
                  go_roundw
                  case rel => exact ⟨m + 1, by go_num, by omega, hT8⟩
                  case measure => simp [intOf]; omega
                · have hcl' : 0 < c1 := by omega
                  clear hc1 hc2' ht hcl
                  have s0 := HS.out wr hT7
                  go_wp2_with fail
                  refine wp_region_barv [] C (by kernel_rfl) (by kernel_rfl) (by kernel_rfl) s0 ?_
                  clear s0
                  iterate 11 (refine barv_read (by go_simp) (by rfl) ?_
                              apply Exists.intro
                              refine ⟨fun s' W hW b K Q hK => ?_, fun K hK => ?_⟩
                              obtain ⟨⟨q0, q1, q2⟩, ⟨q3, q4, q5⟩, q6, q7, q8⟩ := hc2 _ W hW
                              go_simp
                              exact hK W hW
                              go_simp
                              refine hK _ ?_
                              clear hK K)
                  refine barv_read (by go_simp) (by rfl) ?_
                  apply Exists.intro
                  refine ⟨fun s' W hW b K Q hK => ?_, fun K hK => ?_⟩
                  go_simp
                  go_at_call 16
                  refine (hA2 _ W hW).mono ?_
                  rintro x w' ⟨rfl, h1⟩
                  exact hK _ h1
                  go_simp
                  refine hK _ ?_
                  clear hK K
                  iterate 3 (refine barv_read (by go_simp) (by rfl) ?_
                             apply Exists.intro
                             refine ⟨fun s' W hW b K Q hK => ?_, fun K hK => ?_⟩
                             obtain ⟨⟨q0, q1, q2⟩, ⟨q3, q4, q5⟩, q6, q7, q8⟩ := hc2 _ W hW
                             go_simp
                             exact hK W hW
                             go_simp
                             refine hK _ ?_
                             clear hK K)
                  iterate 10 (refine barv_skip (by go_simp) ?_
                              intro K hK
                              go_simp
                              refine hK _ ?_
                              clear hK K)
                  iterate 1 (refine barv_read (by go_simp) (by rfl) ?_
                             apply Exists.intro
                             refine ⟨fun s' W hW b K Q hK => ?_, fun K hK => ?_⟩
                             obtain ⟨⟨q0, q1, q2⟩, ⟨q3, q4, q5⟩, q6, q7, q8⟩ := hc2 _ W hW
                             go_simp
                             exact hK W hW
                             go_simp
                             refine hK _ ?_
                             clear hK K)
                  refine barv_nil ?_
                  intro w8 hw8
                  have hT8 := hend _ w8 hw8
                  clear hw8 hT7 hc2 hA2 hB2
                  go_wp2_with fail
                  go_roundw
                  case rel => exact ⟨m + 1, by go_num, by omega, hT8⟩
                  case measure => simp [intOf]; omega
              · go_wp2_with fail
                go_roundw
                case rel => exact ⟨q + 1, by go_num, by omega, hT7⟩
                case measure => simp [intOf]; omega
          · obtain rfl : Y = -1 := by omega
            clear hneg
            simp only [show ((1 : Int) = -1) = False from by simp, decide_false] at l1
            simp only [show ((1 : Int) = 0) = False from by simp, decide_false] at l2 hd2
            subst hd2
            obtain ⟨⟨q0, q1, q2⟩, q3, q4, q5⟩ := HUV.out w6 hT6
            go_wp2_with fail
            go_quiet (fail)
            clear q0 q1 q2 q3 q4 q5
            have hT7 : Tch (fun _ => False) w2 (w6.drewN nq) := hT6.drewN nq
            clear hT6
            go_wp2_with fail
            go_loopw [17] (fun i wr => ∃ m : Nat, i = .int .i64 m ∧ m ≤ 3 ∧ Tch (fun _ => False) w2 wr) (fun i _ => 3 - (intOf i).toNat)
            case atStart => exact ⟨0, rfl, by omega, hT7⟩
            case round =>
              clear hT7
              obtain ⟨m, rfl, hm, hT7⟩ := hrel
              by_cases hml : (m : Int) < 3
              · have hm3 : m < L.length := by rw [H3.out]; omega
                obtain ⟨t, ht⟩ : ∃ t, t = L[m] := ⟨_, rfl⟩
                have hc2 : ∀ s' W, C s' W → (W.cell? ⟨R, k * 3, none⟩ = some (.int .i64 u.k) ∧ W.cell? ⟨R, k * 3 + 1, none⟩ = some (.int .i64 u.n) ∧ W.cell? ⟨R, k * 3 + 2, none⟩ = some (.string u.s)) ∧ (W.cell? ⟨R, q * 3, none⟩ = some (.int .i64 v.k) ∧ W.cell? ⟨R, q * 3 + 1, none⟩ = some (.int .i64 v.n) ∧ W.cell? ⟨R, q * 3 + 2, none⟩ = some (.string v.s)) ∧ W.cell? ⟨R, m * 3, none⟩ = some (.int .i64 t.k) ∧ W.cell? ⟨R, m * 3 + 1, none⟩ = some (.int .i64 t.n) ∧ W.cell? ⟨R, m * 3 + 2, none⟩ = some (.string t.s) := fun s' W h => by
                  obtain ⟨g1, g2⟩ := hc s' W h
                  refine ⟨g1, g2, ?_⟩
                  rw [ht]; exact HR.out W (hend _ W h) m hm3
                obtain ⟨c1, hc1⟩ : ∃ c1, c1 = cmpV v t := ⟨_, rfl⟩
                obtain ⟨c2, hc2'⟩ : ∃ c2, c2 = cmpV u t := ⟨_, rfl⟩
                have hA2 : ∀ s' W, C s' W → Calls Tryd.prog 16 #[vA v.k v.n v.s, vA t.k t.n t.s] W fun x w' => x = .returned (.int .i64 c1) ∧ C s' w' := fun s' W h => by
                  rw [hc1, ht]
                  refine (HVm.out m hm3 W).mono ?_
                  rintro x w' ⟨hx, t'⟩
                  exact ⟨hx, HCC.out _ _ _ _ h t'⟩
                have hB2 : ∀ s' W, C s' W → Calls Tryd.prog 16 #[vA u.k u.n u.s, vA t.k t.n t.s] W fun x w' => x = .returned (.int .i64 c2) ∧ C s' w' := fun s' W h => by
                  rw [hc2', ht]
                  refine (HUm.out m hm3 W).mono ?_
                  rintro x w' ⟨hx, t'⟩
                  exact ⟨hx, HCC.out _ _ _ _ h t'⟩
                clear hc1 hc2' ht hc2 hA2 hB2
                go_wp2_with fail
                go_quiet (fail)
                have hT8 := hT7.drewN nq
                clear hT7
                go_wp2_with fail
                go_roundw
                case rel => exact ⟨m + 1, by go_num, by omega, hT8⟩
                case measure => simp [intOf]; omega
              · go_wp2_with fail
                go_roundw
                case rel => exact ⟨q + 1, by go_num, by omega, hT7⟩
                case measure => simp [intOf]; omega
        · go_wp2_with fail
          go_roundw
          case rel => exact ⟨k + 1, by go_num, by omega, hT⟩
          case measure => simp [intOf]; omega
    · go_wp2_with fail
      go_ret
      exact ⟨rfl, T2.trans' hT⟩
end Go.Proofs.YtnjbkkccofjmgaaDoor
