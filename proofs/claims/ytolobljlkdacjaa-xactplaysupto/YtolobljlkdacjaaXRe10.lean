import Derived.Test.YtolobljlkdacjaaXRe9
/- The document's manager: Parts. -/
namespace Go.Proofs.Ytolobljlkdacjaa
open Go.RowKit Go Go.Sort

set_option maxHeartbeats 1000000 in
set_option maxRecDepth 100000 in
theorem rparts_is (b : Nat) (ao : Option Addr) (c : Nat) (m : Mg) (L : List Nm) (w : World) (h : NR w b ao c L) (hm : Rel m L) (id : Int) (t : Tx) (ht : fnd m.tx id = some (t, -1)) :
    Calls Try.prog 54 #[.pointer (some ⟨b, 0, none⟩), .int .i64 id] w fun x w' => (∃ v', x = .returned (.tuple #[v', .int .i64 0]) ∧ w'.ownsRow w.heap.size 3 1 v' (fltN (partP m t) L).length (icl (fltN (partP m t) L))) ∧ Tch (fun _ => False) w w' := by
  obtain ⟨i0, hi, hz0, hz1, hz2⟩ := info_parts info_int
  obtain ⟨ji, f1, f2, f3, f4, -⟩ := hm.yes _ _ _ ht
  have q := rxact_is b ao c m L w h hm id t ht ji f2
  have hL := hm.len
  obtain ⟨n, hn⟩ : ∃ n, n = L.length := ⟨_, rfl⟩
  rw [← hn] at hL
  have Hn : Hid (n = L.length) := hn
  have HNR : Hid _ := h
  have HM : Hid _ := hm
  have HTI : Hid (fnd m.tx id = some (t, -1) ∧ posN L id = some ji) := ⟨ht, f2⟩
  obtain ⟨N, hN⟩ : ∃ N, N = w.heap.size := ⟨_, rfl⟩
  have HN : Hid (N = w.heap.size) := hN
  rw [← hN]
  clear hn h hN hm ht f2 f3 f4
  go_enter Try.func54, Try.ntmps54
  go_wp2_with fail
  refine q.mono ?_
  rintro y wy ⟨rfl, hwy⟩
  subst hwy
  clear q
  go_wp2_with fail
  go_loopw [8, 9] (fun l i wr => ∃ k ln : Nat, i = .int .i64 k ∧ k ≤ n ∧ Hid (ln = (fltN (partP m t) (L.take k)).length) ∧ wr.ownsRow N 3 1 l ln (icl (fltN (partP m t) (L.take k))) ∧ Tch (fun _ => False) wy wr) (fun _ i _ => n - (intOf i).toNat)
  case atStart => exact ⟨0, 0, rfl, by omega, rfl, ⟨rfl, Or.inl ⟨rfl, rfl⟩⟩, Tch.refl _ _⟩
  case round =>
    obtain ⟨k, ln, rfl, hk, hln, hown, tw⟩ := hrel
    obtain ⟨lo, lc, rfl⟩ := row_slice hown
    by_cases hlt : (k : Int) < n
    · have hkl : k < L.length := by have := Hn.out; omega
      obtain ⟨a, hk'⟩ : ∃ a, L[k]? = some a := ⟨_, List.getElem?_eq_getElem hkl⟩
      obtain ⟨g, hao, c0, -⟩ := (HNR.out.no tw).el k a hk'
      have b0 := (HNR.out.no tw).c0
      rw [← Hn.out, hao] at b0
      obtain ⟨hp, u, ii, hu, -⟩ := HM.out.at hk'
      have q2 := rwithin_any b ao c m L wr (HNR.out.no tw) HM.out _ u ii hu k hp id t (-1) HTI.out.1 ji HTI.out.2
      have q3 := rstate_any b ao c m L wr (HNR.out.no tw) HM.out (a.n : Int)
      have HL : Hid (fltN (partP m t) (L.take (k + 1)) = fltN (partP m t) (L.take k) ++ (if (partP m t) a then [a.n] else [])) := fltN_take hk'
      have Hll : Hid (ln ≤ 2147483648) := by
        have := hln.out
        have := fltN_len (partP m t) (L.take k)
        have : (L.take k).length ≤ k := by simp; omega
        show _ ≤ _
        omega
      obtain ⟨L0, hL0⟩ : ∃ L0, L0 = fltN (partP m t) (L.take k) := ⟨_, rfl⟩
      rw [← hL0] at hown HL hln
      have HLn : Hid (ln = L0.length) := hln.out
      have HO1 : Hid _ := hown
      have HT1 : Hid (Tch (fun _ => False) wy wr) := tw
      have HP : Hid ((partP m t) a = (winA u ii t (-1) && (decide (k ≠ ji) && decide (m.state (a.n : Int) ≠ 4)))) := by
        show _ = _
        unfold partP Mg.state winA
        rw [hu]
        simp only []
        by_cases hx : u.x = t.x
        · have e := HM.out.wf.uniq u (fnd_mem hu).1 t (fnd_mem HTI.out.1).1 hx
          subst e
          have hiu : -1 ≤ ii ∧ ii < u.ps.length := by rcases fnd_cases hu with e | ⟨j, e, hj⟩ <;> omega
          rw [within_all (fun i p hp => ⟨(HM.out.wf.ar u (fnd_mem hu).1 i p hp).1, (HM.out.wf.ar u (fnd_mem hu).1 i p hp).2.1⟩) (u.ps.length) ii hiu.1 hiu.2 hiu.2]
          have : (ii ≠ -1) ↔ (k ≠ ji) := by
            constructor
            · intro h1 h2
              subst h2
              have h3 := HTI.out
              obtain ⟨a2, g1, g2⟩ := posN_some h3.2
              rw [hk'] at g1
              injection g1 with g1
              subst g1
              rw [g2, h3.1] at hu
              injection hu with hu
              injection hu with _ hu
              exact h1 hu.symm
            · intro h1 h2
              subst h2
              have h3 := HTI.out
              have e1 : (a.n : Int) = u.x := by
                rcases (fnd_mem hu).2 with ⟨_, e⟩ | ⟨_, _, e, _⟩
                · exact e.symm
                · omega
              have e2 : id = u.x := by
                rcases (fnd_mem h3.1).2 with ⟨_, e⟩ | ⟨_, _, e, _⟩
                · exact e.symm
                · omega
              rw [e1, ← e2, h3.2] at hp
              injection hp with hp
              exact h1 hp.symm
          simp [this]
        · simp [hx]
      obtain ⟨x1, hx1⟩ : ∃ x1, x1 = winA u ii t (-1) := ⟨_, rfl⟩
      obtain ⟨s1, hs1⟩ : ∃ s1, s1 = m.state (a.n : Int) := ⟨_, rfl⟩
      rw [← hx1] at q2 HP
      rw [← hs1] at q3 HP
      obtain ⟨px, hpx⟩ : ∃ px, px = a.n := ⟨_, rfl⟩
      rw [← hpx] at c0 HL q3
      have HTr : Hid _ := tw
      clear hk' hkl hown tw hln hL0 hpx hx1 hs1 hp hu
      subst hao
      cases x1 with
      | false =>
        have HL' : Hid (fltN (partP m t) (L.take (k + 1)) = L0) := by show _ = _; rw [HL.out, HP.out]; simp
        clear HL HP q3
        go_wp2_with fail
        refine q2.mono ?_
        rintro y wz ⟨rfl, hwy⟩
        obtain rfl := hwy.symm
        clear q2
        go_wp2_with fail
        go_roundw
        case rel => exact ⟨k + 1, ln, by go_num, by omega, by rw [HL'.out]; exact HLn, by rw [HL'.out]; exact HO1.out, HT1.out⟩
        case measure => simp [intOf]; omega
      | true =>
        by_cases hkj : k = ji
        · have HL' : Hid (fltN (partP m t) (L.take (k + 1)) = L0) := by show _ = _; rw [HL.out, HP.out]; simp [hkj]
          clear HL HP q3
          have e1 : ((k : Int) == (ji : Int)) = true := by simp; omega
          have e1' : ((k : Int) != (ji : Int)) = false := by rw [bne, e1]; rfl
          clear hkj
          go_wp2_with fail
          refine q2.mono ?_
          rintro y wz ⟨rfl, hwy⟩
          obtain rfl := hwy.symm
          clear q2
          go_wp2_with fail
          go_roundw
          case rel => exact ⟨k + 1, ln, by go_num, by omega, by rw [HL'.out]; exact HLn, by rw [HL'.out]; exact HO1.out, HT1.out⟩
          case measure => simp [intOf]; omega
        · have e1 : ((k : Int) == (ji : Int)) = false := beq_eq_false_iff_ne.2 (by omega)
          have e1' : ((k : Int) != (ji : Int)) = true := by rw [bne, e1]; rfl
          go_wp2_with fail
          refine q2.mono ?_
          rintro y wz ⟨rfl, hwy⟩
          obtain rfl := hwy.symm
          clear q2
          go_wp2_with fail
          refine q3.mono ?_
          rintro y w1 ⟨rfl, nq, hw1⟩
          have tq : Tch (fun _ => False) wr w1 := by rw [hw1]; exact drewN_tch wr nq
          have b0' : w1.cell? ⟨b, 0, none⟩ = some (.slice (some ⟨g, 0, none⟩) n c) := by rw [tq.cell (p := ⟨b, 0, none⟩) (cell_lt b0) (fun h => h)]; exact b0
          have c0' : w1.cell? ⟨g, k * 6, none⟩ = some (.int .i64 px) := by rw [tq.cell (cell_lt c0) (fun h => h)]; exact c0
          have HO9 : Hid _ := own_tch HO1.out tq (fun _ _ h => h)
          have HT9 : Hid (Tch (fun _ => False) wy w1) := HTr.out.trans' tq
          clear q3 hw1 tq b0 c0 HO1 HT1 HTr
          have HO1 : Hid _ := HO9.out
          have HT1 : Hid _ := HT9.out
          clear HO9 HT9
          by_cases h4 : s1 = 4
          · have HL' : Hid (fltN (partP m t) (L.take (k + 1)) = L0) := by show _ = _; rw [HL.out, HP.out]; simp [h4]
            clear HL HP
            subst h4
            go_wp2_with fail
            go_roundw
            case rel => exact ⟨k + 1, ln, by go_num, by omega, by rw [HL'.out]; exact HLn, by rw [HL'.out]; exact HO1.out, HT1.out⟩
            case measure => simp [intOf]; omega
          · have HL' : Hid (fltN (partP m t) (L.take (k + 1)) = L0 ++ [px]) := by show _ = _; rw [HL.out, HP.out]; simp [h4, hkj]
            have e4 : ((s1 : Int) == 4) = false := beq_eq_false_iff_ne.2 (by omega)
            have e4' : ((s1 : Int) != 4) = true := by rw [bne, e4]; rfl
            clear HL HP h4 hkj
            obtain ⟨w2, hw2⟩ : ∃ w2, w2 = w1.alloc (.cells #[.int .i64 px] 3) := ⟨_, rfl⟩
            have HO2 : Hid (w2.ownsRow N 3 1 (.slice lo ln lc) ln (icl L0)) := by show World.ownsRow _ _ _ _ _ _ _; rw [hw2]; exact own_tch HO1.out (Tch.alloc (fun _ => False) _ _) (fun _ _ h => h)
            have HT2 : Hid (Tch (fun _ => False) wy w2) := by show Tch _ _ _; rw [hw2]; exact HT1.out.allocR _
            have Hcl : Hid (∀ j u, ([.int .i64 px] : List Value)[j]? = some u → w2.cell? ((⟨w1.heap.size, 0, none⟩ : Addr).add j) = some u) := fun j u hu => by
              have hb2 : w2.heap[w1.heap.size]? = some (.cells #[.int .i64 px] 3 (0, 0)) := by rw [hw2]; exact alloc_new _ _
              rw [add_plain, blk_cell hb2]
              cases j with
              | zero => simpa using hu
              | succ j => simp at hu
            have Hw2 : Hid _ := hw2
            have Hsz : Hid (N ≤ w2.heap.size) := by show _ ≤ _; rw [HN.out]; exact HT2.out.size
            clear hw2
            go_wp2_with (at_builtin; have hw2 := Hw2.out; rw [← hw2]; clear hw2; refine wpList_append_keeps _ rfl _ _ 31 rfl N 3 i0 (.int .i64 0) 1 8 Try.underlying31 hi hz0 hz1 hz2 rfl (by decide) (.slice lo ln lc) ln (icl L0) rfl HO2.out ⟨w1.heap.size, 0, none⟩ 1 1 [.int .i64 px] rfl rfl Hcl.out (fun u hu => by simp at hu; subst hu; rfl) (by have := Hll.out; unfold maxLen; omega) (by have := Hll.out; omega) Hsz.out ?_; intro v3 w3 hown3 hgr3 hat3 _; have HO3 : Hid (w3.ownsRow N 3 1 v3 (ln + 1) (icl (L0 ++ [px]))) := (by have h1 := hown3; rw [← icl_snoc] at h1; exact h1); have HT3 : Hid (Tch (fun _ => False) wy w3) := (HT2.out.trans (grown_at (Tch.refl (fun _ => False) w2) hgr3) (fun i hi e => by have := row_ge HO2.out e; have := HN.out; omega)); obtain ⟨o3, c3, hv3⟩ := row_slice HO3.out; subst hv3; clear hown3 hgr3 hat3)
            go_roundw
            case rel => exact ⟨k + 1, ln + 1, by go_num, by omega, by show _ = _; rw [HL'.out, HLn.out]; simp, by rw [HL'.out]; exact HO3.out, HT3.out⟩
            case measure => simp [intOf]; omega
    · have hkn : k = n := by omega
      have HF : Hid (wr.ownsRow N 3 1 (.slice lo ln lc) (fltN (partP m t) L).length (icl (fltN (partP m t) L))) := by
        have e : L.take k = L := List.take_of_length_le (by have := Hn.out; omega)
        have h1 := hown
        have h2 := hln.out
        rw [e] at h1 h2
        show World.ownsRow _ _ _ _ _ _ _
        rw [← h2]
        exact h1
      have HT : Hid _ := tw
      have b0 := (HNR.out.no tw).c0
      rw [← Hn.out] at b0
      clear hown tw hln
      go_wp2_with fail
      go_ret2
      exact ⟨⟨_, rfl, HF.out⟩, HT.out⟩
theorem rparts_no (b : Nat) (ao : Option Addr) (c : Nat) (m : Mg) (L : List Nm) (w : World) (h : NR w b ao c L) (hm : Rel m L) (id : Int) (hf : ∀ t, fnd m.tx id ≠ some (t, -1)) :
    Calls Try.prog 54 #[.pointer (some ⟨b, 0, none⟩), .int .i64 id] w fun x w' => x = .returned (.tuple #[.slice none 0 0, .int .i64 70]) ∧ w' = w := by
  have q := rxact_no b ao c m L w h hm id hf
  clear h hm hf
  go_enter Try.func54, Try.ntmps54
  go_wp2_with fail
  refine q.mono ?_
  rintro y wy ⟨rfl, hwy⟩
  subst hwy
  clear q
  go_wp2_with fail
  go_ret2
  exact ⟨rfl, rfl⟩
end Go.Proofs.Ytolobljlkdacjaa
