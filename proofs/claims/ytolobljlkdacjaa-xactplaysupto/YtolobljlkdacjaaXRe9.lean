import Derived.Test.YtolobljlkdacjaaXRe7
/- The document's manager: Open. -/
namespace Go.Proofs.Ytolobljlkdacjaa
open Go.RowKit Go Go.Sort

/-- The numbers of those that are meant. -/
def fltN (P : Nm → Bool) (L : List Nm) : List Nat := (L.filter P).map (·.n)
theorem fltN_snoc (P : Nm → Bool) (L : List Nm) (a : Nm) : fltN P (L ++ [a]) = fltN P L ++ (if P a then [a.n] else []) := by
  unfold fltN
  rw [List.filter_append, List.map_append]
  congr 1
  cases h : P a <;> simp [h]
theorem fltN_len (P : Nm → Bool) (L : List Nm) : (fltN P L).length ≤ L.length := by unfold fltN; rw [List.length_map]; exact List.length_filter_le _ _
theorem fltN_take {P : Nm → Bool} {L : List Nm} {k : Nat} {a : Nm} (ha : L[k]? = some a) : fltN P (L.take (k + 1)) = fltN P (L.take k) ++ (if P a then [a.n] else []) := by
  rw [← fltN_snoc]
  congr 1
  rw [List.take_add_one, ha]; rfl
set_option maxHeartbeats 1000000 in
set_option maxRecDepth 100000 in
theorem ropen_any (b : Nat) (ao : Option Addr) (c : Nat) (L : List Nm) (w : World) (h : NR w b ao c L) (hL : L.length ≤ 2147483648) :
    Calls Try.prog 57 #[.pointer (some ⟨b, 0, none⟩)] w fun x w' => (∃ v', x = .returned v' ∧ w'.ownsRow w.heap.size 3 1 v' (fltN openP L).length (icl (fltN openP L))) ∧ Tch (fun _ => False) w w' := by
  obtain ⟨i0, hi, hz0, hz1, hz2⟩ := info_parts info_int
  obtain ⟨n, hn⟩ : ∃ n, n = L.length := ⟨_, rfl⟩
  rw [← hn] at hL
  have Hn : Hid (n = L.length) := hn
  have HNR : Hid _ := h
  obtain ⟨N, hN⟩ : ∃ N, N = w.heap.size := ⟨_, rfl⟩
  have HN : Hid (N = w.heap.size) := hN
  rw [← hN]
  clear hn h hN
  go_enter Try.func57, Try.ntmps57
  go_wp2_with fail
  go_loopw [3, 4] (fun l i wr => ∃ k ln : Nat, i = .int .i64 k ∧ k ≤ n ∧ Hid (ln = (fltN openP (L.take k)).length) ∧ wr.ownsRow N 3 1 l ln (icl (fltN openP (L.take k))) ∧ Tch (fun _ => False) w wr) (fun _ i _ => n - (intOf i).toNat)
  case atStart => exact ⟨0, 0, rfl, by omega, rfl, ⟨rfl, Or.inl ⟨rfl, rfl⟩⟩, Tch.refl _ _⟩
  case round =>
    obtain ⟨k, ln, rfl, hk, hln, hown, tw⟩ := hrel
    obtain ⟨lo, lc, rfl⟩ := row_slice hown
    by_cases hlt : (k : Int) < n
    · have hkl : k < L.length := by have := Hn.out; omega
      obtain ⟨a, hk'⟩ : ∃ a, L[k]? = some a := ⟨_, List.getElem?_eq_getElem hkl⟩
      obtain ⟨g, hao, c0, c1, c2, -⟩ := (HNR.out.no tw).el k a hk'
      have b0 := (HNR.out.no tw).c0
      rw [← Hn.out, hao] at b0
      have HL : Hid (fltN openP (L.take (k + 1)) = fltN openP (L.take k) ++ (if openP a then [a.n] else [])) := fltN_take hk'
      have Hll : Hid (ln ≤ 2147483648) := by
        have := hln.out
        have := fltN_len openP (L.take k)
        have : (L.take k).length ≤ k := by simp; omega
        show _ ≤ _
        omega
      obtain ⟨L0, hL0⟩ : ∃ L0, L0 = fltN openP (L.take k) := ⟨_, rfl⟩
      rw [← hL0] at hown HL hln
      have HLn : Hid (ln = L0.length) := hln.out
      have HO1 : Hid _ := hown
      have HT1 : Hid (Tch (fun _ => False) w wr) := tw
      obtain ⟨px, hpx⟩ : ∃ px, px = a.n := ⟨_, rfl⟩
      obtain ⟨pp, hpp⟩ : ∃ pp, pp = a.par := ⟨_, rfl⟩
      obtain ⟨ps, hps⟩ : ∃ ps, ps = a.st := ⟨_, rfl⟩
      have HP : Hid (openP a = (decide (pp = 0) && (decide (ps = 1) || decide (ps = 2)))) := by show _ = _; rw [hpp, hps]; rfl
      rw [← hpx] at c0 HL
      rw [← hpp] at c1
      rw [← hps] at c2
      clear hk' hkl hown tw hln hL0 hpx hpp hps hao
      by_cases k0 : pp = 0
      · have c1' : wr.cell? ⟨g, k * 6 + 1, none⟩ = some (.int .i64 0) := by rw [c1, k0]; rfl
        clear c1
        by_cases k1 : ps = 1
        · have HL' : Hid (fltN openP (L.take (k + 1)) = L0 ++ [px]) := by show _ = _; rw [HL.out, HP.out]; simp [k0, k1]
          have c2' : wr.cell? ⟨g, k * 6 + 2, none⟩ = some (.int .i64 1) := by rw [c2, k1]; rfl
          clear c2 k0 k1 HP HL
          obtain ⟨w2, hw2⟩ : ∃ w2, w2 = wr.alloc (.cells #[.int .i64 px] 3) := ⟨_, rfl⟩
          have HO2 : Hid (w2.ownsRow N 3 1 (.slice lo ln lc) ln (icl L0)) := by show World.ownsRow _ _ _ _ _ _ _; rw [hw2]; exact own_tch HO1.out (Tch.alloc (fun _ => False) _ _) (fun _ _ h => h)
          have HT2 : Hid (Tch (fun _ => False) w w2) := by show Tch _ _ _; rw [hw2]; exact HT1.out.allocR _
          have Hcl : Hid (∀ j u, ([.int .i64 px] : List Value)[j]? = some u → w2.cell? ((⟨wr.heap.size, 0, none⟩ : Addr).add j) = some u) := fun j u hu => by
            have hb2 : w2.heap[wr.heap.size]? = some (.cells #[.int .i64 px] 3 (0, 0)) := by rw [hw2]; exact alloc_new _ _
            rw [add_plain, blk_cell hb2]
            cases j with
            | zero => simpa using hu
            | succ j => simp at hu
          have Hw2 : Hid _ := hw2
          have Hsz : Hid (N ≤ w2.heap.size) := by show _ ≤ _; rw [HN.out]; exact HT2.out.size
          clear hw2
          go_wp2_with (at_builtin; have hw2 := Hw2.out; rw [← hw2]; clear hw2; refine wpList_append_keeps _ rfl _ _ 31 rfl N 3 i0 (.int .i64 0) 1 8 Try.underlying31 hi hz0 hz1 hz2 rfl (by decide) (.slice lo ln lc) ln (icl L0) rfl HO2.out ⟨wr.heap.size, 0, none⟩ 1 1 [.int .i64 px] rfl rfl Hcl.out (fun u hu => by simp at hu; subst hu; rfl) (by have := Hll.out; unfold maxLen; omega) (by have := Hll.out; omega) Hsz.out ?_; intro v3 w3 hown3 hgr3 hat3 _; have HO3 : Hid (w3.ownsRow N 3 1 v3 (ln + 1) (icl (L0 ++ [px]))) := (by have h1 := hown3; rw [← icl_snoc] at h1; exact h1); have HT3 : Hid (Tch (fun _ => False) w w3) := (HT2.out.trans (grown_at (Tch.refl (fun _ => False) w2) hgr3) (fun i hi e => by have := row_ge HO2.out e; have := HN.out; omega)); obtain ⟨o3, c3, hv3⟩ := row_slice HO3.out; subst hv3; clear hown3 hgr3 hat3)
          go_roundw
          case rel => exact ⟨k + 1, ln + 1, by go_num, by omega, by show _ = _; rw [HL'.out, HLn.out]; simp, by rw [HL'.out]; exact HO3.out, HT3.out⟩
          case measure => simp [intOf]; omega
        · by_cases k2 : ps = 2
          · have HL' : Hid (fltN openP (L.take (k + 1)) = L0 ++ [px]) := by show _ = _; rw [HL.out, HP.out]; simp [k0, k2]
            have c2' : wr.cell? ⟨g, k * 6 + 2, none⟩ = some (.int .i64 2) := by rw [c2, k2]; rfl
            clear c2 k0 k1 k2 HP HL
            obtain ⟨w2, hw2⟩ : ∃ w2, w2 = wr.alloc (.cells #[.int .i64 px] 3) := ⟨_, rfl⟩
            have HO2 : Hid (w2.ownsRow N 3 1 (.slice lo ln lc) ln (icl L0)) := by show World.ownsRow _ _ _ _ _ _ _; rw [hw2]; exact own_tch HO1.out (Tch.alloc (fun _ => False) _ _) (fun _ _ h => h)
            have HT2 : Hid (Tch (fun _ => False) w w2) := by show Tch _ _ _; rw [hw2]; exact HT1.out.allocR _
            have Hcl : Hid (∀ j u, ([.int .i64 px] : List Value)[j]? = some u → w2.cell? ((⟨wr.heap.size, 0, none⟩ : Addr).add j) = some u) := fun j u hu => by
              have hb2 : w2.heap[wr.heap.size]? = some (.cells #[.int .i64 px] 3 (0, 0)) := by rw [hw2]; exact alloc_new _ _
              rw [add_plain, blk_cell hb2]
              cases j with
              | zero => simpa using hu
              | succ j => simp at hu
            have Hw2 : Hid _ := hw2
            have Hsz : Hid (N ≤ w2.heap.size) := by show _ ≤ _; rw [HN.out]; exact HT2.out.size
            clear hw2
            go_wp2_with (at_builtin; have hw2 := Hw2.out; rw [← hw2]; clear hw2; refine wpList_append_keeps _ rfl _ _ 31 rfl N 3 i0 (.int .i64 0) 1 8 Try.underlying31 hi hz0 hz1 hz2 rfl (by decide) (.slice lo ln lc) ln (icl L0) rfl HO2.out ⟨wr.heap.size, 0, none⟩ 1 1 [.int .i64 px] rfl rfl Hcl.out (fun u hu => by simp at hu; subst hu; rfl) (by have := Hll.out; unfold maxLen; omega) (by have := Hll.out; omega) Hsz.out ?_; intro v3 w3 hown3 hgr3 hat3 _; have HO3 : Hid (w3.ownsRow N 3 1 v3 (ln + 1) (icl (L0 ++ [px]))) := (by have h1 := hown3; rw [← icl_snoc] at h1; exact h1); have HT3 : Hid (Tch (fun _ => False) w w3) := (HT2.out.trans (grown_at (Tch.refl (fun _ => False) w2) hgr3) (fun i hi e => by have := row_ge HO2.out e; have := HN.out; omega)); obtain ⟨o3, c3, hv3⟩ := row_slice HO3.out; subst hv3; clear hown3 hgr3 hat3)
            go_roundw
            case rel => exact ⟨k + 1, ln + 1, by go_num, by omega, by show _ = _; rw [HL'.out, HLn.out]; simp, by rw [HL'.out]; exact HO3.out, HT3.out⟩
            case measure => simp [intOf]; omega
          · have HL' : Hid (fltN openP (L.take (k + 1)) = L0) := by show _ = _; rw [HL.out, HP.out]; simp [k1, k2]
            have e1 : ((ps : Int) == 1) = false := beq_eq_false_iff_ne.2 (by omega)
            have e2 : ((ps : Int) == 2) = false := beq_eq_false_iff_ne.2 (by omega)
            clear k0 k1 k2 HP HL
            go_wp2_with fail
            go_roundw
            case rel => exact ⟨k + 1, ln, by go_num, by omega, by rw [HL'.out]; exact HLn, by rw [HL'.out]; exact HO1.out, HT1.out⟩
            case measure => simp [intOf]; omega
      · have HL' : Hid (fltN openP (L.take (k + 1)) = L0) := by show _ = _; rw [HL.out, HP.out]; simp [k0]
        have e1 : ((pp : Int) == 0) = false := beq_eq_false_iff_ne.2 (by omega)
        clear k0 HP HL
        go_wp2_with fail
        go_roundw
        case rel => exact ⟨k + 1, ln, by go_num, by omega, by rw [HL'.out]; exact HLn, by rw [HL'.out]; exact HO1.out, HT1.out⟩
        case measure => simp [intOf]; omega
    · have hkn : k = n := by omega
      have HF : Hid (wr.ownsRow N 3 1 (.slice lo ln lc) (fltN openP L).length (icl (fltN openP L))) := by
        have e : L.take k = L := List.take_of_length_le (by have := Hn.out; omega)
        have h1 := hown
        have h2 := hln.out
        rw [e] at h1 h2
        show World.ownsRow _ _ _ _ _ _ _
        rw [← h2]
        exact h1
      have HT : Hid _ := tw
      have b0 := (HNR.out.no tw).c0
      rw [← Hn.out] at b0
      clear hown tw hln
      go_wp2_with fail
      go_ret
      exact ⟨⟨_, rfl, HF.out⟩, HT.out⟩
end Go.Proofs.Ytolobljlkdacjaa
