/- surviving, Parts. -/
import Derived.Test.YtkokmgoplldcfaaXList
namespace Go.Proofs.Ytkokmgoplldcfaa
open Go.RowKit Go Go.Sort

/-- The parts that are not aborted. -/
def survL (s : Nat) (l : List Pt) : List Nat := (l.filter (fun p => decide ((if p.ft = 2 then 4 else s) ≠ 4))).map (·.x)
theorem survL_snoc (s : Nat) (l : List Pt) (p : Pt) : survL s (l ++ [p]) = survL s l ++ (if (if p.ft = 2 then 4 else s) = 4 then [] else [p.x]) := by
  unfold survL
  rw [List.filter_append, List.map_append]
  congr 1
  by_cases h : p.ft = 2
  · simp [h]
  · by_cases hs : s = 4 <;> simp [h, hs]
theorem survL_len (s : Nat) (l : List Pt) : (survL s l).length ≤ l.length := by unfold survL; rw [List.length_map]; exact List.length_filter_le _ _
theorem icl_snoc (l : List Nat) (x : Nat) : icl (l ++ [x]) = icl l ++ [.int .i64 x] := by simp [icl]

set_option maxHeartbeats 1000000 in
set_option maxRecDepth 100000 in
theorem surviving_any (σ : Nat → Option Nat) (tb : Nat) (t : Tx) (w : World) (h : XB w σ tb t) (h64 : t.ps.length ≤ 64) :
    Calls Try.prog 31 #[.pointer (some ⟨tb, 0, none⟩)] w fun x w' => (∃ v', x = .returned v' ∧ w'.ownsRow w.heap.size 3 1 v' (survL t.st t.ps).length (icl (survL t.st t.ps))) ∧ Tch (fun _ => False) w w' := by
  obtain ⟨i0, hi, hz0, hz1, hz2⟩ := info_parts info_int
  obtain ⟨v, _, _, c2, hv⟩ := h.c
  obtain ⟨ao, cap, rfl⟩ := row_slice hv
  obtain ⟨n, hn⟩ : ∃ n, n = t.ps.length := ⟨_, rfl⟩
  rw [← hn] at c2 h64
  have Hn : Hid (n = t.ps.length) := hn
  have Hh : Hid (XB w σ tb t) := h
  obtain ⟨N, hN⟩ : ∃ N, N = w.heap.size := ⟨_, rfl⟩
  have HN : Hid (N = w.heap.size) := hN
  have Hc2 : Hid (w.cell? ⟨tb, 2, none⟩ = some (.slice ao n cap)) := c2
  rw [← hN]
  clear hv hn h hN
  go_enter Try.func31, Try.ntmps31
  go_wp2_with fail
  go_loopw [3, 11] (fun l i wr => ∃ k ln : Nat, i = .int .i64 k ∧ k ≤ n ∧ Hid (ln = (survL t.st (t.ps.take k)).length) ∧ wr.ownsRow N 3 1 l ln (icl (survL t.st (t.ps.take k))) ∧ Tch (fun _ => False) w wr) (fun _ i _ => n - (intOf i).toNat)
  case atStart => exact ⟨0, 0, rfl, by omega, rfl, ⟨rfl, Or.inl ⟨rfl, rfl⟩⟩, Tch.refl _ _⟩
  case round =>
    obtain ⟨k, ln, rfl, hk, hln, hown, tw⟩ := hrel
    obtain ⟨lo, lc, rfl⟩ := row_slice hown
    by_cases hlt : (k : Int) < n
    · have hkl : k < t.ps.length := by have := Hn.out; omega
      obtain ⟨p, hp⟩ : ∃ p, t.ps[k]? = some p := ⟨_, List.getElem?_eq_getElem hkl⟩
      obtain ⟨g, cap', d2, e0, e1, e2⟩ := (Hh.out.tch tw (fun _ _ h => h.elim) (fun _ _ h => h)).part hp
      have hao : ao = some ⟨g, 0, none⟩ := by
        have := (tw.cell (p := ⟨tb, 2, none⟩) (cell_lt Hc2.out) (fun h => h)).trans Hc2.out
        rw [d2] at this
        injection this with this
        injection this with this
        exact this.symm
      subst hao
      have htk : t.ps.take (k + 1) = t.ps.take k ++ [p] := by rw [List.take_add_one, hp]; rfl
      have HL : Hid (survL t.st (t.ps.take (k + 1)) = survL t.st (t.ps.take k) ++ (if (if p.ft = 2 then 4 else t.st) = 4 then [] else [p.x])) := by show _ = _; rw [htk, survL_snoc]
      have Hll : Hid (ln ≤ 64) := by
        have := hln.out
        have := survL_len t.st (t.ps.take k)
        have : (t.ps.take k).length ≤ k := by simp; omega
        show _ ≤ _
        omega
      have q := fun W (hW : Tch (fun _ => False) w W) => state_some σ tb t k W (Hh.out.tch hW (fun _ _ h => h.elim) (fun _ _ h => h)) (Or.inr ⟨k, rfl, hkl⟩) (by have := Hn.out; omega)
      obtain ⟨e, he⟩ : ∃ e, e = stE (some (t, (k : Int))) := ⟨_, rfl⟩
      have He : Hid (e = if p.ft = 2 then 4 else t.st) := by show _ = _; rw [he]; simp [stE, fate, hp]
      rw [← he] at q
      simp only [numV] at q
      obtain ⟨L0, hL0⟩ : ∃ L0, L0 = survL t.st (t.ps.take k) := ⟨_, rfl⟩
      rw [← hL0] at hown HL hln
      have HLn : Hid (ln = L0.length) := hln.out
      have Hown : Hid _ := hown
      have Ht : Hid (Tch (fun _ => False) w wr) := tw
      obtain ⟨px, hpx⟩ : ∃ px, px = p.x := ⟨_, rfl⟩
      obtain ⟨pa, hpa⟩ : ∃ pa, pa = p.ar := ⟨_, rfl⟩
      obtain ⟨pf, hpf⟩ : ∃ pf, pf = p.ft := ⟨_, rfl⟩
      rw [← hpx] at e0 HL
      rw [← hpa] at e1
      rw [← hpf] at e2 HL He
      obtain ⟨w0, hw0⟩ : ∃ w0, w0 = wr.alloc (.cells #[.int .i64 px, .int .i64 pa, .int .i64 pf] 93) := ⟨_, rfl⟩
      have t0 : Tch (fun _ => False) w w0 := by rw [hw0]; exact tw.allocR _
      have hb : w0.heap[wr.heap.size]? = some (.cells #[.int .i64 px, .int .i64 pa, .int .i64 pf] 93 (0, 0)) := by rw [hw0]; exact alloc_new _ _
      have Q := q w0 t0
      have tr0 : Tch (fun _ => False) wr w0 := by rw [hw0]; exact Tch.alloc _ _ _
      have Hr0 : Hid (Tch (fun _ => False) wr w0) := tr0
      have Hb : Hid _ := hb
      have Hw0 : Hid _ := hw0
      have Ht0 : Hid (Tch (fun _ => False) w w0) := t0
      clear hp htk hkl he hown tw hln hL0 hpx hpa hpf q t0 hb tr0 hw0 d2
      go_wp2_with fail
      have hw0 := Hw0.out
      rw [← hw0]
      clear hw0
      refine Q.mono ?_
      rintro x w1 ⟨rfl, t1⟩
      clear Q e0 e1 e2
      have d0 : w1.cell? ⟨wr.heap.size, 0, none⟩ = some (.int .i64 px) := by rw [t1.cell (p := ⟨wr.heap.size, 0, none⟩) (blk_lt Hb.out) (fun h => h), blk_cell Hb.out]; rfl
      have HO1 : Hid (w1.ownsRow N 3 1 (.slice lo ln lc) ln (icl L0)) := own_tch (own_tch Hown.out Hr0.out (fun _ _ h => h)) t1 (fun _ _ h => h)
      have HT1 : Hid (Tch (fun _ => False) w w1) := Ht0.out.trans' t1
      clear t1 Hown Hr0 Ht0 Hw0 Hb
      by_cases he4 : e = 4
      · have HL' : Hid (survL t.st (t.ps.take (k + 1)) = L0) := by show _ = _; rw [HL.out, if_pos (by rw [← He.out]; exact he4), List.append_nil]
        subst he4
        go_wp2_with fail
        go_roundw
        case rel => exact ⟨k + 1, ln, by go_num, by omega, by rw [HL'.out]; exact HLn, by rw [HL'.out]; exact HO1.out, HT1.out⟩
        case measure => simp [intOf]; omega
      · have HL' : Hid (survL t.st (t.ps.take (k + 1)) = L0 ++ [px]) := by show _ = _; rw [HL.out, if_neg (by rw [← He.out]; exact he4)]
        have he1 : ((e : Int) == 4) = false := by simp; omega
        have heI : ¬ (e : Int) = 4 := by omega
        obtain ⟨w2, hw2⟩ : ∃ w2, w2 = w1.alloc (.cells #[.int .i64 px] 3) := ⟨_, rfl⟩
        have HO2 : Hid (w2.ownsRow N 3 1 (.slice lo ln lc) ln (icl L0)) := by show World.ownsRow _ _ _ _ _ _ _; rw [hw2]; exact own_tch HO1.out (Tch.alloc (fun _ => False) _ _) (fun _ _ h => h)
        have HT2 : Hid (Tch (fun _ => False) w w2) := by show Tch _ _ _; rw [hw2]; exact HT1.out.allocR _
        have Hcl : Hid (∀ j u, ([.int .i64 px] : List Value)[j]? = some u → w2.cell? ((⟨w1.heap.size, 0, none⟩ : Addr).add j) = some u) := fun j u hu => by
          have hb2 : w2.heap[w1.heap.size]? = some (.cells #[.int .i64 px] 3 (0, 0)) := by rw [hw2]; exact alloc_new _ _
          rw [add_plain, blk_cell hb2]
          cases j with
          | zero => simpa using hu
          | succ j => simp at hu
        have Hw2 : Hid _ := hw2
        have Hsz : Hid (N ≤ w2.heap.size) := by show _ ≤ _; rw [HN.out]; exact HT2.out.size
        clear hw2
        go_wp2_with (at_builtin; have hw2 := Hw2.out; rw [← hw2]; clear hw2; refine wpList_append_keeps _ rfl _ _ 29 rfl N 3 i0 (.int .i64 0) 1 8 Try.underlying29 hi hz0 hz1 hz2 rfl (by decide) (.slice lo ln lc) ln (icl L0) rfl HO2.out ⟨w1.heap.size, 0, none⟩ 1 1 [.int .i64 px] rfl rfl Hcl.out (fun u hu => by simp at hu; subst hu; rfl) (by have := Hll.out; unfold maxLen; omega) (by have := Hll.out; omega) Hsz.out ?_; intro v3 w3 hown3 hgr3 hat3 _; have HO3 : Hid (w3.ownsRow N 3 1 v3 (ln + 1) (icl (L0 ++ [px]))) := (by have h1 := hown3; rw [← icl_snoc] at h1; exact h1); have HT3 : Hid (Tch (fun _ => False) w w3) := (HT2.out.trans (grown_at (Tch.refl (fun _ => False) w2) hgr3) (fun i hi e => by have := row_ge HO2.out e; have := HN.out; omega)); obtain ⟨o3, c3, hv3⟩ := row_slice HO3.out; subst hv3; clear hown3 hgr3 hat3)
        go_roundw
        case rel => exact ⟨k + 1, ln + 1, by go_num, by omega, by show _ = _; rw [HL'.out, HLn.out]; simp, by rw [HL'.out]; exact HO3.out, HT3.out⟩
        case measure => simp [intOf]; omega
    · have hkn : k = n := by omega
      have HF : Hid (wr.ownsRow N 3 1 (.slice lo ln lc) (survL t.st t.ps).length (icl (survL t.st t.ps))) := by
        have e : t.ps.take k = t.ps := List.take_of_length_le (by have := Hn.out; omega)
        have h1 := hown
        have h2 := hln.out
        rw [e] at h1 h2
        show World.ownsRow _ _ _ _ _ _ _
        rw [← h2]
        exact h1
      have HT : Hid _ := tw
      clear hown tw hln
      go_wp2_with fail
      go_ret
      exact ⟨⟨_, rfl, HF.out⟩, HT.out⟩

/-- Parts. -/
theorem parts_some (b : Nat) (m : Mg) (σ : Nat → Option Nat) (mb : Nat) (bl : Nat → Nat) (w : World) (h : MG w b m σ mb bl) (k : Int) (h1 : -9223372036854775808 ≤ k) (h2 : k ≤ 9223372036854775807) {t : Tx} (hf : fnd m.tx k = some (t, -1)) :
    Calls Try.prog 8 #[.pointer (some ⟨b, 0, none⟩), .int .i64 k] w fun x w' => (∃ v', x = .returned (.tuple #[v', .int .i64 0]) ∧ w'.ownsRow w.heap.size 3 1 v' (survL t.st t.ps).length (icl (survL t.st t.ps))) ∧ Tch (fun _ => False) w w' := by
  have c0 := h.c0
  have q := transaction_any b m σ mb bl w h k h1 h2
  obtain ⟨hx, _, h64, _, hlk, _⟩ := h.at hf
  rw [hlk] at q
  have e : txE (some (bl t.x, -1)) = .pointer (some ⟨bl t.x, 0, none⟩) := rfl
  rw [e] at q
  have qs := fun W (hW : Tch (fun _ => False) w W) => surviving_any σ (bl t.x) t W (hx.tch hW (fun _ _ h => h.elim) (fun _ _ h => h)) h64
  obtain ⟨tb, htb⟩ : ∃ tb, tb = bl t.x := ⟨_, rfl⟩
  rw [← htb] at q qs
  clear h hf hx h64 hlk e htb h1 h2
  go_enter Try.func8, Try.ntmps8
  go_wp2_with fail
  refine q.mono ?_
  rintro x w1 ⟨rfl, t1⟩
  clear q
  have Q := qs w1 t1
  have T : Hid (Tch (fun _ => False) w w1) := t1
  clear t1 c0 qs
  go_wp2_with fail
  refine Q.mono ?_
  rintro x w2 ⟨⟨v, rfl, hv⟩, t2⟩
  obtain ⟨o2, c2, rfl⟩ := row_slice hv
  have T2 : Hid (Tch (fun _ => False) w w2) := T.out.trans' t2
  have HV : Hid _ := own_low hv T.out.size
  clear t2 hv Q
  go_wp2
  go_ret2
  exact ⟨⟨_, rfl, HV.out⟩, T2.out⟩
theorem parts_none (b : Nat) (m : Mg) (σ : Nat → Option Nat) (mb : Nat) (bl : Nat → Nat) (w : World) (h : MG w b m σ mb bl) (k : Int) (h1 : -9223372036854775808 ≤ k) (h2 : k ≤ 9223372036854775807) (hf : ∀ t, fnd m.tx k ≠ some (t, -1)) :
    Calls Try.prog 8 #[.pointer (some ⟨b, 0, none⟩), .int .i64 k] w fun x w' => x = .returned (.tuple #[.slice none 0 0, .int .i64 70]) ∧ Tch (fun _ => False) w w' := by
  have c0 := h.c0
  have q := transaction_any b m σ mb bl w h k h1 h2
  have e : txE (lkB bl m.tx k) = .pointer none := by
    cases hk : fnd m.tx k with
    | none => simp [lkB, hk, txE]
    | some a =>
      obtain ⟨t, i⟩ := a
      obtain ⟨_, hi, _⟩ := h.at hk
      rcases hi with rfl | ⟨j, rfl, _⟩
      · exact absurd hk (hf t)
      · simp [lkB, hk, txE]
  rw [e] at q
  clear h hf e h1 h2
  go_enter Try.func8, Try.ntmps8
  go_wp2_with fail
  refine q.mono ?_
  rintro x w1 ⟨rfl, t1⟩
  clear q
  have T : Hid (Tch (fun _ => False) w w1) := t1
  clear t1 c0
  go_wp2
  go_ret2
  exact ⟨rfl, T.out⟩
end Go.Proofs.Ytkokmgoplldcfaa
