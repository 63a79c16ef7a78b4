import Derived.Test.YtmegkmhcfehnkaaGreatDoorVSame
import Derived.Test.YtmegkmhcfehnkaaGreatDoorQTail
/- A text as it is printed, by the code. -/
namespace Go.Proofs.YtmegkmhcfehnkaaGreatDoor
open Go.RowKit

/-- The sixteen signs. -/
def sgn (n : Nat) : UInt8 := UInt8.ofNat (if n < 10 then 48 + n else 87 + n)
/-- A byte as it is printed within a text. -/
def esc (b : UInt8) : List UInt8 := if b.toNat = 39 then [39, 39] else if b.toNat < 32 ∨ 126 < b.toNat ∨ b.toNat = 92 then [92, sgn (b.toNat / 16), sgn (b.toNat % 16)] else [b]
def escs (l : List UInt8) : List UInt8 := l.flatMap esc
def qtd (s : ByteArray) : List UInt8 := 39 :: (escs s.data.toList ++ [39])
theorem escs_snoc (l : List UInt8) (b : UInt8) : escs (l ++ [b]) = escs l ++ esc b := by simp [escs]
theorem esc_len (b : UInt8) : (esc b).length ≤ 3 := by unfold esc; (repeat' split) <;> simp
theorem escs_len : ∀ l : List UInt8, (escs l).length ≤ 3 * l.length
  | [] => by simp [escs]
  | b :: l => by
    have h1 := esc_len b
    have h2 := escs_len l
    have e : escs (b :: l) = esc b ++ escs l := rfl
    rw [e, List.length_append, List.length_cons]; omega

theorem own_new (w : World) (bs : List UInt8) (hl : bs.length ≤ maxLen) : (w.alloc (.cells (Lib.byteCells bs).toArray 5)).ownsRow w.heap.size 5 1 (.slice (some ⟨w.heap.size, 0, none⟩) bs.length bs.length) bs.length (Lib.byteCells bs) := by
  have hb := Lib.byteCells_length bs
  refine ⟨by omega, Or.inr ⟨w.heap.size, bs.length, (Lib.byteCells bs).toArray, rfl, Nat.le_refl _, heap_new w _, Nat.le_refl _, hl, by simp [hb], ?_⟩⟩
  exact List.take_of_length_le (by simp [hb])
theorem byteCells_get {W : World} {b : Nat} {l : List UInt8} (h : ∀ j (hj : j < l.length), W.cell? ⟨b, j, none⟩ = some (.int .u8 l[j].toNat)) : ∀ j u, (Lib.byteCells l)[j]? = some u → W.cell? ((⟨b, 0, none⟩ : Addr).add j) = some u := by
  intro j u hu
  have hb := Lib.byteCells_length l
  have hj : j < l.length := by
    have := (List.getElem?_eq_some_iff.1 hu).1
    omega
  have e : (Lib.byteCells l)[j]? = some (.int .u8 l[j].toNat) := by simp [Lib.byteCells, hj]
  rw [e] at hu
  cases hu
  have := h j hj
  rw [← this]
  congr 1
  unfold Addr.add
  split <;> simp_all
theorem sgn_get (n : Nat) (hn : n < 16) (h : n < (⟨#[48, 49, 50, 51, 52, 53, 54, 55, 56, 57, 97, 98, 99, 100, 101, 102]⟩ : ByteArray).size) : (⟨#[48, 49, 50, 51, 52, 53, 54, 55, 56, 57, 97, 98, 99, 100, 101, 102]⟩ : ByteArray)[n] = sgn n := by
  have : ∀ i : Fin 16, (#[48, 49, 50, 51, 52, 53, 54, 55, 56, 57, 97, 98, 99, 100, 101, 102] : Array UInt8)[i.1]? = some (sgn i.1) := by decide
  have h2 := this ⟨n, hn⟩
  have h3 : n < (#[48, 49, 50, 51, 52, 53, 54, 55, 56, 57, 97, 98, 99, 100, 101, 102] : Array UInt8).size := h
  rw [Array.getElem?_eq_getElem h3] at h2
  exact Option.some.inj h2
theorem sgn_run (n : Nat) (hn : n < 16) (W : World) : (Instr.index 9 (.string ⟨#[48, 49, 50, 51, 52, 53, 54, 55, 56, 57, 97, 98, 99, 100, 101, 102]⟩) (.int .u8 (n : Int))).run Tryz.prog W = .ok (.int .u8 (sgn n).toNat) W := by
  have hz : (⟨#[48, 49, 50, 51, 52, 53, 54, 55, 56, 57, 97, 98, 99, 100, 101, 102]⟩ : ByteArray).size = 16 := rfl
  rw [run_index_string W _ _ _ _ Tryz.underlying9, dif_pos (by rw [hz]; omega)]
  have := sgn_get n hn (by rw [hz]; exact hn)
  simp only [Int.toNat_natCast]
  rw [this]
theorem grown_tch {N : Nat} {w w1 : World} {v : Value} (h : w.grownBy w1 v.ownBlock) (hg : ∀ g, v.ownBlock = some g → N ≤ g) : Tch (fun i => N ≤ i) w w1 :=
  ⟨h.os, h.tape, h.output, h.size, fun k hk hn => h.block k hk (fun e => hn (hg k e.symm))⟩

set_option maxHeartbeats 2000000 in
set_option maxRecDepth 100000 in
theorem quoted_plain (s : ByteArray) (w : World) (hs : s.size ≤ 17592186044416) (hpl : ∀ k (hk : k < s.size), s[k].toNat ≠ 39 ∧ ¬ (s[k].toNat < 32 ∨ 126 < s[k].toNat ∨ s[k].toNat = 92)) :
    Calls Tryz.prog 32 #[.string s] w fun x w' => x = .returned (.string ⟨(qtd s).toArray⟩) ∧ Tch (fun _ => False) w w' := by
  have HP : Hid _ := hpl
  clear hpl
  obtain ⟨i0, hi, hz0, hz1, hz2⟩ := info_byte'
  go_enter Tryz.func32, Tryz.ntmps32
  go_wp2_with fail
  go_loopw [3, 9] (fun v i wr => ∃ (k : Nat) (bs : List UInt8), i = .int .i64 k ∧ k ≤ s.size ∧ Hid (bs = 39 :: escs (s.data.toList.take k)) ∧ bs.length ≤ 1 + 3 * k ∧ wr.ownsRow w.heap.size 5 1 v bs.length (Lib.byteCells bs) ∧ Tch (fun i => w.heap.size ≤ i) w wr) (fun _ i _ => s.size - (intOf i).toNat)
  case atStart => exact ⟨0, [39], rfl, by omega, rfl, by simp, own_new w [39] (by decide), Tch.alloc _ _ _⟩
  case round =>
    obtain ⟨k, bs, rfl, hk, HB, hbl, hown, hT⟩ := hrel
    obtain ⟨ao, cp, hv⟩ := slice_of hown
    subst hv
    have HG : Hid (∀ g, (Value.slice ao bs.length cp).ownBlock = some g → w.heap.size ≤ g) := fun g hk => ownBlock_ge hown hk.symm
    have HO : Hid (∀ W, Tch (fun _ => False) wr W → W.ownsRow w.heap.size 5 1 (.slice ao bs.length cp) bs.length (Lib.byteCells bs)) := fun W t => ownsRow_tch hown t (fun _ _ _ h => h)
    have hwr := hT.size
    by_cases hlt : (k : Int) < s.size
    · have hks : k < s.size := by omega
      have HEnd : Hid (∀ (l : List UInt8) (W w1 : World) (v' : Value), esc s[k] = l → w1.ownsRow w.heap.size 5 1 v' (bs.length + l.length) (Lib.byteCells bs ++ Lib.byteCells l) → Tch (fun _ => False) wr W → W.grownBy w1 (Value.slice ao bs.length cp).ownBlock →
          (∃ (k_1 : Nat) (bs_1 : List UInt8), Value.int .i64 ((k : Int) + 1) = .int .i64 k_1 ∧ k_1 ≤ s.size ∧ Hid (bs_1 = 39 :: escs (s.data.toList.take k_1)) ∧ bs_1.length ≤ 1 + 3 * k_1 ∧ w1.ownsRow w.heap.size 5 1 v' bs_1.length (Lib.byteCells bs_1) ∧ Tch (fun i => w.heap.size ≤ i) w w1) ∧ s.size - (intOf (Value.int .i64 ((k : Int) + 1))).toNat < s.size - (intOf (Value.int .i64 (k : Int))).toNat) := fun l W w1 v' he ho t hgr => by
        have hel := esc_len s[k]
        rw [he] at hel
        refine ⟨⟨k + 1, bs ++ l, by go_num, by omega, ?_, by rw [List.length_append]; omega, ?_, ?_⟩, by simp [intOf]; omega⟩
        · show _ = _
          rw [List.take_succ_eq_append_getElem (by simpa using hks), escs_snoc, HB.out]
          show _ = _ :: (_ ++ esc s[k])
          rw [he]; rfl
        · rw [Lib.byteCells_append, List.length_append]; exact ho
        · exact (hT.trans' (no_mono t)).trans' (grown_tch hgr HG.out)
      have hxl : s[k].toNat ≤ 255 := by have := s[k].toNat_lt; omega
      obtain ⟨h39, hes⟩ := HP.out k hks
      have h39' : ¬ (s[k].toNat : Int) = 39 := by omega
      have HE : Hid (esc s[k] = [s[k]]) := by show _ = _; unfold esc; rw [if_neg h39, if_neg hes]
      have c1 : ¬ (s[k].toNat : Int) < 32 := by omega
      have c2 : ¬ 126 < (s[k].toNat : Int) := by omega
      have c3 : ¬ (s[k].toNat : Int) = 92 := by omega
      clear h39 hown hes
      go_wp2_with (at_builtin; refine wpList_append_own _ rfl _ _ 64 rfl w.heap.size 5 i0 (.int .u8 0) 1 1 Tryz.underlying64 hi hz0 hz1 hz2 rfl (by decide) (.slice ao bs.length cp) _ _ rfl (HO.out _ (Tch.alloc _ _ _)) ⟨wr.heap.size, 0, none⟩ 1 1 (Lib.byteCells [s[k]]) rfl rfl (byteCells_get (fun j hj => by rcases j with _ | j <;> simp at hj ⊢)) (Lib.byteCells_one _) (by unfold maxLen; omega) (by omega) (by simp; omega) ?_; intro v' w1 hown' hgr hnil; obtain ⟨ao', cp', hv'⟩ := slice_of hown'; subst hv'; clear hnil)
      exact HEnd.out [s[k]] _ w1 _ HE.out hown' (Tch.alloc _ _ _) hgr
    · have HE2 : Hid (⟨(qtd s).toArray⟩ = (⟨(bs ++ [39]).toArray⟩ : ByteArray)) := by
        show _ = _
        rw [HB.out, List.take_of_length_le (by simp; omega)]; rfl
      clear hown
      go_wp2_with (at_builtin; refine wpList_append_own _ rfl _ _ 64 rfl w.heap.size 5 i0 (.int .u8 0) 1 1 Tryz.underlying64 hi hz0 hz1 hz2 rfl (by decide) (.slice ao bs.length cp) _ _ rfl (HO.out _ (Tch.alloc _ _ _)) ⟨wr.heap.size, 0, none⟩ 1 1 (Lib.byteCells [39]) rfl rfl (byteCells_get (fun j hj => by rcases j with _ | j <;> simp at hj ⊢)) (Lib.byteCells_one _) (by unfold maxLen; omega) (by omega) (by simp; omega) ?_; intro v' w1 hown' hgr hnil; obtain ⟨ao', cp', hv'⟩ := slice_of hown'; subst hv'; clear hnil; rw [← Lib.byteCells_append] at hown'; have hcv := conv_row (bs := bs ++ [39]) (by rw [List.length_append]; exact hown'))
      go_ret
      rw [HE2.out]
      exact ⟨rfl, ge_new ((hT.allocR _).trans' (grown_tch hgr HG.out))⟩
end Go.Proofs.YtmegkmhcfehnkaaGreatDoor
