import Derived.Test.YtmaekkhmiafnmaaGreatDoorVDec2
import Derived.BigQuiet
import Derived.StillTail
import Derived.Lib.QuietBelow
set_option maxHeartbeats 2000000
set_option maxRecDepth 100000
namespace Go.Proofs.YtmaekkhmiafnmaaGreatDoor
open Go.RowKit
theorem Val.ext' {a b : Val} (h : a.k = b.k ∧ a.n = b.n ∧ a.s = b.s) : a = b := by
  obtain ⟨ak, an, sa⟩ := a
  obtain ⟨bk, bn, sb⟩ := b
  simp at h
  simp [h]
theorem eq_val (a b : Val) : ∃ d : Bool, (d = true ↔ a = b) ∧ ∀ w, (Op.equalIn 10000 29 (.agg #[.int .i64 a.k, .int .i64 a.n, .string a.s]) (.agg #[.int .i64 b.k, .int .i64 b.n, .string b.s])).run Tryz.prog w = .ok d w := by
  have u3 := Tryz.underlying3
  have u9 := Tryz.underlying9
  have hS : Tryz.prog.underlying 29 = some (.struct (Tryz.prog.fieldsOf 29)) := by kernel_rfl
  have hp : Tryz.prog.stoodInHeld 29 = false := by kernel_rfl
  refine ⟨decide (a.k = b.k ∧ a.n = b.n ∧ a.s = b.s), ?_, fun w => ?_⟩
  · simp only [decide_eq_true_eq]
    exact ⟨Val.ext', fun h => by subst h; exact ⟨rfl, rfl, rfl⟩⟩
  · rw [show (10000 : Nat) = 9999 + 1 from rfl, run_equalIn_agg w 9999 29 _ _ hS hp]
    simp only [Program.fieldsOf, Tryz.underlying29]
    go_simp
    have hs : (a.s.toList = b.s.toList) ↔ a.s = b.s := by
      rw [ByteArray.toList_eq, ByteArray.toList_eq]
      exact ⟨fun h => ByteArray.ext (Array.ext' h), fun h => by rw [h]⟩
    by_cases h1 : a.k = b.k <;> by_cases h2 : a.n = b.n <;> by_cases h3 : a.s = b.s <;> simp [h1, h2, h3, hs]
theorem ne_val (a b : Val) : ∃ d : Bool, (d = true ↔ a ≠ b) ∧ ∀ w, (binOp .neq 29 (.agg #[.int .i64 a.k, .int .i64 a.n, .string a.s]) (.agg #[.int .i64 b.k, .int .i64 b.n, .string b.s])).run Tryz.prog w = .ok (.bool d) w := by
  obtain ⟨d, h1, h2⟩ := eq_val a b
  refine ⟨!d, ?_, fun w => ?_⟩
  · cases d <;> simp_all
  · rw [run_neq_struct, h2]; rfl
theorem eql_val (a b : Val) : ∃ d : Bool, (d = true ↔ a = b) ∧ ∀ w, (binOp .eql 29 (.agg #[.int .i64 a.k, .int .i64 a.n, .string a.s]) (.agg #[.int .i64 b.k, .int .i64 b.n, .string b.s])).run Tryz.prog w = .ok (.bool d) w := by
  obtain ⟨d, h1, h2⟩ := eq_val a b
  refine ⟨d, h1, fun w => ?_⟩
  rw [run_eql_struct, h2]; rfl
end Go.Proofs.YtmaekkhmiafnmaaGreatDoor
namespace Go.Proofs.YtmaekkhmiafnmaaGreatDoor
set_option maxRecDepth 100000
open Go Go.Sort
end Go.Proofs.YtmaekkhmiafnmaaGreatDoor
namespace Go.Proofs.YtmaekkhmiafnmaaGreatDoor
open Go.RowKit
def sgn (n : Nat) : UInt8 := UInt8.ofNat (if n < 10 then 48 + n else 87 + n)
def esc (b : UInt8) : List UInt8 := if b.toNat = 39 then [39, 39] else if b.toNat < 32 ∨ 126 < b.toNat ∨ b.toNat = 92 then [92, sgn (b.toNat / 16), sgn (b.toNat % 16)] else [b]
def escs (l : List UInt8) : List UInt8 := l.flatMap esc
def qtd (s : ByteArray) : List UInt8 := 39 :: (escs s.data.toList ++ [39])
theorem escs_snoc (l : List UInt8) (b : UInt8) : escs (l ++ [b]) = escs l ++ esc b := by simp [escs]
theorem esc_len (b : UInt8) : (esc b).length ≤ 3 := by unfold esc; (repeat' split) <;> simp
theorem escs_len : ∀ l : List UInt8, (escs l).length ≤ 3 * l.length
  | [] => by simp [escs]
  | b :: l => by
    have h1 := esc_len b
    have h2 := escs_len l
    have e : escs (b :: l) = esc b ++ escs l := rfl
    rw [e, List.length_append, List.length_cons]; omega
theorem own_new (w : World) (bs : List UInt8) (hl : bs.length ≤ maxLen) : (w.alloc (.cells (Lib.byteCells bs).toArray 5)).ownsRow w.heap.size 5 1 (.slice (some ⟨w.heap.size, 0, none⟩) bs.length bs.length) bs.length (Lib.byteCells bs) := by
  have hb := Lib.byteCells_length bs
  refine ⟨by omega, Or.inr ⟨w.heap.size, bs.length, (Lib.byteCells bs).toArray, rfl, Nat.le_refl _, heap_new w _, Nat.le_refl _, hl, by simp [hb], ?_⟩⟩
  exact List.take_of_length_le (by simp [hb])
theorem byteCells_get {W : World} {b : Nat} {l : List UInt8} (h : ∀ j (hj : j < l.length), W.cell? ⟨b, j, none⟩ = some (.int .u8 l[j].toNat)) : ∀ j u, (Lib.byteCells l)[j]? = some u → W.cell? ((⟨b, 0, none⟩ : Addr).add j) = some u := by
  intro j u hu
  have hb := Lib.byteCells_length l
  have hj : j < l.length := by
    have := (List.getElem?_eq_some_iff.1 hu).1
    omega
  have e : (Lib.byteCells l)[j]? = some (.int .u8 l[j].toNat) := by simp [Lib.byteCells, hj]
  rw [e] at hu
  cases hu
  have := h j hj
  rw [← this]
  congr 1
  unfold Addr.add
  split <;> simp_all
theorem sgn_get (n : Nat) (hn : n < 16) (h : n < (⟨#[48, 49, 50, 51, 52, 53, 54, 55, 56, 57, 97, 98, 99, 100, 101, 102]⟩ : ByteArray).size) : (⟨#[48, 49, 50, 51, 52, 53, 54, 55, 56, 57, 97, 98, 99, 100, 101, 102]⟩ : ByteArray)[n] = sgn n := by
  have : ∀ i : Fin 16, (#[48, 49, 50, 51, 52, 53, 54, 55, 56, 57, 97, 98, 99, 100, 101, 102] : Array UInt8)[i.1]? = some (sgn i.1) := by decide
  have h2 := this ⟨n, hn⟩
  have h3 : n < (#[48, 49, 50, 51, 52, 53, 54, 55, 56, 57, 97, 98, 99, 100, 101, 102] : Array UInt8).size := h
  rw [Array.getElem?_eq_getElem h3] at h2
  exact Option.some.inj h2
theorem sgn_run (n : Nat) (hn : n < 16) (W : World) : (Instr.index 9 (.string ⟨#[48, 49, 50, 51, 52, 53, 54, 55, 56, 57, 97, 98, 99, 100, 101, 102]⟩) (.int .u8 (n : Int))).run Tryz.prog W = .ok (.int .u8 (sgn n).toNat) W := by
  have hz : (⟨#[48, 49, 50, 51, 52, 53, 54, 55, 56, 57, 97, 98, 99, 100, 101, 102]⟩ : ByteArray).size = 16 := rfl
  rw [run_index_string W _ _ _ _ Tryz.underlying9, dif_pos (by rw [hz]; omega)]
  have := sgn_get n hn (by rw [hz]; exact hn)
  simp only [Int.toNat_natCast]
  rw [this]
theorem grown_tch {N : Nat} {w w1 : World} {v : Value} (h : w.grownBy w1 v.ownBlock) (hg : ∀ g, v.ownBlock = some g → N ≤ g) : Tch (fun i => N ≤ i) w w1 :=
  ⟨h.os, h.tape, h.output, h.size, fun k hk hn => h.block k hk (fun e => hn (hg k e.symm))⟩
end Go.Proofs.YtmaekkhmiafnmaaGreatDoor
namespace Go.Proofs.YtmaekkhmiafnmaaGreatDoor
open Go.RowKit
def wordCells : List Value := [.string ⟨#[110, 117, 108, 108]⟩, .int .i64 0, .int .i64 0, .string ⟨#[]⟩, .string ⟨#[102, 97, 108, 115, 101]⟩, .int .i64 3, .int .i64 0, .string ⟨#[]⟩, .string ⟨#[116, 114, 117, 101]⟩, .int .i64 3, .int .i64 1, .string ⟨#[]⟩]
def HWd (w : World) : Prop := ∀ j u, wordCells[j]? = some u → w.cell? ⟨1, j, none⟩ = some u
theorem HWd.lt {w : World} (h : HWd w) : 1 < w.heap.size := cell_lt (h 0 _ rfl)
theorem HWd.tch {S : Nat → Prop} {w w' : World} (h : HWd w) (t : Tch S w w') (h0 : ¬ S 1) : HWd w' := fun j u hu => (t.cell (p := ⟨_, _, none⟩) h.lt h0).trans (h j u hu)
theorem word_0 (W : World) : (Instr.index 147 (.agg #[.string ⟨#[110, 117, 108, 108]⟩, .int .i64 0, .int .i64 0, .string ⟨#[]⟩, .string ⟨#[102, 97, 108, 115, 101]⟩, .int .i64 3, .int .i64 0, .string ⟨#[]⟩, .string ⟨#[116, 114, 117, 101]⟩, .int .i64 3, .int .i64 1, .string ⟨#[]⟩]) (.int .i64 0)).run Tryz.prog W = .ok (.agg #[.string ⟨#[110, 117, 108, 108]⟩, .int .i64 0, .int .i64 0, .string ⟨#[]⟩]) W := by kernel_rfl
theorem word_1 (W : World) : (Instr.index 147 (.agg #[.string ⟨#[110, 117, 108, 108]⟩, .int .i64 0, .int .i64 0, .string ⟨#[]⟩, .string ⟨#[102, 97, 108, 115, 101]⟩, .int .i64 3, .int .i64 0, .string ⟨#[]⟩, .string ⟨#[116, 114, 117, 101]⟩, .int .i64 3, .int .i64 1, .string ⟨#[]⟩]) (.int .i64 1)).run Tryz.prog W = .ok (.agg #[.string ⟨#[102, 97, 108, 115, 101]⟩, .int .i64 3, .int .i64 0, .string ⟨#[]⟩]) W := by kernel_rfl
theorem word_2 (W : World) : (Instr.index 147 (.agg #[.string ⟨#[110, 117, 108, 108]⟩, .int .i64 0, .int .i64 0, .string ⟨#[]⟩, .string ⟨#[102, 97, 108, 115, 101]⟩, .int .i64 3, .int .i64 0, .string ⟨#[]⟩, .string ⟨#[116, 114, 117, 101]⟩, .int .i64 3, .int .i64 1, .string ⟨#[]⟩]) (.int .i64 2)).run Tryz.prog W = .ok (.agg #[.string ⟨#[116, 114, 117, 101]⟩, .int .i64 3, .int .i64 1, .string ⟨#[]⟩]) W := by kernel_rfl
theorem literal_text (s : ByteArray) (w : World) (hw : HWd w) (q : ByteArray) (hq : ∀ W, Calls Tryz.prog 83 #[.string s] W fun x w' => x = .returned (.string q) ∧ Tch (fun _ => False) W w') :
    Calls Tryz.prog 55 #[vA 2 0 s] w fun x w' => x = .returned (.string q) ∧ Tch (fun _ => False) w w' := by
  have hl := hw.lt
  have hw1 := hw.tch (Tch.alloc (fun _ => False) w (.cells #[.int .i64 2, .int .i64 0, .string s] 29)) (fun h => h)
  have HC : Hid (∀ W, Tch (fun _ => False) (w.alloc (.cells #[.int .i64 2, .int .i64 0, .string s] 29)) W → HWd W ∧ W.cell? ⟨w.heap.size, 0, none⟩ = some (.int .i64 2) ∧ W.cell? ⟨w.heap.size, 1, none⟩ = some (.int .i64 0) ∧ W.cell? ⟨w.heap.size, 2, none⟩ = some (.string s)) := fun W t =>
    ⟨hw1.tch t (fun h => h), box_tch t⟩
  have w0 := hw 0 _ rfl; have w1 := hw 1 _ rfl; have w2 := hw 2 _ rfl; have w3 := hw 3 _ rfl; have w4 := hw 4 _ rfl; have w5 := hw 5 _ rfl
  have w6 := hw 6 _ rfl; have w7 := hw 7 _ rfl; have w8 := hw 8 _ rfl; have w9 := hw 9 _ rfl; have w10 := hw 10 _ rfl; have w11 := hw 11 _ rfl
  clear hw hw1
  go_enter Tryz.func55, Tryz.ntmps55
  go_wp2_with fail
  clear w0 w1 w2 w3 w4 w5 w6 w7 w8 w9 w10 w11
  go_loopw [6] (fun i wr => ∃ k : Nat, i = .int .i64 k ∧ k ≤ 3 ∧ Tch (fun _ => False) (w.alloc (.cells #[.int .i64 2, .int .i64 0, .string s] 29)) wr) (fun i _ => 3 - (intOf i).toNat)
  case atStart => exact ⟨0, rfl, by omega, Tch.refl _ _⟩
  case round =>
    obtain ⟨k, rfl, hk, hT⟩ := hrel
    obtain ⟨-, c0, c1, c2⟩ := HC.out wr hT
    have hz := hT.size
    have hwz : w.heap.size < wr.heap.size := by simp at hz; omega
    clear hz
    have i0 := word_0; have i1 := word_1; have i2 := word_2
    rcases (by omega : k = 0 ∨ k = 1 ∨ k = 2 ∨ k = 3) with rfl | rfl | rfl | rfl
    · go_wp2_with fail
      go_roundw
      case rel => exact ⟨1, rfl, by omega, hT.allocR _⟩
      case measure => simp [intOf]
    · go_wp2_with fail
      go_roundw
      case rel => exact ⟨2, rfl, by omega, hT.allocR _⟩
      case measure => simp [intOf]
    · go_wp2_with fail
      go_roundw
      case rel => exact ⟨3, rfl, by omega, hT.allocR _⟩
      case measure => simp [intOf]
    · go_wp2_with fail
      refine (hq _).mono ?_
      rintro x w1 ⟨rfl, t1⟩
      go_wp2_with fail
      go_ret
      exact ⟨rfl, ((Tch.alloc _ _ _).trans' hT).trans' t1⟩
end Go.Proofs.YtmaekkhmiafnmaaGreatDoor
