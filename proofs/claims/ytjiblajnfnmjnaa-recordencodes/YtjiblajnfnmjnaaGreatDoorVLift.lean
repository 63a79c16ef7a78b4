import Derived.Test.YtjiblajnfnmjnaaGreatDoorVDec2
import Derived.BigQuiet
import Derived.StillTail
import Derived.Lib.QuietBelow
import Derived.Test.YtjiblajnfnmjnaaGreatDoorRows
import Derived.ProofKit
import Derived.ChangeSame
import Derived.ChangeVars
import Derived.JoinedOf
import Derived.RowKit
import Derived.RowKitTokens
import Derived.LaidLaws
import Derived.LaidHandle
import Derived.LaidMore
import Derived.Stop.Joined
import Derived.OpenShut
import Derived.SizedLaws
import Derived.Deep.Slices
set_option maxHeartbeats 2000000
set_option maxRecDepth 100000
namespace Go.Proofs.YtjiblajnfnmjnaaGreatDoor
open Go.RowKit
theorem Val.ext' {a b : Val} (h : a.k = b.k ∧ a.n = b.n ∧ a.s = b.s) : a = b := by
  obtain ⟨ak, an, sa⟩ := a
  obtain ⟨bk, bn, sb⟩ := b
  simp at h
  simp [h]
def RowOf (w : World) (ao : Option Addr) (vs : List Val) : Prop := vs ≠ [] → ∃ g o, ao = some ⟨g, o, none⟩ ∧ RowAt w g o vs
theorem RowOf.tch {S : Nat → Prop} {w w' : World} {ao : Option Addr} {vs : List Val} (h : RowOf w ao vs) (t : Tch S w w') (hS : ∀ g o, ao = some ⟨g, o, none⟩ → ¬ S g) : RowOf w' ao vs := by
  intro hv
  obtain ⟨g, o, ha, hr⟩ := h hv
  exact ⟨g, o, ha, hr.tch t (fun _ => hS g o ha)⟩
theorem RowOf.no {w w' : World} {ao : Option Addr} {vs : List Val} (h : RowOf w ao vs) (t : Tch (fun _ => False) w w') : RowOf w' ao vs := h.tch t (fun _ _ _ h => h)
theorem eq_val (a b : Val) : ∃ d : Bool, (d = true ↔ a = b) ∧ ∀ w, (Op.equalIn 10000 58 (.agg #[.int .i64 a.k, .int .i64 a.n, .string a.s]) (.agg #[.int .i64 b.k, .int .i64 b.n, .string b.s])).run Tryz.prog w = .ok d w := by
  have u3 := Tryz.underlying3
  have u9 := Tryz.underlying9
  have hS : Tryz.prog.underlying 58 = some (.struct (Tryz.prog.fieldsOf 58)) := by kernel_rfl
  have hp : Tryz.prog.stoodInHeld 58 = false := by kernel_rfl
  refine ⟨decide (a.k = b.k ∧ a.n = b.n ∧ a.s = b.s), ?_, fun w => ?_⟩
  · simp only [decide_eq_true_eq]
    exact ⟨Val.ext', fun h => by subst h; exact ⟨rfl, rfl, rfl⟩⟩
  · rw [show (10000 : Nat) = 9999 + 1 from rfl, run_equalIn_agg w 9999 58 _ _ hS hp]
    simp only [Program.fieldsOf, Tryz.underlying58]
    go_simp
    have hs : (a.s.toList = b.s.toList) ↔ a.s = b.s := by
      rw [ByteArray.toList_eq, ByteArray.toList_eq]
      exact ⟨fun h => ByteArray.ext (Array.ext' h), fun h => by rw [h]⟩
    by_cases h1 : a.k = b.k <;> by_cases h2 : a.n = b.n <;> by_cases h3 : a.s = b.s <;> simp [h1, h2, h3, hs]
theorem ne_val (a b : Val) : ∃ d : Bool, (d = true ↔ a ≠ b) ∧ ∀ w, (binOp .neq 58 (.agg #[.int .i64 a.k, .int .i64 a.n, .string a.s]) (.agg #[.int .i64 b.k, .int .i64 b.n, .string b.s])).run Tryz.prog w = .ok (.bool d) w := by
  obtain ⟨d, h1, h2⟩ := eq_val a b
  refine ⟨!d, ?_, fun w => ?_⟩
  · cases d <;> simp_all
  · rw [run_neq_struct, h2]; rfl
def EqOut (xs ys : List Val) (w : World) (x : Ending) (w' : World) : Prop := ∃ b : Bool, x = .returned (.bool b) ∧ (b = true ↔ xs = ys) ∧ ∃ m, w' = w.drewN m
theorem equal_any (xs ys : List Val) (ao bo : Option Addr) (ca cb : Nat) (w : World) (ha : RowOf w ao xs) (hb : RowOf w bo ys) (h1 : xs.length ≤ 9223372036854775807) :
    Calls Tryz.prog 126 #[.slice ao xs.length ca, .slice bo ys.length cb] w fun x w' => EqOut xs ys w x w' := by
  by_cases hl : xs.length = ys.length
  · have HA : Hid (∀ m, RowOf (w.drewN m) ao xs) := fun m => ha.no ((Tch.refl _ w).drewN m)
    have HB : Hid (∀ m, RowOf (w.drewN m) bo ys) := fun m => hb.no ((Tch.refl _ w).drewN m)
    have HL : Hid (xs.length = ys.length) := hl
    obtain ⟨n, hn⟩ : ∃ n, n = xs.length := ⟨_, rfl⟩
    have hn2 : n = ys.length := by omega
    rw [← hn, ← hn2]
    have HN : Hid (n = xs.length ∧ n = ys.length) := ⟨hn, hn2⟩
    rw [← hn] at h1
    clear ha hb hl hn hn2
    go_enter Tryz.func126, Tryz.ntmps126
    go_wp2_with fail
    go_loopw [13] (fun i wr => ∃ (k m : Nat), i = .int .i64 k ∧ k ≤ n ∧ Hid (∀ j (h1 : j < xs.length) (h2 : j < ys.length), j < k → xs[j] = ys[j]) ∧ wr = w.drewN m) (fun i _ => n - (intOf i).toNat)
    case atStart => exact ⟨0, 0, rfl, by omega, fun j _ _ h => by omega, rfl⟩
    case round =>
      obtain ⟨k, m, rfl, hk, HE, hwr⟩ := hrel
      by_cases hlt : (k : Int) < n
      · have hA := HA.out m
        have hB := HB.out m
        rw [← hwr] at hA hB
        have hx : k < xs.length := by have := HN.out.1; omega
        have hy : k < ys.length := by have := HN.out.2; omega
        obtain ⟨ga, oa, rfl, hra⟩ := hA (by intro e; rw [e] at hx; simp at hx)
        obtain ⟨gb, ob, rfl, hrb⟩ := hB (by intro e; rw [e] at hy; simp at hy)
        obtain ⟨a0, a1, a2⟩ := hra k hx
        obtain ⟨b0, b1, b2⟩ := hrb k hy
        have HW : Hid (wr = w.drewN m) := hwr
        obtain ⟨u, hu⟩ : ∃ u, u = xs[k] := ⟨_, rfl⟩
        obtain ⟨v, hv⟩ : ∃ v, v = ys[k] := ⟨_, rfl⟩
        rw [← hu] at a0 a1 a2
        rw [← hv] at b0 b1 b2
        have HU : Hid (u = xs[k] ∧ v = ys[k]) := ⟨hu, hv⟩
        clear hA hB hra hrb hwr hu hv
        obtain ⟨d, hd1, hd⟩ := ne_val u v
        have HD : Hid (d = true ↔ u ≠ v) := hd1
        clear hd1
        cases d with
        | true =>
          go_wp2_with fail
          go_quiet (fail)
          go_wp2
          go_ret
          refine ⟨false, rfl, ⟨fun h => by simp at h, fun h => ?_⟩, m + nq, by rw [HW.out, World.drewN_drewN]⟩
          exact absurd (by rw [HU.out.1, HU.out.2]; subst h; rfl) (HD.out.1 (by trivial))
        | false =>
          have HE2 : Hid (∀ j (h1 : j < xs.length) (h2 : j < ys.length), j < k + 1 → xs[j] = ys[j]) := fun j h1 h2 hj => by
            rcases Nat.lt_or_ge j k with h | h
            · exact HE.out j h1 h2 h
            · obtain rfl : j = k := by omega
              rw [← HU.out.1, ← HU.out.2]
              exact Classical.byContradiction fun hne => by have := HD.out.2 hne; simp at this
          go_wp2_with fail
          go_quiet (fail)
          go_wp2
          go_roundw
          case rel => exact ⟨k + 1, m + nq, by go_num, by omega, HE2, by rw [HW.out, World.drewN_drewN]⟩
          case measure => simp [intOf]; omega
      · have HW : Hid (wr = w.drewN m) := hwr
        clear hwr
        go_wp2
        go_ret
        refine ⟨true, rfl, ⟨fun _ => ?_, fun _ => rfl⟩, m, HW.out⟩
        exact List.ext_getElem HL.out (fun j h1 h2 => HE.out j h1 h2 (by have := HN.out.1; omega))
  · have hl' : ((xs.length : Int) != ys.length) = true := by simp; omega
    clear ha hb
    go_enter Tryz.func126, Tryz.ntmps126
    go_wp2
    go_ret
    exact ⟨false, rfl, ⟨fun h => by simp at h, fun h => absurd (by rw [h]) hl⟩, 0, rfl⟩
theorem same_any (xs ys : List Val) (ao bo : Option Addr) (ca cb : Nat) (w : World) (ha : RowOf w ao xs) (hb : RowOf w bo ys) (h1 : xs.length ≤ 9223372036854775807) :
    Calls Tryz.prog 102 #[.slice ao xs.length ca, .slice bo ys.length cb] w fun x w' => EqOut xs ys w x w' := by
  have hq := equal_any xs ys ao bo ca cb w ha hb h1
  clear ha hb
  go_enter Tryz.func102, Tryz.ntmps102
  go_wp2_with fail
  refine hq.mono ?_
  rintro x w1 ⟨b, rfl, hb, m, rfl⟩
  have HB : Hid (b = true ↔ xs = ys) := hb
  clear hb hq
  go_wp2_with fail
  go_ret
  exact ⟨b, rfl, HB.out, m, rfl⟩
set_option maxRecDepth 100000
open Go Go.Sort
def headQ (P : Program) (md : Region.Mode) (ops : Array Oper) (C : World → Prop) (n : Nat) (L : Array Bool → Act → Prop) : Nat → Array Bool → Act → Prop
  | 0, listed, a => L listed a
  | f + 1, listed, a => Region.ready md ops listed ≠ [] ∧ ∀ i ∈ Region.ready md ops listed, i < n ∧ qOp P ops C i (headQ P md ops C n L f (listed.setIfInBounds i true)) a
theorem headQ_any {P : Program} {ops : Array Oper} {md : Region.Mode} {C : World → Prop} {n g : Nat} {L : Array Bool → Act → Prop} {Q' : Exit → Act → World → Prop} (hL : ∀ listed a w, C w → L listed a → wpAny P md ops Q' g listed a w) (f : Nat) :
    ∀ (listed : Array Bool) (a : Act) (w : World), C w → headQ P md ops C n L f listed a → wpAny P md ops Q' (f + g) listed a w := by
  induction f with
  | zero => intro listed a w hw h; rw [Nat.zero_add]; exact hL _ _ _ hw h
  | succ f ih =>
    intro listed a w hw h
    rw [Nat.succ_add]
    exact ⟨fun h0 => absurd h0 h.1, fun i hi => wpOp_of_qOp hw (fun a' w' hw' h' => ih _ a' w' hw' h') (h.2 i hi).2⟩
theorem headQ_first {P : Program} {ops : Array Oper} {md : Region.Mode} {C : World → Prop} {n i : Nat} {oi : Oper} {v : Value} {L : Array Bool → Act → Prop} (hi : ops[i]? = some oi) (hsel : ∀ (j : Nat) (o : Oper) cs b, ops[j]? = some o → o.op ≠ .select cs b)
    (hs : Region.sinkB md ops n = true) (hc : Region.chainB md ops n = true) (hn : n < ops.size) (hin : i < n)
    (hdone : ∀ listed a, L listed a → ∀ j ∈ Region.ready md ops listed, n ≤ j) (f : Nat) :
    ∀ (listed : Array Bool) (a : Act), HeadInv md ops n listed →
      (∀ j oj, ops[j]? = some oj → j ≠ i → listed.getD j true = false → (∀ e ∈ oj.after, Region.binds md e = true → e.on ≠ i) → oi.apart ops oj = true) →
      i ∈ Region.ready md ops listed → YieldsIn P ops C oi v a →
      headQ P md ops C n L f (listed.setIfInBounds i true) (a.put oi.dst v) → headQ P md ops C n L (f + 1) listed a := by
  have low : ∀ (listed : Array Bool), HeadInv md ops n listed → i ∈ Region.ready md ops listed → ∀ j ∈ Region.ready md ops listed, j < n := by
    intro listed inv hr j hj
    rcases Nat.lt_or_ge j n with h | h
    · exact h
    · exact absurd hj (tail_waits hs hc hn inv _ i rfl hin (mem_ready.1 hr).1 j h)
  have ne : ∀ (listed : Array Bool), i ∈ Region.ready md ops listed → Region.ready md ops listed ≠ [] := fun listed hr h => by rw [h] at hr; cases hr
  induction f with
  | zero =>
    intro listed a inv _ hr hy H
    refine ⟨ne _ hr, fun j hj => ⟨low _ inv hr j hj, ?_⟩⟩
    by_cases hji : j = i
    · subst hji; exact hy.qOp hi H
    · have h1 := hdone _ _ H j (ready_mono hj hji)
      have h2 := low _ inv hr j hj
      omega
  | succ f ih =>
    intro listed a inv hfree hr hy H
    refine ⟨ne _ hr, fun j hj => ⟨low _ inv hr j hj, ?_⟩⟩
    by_cases hji : j = i
    · subst hji; exact hy.qOp hi H
    · obtain ⟨hjun, oj, hoj, hall⟩ := mem_ready.1 hj
      have hnot : ∀ e ∈ oj.after, Region.binds md e = true → e.on ≠ i := fun e he hb heq => by
        have h1 := hall e he hb
        rw [heq, getD_both (mem_ready.1 hr).1] at h1
        cases h1
      have h2 := qOp_put hoj (hfree j oj hoj hji hjun hnot) (fun cs b => hsel i oi cs b hi) (fun cs b => hsel j oj cs b hoj) hy (H.2 j (ready_mono hj hji)).2
      refine qOp_mono (fun a' h3 => ih (listed.setIfInBounds j true) a' (inv.set hj (low _ inv hr j hj)) (fun k ok hk hki hun hno => hfree k ok hk hki ?_ hno) (ready_mono hr (Ne.symm hji)) h3.1 ?_) h2
      · by_cases hjk : j = k
        · subst hjk; exact hjun
        · rwa [getD_set_ne true hjk] at hun
      · rw [Array.setIfInBounds_comm _ _ hji]
        exact h3.2
theorem headQ_lex {P : Program} {ops : Array Oper} {md : Region.Mode} {C : World → Prop} {n g : Nat} {Lq : Act → Prop} (hsel : Region.noSelect ops = true) (hs : Region.sinkB md ops n = true) (hc : Region.chainB md ops n = true) (hn : n < ops.size) (l : List Oper) :
    ∀ (k : Nat) (listed : Array Bool) (a : Act), (∀ j, j < l.length → l[j]? = ops[k + j]?) → k + l.length = n → HeadInv md ops n listed →
    Region.lexHead md ops g l.length k listed = true → wpQuiet P ops C Lq l a →
    headQ P md ops C n (fun listed' a' => Region.seqB md ops g n listed' = true ∧ Lq a') l.length listed a := by
  induction l with
  | nil =>
    intro k listed a _ hk _ hB h
    obtain rfl : k = n := by simpa using hk
    exact ⟨by simpa [Region.lexHead] using hB, h⟩
  | cons o l ih =>
    intro k listed a hl hk inv hB h
    have h0 : ops[k]? = some o := by simpa using (hl 0 (by simp)).symm
    simp only [List.length_cons, Region.lexHead, Bool.and_eq_true] at hB
    simp only [List.length_cons] at hk
    have hkn : k < n := by omega
    have hr : k ∈ Region.ready md ops listed := by simpa using hB.1.1
    have hq : qOp P ops C k (wpQuiet P ops C Lq l) a := by unfold qOp; simp only [h0]; exact h
    obtain ⟨v, hy, hK⟩ := yieldsIn_of_qOp h0 hq
    refine headQ_first h0 (Region.noSelect_spec hsel) hs hc hn hkn (fun listed' a' hL => seqB_ready hL.1) l.length listed a inv (Region.free_spec h0 hB.1.2) hr hy
      (ih (k + 1) _ _ (fun j hj => ?_) (by omega) (inv.set hr hkn) hB.2 hK)
    have := hl (j + 1) (by simp; omega)
    simpa [Nat.add_assoc, Nat.add_comm 1 j] using this
theorem wp_region_quiet_tail {P : Program} {C : World → Prop} {id : Nat} {Q : Exit → Act → World → Prop} {a : Act} {w : World} {l : List Oper} (n : Nat) (hm : P.follows .mixedOrders = true) (hB : Region.lexTailB .any l.toArray n = true) (hC : C { w with drawn := w.drawn + 1 })
    (h : wpQuiet P l.toArray C (fun a' => ∀ w', C w' → wpList P l.toArray Q (l.drop n) a' w') (l.take n) a) : (Code.region id l.toArray true).wp P Q a w := by
  simp only [Region.lexTailB, Bool.and_eq_true, decide_eq_true_eq] at hB
  obtain ⟨⟨⟨⟨hsel, hn⟩, hs⟩, hc⟩, hlex⟩ := hB
  have hn' : n < l.length := by simpa using hn
  have htl : (l.take n).length = n := by simp; omega
  have hdl : (l.drop n).length = l.toArray.size - n := by simp
  have inv0 : HeadInv .any l.toArray n (Array.replicate l.toArray.size false) :=
    ⟨by simp, fun j oj _ hl => (by rw [getD_replicate_false] at hl; cases hl), fun t _ ht => getD_in (by simpa using ht) (getD_replicate_false _ _)⟩
  have H := headQ_lex (md := .any) (g := l.toArray.size - n) hsel hs hc hn (l.take n) 0 _ a (fun j hj => by
    have hj' : j < n := by rw [htl] at hj; exact hj
    simp [hj']) (by simpa using htl) inv0 (by rw [htl]; exact hlex) h
  refine wp_region_any hm ?_
  have := headQ_any (Q' := Q) (g := l.toArray.size - n) (fun listed a' w' hw hL => by
    have := wpAny_of_seq (md := .any) (Q' := Q) (l.drop n) n listed a' w' (fun j => by simp [List.getElem?_drop]) (by rw [hdl]; exact hL.1) (hL.2 w' hw)
    rwa [hdl] at this) _ _ _ _ hC H
  rw [htl, show n + (l.toArray.size - n) = l.toArray.size by omega] at this
  exact this
theorem wp_region_below_tail {P : Program} {id : Nat} {Q : Exit → Act → World → Prop} {a : Act} {w : World} {l : List Oper} (n : Nat) (hm : P.follows .mixedOrders = true) (hB : Region.lexTailB .any l.toArray n = true)
    (h : wpQuiet P l.toArray (fun w' => ∃ p : Regrown, w' = grow (redrawn w p.d) p.os) (fun a' => ∀ w', (∃ p : Regrown, w' = grow (redrawn w p.d) p.os) → wpList P l.toArray Q (l.drop n) a' w') (l.take n) a) : (Code.region id l.toArray true).wp P Q a w :=
  wp_region_quiet_tail (C := fun w' => ∃ p : Regrown, w' = grow (redrawn w p.d) p.os) n hm hB ⟨⟨w.drawn + 1, #[]⟩, by rw [grow_empty]; rfl⟩ h
def sgn (n : Nat) : UInt8 := UInt8.ofNat (if n < 10 then 48 + n else 87 + n)
def esc (b : UInt8) : List UInt8 := if b.toNat = 39 then [39, 39] else if b.toNat < 32 ∨ 126 < b.toNat ∨ b.toNat = 92 then [92, sgn (b.toNat / 16), sgn (b.toNat % 16)] else [b]
def escs (l : List UInt8) : List UInt8 := l.flatMap esc
def qtd (s : ByteArray) : List UInt8 := 39 :: (escs s.data.toList ++ [39])
theorem escs_snoc (l : List UInt8) (b : UInt8) : escs (l ++ [b]) = escs l ++ esc b := by simp [escs]
theorem esc_len (b : UInt8) : (esc b).length ≤ 3 := by unfold esc; (repeat' split) <;> simp
theorem escs_len : ∀ l : List UInt8, (escs l).length ≤ 3 * l.length
  | [] => by simp [escs]
  | b :: l => by
    have h1 := esc_len b
    have h2 := escs_len l
    have e : escs (b :: l) = esc b ++ escs l := rfl
    rw [e, List.length_append, List.length_cons]; omega
theorem own_new (w : World) (bs : List UInt8) (hl : bs.length ≤ maxLen) : (w.alloc (.cells (Lib.byteCells bs).toArray 5)).ownsRow w.heap.size 5 1 (.slice (some ⟨w.heap.size, 0, none⟩) bs.length bs.length) bs.length (Lib.byteCells bs) := by
  have hb := Lib.byteCells_length bs
  refine ⟨by omega, Or.inr ⟨w.heap.size, bs.length, (Lib.byteCells bs).toArray, rfl, Nat.le_refl _, heap_new w _, Nat.le_refl _, hl, by simp [hb], ?_⟩⟩
  exact List.take_of_length_le (by simp [hb])
theorem byteCells_get {W : World} {b : Nat} {l : List UInt8} (h : ∀ j (hj : j < l.length), W.cell? ⟨b, j, none⟩ = some (.int .u8 l[j].toNat)) : ∀ j u, (Lib.byteCells l)[j]? = some u → W.cell? ((⟨b, 0, none⟩ : Addr).add j) = some u := by
  intro j u hu
  have hb := Lib.byteCells_length l
  have hj : j < l.length := by
    have := (List.getElem?_eq_some_iff.1 hu).1
    omega
  have e : (Lib.byteCells l)[j]? = some (.int .u8 l[j].toNat) := by simp [Lib.byteCells, hj]
  rw [e] at hu
  cases hu
  have := h j hj
  rw [← this]
  congr 1
  unfold Addr.add
  split <;> simp_all
theorem sgn_get (n : Nat) (hn : n < 16) (h : n < (⟨#[48, 49, 50, 51, 52, 53, 54, 55, 56, 57, 97, 98, 99, 100, 101, 102]⟩ : ByteArray).size) : (⟨#[48, 49, 50, 51, 52, 53, 54, 55, 56, 57, 97, 98, 99, 100, 101, 102]⟩ : ByteArray)[n] = sgn n := by
  have : ∀ i : Fin 16, (#[48, 49, 50, 51, 52, 53, 54, 55, 56, 57, 97, 98, 99, 100, 101, 102] : Array UInt8)[i.1]? = some (sgn i.1) := by decide
  have h2 := this ⟨n, hn⟩
  have h3 : n < (#[48, 49, 50, 51, 52, 53, 54, 55, 56, 57, 97, 98, 99, 100, 101, 102] : Array UInt8).size := h
  rw [Array.getElem?_eq_getElem h3] at h2
  exact Option.some.inj h2
theorem sgn_run (n : Nat) (hn : n < 16) (W : World) : (Instr.index 9 (.string ⟨#[48, 49, 50, 51, 52, 53, 54, 55, 56, 57, 97, 98, 99, 100, 101, 102]⟩) (.int .u8 (n : Int))).run Tryz.prog W = .ok (.int .u8 (sgn n).toNat) W := by
  have hz : (⟨#[48, 49, 50, 51, 52, 53, 54, 55, 56, 57, 97, 98, 99, 100, 101, 102]⟩ : ByteArray).size = 16 := rfl
  rw [run_index_string W _ _ _ _ Tryz.underlying9, dif_pos (by rw [hz]; omega)]
  have := sgn_get n hn (by rw [hz]; exact hn)
  simp only [Int.toNat_natCast]
  rw [this]
theorem grown_tch {N : Nat} {w w1 : World} {v : Value} (h : w.grownBy w1 v.ownBlock) (hg : ∀ g, v.ownBlock = some g → N ≤ g) : Tch (fun i => N ≤ i) w w1 :=
  ⟨h.os, h.tape, h.output, h.size, fun k hk hn => h.block k hk (fun e => hn (hg k e.symm))⟩
theorem quoted_plain (s : ByteArray) (w : World) (hs : s.size ≤ 17592186044416) (hpl : ∀ k (hk : k < s.size), s[k].toNat ≠ 39 ∧ ¬ (s[k].toNat < 32 ∨ 126 < s[k].toNat ∨ s[k].toNat = 92)) :
    Calls Tryz.prog 156 #[.string s] w fun x w' => x = .returned (.string ⟨(qtd s).toArray⟩) ∧ Tch (fun _ => False) w w' := by
  have HP : Hid _ := hpl
  clear hpl
  obtain ⟨i0, hi, hz0, hz1, hz2⟩ := info_byte'
  go_enter Tryz.func156, Tryz.ntmps156
  go_wp2_with fail
  go_loopw [3, 9] (fun v i wr => ∃ (k : Nat) (bs : List UInt8), i = .int .i64 k ∧ k ≤ s.size ∧ Hid (bs = 39 :: escs (s.data.toList.take k)) ∧ bs.length ≤ 1 + 3 * k ∧ wr.ownsRow w.heap.size 5 1 v bs.length (Lib.byteCells bs) ∧ Tch (fun i => w.heap.size ≤ i) w wr) (fun _ i _ => s.size - (intOf i).toNat)
  case atStart => exact ⟨0, [39], rfl, by omega, rfl, by simp, own_new w [39] (by decide), Tch.alloc _ _ _⟩
  case round =>
    obtain ⟨k, bs, rfl, hk, HB, hbl, hown, hT⟩ := hrel
    obtain ⟨ao, cp, hv⟩ := slice_of hown
    subst hv
    have HG : Hid (∀ g, (Value.slice ao bs.length cp).ownBlock = some g → w.heap.size ≤ g) := fun g hk => ownBlock_ge hown hk.symm
    have HO : Hid (∀ W, Tch (fun _ => False) wr W → W.ownsRow w.heap.size 5 1 (.slice ao bs.length cp) bs.length (Lib.byteCells bs)) := fun W t => ownsRow_tch hown t (fun _ _ _ h => h)
    have hwr := hT.size
    by_cases hlt : (k : Int) < s.size
    · have hks : k < s.size := by omega
      have HEnd : Hid (∀ (l : List UInt8) (W w1 : World) (v' : Value), esc s[k] = l → w1.ownsRow w.heap.size 5 1 v' (bs.length + l.length) (Lib.byteCells bs ++ Lib.byteCells l) → Tch (fun _ => False) wr W → W.grownBy w1 (Value.slice ao bs.length cp).ownBlock →
          (∃ (k_1 : Nat) (bs_1 : List UInt8), Value.int .i64 ((k : Int) + 1) = .int .i64 k_1 ∧ k_1 ≤ s.size ∧ Hid (bs_1 = 39 :: escs (s.data.toList.take k_1)) ∧ bs_1.length ≤ 1 + 3 * k_1 ∧ w1.ownsRow w.heap.size 5 1 v' bs_1.length (Lib.byteCells bs_1) ∧ Tch (fun i => w.heap.size ≤ i) w w1) ∧ s.size - (intOf (Value.int .i64 ((k : Int) + 1))).toNat < s.size - (intOf (Value.int .i64 (k : Int))).toNat) := fun l W w1 v' he ho t hgr => by
        have hel := esc_len s[k]
        rw [he] at hel
        refine ⟨⟨k + 1, bs ++ l, by go_num, by omega, ?_, by rw [List.length_append]; omega, ?_, ?_⟩, by simp [intOf]; omega⟩
        · show _ = _
          rw [List.take_succ_eq_append_getElem (by simpa using hks), escs_snoc, HB.out]
          show _ = _ :: (_ ++ esc s[k])
          rw [he]; rfl
        · rw [Lib.byteCells_append, List.length_append]; exact ho
        · exact (hT.trans' (no_mono t)).trans' (grown_tch hgr HG.out)
      have hxl : s[k].toNat ≤ 255 := by have := s[k].toNat_lt; omega
      obtain ⟨h39, hes⟩ := HP.out k hks
      have h39' : ¬ (s[k].toNat : Int) = 39 := by omega
      have HE : Hid (esc s[k] = [s[k]]) := by show _ = _; unfold esc; rw [if_neg h39, if_neg hes]
      have c1 : ¬ (s[k].toNat : Int) < 32 := by omega
      have c2 : ¬ 126 < (s[k].toNat : Int) := by omega
      have c3 : ¬ (s[k].toNat : Int) = 92 := by omega
      clear h39 hown hes
      go_wp2_with (at_builtin; refine wpList_append_own _ rfl _ _ 115 rfl w.heap.size 5 i0 (.int .u8 0) 1 1 Tryz.underlying115 hi hz0 hz1 hz2 rfl (by decide) (.slice ao bs.length cp) _ _ rfl (HO.out _ (Tch.alloc _ _ _)) ⟨wr.heap.size, 0, none⟩ 1 1 (Lib.byteCells [s[k]]) rfl rfl (byteCells_get (fun j hj => by rcases j with _ | j <;> simp at hj ⊢)) (Lib.byteCells_one _) (by unfold maxLen; omega) (by omega) (by simp; omega) ?_; intro v' w1 hown' hgr hnil; obtain ⟨ao', cp', hv'⟩ := slice_of hown'; subst hv'; clear hnil)
      exact HEnd.out [s[k]] _ w1 _ HE.out hown' (Tch.alloc _ _ _) hgr
    · have HE2 : Hid (⟨(qtd s).toArray⟩ = (⟨(bs ++ [39]).toArray⟩ : ByteArray)) := by
        show _ = _
        rw [HB.out, List.take_of_length_le (by simp; omega)]; rfl
      clear hown
      go_wp2_with (at_builtin; refine wpList_append_own _ rfl _ _ 115 rfl w.heap.size 5 i0 (.int .u8 0) 1 1 Tryz.underlying115 hi hz0 hz1 hz2 rfl (by decide) (.slice ao bs.length cp) _ _ rfl (HO.out _ (Tch.alloc _ _ _)) ⟨wr.heap.size, 0, none⟩ 1 1 (Lib.byteCells [39]) rfl rfl (byteCells_get (fun j hj => by rcases j with _ | j <;> simp at hj ⊢)) (Lib.byteCells_one _) (by unfold maxLen; omega) (by omega) (by simp; omega) ?_; intro v' w1 hown' hgr hnil; obtain ⟨ao', cp', hv'⟩ := slice_of hown'; subst hv'; clear hnil; rw [← Lib.byteCells_append] at hown'; have hcv := conv_row (bs := bs ++ [39]) (by rw [List.length_append]; exact hown'))
      go_ret
      rw [HE2.out]
      exact ⟨rfl, ge_new ((hT.allocR _).trans' (grown_tch hgr HG.out))⟩
def wordCells : List Value := [.string ⟨#[110, 117, 108, 108]⟩, .int .i64 0, .int .i64 0, .string ⟨#[]⟩, .string ⟨#[102, 97, 108, 115, 101]⟩, .int .i64 3, .int .i64 0, .string ⟨#[]⟩, .string ⟨#[116, 114, 117, 101]⟩, .int .i64 3, .int .i64 1, .string ⟨#[]⟩]
def HWd (w : World) : Prop := ∀ j u, wordCells[j]? = some u → w.cell? ⟨3, j, none⟩ = some u
theorem HWd.lt {w : World} (h : HWd w) : 3 < w.heap.size := cell_lt (h 0 _ rfl)
theorem HWd.tch {S : Nat → Prop} {w w' : World} (h : HWd w) (t : Tch S w w') (h0 : ¬ S 3) : HWd w' := fun j u hu => (t.cell (p := ⟨_, _, none⟩) h.lt h0).trans (h j u hu)
theorem word_0 (W : World) : (Instr.index 224 (.agg #[.string ⟨#[110, 117, 108, 108]⟩, .int .i64 0, .int .i64 0, .string ⟨#[]⟩, .string ⟨#[102, 97, 108, 115, 101]⟩, .int .i64 3, .int .i64 0, .string ⟨#[]⟩, .string ⟨#[116, 114, 117, 101]⟩, .int .i64 3, .int .i64 1, .string ⟨#[]⟩]) (.int .i64 0)).run Tryz.prog W = .ok (.agg #[.string ⟨#[110, 117, 108, 108]⟩, .int .i64 0, .int .i64 0, .string ⟨#[]⟩]) W := by kernel_rfl
theorem word_1 (W : World) : (Instr.index 224 (.agg #[.string ⟨#[110, 117, 108, 108]⟩, .int .i64 0, .int .i64 0, .string ⟨#[]⟩, .string ⟨#[102, 97, 108, 115, 101]⟩, .int .i64 3, .int .i64 0, .string ⟨#[]⟩, .string ⟨#[116, 114, 117, 101]⟩, .int .i64 3, .int .i64 1, .string ⟨#[]⟩]) (.int .i64 1)).run Tryz.prog W = .ok (.agg #[.string ⟨#[102, 97, 108, 115, 101]⟩, .int .i64 3, .int .i64 0, .string ⟨#[]⟩]) W := by kernel_rfl
theorem word_2 (W : World) : (Instr.index 224 (.agg #[.string ⟨#[110, 117, 108, 108]⟩, .int .i64 0, .int .i64 0, .string ⟨#[]⟩, .string ⟨#[102, 97, 108, 115, 101]⟩, .int .i64 3, .int .i64 0, .string ⟨#[]⟩, .string ⟨#[116, 114, 117, 101]⟩, .int .i64 3, .int .i64 1, .string ⟨#[]⟩]) (.int .i64 2)).run Tryz.prog W = .ok (.agg #[.string ⟨#[116, 114, 117, 101]⟩, .int .i64 3, .int .i64 1, .string ⟨#[]⟩]) W := by kernel_rfl
theorem literal_text (s : ByteArray) (w : World) (hw : HWd w) (q : ByteArray) (hq : ∀ W, Calls Tryz.prog 156 #[.string s] W fun x w' => x = .returned (.string q) ∧ Tch (fun _ => False) W w') :
    Calls Tryz.prog 143 #[vA 2 0 s] w fun x w' => x = .returned (.string q) ∧ Tch (fun _ => False) w w' := by
  have hl := hw.lt
  have hw1 := hw.tch (Tch.alloc (fun _ => False) w (.cells #[.int .i64 2, .int .i64 0, .string s] 58)) (fun h => h)
  have HC : Hid (∀ W, Tch (fun _ => False) (w.alloc (.cells #[.int .i64 2, .int .i64 0, .string s] 58)) W → HWd W ∧ W.cell? ⟨w.heap.size, 0, none⟩ = some (.int .i64 2) ∧ W.cell? ⟨w.heap.size, 1, none⟩ = some (.int .i64 0) ∧ W.cell? ⟨w.heap.size, 2, none⟩ = some (.string s)) := fun W t =>
    ⟨hw1.tch t (fun h => h), box_tch t⟩
  have w0 := hw 0 _ rfl; have w1 := hw 1 _ rfl; have w2 := hw 2 _ rfl; have w3 := hw 3 _ rfl; have w4 := hw 4 _ rfl; have w5 := hw 5 _ rfl
  have w6 := hw 6 _ rfl; have w7 := hw 7 _ rfl; have w8 := hw 8 _ rfl; have w9 := hw 9 _ rfl; have w10 := hw 10 _ rfl; have w11 := hw 11 _ rfl
  clear hw hw1
  go_enter Tryz.func143, Tryz.ntmps143
  go_wp2_with fail
  clear w0 w1 w2 w3 w4 w5 w6 w7 w8 w9 w10 w11
  go_loopw [6] (fun i wr => ∃ k : Nat, i = .int .i64 k ∧ k ≤ 3 ∧ Tch (fun _ => False) (w.alloc (.cells #[.int .i64 2, .int .i64 0, .string s] 58)) wr) (fun i _ => 3 - (intOf i).toNat)
  case atStart => exact ⟨0, rfl, by omega, Tch.refl _ _⟩
  case round =>
    obtain ⟨k, rfl, hk, hT⟩ := hrel
    obtain ⟨-, c0, c1, c2⟩ := HC.out wr hT
    have hz := hT.size
    have hwz : w.heap.size < wr.heap.size := by simp at hz; omega
    clear hz
    have i0 := word_0; have i1 := word_1; have i2 := word_2
    rcases (by omega : k = 0 ∨ k = 1 ∨ k = 2 ∨ k = 3) with rfl | rfl | rfl | rfl
    · go_wp2_with fail
      go_roundw
      case rel => exact ⟨1, rfl, by omega, hT.allocR _⟩
      case measure => simp [intOf]
    · go_wp2_with fail
      go_roundw
      case rel => exact ⟨2, rfl, by omega, hT.allocR _⟩
      case measure => simp [intOf]
    · go_wp2_with fail
      go_roundw
      case rel => exact ⟨3, rfl, by omega, hT.allocR _⟩
      case measure => simp [intOf]
    · go_wp2_with fail
      refine (hq _).mono ?_
      rintro x w1 ⟨rfl, t1⟩
      go_wp2_with fail
      go_ret
      exact ⟨rfl, ((Tch.alloc _ _ _).trans' hT).trans' t1⟩
theorem print_text (s : ByteArray) (w : World) (hw : HWd w) (hs : s.size ≤ 200) (q : ByteArray) (hq : ∀ W, Calls Tryz.prog 156 #[.string s] W fun x w' => x = .returned (.string q) ∧ Tch (fun _ => False) W w') :
    Calls Tryz.prog 115 #[vA 2 0 s] w fun x w' => x = .returned (.string q) ∧ Tch (fun _ => False) w w' := by
  have hr : wrg ⟨2, 0, s⟩ = 0 := by
    have hf : frm ⟨2, 0, s⟩ := Or.inr (Or.inr (Or.inl ⟨rfl, rfl⟩))
    unfold wrg; rw [if_pos hf, if_pos hs]
  have HL : Hid (∀ W, Tch (fun _ => False) w W → Calls Tryz.prog 143 #[vA 2 0 s] W fun x w' => x = .returned (.string q) ∧ Tch (fun _ => False) W w') := fun W t => literal_text s W (hw.tch t (fun h => h)) q hq
  clear hq hw
  go_enter Tryz.func115, Tryz.ntmps115
  go_wp2_with fail
  refine (wrong_any 2 0 s _).mono ?_
  rintro x w1 ⟨rfl, t1⟩
  obtain ⟨c0, c1, c2⟩ := box_tch t1
  have T1 : Tch (fun _ => False) w w1 := (Tch.alloc _ _ _).trans' t1
  rw [hr]
  go_wp2_with fail
  refine (HL.out _ T1).mono ?_
  rintro x w2 ⟨rfl, t2⟩
  go_wp2_with fail
  go_ret
  exact ⟨rfl, T1.trans' t2⟩
def kRow : List Val := [⟨1, 5, ⟨#[]⟩⟩, ⟨0, 0, ⟨#[]⟩⟩, ⟨2, 0, ⟨#[97]⟩⟩, ⟨3, 1, ⟨#[]⟩⟩]
open Go.ChangeShapes Go.WideShapes Go.RowKit Go.Deep
set_option maxRecDepth 100000
theorem tr_et : Tryz.prog.globalNamed "errors.errorType" = some 1 := by kernel_rfl
theorem tr_ws : Tryz.prog.globalNamed "confluence/value.words" = some 3 := by kernel_rfl
theorem tr_wt : (Tryz.prog.globals[3]?).map (·.type) = some 224 := by kernel_rfl
theorem tr_rt : (Tryz.prog.cutTypes.find? (·.1 == "internal/reflectlite.rtype")).map (·.2) = some 205 := by kernel_rfl
theorem tr_oneRow : ((List.range 281).filter fun t => Tryz.prog.rowNamed t [101, 114, 114, 111, 114]) = [117] := by kernel_rfl
theorem tr_size : Tryz.prog.types.size = 281 := by kernel_rfl
theorem c_int : Tryz.prog.cellsOf 3 = 1 := by kernel_rfl
theorem c_str : Tryz.prog.cellsOf 9 = 1 := by kernel_rfl
theorem c_val : Tryz.prog.cellsOf 58 = 3 := by kernel_rfl
theorem c_word : Tryz.prog.cellsOf 223 = 4 := by kernel_rfl
theorem wf_i64 {n : Int} (h : (Lit.int .i64 n).wf = true) : -9223372036854775808 ≤ n ∧ n ≤ 9223372036854775807 := by
  have := bounds_i64 h
  omega
theorem list3 {α : Type} (l : List α) (h : l.length = 3) : ∃ c0 c1 c2, l = [c0, c1, c2] := by
  rcases l with _ | ⟨c0, _ | ⟨c1, _ | ⟨c2, _ | ⟨c3, l⟩⟩⟩⟩ <;> simp at h
  exact ⟨c0, c1, c2, rfl⟩
theorem list4 {α : Type} (l : List α) (h : l.length = 4) : ∃ c0 c1 c2 c3, l = [c0, c1, c2, c3] := by
  rcases l with _ | ⟨c0, _ | ⟨c1, _ | ⟨c2, _ | ⟨c3, _ | ⟨c4, l⟩⟩⟩⟩⟩ <;> simp at h
  exact ⟨c0, c1, c2, c3, rfl⟩
section
variable {H : Type} {enc : TypeId × Value → H} {W : World} {sp : Nat → Bool} {hd : Bool} {fuel : Nat} {x : DataW H × List MemPlace} {cs : List Value}
theorem val_of (h : DataW.trod enc Tryz.prog W 0 sp hd fuel 58 cs = some x) :
    ∃ (k n : Int) (s : ByteArray), cs = [.int .i64 k, .int .i64 n, .string s] ∧ x.1 = .agg [.lit (.int .i64 k), .lit (.int .i64 n), .lit (.string s.data.toList)] ∧ (Val.mk k n s).i64 ∧ s.size ≤ maxLen := by
  obtain ⟨xs, n', _, hx, hcl, hxl, hf⟩ := DataW.trod_struct Tryz.underlying58 h
  rw [c_val] at hcl
  have hxs : xs.length = 3 := hxl
  obtain ⟨c0, c1, c2, rfl⟩ := list3 cs hcl
  obtain ⟨y0, y1, y2, rfl⟩ := list3 xs hxs
  have f0 : DataW.trod enc Tryz.prog W 0 sp hd n' 3 [c0] = some y0 := by have := hf 0 _ rfl; simpa [c_int] using this
  have f1 : DataW.trod enc Tryz.prog W 0 sp hd n' 3 [c1] = some y1 := by have := hf 1 _ rfl; simpa [c_int] using this
  have f2 : DataW.trod enc Tryz.prog W 0 sp hd n' 9 [c2] = some y2 := by have := hf 2 _ rfl; simpa [c_str] using this
  obtain ⟨k, e0, g0, wk⟩ := DataW.trod_int Tryz.underlying3 f0
  obtain ⟨n, e1, g1, wn⟩ := DataW.trod_int Tryz.underlying3 f1
  obtain ⟨s, e2, g2, ws⟩ := DataW.trod_string Tryz.underlying9 f2
  simp at e0 e1 e2
  subst e0 e1 e2
  exact ⟨k, n, s, rfl, by rw [hx, g0, g1, g2]; rfl, ⟨wf_i64 wk, wf_i64 wn⟩, ws⟩
theorem word_of (h : DataW.trod enc Tryz.prog W 0 sp hd fuel 223 cs = some x) :
    ∃ (t : ByteArray) (k n : Int) (s : ByteArray), cs = [.string t, .int .i64 k, .int .i64 n, .string s] ∧ x.1 = .agg [.lit (.string t.data.toList), .agg [.lit (.int .i64 k), .lit (.int .i64 n), .lit (.string s.data.toList)]] := by
  obtain ⟨xs, n', _, hx, hcl, hxl, hf⟩ := DataW.trod_struct Tryz.underlying223 h
  rw [c_word] at hcl
  have hxs : xs.length = 2 := hxl
  obtain ⟨c0, c1, c2, c3, rfl⟩ := list4 cs hcl
  rcases xs with _ | ⟨y0, _ | ⟨y1, _ | ⟨y2, l⟩⟩⟩ <;> simp at hxs
  have f0 : DataW.trod enc Tryz.prog W 0 sp hd n' 9 [c0] = some y0 := by have := hf 0 _ rfl; simpa [c_str] using this
  have f1 : DataW.trod enc Tryz.prog W 0 sp hd n' 58 [c1, c2, c3] = some y1 := by have := hf 1 _ rfl; simpa [c_val] using this
  obtain ⟨t, e0, g0, _⟩ := DataW.trod_string Tryz.underlying9 f0
  obtain ⟨k, n, s, e1, g1, _⟩ := val_of f1
  simp at e0 e1
  obtain ⟨rfl, rfl, rfl⟩ := e1
  subst e0
  exact ⟨t, k, n, s, rfl, by rw [hx, g0]; simp [g1]⟩
end
theorem bytes_of {t : ByteArray} {l : List UInt8} (h : t.data.toList = l) : t = ⟨l.toArray⟩ := by
  obtain ⟨⟨t⟩⟩ := t
  simp at h
  simp [h]
end Go.Proofs.YtjiblajnfnmjnaaGreatDoor
