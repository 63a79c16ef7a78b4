import Derived.Test.YtmaekkhmiafnmaaGreatDoorET1
import Derived.Test.YtmaekkhmiafnmaaGreatDoorEV0
import Derived.Test.YtmaekkhmiafnmaaGreatDoorVLd
import Derived.Deep.LoopGhost
import Derived.BigQuiet
import Derived.Test.YtmaekkhmiafnmaaGreatDoorEW1
import Derived.Test.YtmaekkhmiafnmaaGreatDoorEFu
import Derived.Test.YtmaekkhmiafnmaaGreatDoorEV5
set_option maxHeartbeats 4000000
set_option maxRecDepth 100000
namespace Go.Proofs.YtmaekkhmiafnmaaGreatDoor
open Go Go.Lib
abbrev lkA (s p : List UInt8) : Bool := lkM.lkA s p
theorem lkM_nil (s : List UInt8) : lkM s [] = s.isEmpty := by rw [lkM.eq_def]
theorem lkM_pct {c : UInt8} (h : c.toNat = 37) (s p : List UInt8) : lkM s (c :: p) = lkA s p := by rw [lkM.eq_def]; simp [h]
theorem lkM_no {c : UInt8} (h : c.toNat ≠ 37) (p : List UInt8) : lkM [] (c :: p) = false := by rw [lkM.eq_def]; simp [h]
theorem lkM_cons {c : UInt8} (h : c.toNat ≠ 37) (b : UInt8) (s p : List UInt8) : lkM (b :: s) (c :: p) = ((decide (c.toNat = 95) || decide (c = b)) && lkM s p) := by rw [lkM.eq_def]; simp [h]
theorem lkA_nil (p : List UInt8) : lkA [] p = lkM [] p := by show lkM.lkA [] p = _; rw [lkM.lkA.eq_def]
theorem lkA_cons (b : UInt8) (s p : List UInt8) : lkA (b :: s) p = (lkM (b :: s) p || lkA s p) := by show lkM.lkA (b :: s) p = _; rw [lkM.lkA.eq_def]
theorem lkA_iff : ∀ (s p : List UInt8), lkA s p = true ↔ ∃ j, j ≤ s.length ∧ lkM (s.drop j) p = true
  | [], p => by
    rw [lkA_nil]
    constructor
    · exact fun h => ⟨0, Nat.le_refl _, h⟩
    · rintro ⟨j, hj, h⟩
      simpa using h
  | b :: s, p => by
    rw [lkA_cons, Bool.or_eq_true, lkA_iff s p]
    constructor
    · rintro (h | ⟨j, hj, h⟩)
      · exact ⟨0, by simp, h⟩
      · exact ⟨j + 1, by simp; omega, by simpa using h⟩
    · rintro ⟨j, hj, h⟩
      cases j with
      | zero => exact Or.inl h
      | succ j => exact Or.inr ⟨j, by simp at hj; omega, by simpa using h⟩
theorem lkM_seg : ∀ (q s p : List UInt8), (∀ c ∈ q, c.toNat ≠ 37) → lkM s (q ++ p) = true → q.length ≤ s.length ∧ lkM (s.drop q.length) p = true
  | [], s, p, _, h => ⟨Nat.zero_le _, by simpa using h⟩
  | c :: q, [], p, hq, h => by
    rw [List.cons_append, lkM_no (hq c (List.mem_cons_self ..))] at h
    cases h
  | c :: q, b :: s, p, hq, h => by
    rw [List.cons_append, lkM_cons (hq c (List.mem_cons_self ..)), Bool.and_eq_true] at h
    have := lkM_seg q s p (fun c hc => hq c (List.mem_cons_of_mem _ hc)) h.2
    exact ⟨by simp; omega, by simpa using this.2⟩
def LkI (S P : List UInt8) (i k : Nat) (many : Option Nat) (f : Nat) : Prop := k ≤ P.length ∧ i ≤ S.length ∧ match many with
  | none => lkM S P = lkM (S.drop i) (P.drop k)
  | some m => m < k ∧ f ≤ i ∧ i - f = k - (m + 1) ∧ (∀ c ∈ (P.drop (m + 1)).take (k - (m + 1)), c.toNat ≠ 37) ∧ lkM S P = lkA (S.drop f) (P.drop (m + 1)) ∧ lkM (S.drop f) (P.drop (m + 1)) = lkM (S.drop i) (P.drop k)
theorem LkI.start (S P : List UInt8) : LkI S P 0 0 none 0 := ⟨Nat.zero_le _, Nat.zero_le _, rfl⟩
theorem drop_split (P : List UInt8) (m k : Nat) (h : m ≤ k) : P.drop m = (P.drop m).take (k - m) ++ P.drop k := by
  have := (List.take_append_drop (k - m) (P.drop m)).symm
  rw [List.drop_drop] at this
  rw [show m + (k - m) = k by omega] at this
  exact this
theorem LkI.pct {S P : List UInt8} {i k f : Nat} {many : Option Nat} (h : LkI S P i k many f) {c : UInt8} {r : List UInt8} (hp : P.drop k = c :: r) (hc : c.toNat = 37) : LkI S P i (k + 1) (some k) i := by
  obtain ⟨h1, h2, h3⟩ := h
  have hk : k < P.length := by
    rcases Nat.lt_or_ge k P.length with h | h
    · exact h
    · rw [List.drop_eq_nil_of_le h] at hp; cases hp
  have hr : P.drop (k + 1) = r := by
    have := congrArg List.tail hp
    simpa using this
  have hM : lkM (S.drop i) (P.drop k) = lkA (S.drop i) (P.drop (k + 1)) := by rw [hp, lkM_pct hc, hr]
  refine ⟨hk, h2, Nat.lt_succ_self _, Nat.le_refl _, by omega, ?_, ?_, ?_⟩
  · intro c' hc'
    rw [show k + 1 - (k + 1) = 0 by omega] at hc'
    simp at hc'
  · cases many with
    | none => exact (h3 : _ = _).trans hM
    | some m =>
      obtain ⟨a1, a2, a3, a4, a5, a6⟩ := h3
      rw [a5, Bool.eq_iff_iff, lkA_iff]
      constructor
      · rintro ⟨j, hj, hm⟩
        rw [drop_split P (m + 1) k (by omega)] at hm
        have hlen : ((P.drop (m + 1)).take (k - (m + 1))).length = k - (m + 1) := by simp; omega
        obtain ⟨b1, b2⟩ := lkM_seg _ _ _ a4 hm
        rw [hlen, List.drop_drop, List.drop_drop, hp, lkM_pct hc, ← hr, lkA_iff] at b2
        obtain ⟨j', hj', hm'⟩ := b2
        rw [List.drop_drop] at hm'
        rw [lkA_iff]
        refine ⟨f + j + (k - (m + 1)) + j' - i, ?_, ?_⟩
        · simp at hj' b1 hj ⊢; omega
        · rw [List.drop_drop]
          rw [show i + (f + j + (k - (m + 1)) + j' - i) = f + (j + (k - (m + 1))) + j' by omega]
          exact hm'
      · intro hA
        rw [← hM, ← a6] at hA
        exact ⟨0, Nat.zero_le _, by simpa using hA⟩
  · rfl
theorem LkI.step {S P : List UInt8} {i k f : Nat} {many : Option Nat} (h : LkI S P i k many f) {c b : UInt8} {r s : List UInt8} (hp : P.drop k = c :: r) (hs : S.drop i = b :: s) (hc : c.toNat ≠ 37) (hb : c.toNat = 95 ∨ c = b) : LkI S P (i + 1) (k + 1) many f := by
  obtain ⟨h1, h2, h3⟩ := h
  have hk : k < P.length := by
    rcases Nat.lt_or_ge k P.length with h | h
    · exact h
    · rw [List.drop_eq_nil_of_le h] at hp; cases hp
  have hi : i < S.length := by
    rcases Nat.lt_or_ge i S.length with h | h
    · exact h
    · rw [List.drop_eq_nil_of_le h] at hs; cases hs
  have hr : P.drop (k + 1) = r := by simpa using congrArg List.tail hp
  have hsr : S.drop (i + 1) = s := by simpa using congrArg List.tail hs
  have hM : lkM (S.drop i) (P.drop k) = lkM (S.drop (i + 1)) (P.drop (k + 1)) := by
    rw [hp, hs, lkM_cons hc, hr, hsr]
    rcases hb with h | h
    · rw [decide_eq_true h]; rfl
    · rw [decide_eq_true h]; simp
  refine ⟨hk, hi, ?_⟩
  cases many with
  | none => exact (h3 : _ = _).trans hM
  | some m =>
    obtain ⟨a1, a2, a3, a4, a5, a6⟩ := h3
    refine ⟨by omega, by omega, by omega, ?_, a5, a6.trans hM⟩
    have hgk : P[k]'hk = c := by
      have := List.drop_eq_getElem_cons hk
      rw [hp] at this
      injection this with this _
      exact this.symm
    intro c' hc'
    rw [show k + 1 - (m + 1) = (k - (m + 1)) + 1 by omega, List.take_succ_eq_append_getElem (by simp; omega), List.mem_append, List.mem_singleton] at hc'
    rcases hc' with hc' | hc'
    · exact a4 c' hc'
    · rw [hc', List.getElem_drop]
      have : m + 1 + (k - (m + 1)) = k := by omega
      simp only [this]
      rw [hgk]; exact hc
theorem LkI.more {S P : List UInt8} {i k f m : Nat} (h : LkI S P i k (some m) f) (hi : i < S.length) (hno : lkM (S.drop i) (P.drop k) = false) : LkI S P (f + 1) (m + 1) (some m) (f + 1) := by
  obtain ⟨h1, h2, a1, a2, a3, a4, a5, a6⟩ := h
  have hf : f < S.length := by omega
  refine ⟨by omega, hf, Nat.lt_succ_self _, Nat.le_refl _, by omega, ?_, ?_, rfl⟩
  · intro c' hc'
    rw [show m + 1 - (m + 1) = 0 by omega] at hc'
    simp at hc'
  · have hd := List.drop_eq_getElem_cons hf
    rw [a5, hd, lkA_cons, ← hd, a6, hno, Bool.false_or]
theorem LkI.none_no {S P : List UInt8} {i k f : Nat} (h : LkI S P i k none f) (hno : lkM (S.drop i) (P.drop k) = false) : lkM S P = false := (h.2.2 : _ = _).trans hno
theorem lk_stop {b : UInt8} {s p : List UInt8} (h : ∀ c r, p = c :: r → c.toNat ≠ 37 ∧ c.toNat ≠ 95 ∧ c ≠ b) : lkM (b :: s) p = false := by
  cases p with
  | nil => rw [lkM_nil]; rfl
  | cons c r =>
    obtain ⟨h1, h2, h3⟩ := h c r rfl
    rw [lkM_cons h1, decide_eq_false h2, decide_eq_false h3]; rfl
theorem LkI.fin {S P : List UInt8} {i k f : Nat} {many : Option Nat} (h : LkI S P i k many f) (hi : i = S.length) : lkM S P = lkM [] (P.drop k) := by
  obtain ⟨h1, h2, h3⟩ := h
  have hd : S.drop i = [] := List.drop_eq_nil_of_le (by omega)
  cases many with
  | none => exact (h3 : _ = _).trans (by rw [hd])
  | some m =>
    obtain ⟨a1, a2, a3, a4, a5, a6⟩ := h3
    rw [hd] at a6
    rw [a5, Bool.eq_iff_iff, lkA_iff]
    constructor
    · rintro ⟨j, hj, hm⟩
      have hm0 := hm
      rw [drop_split P (m + 1) k (by omega)] at hm
      have hlen : ((P.drop (m + 1)).take (k - (m + 1))).length = k - (m + 1) := by simp; omega
      obtain ⟨b1, _⟩ := lkM_seg _ _ _ a4 hm
      rw [hlen] at b1
      have : j = 0 := by simp at b1 hj; omega
      subst this
      rw [List.drop_zero, a6] at hm0
      exact hm0
    · intro hA
      rw [← a6] at hA
      exact ⟨0, Nat.zero_le _, by simpa using hA⟩
theorem lkM_end : ∀ p : List UInt8, lkM [] p = p.all (fun c => decide (c.toNat = 37))
  | [] => by rw [lkM_nil]; rfl
  | c :: p => by
    by_cases h : c.toNat = 37
    · rw [lkM_pct h, lkA_nil, lkM_end p]; simp [h]
    · rw [lkM_no h]; simp [h]
end Go.Proofs.YtmaekkhmiafnmaaGreatDoor
namespace Go.Proofs.YtmaekkhmiafnmaaGreatDoor
open Go.RowKit Go Go.Lib
theorem trim_any (s : ByteArray) (hs : s.size ≤ 1000000000) (w : World) :
    Calls Tryz.prog 189 #[.string s, .string ⟨#[37]⟩] w fun x w' => x = .returned (.string ⟨(Lib.trimB s.data.toList 37).toArray⟩) ∧ Tch (fun _ => False) w w' :=
  (Any.strings_Trim_one Tryz.laysTr s 37 (by decide) w (by omega)).mono fun e w' ⟨h1, h2⟩ => ⟨h1, by
    rcases h2 with h | h
    · rw [h]; exact Tch.refl _ _
    · rw [h]; exact (Tch.refl _ _).drew⟩
theorem mem_dropWhile {α : Type} (p : α → Bool) : ∀ (l : List α) (b : α), b ∈ l → p b = false → b ∈ l.dropWhile p
  | [], b, h, _ => h
  | a :: l, b, h, hb => by
    rw [List.dropWhile_cons]
    split
    · rename_i ha
      rcases List.mem_cons.1 h with rfl | h
      · rw [hb] at ha; cases ha
      · exact mem_dropWhile p l b h hb
    · exact h
theorem all_dropWhile {α : Type} (p : α → Bool) : ∀ (l : List α), (∀ b ∈ l, p b = true) → l.dropWhile p = []
  | [], _ => rfl
  | a :: l, h => by
    rw [List.dropWhile_cons, if_pos (h a (List.mem_cons_self ..))]
    exact all_dropWhile p l fun b hb => h b (List.mem_cons_of_mem _ hb)
theorem trimB_nil (l : List UInt8) : trimB l 37 = [] ↔ l.all (fun c => decide (c.toNat = 37)) = true := by
  have hc : ∀ b : UInt8, (b == 37) = true ↔ b.toNat = 37 := fun b => by
    rw [beq_iff_eq]
    constructor
    · rintro rfl; rfl
    · intro h; exact UInt8.toNat_inj.1 h
  rw [List.all_eq_true]
  constructor
  · intro h b hb
    rw [decide_eq_true_eq]
    rcases Classical.em (b.toNat = 37) with h1 | h1
    · exact h1
    · exfalso
      have hf : (b == 37) = false := by
        rw [← Bool.not_eq_true]; exact fun h2 => h1 ((hc b).1 h2)
      have h2 : b ∈ trimB l 37 := by
        unfold trimB trimLeftB trimRightB
        refine mem_dropWhile _ _ _ ?_ hf
        rw [List.mem_reverse]
        exact mem_dropWhile _ _ _ (List.mem_reverse.2 hb) hf
      rw [h] at h2
      cases h2
  · intro h
    have hr : trimRightB l 37 = [] := by
      unfold trimRightB
      rw [all_dropWhile _ _ (fun b hb => (hc b).2 (of_decide_eq_true (h b (List.mem_reverse.1 hb))))]
      rfl
    unfold trimB
    rw [hr]
    rfl
def mu3 (K a b c : Nat) : Nat := (a * K + b) * K + c
theorem mu_two {K x y c c' : Nat} (h : x < y) (hc : c' < K) : x * K + c' < y * K + c := by
  have h1 : (x + 1) * K ≤ y * K := Nat.mul_le_mul_right K h
  rw [Nat.succ_mul] at h1
  omega
theorem mu_c {K a b c c' : Nat} (h : c' < c) : mu3 K a b c' < mu3 K a b c := Nat.add_lt_add_left h _
theorem mu_b {K a b b' c c' : Nat} (h : b' < b) (hc : c' < K) : mu3 K a b' c' < mu3 K a b c := mu_two (Nat.add_lt_add_left h _) hc
theorem mu_a {K a a' b b' c c' : Nat} (h : a' < a) (hb : b' < K) (hc : c' < K) : mu3 K a' b' c' < mu3 K a b c := mu_two (mu_two h hb) hc
theorem idx_at (p : ByteArray) (k : Nat) (c : UInt8) (h : p.data.toList[k]? = some c) (W : World) : (Instr.index 9 (.string p) (.int .i64 (k : Nat))).run Tryz.prog W = .ok (.int .u8 (c.toNat : Nat)) W := by
  have hk : k < p.size := by have := (List.getElem?_eq_some_iff.1 h).1; simpa using this
  rw [run_index_string (h := Tryz.underlying9), dif_pos ⟨by omega, by omega⟩]
  have hg : p[k]'hk = c := by
    obtain ⟨h1, h2⟩ := List.getElem?_eq_some_iff.1 h
    exact h2
  simp [hg]
def manI : Option Nat → Int
  | none => -1
  | some m => (m : Nat)
def manN : Option Nat → Nat
  | none => 0
  | some m => m + 1
theorem fits11_any (s p : ByteArray) (hs : s.size ≤ 1000000000) (hp : p.size ≤ 1000000000) (w : World) :
    Calls Tryz.prog 163 #[.string s, .string p] w fun x w' => x = .returned (.bool (lkM s.data.toList p.data.toList)) ∧ Tch (fun _ => False) w w' := by
  obtain ⟨S, hS⟩ : ∃ S, S = s.data.toList := ⟨_, rfl⟩
  obtain ⟨P, hP⟩ : ∃ P, P = p.data.toList := ⟨_, rfl⟩
  obtain ⟨R, hR⟩ : ∃ R, R = lkM S P := ⟨_, rfl⟩
  rw [← hS, ← hP, ← hR]
  obtain ⟨ns, hns⟩ : ∃ n, n = s.size := ⟨_, rfl⟩
  obtain ⟨np, hnp⟩ : ∃ n, n = p.size := ⟨_, rfl⟩
  have hSl : S.length = ns := by rw [hS, hns]; simp
  have hPl : P.length = np := by rw [hP, hnp]; simp
  have HI : Hid (R = lkM S P ∧ S.length = ns ∧ P.length = np ∧ S = s.data.toList ∧ P = p.data.toList) := ⟨hR, hSl, hPl, hS, hP⟩
  have hss : (s.size : Int) = (ns : Int) := by omega
  have hps : (p.size : Int) = (np : Int) := by omega
  rw [← hns] at hs
  rw [← hnp] at hp
  clear hS hP hR hns hnp hSl hPl
  have HJ : Hid (LkI S P 0 0 none 0) := LkI.start S P
  go_enter Tryz.func163, Tryz.ntmps163
  go_wp2_with fail
  go_loopg [5, 6, 7, 8] (mu3 (ns + 1) np ns ns) (fun n iv kv mv fv wr => ∃ (i k f : Nat) (m : Option Nat), iv = .int .i64 i ∧ kv = .int .i64 k ∧ mv = .int .i64 (manI m) ∧ fv = .int .i64 f ∧ f ≤ i ∧ manN m ≤ k ∧ k ≤ np ∧ i ≤ ns ∧ mu3 (ns + 1) (np - manN m) (ns - f) (ns - i) ≤ n ∧ Hid (LkI S P i k m f ∧ Tch (fun _ => False) w wr))
  case atStart => exact ⟨0, 0, 0, none, rfl, rfl, rfl, rfl, by omega, Nat.le_refl _, by omega, by omega, Nat.le_refl _, HJ.out, Tch.refl _ _⟩
  case round =>
    obtain ⟨i, k, f, m, rfl, rfl, rfl, rfl, hfi, hmk, hkp, hin, hmu, HJ2⟩ := hrel
    by_cases hi : i < ns
    · have hiI : (i : Int) < (ns : Int) := by omega
      have hil : i < S.length := by rw [HI.out.2.1]; exact hi
      obtain ⟨b, hb⟩ : ∃ b, b = S[i] := ⟨_, rfl⟩
      have hbs : s.data.toList[i]? = some b := by rw [← HI.out.2.2.2.1, List.getElem?_eq_getElem hil, hb]
      have hdS : S.drop i = b :: S.drop (i + 1) := by rw [hb]; exact List.drop_eq_getElem_cons hil
      have hib := fun W => idx_at s i b hbs W
      have HB : Hid (S.drop i = b :: S.drop (i + 1)) := hdS
      obtain ⟨bn, hbn⟩ : ∃ bn, bn = b.toNat := ⟨_, rfl⟩
      rw [← hbn] at hib
      have Hbn : Hid _ := hbn
      clear hb hbs hdS hbn hil
      have Hmore : Hid (∀ W, Tch (fun _ => False) w W → lkM (S.drop i) (P.drop k) = false → ∀ m', m = some m' → mu3 (ns + 1) (np - manN (some m')) (ns - (f + 1)) (ns - (f + 1)) < gk ∧ f + 1 ≤ ns ∧ m' + 1 ≤ np ∧ LkI S P (f + 1) (m' + 1) (some m') (f + 1) ∧ Tch (fun _ => False) w W) := fun W t hno m' hm => by
        subst hm
        refine ⟨Nat.lt_of_lt_of_le (mu_b (by omega) (by omega)) hmu, by omega, by have : m' + 1 ≤ k := hmk; omega, HJ2.out.1.more (by rw [HI.out.2.1]; exact hi) hno, t⟩
      by_cases hk : k < np
      · have hkI : (k : Int) < (np : Int) := by omega
        have hkl : k < P.length := by rw [HI.out.2.2.1]; exact hk
        obtain ⟨c, hc⟩ : ∃ c, c = P[k] := ⟨_, rfl⟩
        have hcs : p.data.toList[k]? = some c := by rw [← HI.out.2.2.2.2, List.getElem?_eq_getElem hkl, hc]
        have HC : Hid (P.drop k = c :: P.drop (k + 1)) := (show _ = _ from by rw [hc]; exact List.drop_eq_getElem_cons hkl)
        have hic := fun W => idx_at p k c hcs W
        obtain ⟨cn, hcn⟩ : ∃ cn, cn = c.toNat := ⟨_, rfl⟩
        rw [← hcn] at hic
        have Hcn : Hid _ := hcn
        clear hc hcs hcn hkl
        by_cases h37 : cn = 37
        · have h37I : ((cn : Nat) : Int) = 37 := by omega
          have HJ3 : Hid (LkI S P i (k + 1) (some k) i) := HJ2.out.1.pct HC.out (by rw [← Hcn.out]; exact h37)
          clear h37 Hmore
          go_wp2_with fail
          go_roundg (mu3 (ns + 1) (np - manN (some k)) (ns - i) (ns - i))
          case measure => exact Nat.lt_of_lt_of_le (mu_a (by show np - (k + 1) < _; omega) (by omega) (by omega)) hmu
          case rel => exact ⟨i, k + 1, i, some k, rfl, by first | trivial | rfl, rfl, rfl, Nat.le_refl _, Nat.le_refl _, by omega, by omega, Nat.le_refl _, HJ3.out, HJ2.out.2⟩
        · have h37I : ¬ ((cn : Nat) : Int) = 37 := by omega
          have Hc37 : Hid (c.toNat ≠ 37) := (show c.toNat ≠ 37 from by rw [← Hcn.out]; exact h37)
          by_cases h95 : cn = 95
          · have h95I : ((cn : Nat) : Int) = 95 := by omega
            have HJ3 : Hid (LkI S P (i + 1) (k + 1) m f) := HJ2.out.1.step HC.out HB.out Hc37.out (Or.inl (by rw [← Hcn.out]; exact h95))
            subst h95
            clear h37 h37I h95I
            clear Hmore
            go_wp2_with fail
            go_quiet (fail)
            go_wp2_with fail
            go_roundg (mu3 (ns + 1) (np - manN m) (ns - f) (ns - (i + 1)))
            case measure => exact Nat.lt_of_lt_of_le (mu_c (by omega)) hmu
            case rel => exact ⟨i + 1, k + 1, f, m, by first | trivial | rfl, by first | trivial | rfl, rfl, rfl, by omega, by omega, by omega, by omega, Nat.le_refl _, HJ3.out, HJ2.out.2.drewN _⟩
          · have h95I : ¬ ((cn : Nat) : Int) = 95 := by omega
            by_cases hcb : cn = bn
            · have HJ3 : Hid (LkI S P (i + 1) (k + 1) m f) := HJ2.out.1.step HC.out HB.out Hc37.out (Or.inr (UInt8.toNat_inj.1 (by rw [← Hcn.out, ← Hbn.out]; exact hcb)))
              subst hcb
              clear h37 h95
              clear Hmore
              go_wp2_with fail
              go_quiet (fail)
              go_wp2_with fail
              go_roundg (mu3 (ns + 1) (np - manN m) (ns - f) (ns - (i + 1)))
              case measure => exact Nat.lt_of_lt_of_le (mu_c (by omega)) hmu
              case rel => exact ⟨i + 1, k + 1, f, m, by first | trivial | rfl, by first | trivial | rfl, rfl, rfl, by omega, by omega, by omega, by omega, Nat.le_refl _, HJ3.out, HJ2.out.2.drewN _⟩
            · have hcbI : ¬ ((cn : Nat) : Int) = ((bn : Nat) : Int) := by omega
              have Hno : Hid (lkM (S.drop i) (P.drop k) = false) := (show _ = _ from by
                rw [HB.out]
                refine lk_stop fun c' r' he => ?_
                rw [HC.out] at he
                injection he with he _
                subst he
                refine ⟨Hc37.out, by rw [← Hcn.out]; exact h95, fun h => hcb (by rw [Hcn.out, Hbn.out, h])⟩)
              have e95 : (((cn : Nat) : Int) == 95) = false := by simpa using h95I
              have ecb : (((cn : Nat) : Int) == ((bn : Nat) : Int)) = false := by simpa using hcbI
              clear h37 h95 hcb h95I hcbI
              cases m with
              | none =>
                have hm : manI none = -1 := rfl
                have HE : Hid (R = false) := (show R = false from by rw [HI.out.1]; exact HJ2.out.1.none_no Hno.out)
                clear Hmore
                go_wp2_with fail
                go_quiet (fail)
                go_wp2_with fail
                go_ret
                exact ⟨by rw [HE.out]; rfl, HJ2.out.2.drewN _⟩
              | some m' =>
                have hm : manI (some m') = (m' : Nat) := rfl
                have hm0 : (0 : Int) ≤ (m' : Nat) := by omega
                have hm1 : m' + 1 ≤ k := hmk
                have Hm : Hid _ := Hmore.out
                clear Hmore
                go_wp2_with fail
                go_quiet (fail)
                go_wp2_with fail
                obtain ⟨z1, z2, z3, z4, z5⟩ := Hm.out _ (HJ2.out.2.drewN _) Hno.out m' rfl
                go_roundg (mu3 (ns + 1) (np - manN (some m')) (ns - (f + 1)) (ns - (f + 1)))
                case measure => exact z1
                case rel => exact ⟨f + 1, m' + 1, f + 1, some m', by first | trivial | rfl, by first | trivial | rfl, by first | trivial | rfl, by first | trivial | rfl, Nat.le_refl _, Nat.le_refl _, z3, z2, Nat.le_refl _, z4, z5⟩
      · have hkI : ¬ (k : Int) < (np : Int) := by omega
        have Hno : Hid (lkM (S.drop i) (P.drop k) = false) := (show _ = _ from by
          rw [HB.out]
          refine lk_stop fun c' r' he => ?_
          rw [List.drop_eq_nil_of_le (by rw [HI.out.2.2.1]; omega)] at he
          cases he)
        cases m with
        | none =>
          have hm : manI none = -1 := rfl
          have HE : Hid (R = false) := (show R = false from by rw [HI.out.1]; exact HJ2.out.1.none_no Hno.out)
          clear Hmore
          go_wp2_with fail
          have hkI2 : ¬ (k : Int) < (np : Int) := by omega
          go_quiet (fail)
          go_wp2_with fail
          go_ret
          exact ⟨by rw [HE.out]; rfl, HJ2.out.2.drewN _⟩
        | some m' =>
          have hm : manI (some m') = (m' : Nat) := rfl
          have hm0 : (0 : Int) ≤ (m' : Nat) := by omega
          have hm1 : m' + 1 ≤ k := hmk
          have Hm : Hid _ := Hmore.out
          clear Hmore
          go_wp2_with fail
          have hkI2 : ¬ (k : Int) < (np : Int) := by omega
          go_quiet (fail)
          go_wp2_with fail
          obtain ⟨z1, z2, z3, z4, z5⟩ := Hm.out _ (HJ2.out.2.drewN _) Hno.out m' rfl
          go_roundg (mu3 (ns + 1) (np - manN (some m')) (ns - (f + 1)) (ns - (f + 1)))
          case measure => exact z1
          case rel => exact ⟨f + 1, m' + 1, f + 1, some m', by first | trivial | rfl, by first | trivial | rfl, by first | trivial | rfl, by first | trivial | rfl, Nat.le_refl _, Nat.le_refl _, z3, z2, Nat.le_refl _, z4, z5⟩
    · have hiI : ¬ (i : Int) < (ns : Int) := by omega
      obtain ⟨x, hx⟩ : ∃ x, x = p.extract k p.size := ⟨_, rfl⟩
      have hxl : x.data.toList = P.drop k := by
        rw [hx, HI.out.2.2.2.2]
        simp [List.extract_eq_take_drop]
        rw [List.take_of_length_le (by simp)]
      have hxs : x.size ≤ 1000000000 := by
        have h : x.data.toList.length = x.size := by simp
        rw [hxl, List.length_drop, HI.out.2.2.1] at h
        omega
      have q := trim_any x hxs wr
      have hR : R = decide (trimB (P.drop k) 37 = []) := by
        rw [HI.out.1, HJ2.out.1.fin (by rw [HI.out.2.1]; omega), lkM_end, Bool.eq_iff_iff, ← trimB_nil]
        simp
      rw [hxl] at q
      obtain ⟨tl, htl⟩ : ∃ tl, tl = trimB (P.drop k) 37 := ⟨_, rfl⟩
      rw [← htl] at q hR
      have hx' : p.extract k p.size = x := hx.symm
      have hkp2 : (k : Int) ≤ (np : Int) := by omega
      clear hx hxl hxs htl
      cases tl with
      | nil =>
        have HE : Hid (R = true) := (show R = true from hR)
        clear hR
        go_wp2_with fail
        refine q.mono ?_
        rintro y w1 ⟨rfl, t1⟩
        clear q
        go_wp2_with fail
        go_ret
        exact ⟨by rw [HE.out]; rfl, HJ2.out.2.trans' t1⟩
      | cons a tl =>
        have HE : Hid (R = false) := (show R = false from by rw [hR]; simp)
        obtain ⟨ts, hts⟩ : ∃ ts : ByteArray, ts = ⟨(a :: tl).toArray⟩ := ⟨_, rfl⟩
        rw [← hts] at q
        have hne : (ts.toList == []) = false := by
          rw [Lib.toList_data, hts]; rfl
        clear hR hts
        go_wp2_with fail
        refine q.mono ?_
        rintro y w1 ⟨rfl, t1⟩
        clear q
        go_wp2_with fail
        go_ret
        exact ⟨by rw [HE.out]; rfl, HJ2.out.2.trans' t1⟩
end Go.Proofs.YtmaekkhmiafnmaaGreatDoor
namespace Go.Proofs.YtmaekkhmiafnmaaGreatDoor
open Go.RowKit Go Go.Lib
def VC (W : World) (g i : Nat) (v : Val) : Prop := W.cell? ⟨g, i, none⟩ = some (.int .i64 v.k) ∧ W.cell? ⟨g, i + 1, none⟩ = some (.int .i64 v.n) ∧ W.cell? ⟨g, i + 2, none⟩ = some (.string v.s)
theorem VC.alloc {W : World} {g i : Nat} {v : Val} (h : VC W g i v) (ob : Obj) : VC (W.alloc ob) g i v := by
  have l : g < W.heap.size := cell_lt h.1
  exact ⟨by rw [World.cell?_alloc_lt _ _ _ l]; exact h.1, by rw [World.cell?_alloc_lt _ _ _ l]; exact h.2.1, by rw [World.cell?_alloc_lt _ _ _ l]; exact h.2.2⟩
theorem VC.tch {S : Nat → Prop} {W W' : World} {g i : Nat} {v : Val} (h : VC W g i v) (t : Tch S W W') (hS : ¬ S g) : VC W' g i v := by
  have l : g < W.heap.size := cell_lt h.1
  exact ⟨(t.cell (p := ⟨g, i, none⟩) l hS).trans h.1, (t.cell (p := ⟨g, i + 1, none⟩) l hS).trans h.2.1, (t.cell (p := ⟨g, i + 2, none⟩) l hS).trans h.2.2⟩
theorem hk_4 (b g c : Nat) (u : Val) (w : World) (h0 : w.cell? ⟨b, 0, none⟩ = some (.int .i64 4)) (hu : VC w g 0 u) :
    Calls Tryz.prog 130 #[.pointer (some ⟨b, 0, none⟩), .slice (some ⟨g, 0, none⟩) 1 c] w fun x w' => x = .returned (.tuple #[vV (hk 4 [u]).1, .int .i64 (hk 4 [u]).2]) ∧ Tch (fun _ => False) w w' := by
  have hbl : b < w.heap.size := cell_lt h0
  have e0 : ∀ ob, (w.alloc ob).cell? ⟨b, 0, none⟩ = some (.int .i64 4) := fun ob => by rw [World.cell?_alloc_lt _ _ _ hbl]; exact h0
  have HB : Hid (∀ W, Tch (fun _ => False) (w.alloc (.cells #[.int .i64 0, .int .i64 0, .string ⟨#[]⟩] 29)) W → OneB w.heap.size W ∧ Tch (fun _ => False) w W) := fun W t => ⟨oneB t, (Tch.alloc _ _ _).trans' t⟩
  have du0 : ∀ ob, (w.alloc ob).cell? ⟨g, 0, none⟩ = some (.int .i64 u.k) := fun ob => hu.alloc ob |>.1
  have du1 : ∀ ob, (w.alloc ob).cell? ⟨g, 1, none⟩ = some (.int .i64 u.n) := fun ob => hu.alloc ob |>.2.1
  have du2 : ∀ ob, (w.alloc ob).cell? ⟨g, 2, none⟩ = some (.string u.s) := fun ob => hu.alloc ob |>.2.2
  have Hq : Hid _ := fun W => negated_any u  W
  obtain ⟨R, hR⟩ : ∃ R, R = ngV u := ⟨_, rfl⟩
  rw [← hR] at Hq
  have HR : Hid (hk 4 [u] = (R, 0)) := (show _ = _ from by rw [hR]; rfl)
  clear hR hu h0
  go_enter Tryz.func130, Tryz.ntmps130
  go_wp2_with (go_at_call 65; refine (Hq.out _).mono ?_; rintro y v1 ⟨rfl, t1⟩; obtain ⟨⟨⟨x0, x1, x2⟩, f0, f1, f2⟩, hw⟩ := HB.out _ t1)
  obtain ⟨k0, k1, k2⟩ := box_set v1 w.heap.size _ _ _ (.int .i64 R.k) (.int .i64 R.n) (.string R.s) x0 x1 x2
  exact bodyPost_ret (res_ve (j := 4) (m := 5) (by kernel_rfl) _ _ w.heap.size R (.int .i64 0) rfl rfl k0 k1 k2) rfl ⟨by rw [HR.out], hw.trans (box_set_tch v1 w.heap.size _ _ _) (fun i hi h => by omega)⟩
theorem hk_21 (b g c : Nat) (u : Val) (w : World) (h0 : w.cell? ⟨b, 0, none⟩ = some (.int .i64 21)) (hu : VC w g 0 u) (hn : i64v u.n) :
    Calls Tryz.prog 130 #[.pointer (some ⟨b, 0, none⟩), .slice (some ⟨g, 0, none⟩) 1 c] w fun x w' => x = .returned (.tuple #[vV (hk 21 [u]).1, .int .i64 (hk 21 [u]).2]) ∧ Tch (fun _ => False) w w' := by
  have hbl : b < w.heap.size := cell_lt h0
  have e0 : ∀ ob, (w.alloc ob).cell? ⟨b, 0, none⟩ = some (.int .i64 21) := fun ob => by rw [World.cell?_alloc_lt _ _ _ hbl]; exact h0
  have HB : Hid (∀ W, Tch (fun _ => False) (w.alloc (.cells #[.int .i64 0, .int .i64 0, .string ⟨#[]⟩] 29)) W → OneB w.heap.size W ∧ Tch (fun _ => False) w W) := fun W t => ⟨oneB t, (Tch.alloc _ _ _).trans' t⟩
  have du1 : ∀ ob, (w.alloc ob).cell? ⟨g, 1, none⟩ = some (.int .i64 u.n) := fun ob => hu.alloc ob |>.2.1
  have Hq : Hid _ := fun W => calculate_any 17 0 u.n (by decide) i64_c.1 hn W
  obtain ⟨R, hR⟩ : ∃ R, R = arV 17 0 u.n := ⟨_, rfl⟩
  rw [← hR] at Hq
  have HR : Hid (hk 21 [u] = R) := (show _ = _ from by rw [hR]; rfl)
  clear hR hu h0
  go_enter Tryz.func130, Tryz.ntmps130
  go_wp2_with (go_at_call 160; refine (Hq.out _).mono ?_; rintro y v1 ⟨rfl, t1⟩; obtain ⟨⟨⟨x0, x1, x2⟩, f0, f1, f2⟩, hw⟩ := HB.out _ t1)
  obtain ⟨k0, k1, k2⟩ := box_set v1 w.heap.size _ _ _ (.int .i64 R.1.k) (.int .i64 R.1.n) (.string R.1.s) x0 x1 x2
  exact bodyPost_ret (res_ve (j := 4) (m := 5) (by kernel_rfl) _ _ w.heap.size R.1 (.int .i64 R.2) rfl rfl k0 k1 k2) rfl ⟨by rw [HR.out], hw.trans (box_set_tch v1 w.heap.size _ _ _) (fun i hi h => by omega)⟩
theorem hk_24 (b g c : Nat) (u : Val) (w : World) (h0 : w.cell? ⟨b, 0, none⟩ = some (.int .i64 24)) (hu : VC w g 0 u) (hn : i64v u.n) :
    Calls Tryz.prog 130 #[.pointer (some ⟨b, 0, none⟩), .slice (some ⟨g, 0, none⟩) 1 c] w fun x w' => x = .returned (.tuple #[vV (hk 24 [u]).1, .int .i64 (hk 24 [u]).2]) ∧ Tch (fun _ => False) w w' := by
  have hbl : b < w.heap.size := cell_lt h0
  have e0 : ∀ ob, (w.alloc ob).cell? ⟨b, 0, none⟩ = some (.int .i64 24) := fun ob => by rw [World.cell?_alloc_lt _ _ _ hbl]; exact h0
  have HB : Hid (∀ W, Tch (fun _ => False) (w.alloc (.cells #[.int .i64 0, .int .i64 0, .string ⟨#[]⟩] 29)) W → OneB w.heap.size W ∧ Tch (fun _ => False) w W) := fun W t => ⟨oneB t, (Tch.alloc _ _ _).trans' t⟩
  have du1 : ∀ ob, (w.alloc ob).cell? ⟨g, 1, none⟩ = some (.int .i64 u.n) := fun ob => hu.alloc ob |>.2.1
  have Hq : Hid _ := fun W => absolute_any u.n hn W
  obtain ⟨R, hR⟩ : ∃ R, R = (if u.n < 0 then arV 17 0 u.n else (inV u.n, 0)) := ⟨_, rfl⟩
  rw [← hR] at Hq
  have HR : Hid (hk 24 [u] = R) := (show _ = _ from by rw [hR]; rfl)
  clear hR hu h0
  go_enter Tryz.func130, Tryz.ntmps130
  go_wp2_with (go_at_call 161; refine (Hq.out _).mono ?_; rintro y v1 ⟨rfl, t1⟩; obtain ⟨⟨⟨x0, x1, x2⟩, f0, f1, f2⟩, hw⟩ := HB.out _ t1)
  obtain ⟨k0, k1, k2⟩ := box_set v1 w.heap.size _ _ _ (.int .i64 R.1.k) (.int .i64 R.1.n) (.string R.1.s) x0 x1 x2
  exact bodyPost_ret (res_ve (j := 4) (m := 5) (by kernel_rfl) _ _ w.heap.size R.1 (.int .i64 R.2) rfl rfl k0 k1 k2) rfl ⟨by rw [HR.out], hw.trans (box_set_tch v1 w.heap.size _ _ _) (fun i hi h => by omega)⟩
theorem hk_23 (b g c : Nat) (u : Val) (w : World) (h0 : w.cell? ⟨b, 0, none⟩ = some (.int .i64 23)) (hu : VC w g 0 u) :
    Calls Tryz.prog 130 #[.pointer (some ⟨b, 0, none⟩), .slice (some ⟨g, 0, none⟩) 1 c] w fun x w' => x = .returned (.tuple #[vV (hk 23 [u]).1, .int .i64 (hk 23 [u]).2]) ∧ Tch (fun _ => False) w w' := by
  have hbl : b < w.heap.size := cell_lt h0
  have e0 : ∀ ob, (w.alloc ob).cell? ⟨b, 0, none⟩ = some (.int .i64 23) := fun ob => by rw [World.cell?_alloc_lt _ _ _ hbl]; exact h0
  have HB : Hid (∀ W, Tch (fun _ => False) (w.alloc (.cells #[.int .i64 0, .int .i64 0, .string ⟨#[]⟩] 29)) W → OneB w.heap.size W ∧ Tch (fun _ => False) w W) := fun W t => ⟨oneB t, (Tch.alloc _ _ _).trans' t⟩
  have du2 : ∀ ob, (w.alloc ob).cell? ⟨g, 2, none⟩ = some (.string u.s) := fun ob => hu.alloc ob |>.2.2
  have Hq : Hid _ := fun W => ofInt_any u.s.size W
  obtain ⟨m, hm⟩ : ∃ m, m = u.s.size := ⟨_, rfl⟩
  obtain ⟨R, hR⟩ : ∃ R, R = inV (m : Nat) := ⟨_, rfl⟩
  rw [← hm, ← hR] at Hq
  have HR : Hid (hk 23 [u] = (R, 0)) := (show _ = _ from by rw [hR, hm]; rfl)
  have Hm : Hid _ := hm
  clear hR hm hu h0
  go_enter Tryz.func130, Tryz.ntmps130
  go_wp2_with fail
  rw [← Hm.out]
  go_wp2_with (go_at_call 164; refine (Hq.out _).mono ?_; rintro y v1 ⟨rfl, t1⟩; obtain ⟨⟨⟨x0, x1, x2⟩, f0, f1, f2⟩, hw⟩ := HB.out _ t1)
  obtain ⟨k0, k1, k2⟩ := box_set v1 w.heap.size _ _ _ (.int .i64 R.k) (.int .i64 R.n) (.string R.s) x0 x1 x2
  exact bodyPost_ret (res_ve (j := 4) (m := 5) (by kernel_rfl) _ _ w.heap.size R (.int .i64 0) rfl rfl k0 k1 k2) rfl ⟨by rw [HR.out], hw.trans (box_set_tch v1 w.heap.size _ _ _) (fun i hi h => by omega)⟩
theorem hk_25 (b g c : Nat) (u : Val) (w : World) (h0 : w.cell? ⟨b, 0, none⟩ = some (.int .i64 25)) (hu : VC w g 0 u) (hs : u.s.size ≤ 1000000000) :
    Calls Tryz.prog 130 #[.pointer (some ⟨b, 0, none⟩), .slice (some ⟨g, 0, none⟩) 1 c] w fun x w' => x = .returned (.tuple #[vV (hk 25 [u]).1, .int .i64 (hk 25 [u]).2]) ∧ Tch (fun _ => False) w w' := by
  have hbl : b < w.heap.size := cell_lt h0
  have e0 : ∀ ob, (w.alloc ob).cell? ⟨b, 0, none⟩ = some (.int .i64 25) := fun ob => by rw [World.cell?_alloc_lt _ _ _ hbl]; exact h0
  have HB : Hid (∀ W, Tch (fun _ => False) (w.alloc (.cells #[.int .i64 0, .int .i64 0, .string ⟨#[]⟩] 29)) W → OneB w.heap.size W ∧ Tch (fun _ => False) w W) := fun W t => ⟨oneB t, (Tch.alloc _ _ _).trans' t⟩
  have du2 : ∀ ob, (w.alloc ob).cell? ⟨g, 2, none⟩ = some (.string u.s) := fun ob => hu.alloc ob |>.2.2
  have Hq1 : Hid _ := fun W => resized_any u.s 97 65 (by decide) (by decide) hs W
  have Hq2 : Hid _ := fun W => ofText_any (rszV u.s 97 65).s W
  obtain ⟨R, hR⟩ : ∃ R, R = rszV u.s 97 65 := ⟨_, rfl⟩
  have HR : Hid (hk 25 [u] = (R, 0)) := (show _ = _ from by rw [hR]; rfl)
  have hR2 : txV R.s = R := by rw [hR]; rfl
  rw [← hR] at Hq1 Hq2
  rw [hR2] at Hq2
  clear hR hR2 hu h0 hs
  go_enter Tryz.func130, Tryz.ntmps130
  go_wp2_with (first
    | (go_at_call 166; refine (Hq1.out _).mono ?_; rintro y v1 ⟨rfl, t1⟩)
    | (go_at_call 165; refine (Hq2.out _).mono ?_; rintro y v2 ⟨rfl, t2⟩; obtain ⟨⟨⟨x0, x1, x2⟩, f0, f1, f2⟩, hw⟩ := HB.out _ (Tch.trans' t1 t2)))
  obtain ⟨k0, k1, k2⟩ := box_set v2 w.heap.size _ _ _ (.int .i64 R.k) (.int .i64 R.n) (.string R.s) x0 x1 x2
  exact bodyPost_ret (res_ve (j := 4) (m := 5) (by kernel_rfl) _ _ w.heap.size R (.int .i64 0) rfl rfl k0 k1 k2) rfl ⟨by rw [HR.out], hw.trans (box_set_tch v2 w.heap.size _ _ _) (fun i hi h => by omega)⟩
theorem hk_26 (b g c : Nat) (u : Val) (w : World) (h0 : w.cell? ⟨b, 0, none⟩ = some (.int .i64 26)) (hu : VC w g 0 u) (hs : u.s.size ≤ 1000000000) :
    Calls Tryz.prog 130 #[.pointer (some ⟨b, 0, none⟩), .slice (some ⟨g, 0, none⟩) 1 c] w fun x w' => x = .returned (.tuple #[vV (hk 26 [u]).1, .int .i64 (hk 26 [u]).2]) ∧ Tch (fun _ => False) w w' := by
  have hbl : b < w.heap.size := cell_lt h0
  have e0 : ∀ ob, (w.alloc ob).cell? ⟨b, 0, none⟩ = some (.int .i64 26) := fun ob => by rw [World.cell?_alloc_lt _ _ _ hbl]; exact h0
  have HB : Hid (∀ W, Tch (fun _ => False) (w.alloc (.cells #[.int .i64 0, .int .i64 0, .string ⟨#[]⟩] 29)) W → OneB w.heap.size W ∧ Tch (fun _ => False) w W) := fun W t => ⟨oneB t, (Tch.alloc _ _ _).trans' t⟩
  have du2 : ∀ ob, (w.alloc ob).cell? ⟨g, 2, none⟩ = some (.string u.s) := fun ob => hu.alloc ob |>.2.2
  have Hq1 : Hid _ := fun W => resized_any u.s 65 97 (by decide) (by decide) hs W
  have Hq2 : Hid _ := fun W => ofText_any (rszV u.s 65 97).s W
  obtain ⟨R, hR⟩ : ∃ R, R = rszV u.s 65 97 := ⟨_, rfl⟩
  have HR : Hid (hk 26 [u] = (R, 0)) := (show _ = _ from by rw [hR]; rfl)
  have hR2 : txV R.s = R := by rw [hR]; rfl
  rw [← hR] at Hq1 Hq2
  rw [hR2] at Hq2
  clear hR hR2 hu h0 hs
  go_enter Tryz.func130, Tryz.ntmps130
  go_wp2_with (first
    | (go_at_call 166; refine (Hq1.out _).mono ?_; rintro y v1 ⟨rfl, t1⟩)
    | (go_at_call 165; refine (Hq2.out _).mono ?_; rintro y v2 ⟨rfl, t2⟩; obtain ⟨⟨⟨x0, x1, x2⟩, f0, f1, f2⟩, hw⟩ := HB.out _ (Tch.trans' t1 t2)))
  obtain ⟨k0, k1, k2⟩ := box_set v2 w.heap.size _ _ _ (.int .i64 R.k) (.int .i64 R.n) (.string R.s) x0 x1 x2
  exact bodyPost_ret (res_ve (j := 4) (m := 5) (by kernel_rfl) _ _ w.heap.size R (.int .i64 0) rfl rfl k0 k1 k2) rfl ⟨by rw [HR.out], hw.trans (box_set_tch v2 w.heap.size _ _ _) (fun i hi h => by omega)⟩
theorem hk_16 (b g c : Nat) (u v : Val) (w : World) (h0 : w.cell? ⟨b, 0, none⟩ = some (.int .i64 16)) (hu : VC w g 0 u) (hv : VC w g 3 v) (hu1 : i64v u.n) (hv1 : i64v v.n) :
    Calls Tryz.prog 130 #[.pointer (some ⟨b, 0, none⟩), .slice (some ⟨g, 0, none⟩) 2 c] w fun x w' => x = .returned (.tuple #[vV (hk 16 [u, v]).1, .int .i64 (hk 16 [u, v]).2]) ∧ Tch (fun _ => False) w w' := by
  have hbl : b < w.heap.size := cell_lt h0
  have e0 : ∀ ob, (w.alloc ob).cell? ⟨b, 0, none⟩ = some (.int .i64 16) := fun ob => by rw [World.cell?_alloc_lt _ _ _ hbl]; exact h0
  obtain ⟨w0, hw0⟩ : ∃ w0, w0 = w.alloc (.cells #[.int .i64 0, .int .i64 0, .string ⟨#[]⟩] 29) := ⟨_, rfl⟩
  have t0 : Tch (fun _ => False) w w0 := by rw [hw0]; exact Tch.alloc _ _ _
  have HB : Hid (∀ W, Tch (fun _ => False) w0 W → OneB w.heap.size W ∧ Tch (fun _ => False) w W) := fun W t => ⟨oneB (by rw [← hw0]; exact t), t0.trans' t⟩
  have hgl : g < w.heap.size := cell_lt hu.1
  have HC : Hid (∀ W, Tch (fun i => i = w.heap.size) w0 W → Tch (fun i => i = w.heap.size) w0 W ∧ W.cell? ⟨b, 0, none⟩ = some (.int .i64 16) ∧ W.cell? ⟨g, 1, none⟩ = some (.int .i64 u.n) ∧ W.cell? ⟨g, 4, none⟩ = some (.int .i64 v.n)) := fun W t => by
    have T : Tch (fun i => i = w.heap.size) w W := (t0.mono (fun _ _ h => h.elim)).trans' t
    exact ⟨t, (T.cell (p := ⟨b, 0, none⟩) hbl (by show ¬ b = w.heap.size; omega)).trans h0, (hu.tch T (by show ¬ g = w.heap.size; omega)).2.1, (hv.tch T (by show ¬ g = w.heap.size; omega)).2.1⟩
  have Hq : Hid _ := fun W => calculate_any 16 u.n v.n (by decide) hu1 hv1 W
  obtain ⟨R, hR⟩ : ∃ R, R = arV 16 u.n v.n := ⟨_, rfl⟩
  rw [← hR] at Hq
  have HR : Hid (hk 16 [u, v] = R) := (show _ = _ from by rw [hR]; rfl)
  have Hw0 : Hid _ := hw0
  clear hR hu1 hv1 hu hv h0 hw0 t0 hgl
  go_enter Tryz.func130, Tryz.ntmps130
  go_wp2_with fail
  rw [← Hw0.out]
  clear e0
  obtain ⟨_, q0, q1, q2⟩ := HC.out w0 (Tch.refl _ _)
  go_region_held3 (fun W => Tch (fun i => i = w.heap.size) w0 W ∧ W.cell? ⟨b, 0, none⟩ = some (.int .i64 16) ∧ W.cell? ⟨g, 1, none⟩ = some (.int .i64 u.n) ∧ W.cell? ⟨g, 4, none⟩ = some (.int .i64 v.n))
    ((refine HC.out _ ?_; first | assumption | exact (Tch.refl _ _).drew | exact no_mono (by assumption) | exact (no_mono (by assumption)).trans' (box_set_tch _ _ _ _ _)))
    ((go_at_call 160; refine (Hq.out _).mono ?_; rintro y v1 ⟨rfl, t1⟩; have V1 : Tch (fun _ => False) w0 v1 := Tch.trans' (Tch.refl _ _).drew t1; obtain ⟨⟨⟨x0, x1, x2⟩, f0, f1, f2⟩, hw⟩ := HB.out _ V1))
  all_goals
    go_wp2_with fail
    obtain ⟨k0, k1, k2⟩ := box_set v1 w.heap.size _ _ _ (.int .i64 R.1.k) (.int .i64 R.1.n) (.string R.1.s) x0 x1 x2
    exact bodyPost_ret (res_ve (j := 4) (m := 5) (by kernel_rfl) _ _ w.heap.size R.1 (.int .i64 R.2) rfl rfl k0 k1 k2) rfl ⟨by rw [HR.out], hw.trans (box_set_tch v1 w.heap.size _ _ _) (fun i hi h => by omega)⟩
theorem hk_17 (b g c : Nat) (u v : Val) (w : World) (h0 : w.cell? ⟨b, 0, none⟩ = some (.int .i64 17)) (hu : VC w g 0 u) (hv : VC w g 3 v) (hu1 : i64v u.n) (hv1 : i64v v.n) :
    Calls Tryz.prog 130 #[.pointer (some ⟨b, 0, none⟩), .slice (some ⟨g, 0, none⟩) 2 c] w fun x w' => x = .returned (.tuple #[vV (hk 17 [u, v]).1, .int .i64 (hk 17 [u, v]).2]) ∧ Tch (fun _ => False) w w' := by
  have hbl : b < w.heap.size := cell_lt h0
  have e0 : ∀ ob, (w.alloc ob).cell? ⟨b, 0, none⟩ = some (.int .i64 17) := fun ob => by rw [World.cell?_alloc_lt _ _ _ hbl]; exact h0
  obtain ⟨w0, hw0⟩ : ∃ w0, w0 = w.alloc (.cells #[.int .i64 0, .int .i64 0, .string ⟨#[]⟩] 29) := ⟨_, rfl⟩
  have t0 : Tch (fun _ => False) w w0 := by rw [hw0]; exact Tch.alloc _ _ _
  have HB : Hid (∀ W, Tch (fun _ => False) w0 W → OneB w.heap.size W ∧ Tch (fun _ => False) w W) := fun W t => ⟨oneB (by rw [← hw0]; exact t), t0.trans' t⟩
  have hgl : g < w.heap.size := cell_lt hu.1
  have HC : Hid (∀ W, Tch (fun i => i = w.heap.size) w0 W → Tch (fun i => i = w.heap.size) w0 W ∧ W.cell? ⟨b, 0, none⟩ = some (.int .i64 17) ∧ W.cell? ⟨g, 1, none⟩ = some (.int .i64 u.n) ∧ W.cell? ⟨g, 4, none⟩ = some (.int .i64 v.n)) := fun W t => by
    have T : Tch (fun i => i = w.heap.size) w W := (t0.mono (fun _ _ h => h.elim)).trans' t
    exact ⟨t, (T.cell (p := ⟨b, 0, none⟩) hbl (by show ¬ b = w.heap.size; omega)).trans h0, (hu.tch T (by show ¬ g = w.heap.size; omega)).2.1, (hv.tch T (by show ¬ g = w.heap.size; omega)).2.1⟩
  have Hq : Hid _ := fun W => calculate_any 17 u.n v.n (by decide) hu1 hv1 W
  obtain ⟨R, hR⟩ : ∃ R, R = arV 17 u.n v.n := ⟨_, rfl⟩
  rw [← hR] at Hq
  have HR : Hid (hk 17 [u, v] = R) := (show _ = _ from by rw [hR]; rfl)
  have Hw0 : Hid _ := hw0
  clear hR hu1 hv1 hu hv h0 hw0 t0 hgl
  go_enter Tryz.func130, Tryz.ntmps130
  go_wp2_with fail
  rw [← Hw0.out]
  clear e0
  obtain ⟨_, q0, q1, q2⟩ := HC.out w0 (Tch.refl _ _)
  go_region_held3 (fun W => Tch (fun i => i = w.heap.size) w0 W ∧ W.cell? ⟨b, 0, none⟩ = some (.int .i64 17) ∧ W.cell? ⟨g, 1, none⟩ = some (.int .i64 u.n) ∧ W.cell? ⟨g, 4, none⟩ = some (.int .i64 v.n))
    ((refine HC.out _ ?_; first | assumption | exact (Tch.refl _ _).drew | exact no_mono (by assumption) | exact (no_mono (by assumption)).trans' (box_set_tch _ _ _ _ _)))
    ((go_at_call 160; refine (Hq.out _).mono ?_; rintro y v1 ⟨rfl, t1⟩; have V1 : Tch (fun _ => False) w0 v1 := Tch.trans' (Tch.refl _ _).drew t1; obtain ⟨⟨⟨x0, x1, x2⟩, f0, f1, f2⟩, hw⟩ := HB.out _ V1))
  all_goals
    go_wp2_with fail
    obtain ⟨k0, k1, k2⟩ := box_set v1 w.heap.size _ _ _ (.int .i64 R.1.k) (.int .i64 R.1.n) (.string R.1.s) x0 x1 x2
    exact bodyPost_ret (res_ve (j := 4) (m := 5) (by kernel_rfl) _ _ w.heap.size R.1 (.int .i64 R.2) rfl rfl k0 k1 k2) rfl ⟨by rw [HR.out], hw.trans (box_set_tch v1 w.heap.size _ _ _) (fun i hi h => by omega)⟩
theorem hk_18 (b g c : Nat) (u v : Val) (w : World) (h0 : w.cell? ⟨b, 0, none⟩ = some (.int .i64 18)) (hu : VC w g 0 u) (hv : VC w g 3 v) (hu1 : i64v u.n) (hv1 : i64v v.n) :
    Calls Tryz.prog 130 #[.pointer (some ⟨b, 0, none⟩), .slice (some ⟨g, 0, none⟩) 2 c] w fun x w' => x = .returned (.tuple #[vV (hk 18 [u, v]).1, .int .i64 (hk 18 [u, v]).2]) ∧ Tch (fun _ => False) w w' := by
  have hbl : b < w.heap.size := cell_lt h0
  have e0 : ∀ ob, (w.alloc ob).cell? ⟨b, 0, none⟩ = some (.int .i64 18) := fun ob => by rw [World.cell?_alloc_lt _ _ _ hbl]; exact h0
  obtain ⟨w0, hw0⟩ : ∃ w0, w0 = w.alloc (.cells #[.int .i64 0, .int .i64 0, .string ⟨#[]⟩] 29) := ⟨_, rfl⟩
  have t0 : Tch (fun _ => False) w w0 := by rw [hw0]; exact Tch.alloc _ _ _
  have HB : Hid (∀ W, Tch (fun _ => False) w0 W → OneB w.heap.size W ∧ Tch (fun _ => False) w W) := fun W t => ⟨oneB (by rw [← hw0]; exact t), t0.trans' t⟩
  have hgl : g < w.heap.size := cell_lt hu.1
  have HC : Hid (∀ W, Tch (fun i => i = w.heap.size) w0 W → Tch (fun i => i = w.heap.size) w0 W ∧ W.cell? ⟨b, 0, none⟩ = some (.int .i64 18) ∧ W.cell? ⟨g, 1, none⟩ = some (.int .i64 u.n) ∧ W.cell? ⟨g, 4, none⟩ = some (.int .i64 v.n)) := fun W t => by
    have T : Tch (fun i => i = w.heap.size) w W := (t0.mono (fun _ _ h => h.elim)).trans' t
    exact ⟨t, (T.cell (p := ⟨b, 0, none⟩) hbl (by show ¬ b = w.heap.size; omega)).trans h0, (hu.tch T (by show ¬ g = w.heap.size; omega)).2.1, (hv.tch T (by show ¬ g = w.heap.size; omega)).2.1⟩
  have Hq : Hid _ := fun W => calculate_any 18 u.n v.n (by decide) hu1 hv1 W
  obtain ⟨R, hR⟩ : ∃ R, R = arV 18 u.n v.n := ⟨_, rfl⟩
  rw [← hR] at Hq
  have HR : Hid (hk 18 [u, v] = R) := (show _ = _ from by rw [hR]; rfl)
  have Hw0 : Hid _ := hw0
  clear hR hu1 hv1 hu hv h0 hw0 t0 hgl
  go_enter Tryz.func130, Tryz.ntmps130
  go_wp2_with fail
  rw [← Hw0.out]
  clear e0
  obtain ⟨_, q0, q1, q2⟩ := HC.out w0 (Tch.refl _ _)
  go_region_held3 (fun W => Tch (fun i => i = w.heap.size) w0 W ∧ W.cell? ⟨b, 0, none⟩ = some (.int .i64 18) ∧ W.cell? ⟨g, 1, none⟩ = some (.int .i64 u.n) ∧ W.cell? ⟨g, 4, none⟩ = some (.int .i64 v.n))
    ((refine HC.out _ ?_; first | assumption | exact (Tch.refl _ _).drew | exact no_mono (by assumption) | exact (no_mono (by assumption)).trans' (box_set_tch _ _ _ _ _)))
    ((go_at_call 160; refine (Hq.out _).mono ?_; rintro y v1 ⟨rfl, t1⟩; have V1 : Tch (fun _ => False) w0 v1 := Tch.trans' (Tch.refl _ _).drew t1; obtain ⟨⟨⟨x0, x1, x2⟩, f0, f1, f2⟩, hw⟩ := HB.out _ V1))
  all_goals
    go_wp2_with fail
    obtain ⟨k0, k1, k2⟩ := box_set v1 w.heap.size _ _ _ (.int .i64 R.1.k) (.int .i64 R.1.n) (.string R.1.s) x0 x1 x2
    exact bodyPost_ret (res_ve (j := 4) (m := 5) (by kernel_rfl) _ _ w.heap.size R.1 (.int .i64 R.2) rfl rfl k0 k1 k2) rfl ⟨by rw [HR.out], hw.trans (box_set_tch v1 w.heap.size _ _ _) (fun i hi h => by omega)⟩
theorem hk_19 (b g c : Nat) (u v : Val) (w : World) (h0 : w.cell? ⟨b, 0, none⟩ = some (.int .i64 19)) (hu : VC w g 0 u) (hv : VC w g 3 v) (hu1 : i64v u.n) (hv1 : i64v v.n) :
    Calls Tryz.prog 130 #[.pointer (some ⟨b, 0, none⟩), .slice (some ⟨g, 0, none⟩) 2 c] w fun x w' => x = .returned (.tuple #[vV (hk 19 [u, v]).1, .int .i64 (hk 19 [u, v]).2]) ∧ Tch (fun _ => False) w w' := by
  have hbl : b < w.heap.size := cell_lt h0
  have e0 : ∀ ob, (w.alloc ob).cell? ⟨b, 0, none⟩ = some (.int .i64 19) := fun ob => by rw [World.cell?_alloc_lt _ _ _ hbl]; exact h0
  obtain ⟨w0, hw0⟩ : ∃ w0, w0 = w.alloc (.cells #[.int .i64 0, .int .i64 0, .string ⟨#[]⟩] 29) := ⟨_, rfl⟩
  have t0 : Tch (fun _ => False) w w0 := by rw [hw0]; exact Tch.alloc _ _ _
  have HB : Hid (∀ W, Tch (fun _ => False) w0 W → OneB w.heap.size W ∧ Tch (fun _ => False) w W) := fun W t => ⟨oneB (by rw [← hw0]; exact t), t0.trans' t⟩
  have hgl : g < w.heap.size := cell_lt hu.1
  have HC : Hid (∀ W, Tch (fun i => i = w.heap.size) w0 W → Tch (fun i => i = w.heap.size) w0 W ∧ W.cell? ⟨b, 0, none⟩ = some (.int .i64 19) ∧ W.cell? ⟨g, 1, none⟩ = some (.int .i64 u.n) ∧ W.cell? ⟨g, 4, none⟩ = some (.int .i64 v.n)) := fun W t => by
    have T : Tch (fun i => i = w.heap.size) w W := (t0.mono (fun _ _ h => h.elim)).trans' t
    exact ⟨t, (T.cell (p := ⟨b, 0, none⟩) hbl (by show ¬ b = w.heap.size; omega)).trans h0, (hu.tch T (by show ¬ g = w.heap.size; omega)).2.1, (hv.tch T (by show ¬ g = w.heap.size; omega)).2.1⟩
  have Hq : Hid _ := fun W => calculate_any 19 u.n v.n (by decide) hu1 hv1 W
  obtain ⟨R, hR⟩ : ∃ R, R = arV 19 u.n v.n := ⟨_, rfl⟩
  rw [← hR] at Hq
  have HR : Hid (hk 19 [u, v] = R) := (show _ = _ from by rw [hR]; rfl)
  have Hw0 : Hid _ := hw0
  clear hR hu1 hv1 hu hv h0 hw0 t0 hgl
  go_enter Tryz.func130, Tryz.ntmps130
  go_wp2_with fail
  rw [← Hw0.out]
  clear e0
  obtain ⟨_, q0, q1, q2⟩ := HC.out w0 (Tch.refl _ _)
  go_region_held3 (fun W => Tch (fun i => i = w.heap.size) w0 W ∧ W.cell? ⟨b, 0, none⟩ = some (.int .i64 19) ∧ W.cell? ⟨g, 1, none⟩ = some (.int .i64 u.n) ∧ W.cell? ⟨g, 4, none⟩ = some (.int .i64 v.n))
    ((refine HC.out _ ?_; first | assumption | exact (Tch.refl _ _).drew | exact no_mono (by assumption) | exact (no_mono (by assumption)).trans' (box_set_tch _ _ _ _ _)))
    ((go_at_call 160; refine (Hq.out _).mono ?_; rintro y v1 ⟨rfl, t1⟩; have V1 : Tch (fun _ => False) w0 v1 := Tch.trans' (Tch.refl _ _).drew t1; obtain ⟨⟨⟨x0, x1, x2⟩, f0, f1, f2⟩, hw⟩ := HB.out _ V1))
  all_goals
    go_wp2_with fail
    obtain ⟨k0, k1, k2⟩ := box_set v1 w.heap.size _ _ _ (.int .i64 R.1.k) (.int .i64 R.1.n) (.string R.1.s) x0 x1 x2
    exact bodyPost_ret (res_ve (j := 4) (m := 5) (by kernel_rfl) _ _ w.heap.size R.1 (.int .i64 R.2) rfl rfl k0 k1 k2) rfl ⟨by rw [HR.out], hw.trans (box_set_tch v1 w.heap.size _ _ _) (fun i hi h => by omega)⟩
theorem hk_20 (b g c : Nat) (u v : Val) (w : World) (h0 : w.cell? ⟨b, 0, none⟩ = some (.int .i64 20)) (hu : VC w g 0 u) (hv : VC w g 3 v) (hu1 : i64v u.n) (hv1 : i64v v.n) :
    Calls Tryz.prog 130 #[.pointer (some ⟨b, 0, none⟩), .slice (some ⟨g, 0, none⟩) 2 c] w fun x w' => x = .returned (.tuple #[vV (hk 20 [u, v]).1, .int .i64 (hk 20 [u, v]).2]) ∧ Tch (fun _ => False) w w' := by
  have hbl : b < w.heap.size := cell_lt h0
  have e0 : ∀ ob, (w.alloc ob).cell? ⟨b, 0, none⟩ = some (.int .i64 20) := fun ob => by rw [World.cell?_alloc_lt _ _ _ hbl]; exact h0
  obtain ⟨w0, hw0⟩ : ∃ w0, w0 = w.alloc (.cells #[.int .i64 0, .int .i64 0, .string ⟨#[]⟩] 29) := ⟨_, rfl⟩
  have t0 : Tch (fun _ => False) w w0 := by rw [hw0]; exact Tch.alloc _ _ _
  have HB : Hid (∀ W, Tch (fun _ => False) w0 W → OneB w.heap.size W ∧ Tch (fun _ => False) w W) := fun W t => ⟨oneB (by rw [← hw0]; exact t), t0.trans' t⟩
  have hgl : g < w.heap.size := cell_lt hu.1
  have HC : Hid (∀ W, Tch (fun i => i = w.heap.size) w0 W → Tch (fun i => i = w.heap.size) w0 W ∧ W.cell? ⟨b, 0, none⟩ = some (.int .i64 20) ∧ W.cell? ⟨g, 1, none⟩ = some (.int .i64 u.n) ∧ W.cell? ⟨g, 4, none⟩ = some (.int .i64 v.n)) := fun W t => by
    have T : Tch (fun i => i = w.heap.size) w W := (t0.mono (fun _ _ h => h.elim)).trans' t
    exact ⟨t, (T.cell (p := ⟨b, 0, none⟩) hbl (by show ¬ b = w.heap.size; omega)).trans h0, (hu.tch T (by show ¬ g = w.heap.size; omega)).2.1, (hv.tch T (by show ¬ g = w.heap.size; omega)).2.1⟩
  have Hq : Hid _ := fun W => calculate_any 20 u.n v.n (by decide) hu1 hv1 W
  obtain ⟨R, hR⟩ : ∃ R, R = arV 20 u.n v.n := ⟨_, rfl⟩
  rw [← hR] at Hq
  have HR : Hid (hk 20 [u, v] = R) := (show _ = _ from by rw [hR]; rfl)
  have Hw0 : Hid _ := hw0
  clear hR hu1 hv1 hu hv h0 hw0 t0 hgl
  go_enter Tryz.func130, Tryz.ntmps130
  go_wp2_with fail
  rw [← Hw0.out]
  clear e0
  obtain ⟨_, q0, q1, q2⟩ := HC.out w0 (Tch.refl _ _)
  go_region_held3 (fun W => Tch (fun i => i = w.heap.size) w0 W ∧ W.cell? ⟨b, 0, none⟩ = some (.int .i64 20) ∧ W.cell? ⟨g, 1, none⟩ = some (.int .i64 u.n) ∧ W.cell? ⟨g, 4, none⟩ = some (.int .i64 v.n))
    ((refine HC.out _ ?_; first | assumption | exact (Tch.refl _ _).drew | exact no_mono (by assumption) | exact (no_mono (by assumption)).trans' (box_set_tch _ _ _ _ _)))
    ((go_at_call 160; refine (Hq.out _).mono ?_; rintro y v1 ⟨rfl, t1⟩; have V1 : Tch (fun _ => False) w0 v1 := Tch.trans' (Tch.refl _ _).drew t1; obtain ⟨⟨⟨x0, x1, x2⟩, f0, f1, f2⟩, hw⟩ := HB.out _ V1))
  all_goals
    go_wp2_with fail
    obtain ⟨k0, k1, k2⟩ := box_set v1 w.heap.size _ _ _ (.int .i64 R.1.k) (.int .i64 R.1.n) (.string R.1.s) x0 x1 x2
    exact bodyPost_ret (res_ve (j := 4) (m := 5) (by kernel_rfl) _ _ w.heap.size R.1 (.int .i64 R.2) rfl rfl k0 k1 k2) rfl ⟨by rw [HR.out], hw.trans (box_set_tch v1 w.heap.size _ _ _) (fun i hi h => by omega)⟩
theorem hk_15 (b g c : Nat) (u v : Val) (w : World) (h0 : w.cell? ⟨b, 0, none⟩ = some (.int .i64 15)) (hu : VC w g 0 u) (hv : VC w g 3 v) (hu1 : u.s.size ≤ 1000000000) (hv1 : v.s.size ≤ 1000000000) :
    Calls Tryz.prog 130 #[.pointer (some ⟨b, 0, none⟩), .slice (some ⟨g, 0, none⟩) 2 c] w fun x w' => x = .returned (.tuple #[vV (hk 15 [u, v]).1, .int .i64 (hk 15 [u, v]).2]) ∧ Tch (fun _ => False) w w' := by
  have hbl : b < w.heap.size := cell_lt h0
  have e0 : ∀ ob, (w.alloc ob).cell? ⟨b, 0, none⟩ = some (.int .i64 15) := fun ob => by rw [World.cell?_alloc_lt _ _ _ hbl]; exact h0
  obtain ⟨w0, hw0⟩ : ∃ w0, w0 = w.alloc (.cells #[.int .i64 0, .int .i64 0, .string ⟨#[]⟩] 29) := ⟨_, rfl⟩
  have t0 : Tch (fun _ => False) w w0 := by rw [hw0]; exact Tch.alloc _ _ _
  have HB : Hid (∀ W, Tch (fun _ => False) w0 W → OneB w.heap.size W ∧ Tch (fun _ => False) w W) := fun W t => ⟨oneB (by rw [← hw0]; exact t), t0.trans' t⟩
  have hgl : g < w.heap.size := cell_lt hu.1
  have HC : Hid (∀ W, Tch (fun i => i = w.heap.size) w0 W → Tch (fun i => i = w.heap.size) w0 W ∧ W.cell? ⟨g, 2, none⟩ = some (.string u.s) ∧ W.cell? ⟨g, 5, none⟩ = some (.string v.s)) := fun W t => by
    have T : Tch (fun i => i = w.heap.size) w W := (t0.mono (fun _ _ h => h.elim)).trans' t
    exact ⟨t, (hu.tch T (by show ¬ g = w.heap.size; omega)).2.2, (hv.tch T (by show ¬ g = w.heap.size; omega)).2.2⟩
  have Hq : Hid _ := fun W => joined_any u.s v.s hu1 hv1 W
  obtain ⟨R, hR⟩ : ∃ R, R = joiV u.s v.s := ⟨_, rfl⟩
  rw [← hR] at Hq
  have HR : Hid (hk 15 [u, v] = R) := (show _ = _ from by rw [hR]; rfl)
  have Hw0 : Hid _ := hw0
  clear hR hu1 hv1 hu hv h0 hw0 t0 hgl
  go_enter Tryz.func130, Tryz.ntmps130
  go_wp2_with fail
  rw [← Hw0.out]
  clear e0
  obtain ⟨_, q0, q1⟩ := HC.out w0 (Tch.refl _ _)
  go_region_held3 (fun W => Tch (fun i => i = w.heap.size) w0 W ∧ W.cell? ⟨g, 2, none⟩ = some (.string u.s) ∧ W.cell? ⟨g, 5, none⟩ = some (.string v.s))
    ((refine HC.out _ ?_; first | assumption | exact (Tch.refl _ _).drew | exact no_mono (by assumption) | exact (no_mono (by assumption)).trans' (box_set_tch _ _ _ _ _)))
    ((go_at_call 162; refine (Hq.out _).mono ?_; rintro y v1 ⟨rfl, t1⟩; have V1 : Tch (fun _ => False) w0 v1 := Tch.trans' (Tch.refl _ _).drew t1; obtain ⟨⟨⟨x0, x1, x2⟩, f0, f1, f2⟩, hw⟩ := HB.out _ V1))
  all_goals
    go_wp2_with fail
    obtain ⟨k0, k1, k2⟩ := box_set v1 w.heap.size _ _ _ (.int .i64 R.1.k) (.int .i64 R.1.n) (.string R.1.s) x0 x1 x2
    exact bodyPost_ret (res_ve (j := 4) (m := 5) (by kernel_rfl) _ _ w.heap.size R.1 (.int .i64 R.2) rfl rfl k0 k1 k2) rfl ⟨by rw [HR.out], hw.trans (box_set_tch v1 w.heap.size _ _ _) (fun i hi h => by omega)⟩
theorem hk_28 (b g c : Nat) (u v z : Val) (w : World) (h0 : w.cell? ⟨b, 0, none⟩ = some (.int .i64 28)) (hu : VC w g 0 u) (hv : VC w g 3 v) (hz : VC w g 6 z) (hu1 : u.s.size ≤ 1000000000) (hv1 : i64v v.n) :
    Calls Tryz.prog 130 #[.pointer (some ⟨b, 0, none⟩), .slice (some ⟨g, 0, none⟩) 3 c] w fun x w' => x = .returned (.tuple #[vV (hk 28 [u, v, z]).1, .int .i64 (hk 28 [u, v, z]).2]) ∧ Tch (fun _ => False) w w' := by
  have hbl : b < w.heap.size := cell_lt h0
  have e0 : ∀ ob, (w.alloc ob).cell? ⟨b, 0, none⟩ = some (.int .i64 28) := fun ob => by rw [World.cell?_alloc_lt _ _ _ hbl]; exact h0
  obtain ⟨w0, hw0⟩ : ∃ w0, w0 = w.alloc (.cells #[.int .i64 0, .int .i64 0, .string ⟨#[]⟩] 29) := ⟨_, rfl⟩
  have t0 : Tch (fun _ => False) w w0 := by rw [hw0]; exact Tch.alloc _ _ _
  have HB : Hid (∀ W, Tch (fun _ => False) w0 W → OneB w.heap.size W ∧ Tch (fun _ => False) w W) := fun W t => ⟨oneB (by rw [← hw0]; exact t), t0.trans' t⟩
  have hgl : g < w.heap.size := cell_lt hu.1
  have HC : Hid (∀ W, Tch (fun i => i = w.heap.size) w0 W → Tch (fun i => i = w.heap.size) w0 W ∧ W.cell? ⟨g, 2, none⟩ = some (.string u.s) ∧ W.cell? ⟨g, 4, none⟩ = some (.int .i64 v.n) ∧ W.cell? ⟨g, 7, none⟩ = some (.int .i64 z.n)) := fun W t => by
    have T : Tch (fun i => i = w.heap.size) w W := (t0.mono (fun _ _ h => h.elim)).trans' t
    exact ⟨t, (hu.tch T (by show ¬ g = w.heap.size; omega)).2.2, (hv.tch T (by show ¬ g = w.heap.size; omega)).2.1, (hz.tch T (by show ¬ g = w.heap.size; omega)).2.1⟩
  have Hq : Hid _ := fun W => cut_any u.s v.n z.n hu1 hv1 W
  obtain ⟨R, hR⟩ : ∃ R, R = cutV u.s v.n z.n := ⟨_, rfl⟩
  rw [← hR] at Hq
  have HR : Hid (hk 28 [u, v, z] = R) := (show _ = _ from by rw [hR]; rfl)
  have Hw0 : Hid _ := hw0
  clear hR hu1 hv1 hu hv hz h0 hw0 t0 hgl
  go_enter Tryz.func130, Tryz.ntmps130
  go_wp2_with fail
  rw [← Hw0.out]
  clear e0
  obtain ⟨_, q0, q1, q2⟩ := HC.out w0 (Tch.refl _ _)
  go_region_held3 (fun W => Tch (fun i => i = w.heap.size) w0 W ∧ W.cell? ⟨g, 2, none⟩ = some (.string u.s) ∧ W.cell? ⟨g, 4, none⟩ = some (.int .i64 v.n) ∧ W.cell? ⟨g, 7, none⟩ = some (.int .i64 z.n))
    ((refine HC.out _ ?_; first | assumption | exact (Tch.refl _ _).drew | exact no_mono (by assumption) | exact (no_mono (by assumption)).trans' (box_set_tch _ _ _ _ _)))
    ((go_at_call 167; refine (Hq.out _).mono ?_; rintro y v1 ⟨rfl, t1⟩; have V1 : Tch (fun _ => False) w0 v1 := Tch.trans' (Tch.refl _ _).drew t1; obtain ⟨⟨⟨x0, x1, x2⟩, f0, f1, f2⟩, hw⟩ := HB.out _ V1))
  all_goals
    go_wp2_with fail
    obtain ⟨k0, k1, k2⟩ := box_set v1 w.heap.size _ _ _ (.int .i64 R.1.k) (.int .i64 R.1.n) (.string R.1.s) x0 x1 x2
    exact bodyPost_ret (res_ve (j := 4) (m := 5) (by kernel_rfl) _ _ w.heap.size R.1 (.int .i64 R.2) rfl rfl k0 k1 k2) rfl ⟨by rw [HR.out], hw.trans (box_set_tch v1 w.heap.size _ _ _) (fun i hi h => by omega)⟩
theorem hk_14 (b g c : Nat) (u v : Val) (w : World) (h0 : w.cell? ⟨b, 0, none⟩ = some (.int .i64 14)) (hu : VC w g 0 u) (hv : VC w g 3 v) (hu1 : u.s.size ≤ 1000000000) (hv1 : v.s.size ≤ 1000000000) :
    Calls Tryz.prog 130 #[.pointer (some ⟨b, 0, none⟩), .slice (some ⟨g, 0, none⟩) 2 c] w fun x w' => x = .returned (.tuple #[vV (hk 14 [u, v]).1, .int .i64 (hk 14 [u, v]).2]) ∧ Tch (fun _ => False) w w' := by
  have hbl : b < w.heap.size := cell_lt h0
  have e0 : ∀ ob, (w.alloc ob).cell? ⟨b, 0, none⟩ = some (.int .i64 14) := fun ob => by rw [World.cell?_alloc_lt _ _ _ hbl]; exact h0
  obtain ⟨w0, hw0⟩ : ∃ w0, w0 = w.alloc (.cells #[.int .i64 0, .int .i64 0, .string ⟨#[]⟩] 29) := ⟨_, rfl⟩
  have t0 : Tch (fun _ => False) w w0 := by rw [hw0]; exact Tch.alloc _ _ _
  have HB : Hid (∀ W, Tch (fun _ => False) w0 W → OneB w.heap.size W ∧ Tch (fun _ => False) w W) := fun W t => ⟨oneB (by rw [← hw0]; exact t), t0.trans' t⟩
  have hgl : g < w.heap.size := cell_lt hu.1
  have HC : Hid (∀ W, Tch (fun i => i = w.heap.size) w0 W → Tch (fun i => i = w.heap.size) w0 W ∧ W.cell? ⟨g, 2, none⟩ = some (.string u.s) ∧ W.cell? ⟨g, 5, none⟩ = some (.string v.s)) := fun W t => by
    have T : Tch (fun i => i = w.heap.size) w W := (t0.mono (fun _ _ h => h.elim)).trans' t
    exact ⟨t, (hu.tch T (by show ¬ g = w.heap.size; omega)).2.2, (hv.tch T (by show ¬ g = w.heap.size; omega)).2.2⟩
  have Hq1 : Hid _ := fun W => fits11_any u.s v.s hu1 hv1 W
  obtain ⟨r, hr⟩ : ∃ r, r = lkM u.s.data.toList v.s.data.toList := ⟨_, rfl⟩
  have Hq2 : Hid _ := fun W => truth_any r W
  obtain ⟨R, hR⟩ : ∃ R, R = tr r := ⟨_, rfl⟩
  rw [← hr] at Hq1
  rw [← hR] at Hq2
  have HR : Hid (hk 14 [u, v] = (R, 0)) := (show _ = _ from by rw [hR, hr]; rfl)
  have Hw0 : Hid _ := hw0
  clear hR hr hu1 hv1 hu hv h0 hw0 t0 hgl
  go_enter Tryz.func130, Tryz.ntmps130
  go_wp2_with fail
  rw [← Hw0.out]
  clear e0
  obtain ⟨_, q0, q1⟩ := HC.out w0 (Tch.refl _ _)
  go_region_held3 (fun W => Tch (fun i => i = w.heap.size) w0 W ∧ W.cell? ⟨g, 2, none⟩ = some (.string u.s) ∧ W.cell? ⟨g, 5, none⟩ = some (.string v.s))
    ((refine HC.out _ ?_; first | assumption | exact (Tch.refl _ _).drew | exact no_mono (by assumption) | exact (no_mono (by assumption)).trans' (box_set_tch _ _ _ _ _)))
    (first | (go_at_call 163; refine (Hq1.out _).mono ?_; rintro y v1 ⟨rfl, t1⟩; have V1 : Tch (fun _ => False) w0 v1 := Tch.trans' (Tch.refl _ _).drew t1) | (go_at_call 93; refine (Hq2.out _).mono ?_; rintro y v2 ⟨rfl, t2⟩; have V2 : Tch (fun _ => False) w0 v2 := Tch.trans' V1 t2; obtain ⟨⟨⟨x0, x1, x2⟩, f0, f1, f2⟩, hw⟩ := HB.out _ V2))
  all_goals
    go_wp2_with fail
    obtain ⟨k0, k1, k2⟩ := box_set v2 w.heap.size _ _ _ (.int .i64 R.k) (.int .i64 R.n) (.string R.s) x0 x1 x2
    exact bodyPost_ret (res_ve (j := 4) (m := 5) (by kernel_rfl) _ _ w.heap.size R (.int .i64 0) rfl rfl k0 k1 k2) rfl ⟨by rw [HR.out], hw.trans (box_set_tch v2 w.heap.size _ _ _) (fun i hi h => by omega)⟩
theorem hk_5 (b g c : Nat) (u v : Val) (w : World) (h0 : w.cell? ⟨b, 0, none⟩ = some (.int .i64 5)) (hu : VC w g 0 u) (hv : VC w g 3 v) :
    Calls Tryz.prog 130 #[.pointer (some ⟨b, 0, none⟩), .slice (some ⟨g, 0, none⟩) 2 c] w fun x w' => x = .returned (.tuple #[vV (hk 5 [u, v]).1, .int .i64 (hk 5 [u, v]).2]) ∧ Tch (fun _ => False) w w' := by
  have hbl : b < w.heap.size := cell_lt h0
  have e0 : ∀ ob, (w.alloc ob).cell? ⟨b, 0, none⟩ = some (.int .i64 5) := fun ob => by rw [World.cell?_alloc_lt _ _ _ hbl]; exact h0
  obtain ⟨w0, hw0⟩ : ∃ w0, w0 = w.alloc (.cells #[.int .i64 0, .int .i64 0, .string ⟨#[]⟩] 29) := ⟨_, rfl⟩
  have t0 : Tch (fun _ => False) w w0 := by rw [hw0]; exact Tch.alloc _ _ _
  have HB : Hid (∀ W, Tch (fun _ => False) w0 W → OneB w.heap.size W ∧ Tch (fun _ => False) w W) := fun W t => ⟨oneB (by rw [← hw0]; exact t), t0.trans' t⟩
  have hgl : g < w.heap.size := cell_lt hu.1
  have HC : Hid (∀ W, Tch (fun i => i = w.heap.size) w0 W → Tch (fun i => i = w.heap.size) w0 W ∧ W.cell? ⟨b, 0, none⟩ = some (.int .i64 5) ∧ W.cell? ⟨g, 0, none⟩ = some (.int .i64 u.k) ∧ W.cell? ⟨g, 1, none⟩ = some (.int .i64 u.n) ∧ W.cell? ⟨g, 2, none⟩ = some (.string u.s) ∧ W.cell? ⟨g, 3, none⟩ = some (.int .i64 v.k) ∧ W.cell? ⟨g, 4, none⟩ = some (.int .i64 v.n) ∧ W.cell? ⟨g, 5, none⟩ = some (.string v.s)) := fun W t => by
    have T : Tch (fun i => i = w.heap.size) w W := (t0.mono (fun _ _ h => h.elim)).trans' t
    exact ⟨t, (T.cell (p := ⟨b, 0, none⟩) hbl (by show ¬ b = w.heap.size; omega)).trans h0, (hu.tch T (by show ¬ g = w.heap.size; omega)).1, (hu.tch T (by show ¬ g = w.heap.size; omega)).2.1, (hu.tch T (by show ¬ g = w.heap.size; omega)).2.2, (hv.tch T (by show ¬ g = w.heap.size; omega)).1, (hv.tch T (by show ¬ g = w.heap.size; omega)).2.1, (hv.tch T (by show ¬ g = w.heap.size; omega)).2.2⟩
  obtain ⟨k, hk'⟩ : ∃ k, k = cmpV u v := ⟨_, rfl⟩
  have Hq1 : Hid (∀ W, Calls Tryz.prog 155 #[vA u.k u.n u.s, vA v.k v.n v.s] W fun x w' => x = .returned (.int .i64 k) ∧ Tch (fun _ => False) W w') := fun W => by rw [hk']; exact compare_any u v W
  obtain ⟨r, hr⟩ : ∃ r, r = cmps 5 k := ⟨_, rfl⟩
  have Hq2 : Hid (∀ W, Calls Tryz.prog 157 #[.int .i64 5, .int .i64 k] W fun x w' => x = .returned (.bool r) ∧ w' = W) := fun W => by rw [hr]; exact compares_any 5 k W
  have Hq3 : Hid _ := fun W => truth_any r W
  obtain ⟨R, hR⟩ : ∃ R, R = tr r := ⟨_, rfl⟩
  rw [← hR] at Hq3
  have HR : Hid (hk 5 [u, v] = (R, 0)) := (show _ = _ from by rw [hR, hr, hk']; rfl)
  have Hw0 : Hid _ := hw0
  clear hR hr hk' hu hv h0 hw0 t0 hgl
  go_enter Tryz.func130, Tryz.ntmps130
  go_wp2_with fail
  rw [← Hw0.out]
  clear e0
  obtain ⟨_, q0, q1, q2, q3, q4, q5, q6⟩ := HC.out w0 (Tch.refl _ _)
  go_region_held3 (fun W => Tch (fun i => i = w.heap.size) w0 W ∧ W.cell? ⟨b, 0, none⟩ = some (.int .i64 5) ∧ W.cell? ⟨g, 0, none⟩ = some (.int .i64 u.k) ∧ W.cell? ⟨g, 1, none⟩ = some (.int .i64 u.n) ∧ W.cell? ⟨g, 2, none⟩ = some (.string u.s) ∧ W.cell? ⟨g, 3, none⟩ = some (.int .i64 v.k) ∧ W.cell? ⟨g, 4, none⟩ = some (.int .i64 v.n) ∧ W.cell? ⟨g, 5, none⟩ = some (.string v.s))
    ((refine HC.out _ ?_; first | assumption | exact (Tch.refl _ _).drew | exact no_mono (by assumption) | exact (no_mono (by assumption)).trans' (box_set_tch _ _ _ _ _)))
    (first | (go_at_call 155; refine (Hq1.out _).mono ?_; rintro y v1 ⟨rfl, t1⟩; have V1 : Tch (fun _ => False) w0 v1 := by first | exact Tch.trans' (Tch.refl _ _).drew t1 | exact Tch.trans' (Tch.refl _ _) t1) | (go_at_call 157; refine (Hq2.out _).mono ?_; rintro y v2 ⟨rfl, rfl⟩) | (go_at_call 93; refine (Hq3.out _).mono ?_; rintro y v3 ⟨rfl, t3⟩; have V3 : Tch (fun _ => False) w0 v3 := Tch.trans' V1 t3; obtain ⟨⟨⟨x0, x1, x2⟩, f0, f1, f2⟩, hw⟩ := HB.out _ V3))
  all_goals
    go_wp2_with fail
    obtain ⟨k0, k1, k2⟩ := box_set v3 w.heap.size _ _ _ (.int .i64 R.k) (.int .i64 R.n) (.string R.s) x0 x1 x2
    exact bodyPost_ret (res_ve (j := 4) (m := 5) (by kernel_rfl) _ _ w.heap.size R (.int .i64 0) rfl rfl k0 k1 k2) rfl ⟨by rw [HR.out], hw.trans (box_set_tch v3 w.heap.size _ _ _) (fun i hi h => by omega)⟩
theorem hk_6 (b g c : Nat) (u v : Val) (w : World) (h0 : w.cell? ⟨b, 0, none⟩ = some (.int .i64 6)) (hu : VC w g 0 u) (hv : VC w g 3 v) :
    Calls Tryz.prog 130 #[.pointer (some ⟨b, 0, none⟩), .slice (some ⟨g, 0, none⟩) 2 c] w fun x w' => x = .returned (.tuple #[vV (hk 6 [u, v]).1, .int .i64 (hk 6 [u, v]).2]) ∧ Tch (fun _ => False) w w' := by
  have hbl : b < w.heap.size := cell_lt h0
  have e0 : ∀ ob, (w.alloc ob).cell? ⟨b, 0, none⟩ = some (.int .i64 6) := fun ob => by rw [World.cell?_alloc_lt _ _ _ hbl]; exact h0
  obtain ⟨w0, hw0⟩ : ∃ w0, w0 = w.alloc (.cells #[.int .i64 0, .int .i64 0, .string ⟨#[]⟩] 29) := ⟨_, rfl⟩
  have t0 : Tch (fun _ => False) w w0 := by rw [hw0]; exact Tch.alloc _ _ _
  have HB : Hid (∀ W, Tch (fun _ => False) w0 W → OneB w.heap.size W ∧ Tch (fun _ => False) w W) := fun W t => ⟨oneB (by rw [← hw0]; exact t), t0.trans' t⟩
  have hgl : g < w.heap.size := cell_lt hu.1
  have HC : Hid (∀ W, Tch (fun i => i = w.heap.size) w0 W → Tch (fun i => i = w.heap.size) w0 W ∧ W.cell? ⟨b, 0, none⟩ = some (.int .i64 6) ∧ W.cell? ⟨g, 0, none⟩ = some (.int .i64 u.k) ∧ W.cell? ⟨g, 1, none⟩ = some (.int .i64 u.n) ∧ W.cell? ⟨g, 2, none⟩ = some (.string u.s) ∧ W.cell? ⟨g, 3, none⟩ = some (.int .i64 v.k) ∧ W.cell? ⟨g, 4, none⟩ = some (.int .i64 v.n) ∧ W.cell? ⟨g, 5, none⟩ = some (.string v.s)) := fun W t => by
    have T : Tch (fun i => i = w.heap.size) w W := (t0.mono (fun _ _ h => h.elim)).trans' t
    exact ⟨t, (T.cell (p := ⟨b, 0, none⟩) hbl (by show ¬ b = w.heap.size; omega)).trans h0, (hu.tch T (by show ¬ g = w.heap.size; omega)).1, (hu.tch T (by show ¬ g = w.heap.size; omega)).2.1, (hu.tch T (by show ¬ g = w.heap.size; omega)).2.2, (hv.tch T (by show ¬ g = w.heap.size; omega)).1, (hv.tch T (by show ¬ g = w.heap.size; omega)).2.1, (hv.tch T (by show ¬ g = w.heap.size; omega)).2.2⟩
  obtain ⟨k, hk'⟩ : ∃ k, k = cmpV u v := ⟨_, rfl⟩
  have Hq1 : Hid (∀ W, Calls Tryz.prog 155 #[vA u.k u.n u.s, vA v.k v.n v.s] W fun x w' => x = .returned (.int .i64 k) ∧ Tch (fun _ => False) W w') := fun W => by rw [hk']; exact compare_any u v W
  obtain ⟨r, hr⟩ : ∃ r, r = cmps 6 k := ⟨_, rfl⟩
  have Hq2 : Hid (∀ W, Calls Tryz.prog 157 #[.int .i64 6, .int .i64 k] W fun x w' => x = .returned (.bool r) ∧ w' = W) := fun W => by rw [hr]; exact compares_any 6 k W
  have Hq3 : Hid _ := fun W => truth_any r W
  obtain ⟨R, hR⟩ : ∃ R, R = tr r := ⟨_, rfl⟩
  rw [← hR] at Hq3
  have HR : Hid (hk 6 [u, v] = (R, 0)) := (show _ = _ from by rw [hR, hr, hk']; rfl)
  have Hw0 : Hid _ := hw0
  clear hR hr hk' hu hv h0 hw0 t0 hgl
  go_enter Tryz.func130, Tryz.ntmps130
  go_wp2_with fail
  rw [← Hw0.out]
  clear e0
  obtain ⟨_, q0, q1, q2, q3, q4, q5, q6⟩ := HC.out w0 (Tch.refl _ _)
  go_region_held3 (fun W => Tch (fun i => i = w.heap.size) w0 W ∧ W.cell? ⟨b, 0, none⟩ = some (.int .i64 6) ∧ W.cell? ⟨g, 0, none⟩ = some (.int .i64 u.k) ∧ W.cell? ⟨g, 1, none⟩ = some (.int .i64 u.n) ∧ W.cell? ⟨g, 2, none⟩ = some (.string u.s) ∧ W.cell? ⟨g, 3, none⟩ = some (.int .i64 v.k) ∧ W.cell? ⟨g, 4, none⟩ = some (.int .i64 v.n) ∧ W.cell? ⟨g, 5, none⟩ = some (.string v.s))
    ((refine HC.out _ ?_; first | assumption | exact (Tch.refl _ _).drew | exact no_mono (by assumption) | exact (no_mono (by assumption)).trans' (box_set_tch _ _ _ _ _)))
    (first | (go_at_call 155; refine (Hq1.out _).mono ?_; rintro y v1 ⟨rfl, t1⟩; have V1 : Tch (fun _ => False) w0 v1 := by first | exact Tch.trans' (Tch.refl _ _).drew t1 | exact Tch.trans' (Tch.refl _ _) t1) | (go_at_call 157; refine (Hq2.out _).mono ?_; rintro y v2 ⟨rfl, rfl⟩) | (go_at_call 93; refine (Hq3.out _).mono ?_; rintro y v3 ⟨rfl, t3⟩; have V3 : Tch (fun _ => False) w0 v3 := Tch.trans' V1 t3; obtain ⟨⟨⟨x0, x1, x2⟩, f0, f1, f2⟩, hw⟩ := HB.out _ V3))
  all_goals
    go_wp2_with fail
    obtain ⟨k0, k1, k2⟩ := box_set v3 w.heap.size _ _ _ (.int .i64 R.k) (.int .i64 R.n) (.string R.s) x0 x1 x2
    exact bodyPost_ret (res_ve (j := 4) (m := 5) (by kernel_rfl) _ _ w.heap.size R (.int .i64 0) rfl rfl k0 k1 k2) rfl ⟨by rw [HR.out], hw.trans (box_set_tch v3 w.heap.size _ _ _) (fun i hi h => by omega)⟩
theorem hk_7 (b g c : Nat) (u v : Val) (w : World) (h0 : w.cell? ⟨b, 0, none⟩ = some (.int .i64 7)) (hu : VC w g 0 u) (hv : VC w g 3 v) :
    Calls Tryz.prog 130 #[.pointer (some ⟨b, 0, none⟩), .slice (some ⟨g, 0, none⟩) 2 c] w fun x w' => x = .returned (.tuple #[vV (hk 7 [u, v]).1, .int .i64 (hk 7 [u, v]).2]) ∧ Tch (fun _ => False) w w' := by
  have hbl : b < w.heap.size := cell_lt h0
  have e0 : ∀ ob, (w.alloc ob).cell? ⟨b, 0, none⟩ = some (.int .i64 7) := fun ob => by rw [World.cell?_alloc_lt _ _ _ hbl]; exact h0
  obtain ⟨w0, hw0⟩ : ∃ w0, w0 = w.alloc (.cells #[.int .i64 0, .int .i64 0, .string ⟨#[]⟩] 29) := ⟨_, rfl⟩
  have t0 : Tch (fun _ => False) w w0 := by rw [hw0]; exact Tch.alloc _ _ _
  have HB : Hid (∀ W, Tch (fun _ => False) w0 W → OneB w.heap.size W ∧ Tch (fun _ => False) w W) := fun W t => ⟨oneB (by rw [← hw0]; exact t), t0.trans' t⟩
  have hgl : g < w.heap.size := cell_lt hu.1
  have HC : Hid (∀ W, Tch (fun i => i = w.heap.size) w0 W → Tch (fun i => i = w.heap.size) w0 W ∧ W.cell? ⟨b, 0, none⟩ = some (.int .i64 7) ∧ W.cell? ⟨g, 0, none⟩ = some (.int .i64 u.k) ∧ W.cell? ⟨g, 1, none⟩ = some (.int .i64 u.n) ∧ W.cell? ⟨g, 2, none⟩ = some (.string u.s) ∧ W.cell? ⟨g, 3, none⟩ = some (.int .i64 v.k) ∧ W.cell? ⟨g, 4, none⟩ = some (.int .i64 v.n) ∧ W.cell? ⟨g, 5, none⟩ = some (.string v.s)) := fun W t => by
    have T : Tch (fun i => i = w.heap.size) w W := (t0.mono (fun _ _ h => h.elim)).trans' t
    exact ⟨t, (T.cell (p := ⟨b, 0, none⟩) hbl (by show ¬ b = w.heap.size; omega)).trans h0, (hu.tch T (by show ¬ g = w.heap.size; omega)).1, (hu.tch T (by show ¬ g = w.heap.size; omega)).2.1, (hu.tch T (by show ¬ g = w.heap.size; omega)).2.2, (hv.tch T (by show ¬ g = w.heap.size; omega)).1, (hv.tch T (by show ¬ g = w.heap.size; omega)).2.1, (hv.tch T (by show ¬ g = w.heap.size; omega)).2.2⟩
  obtain ⟨k, hk'⟩ : ∃ k, k = cmpV u v := ⟨_, rfl⟩
  have Hq1 : Hid (∀ W, Calls Tryz.prog 155 #[vA u.k u.n u.s, vA v.k v.n v.s] W fun x w' => x = .returned (.int .i64 k) ∧ Tch (fun _ => False) W w') := fun W => by rw [hk']; exact compare_any u v W
  obtain ⟨r, hr⟩ : ∃ r, r = cmps 7 k := ⟨_, rfl⟩
  have Hq2 : Hid (∀ W, Calls Tryz.prog 157 #[.int .i64 7, .int .i64 k] W fun x w' => x = .returned (.bool r) ∧ w' = W) := fun W => by rw [hr]; exact compares_any 7 k W
  have Hq3 : Hid _ := fun W => truth_any r W
  obtain ⟨R, hR⟩ : ∃ R, R = tr r := ⟨_, rfl⟩
  rw [← hR] at Hq3
  have HR : Hid (hk 7 [u, v] = (R, 0)) := (show _ = _ from by rw [hR, hr, hk']; rfl)
  have Hw0 : Hid _ := hw0
  clear hR hr hk' hu hv h0 hw0 t0 hgl
  go_enter Tryz.func130, Tryz.ntmps130
  go_wp2_with fail
  rw [← Hw0.out]
  clear e0
  obtain ⟨_, q0, q1, q2, q3, q4, q5, q6⟩ := HC.out w0 (Tch.refl _ _)
  go_region_held3 (fun W => Tch (fun i => i = w.heap.size) w0 W ∧ W.cell? ⟨b, 0, none⟩ = some (.int .i64 7) ∧ W.cell? ⟨g, 0, none⟩ = some (.int .i64 u.k) ∧ W.cell? ⟨g, 1, none⟩ = some (.int .i64 u.n) ∧ W.cell? ⟨g, 2, none⟩ = some (.string u.s) ∧ W.cell? ⟨g, 3, none⟩ = some (.int .i64 v.k) ∧ W.cell? ⟨g, 4, none⟩ = some (.int .i64 v.n) ∧ W.cell? ⟨g, 5, none⟩ = some (.string v.s))
    ((refine HC.out _ ?_; first | assumption | exact (Tch.refl _ _).drew | exact no_mono (by assumption) | exact (no_mono (by assumption)).trans' (box_set_tch _ _ _ _ _)))
    (first | (go_at_call 155; refine (Hq1.out _).mono ?_; rintro y v1 ⟨rfl, t1⟩; have V1 : Tch (fun _ => False) w0 v1 := by first | exact Tch.trans' (Tch.refl _ _).drew t1 | exact Tch.trans' (Tch.refl _ _) t1) | (go_at_call 157; refine (Hq2.out _).mono ?_; rintro y v2 ⟨rfl, rfl⟩) | (go_at_call 93; refine (Hq3.out _).mono ?_; rintro y v3 ⟨rfl, t3⟩; have V3 : Tch (fun _ => False) w0 v3 := Tch.trans' V1 t3; obtain ⟨⟨⟨x0, x1, x2⟩, f0, f1, f2⟩, hw⟩ := HB.out _ V3))
  all_goals
    go_wp2_with fail
    obtain ⟨k0, k1, k2⟩ := box_set v3 w.heap.size _ _ _ (.int .i64 R.k) (.int .i64 R.n) (.string R.s) x0 x1 x2
    exact bodyPost_ret (res_ve (j := 4) (m := 5) (by kernel_rfl) _ _ w.heap.size R (.int .i64 0) rfl rfl k0 k1 k2) rfl ⟨by rw [HR.out], hw.trans (box_set_tch v3 w.heap.size _ _ _) (fun i hi h => by omega)⟩
theorem hk_8 (b g c : Nat) (u v : Val) (w : World) (h0 : w.cell? ⟨b, 0, none⟩ = some (.int .i64 8)) (hu : VC w g 0 u) (hv : VC w g 3 v) :
    Calls Tryz.prog 130 #[.pointer (some ⟨b, 0, none⟩), .slice (some ⟨g, 0, none⟩) 2 c] w fun x w' => x = .returned (.tuple #[vV (hk 8 [u, v]).1, .int .i64 (hk 8 [u, v]).2]) ∧ Tch (fun _ => False) w w' := by
  have hbl : b < w.heap.size := cell_lt h0
  have e0 : ∀ ob, (w.alloc ob).cell? ⟨b, 0, none⟩ = some (.int .i64 8) := fun ob => by rw [World.cell?_alloc_lt _ _ _ hbl]; exact h0
  obtain ⟨w0, hw0⟩ : ∃ w0, w0 = w.alloc (.cells #[.int .i64 0, .int .i64 0, .string ⟨#[]⟩] 29) := ⟨_, rfl⟩
  have t0 : Tch (fun _ => False) w w0 := by rw [hw0]; exact Tch.alloc _ _ _
  have HB : Hid (∀ W, Tch (fun _ => False) w0 W → OneB w.heap.size W ∧ Tch (fun _ => False) w W) := fun W t => ⟨oneB (by rw [← hw0]; exact t), t0.trans' t⟩
  have hgl : g < w.heap.size := cell_lt hu.1
  have HC : Hid (∀ W, Tch (fun i => i = w.heap.size) w0 W → Tch (fun i => i = w.heap.size) w0 W ∧ W.cell? ⟨b, 0, none⟩ = some (.int .i64 8) ∧ W.cell? ⟨g, 0, none⟩ = some (.int .i64 u.k) ∧ W.cell? ⟨g, 1, none⟩ = some (.int .i64 u.n) ∧ W.cell? ⟨g, 2, none⟩ = some (.string u.s) ∧ W.cell? ⟨g, 3, none⟩ = some (.int .i64 v.k) ∧ W.cell? ⟨g, 4, none⟩ = some (.int .i64 v.n) ∧ W.cell? ⟨g, 5, none⟩ = some (.string v.s)) := fun W t => by
    have T : Tch (fun i => i = w.heap.size) w W := (t0.mono (fun _ _ h => h.elim)).trans' t
    exact ⟨t, (T.cell (p := ⟨b, 0, none⟩) hbl (by show ¬ b = w.heap.size; omega)).trans h0, (hu.tch T (by show ¬ g = w.heap.size; omega)).1, (hu.tch T (by show ¬ g = w.heap.size; omega)).2.1, (hu.tch T (by show ¬ g = w.heap.size; omega)).2.2, (hv.tch T (by show ¬ g = w.heap.size; omega)).1, (hv.tch T (by show ¬ g = w.heap.size; omega)).2.1, (hv.tch T (by show ¬ g = w.heap.size; omega)).2.2⟩
  obtain ⟨k, hk'⟩ : ∃ k, k = cmpV u v := ⟨_, rfl⟩
  have Hq1 : Hid (∀ W, Calls Tryz.prog 155 #[vA u.k u.n u.s, vA v.k v.n v.s] W fun x w' => x = .returned (.int .i64 k) ∧ Tch (fun _ => False) W w') := fun W => by rw [hk']; exact compare_any u v W
  obtain ⟨r, hr⟩ : ∃ r, r = cmps 8 k := ⟨_, rfl⟩
  have Hq2 : Hid (∀ W, Calls Tryz.prog 157 #[.int .i64 8, .int .i64 k] W fun x w' => x = .returned (.bool r) ∧ w' = W) := fun W => by rw [hr]; exact compares_any 8 k W
  have Hq3 : Hid _ := fun W => truth_any r W
  obtain ⟨R, hR⟩ : ∃ R, R = tr r := ⟨_, rfl⟩
  rw [← hR] at Hq3
  have HR : Hid (hk 8 [u, v] = (R, 0)) := (show _ = _ from by rw [hR, hr, hk']; rfl)
  have Hw0 : Hid _ := hw0
  clear hR hr hk' hu hv h0 hw0 t0 hgl
  go_enter Tryz.func130, Tryz.ntmps130
  go_wp2_with fail
  rw [← Hw0.out]
  clear e0
  obtain ⟨_, q0, q1, q2, q3, q4, q5, q6⟩ := HC.out w0 (Tch.refl _ _)
  go_region_held3 (fun W => Tch (fun i => i = w.heap.size) w0 W ∧ W.cell? ⟨b, 0, none⟩ = some (.int .i64 8) ∧ W.cell? ⟨g, 0, none⟩ = some (.int .i64 u.k) ∧ W.cell? ⟨g, 1, none⟩ = some (.int .i64 u.n) ∧ W.cell? ⟨g, 2, none⟩ = some (.string u.s) ∧ W.cell? ⟨g, 3, none⟩ = some (.int .i64 v.k) ∧ W.cell? ⟨g, 4, none⟩ = some (.int .i64 v.n) ∧ W.cell? ⟨g, 5, none⟩ = some (.string v.s))
    ((refine HC.out _ ?_; first | assumption | exact (Tch.refl _ _).drew | exact no_mono (by assumption) | exact (no_mono (by assumption)).trans' (box_set_tch _ _ _ _ _)))
    (first | (go_at_call 155; refine (Hq1.out _).mono ?_; rintro y v1 ⟨rfl, t1⟩; have V1 : Tch (fun _ => False) w0 v1 := by first | exact Tch.trans' (Tch.refl _ _).drew t1 | exact Tch.trans' (Tch.refl _ _) t1) | (go_at_call 157; refine (Hq2.out _).mono ?_; rintro y v2 ⟨rfl, rfl⟩) | (go_at_call 93; refine (Hq3.out _).mono ?_; rintro y v3 ⟨rfl, t3⟩; have V3 : Tch (fun _ => False) w0 v3 := Tch.trans' V1 t3; obtain ⟨⟨⟨x0, x1, x2⟩, f0, f1, f2⟩, hw⟩ := HB.out _ V3))
  all_goals
    go_wp2_with fail
    obtain ⟨k0, k1, k2⟩ := box_set v3 w.heap.size _ _ _ (.int .i64 R.k) (.int .i64 R.n) (.string R.s) x0 x1 x2
    exact bodyPost_ret (res_ve (j := 4) (m := 5) (by kernel_rfl) _ _ w.heap.size R (.int .i64 0) rfl rfl k0 k1 k2) rfl ⟨by rw [HR.out], hw.trans (box_set_tch v3 w.heap.size _ _ _) (fun i hi h => by omega)⟩
theorem hk_9 (b g c : Nat) (u v : Val) (w : World) (h0 : w.cell? ⟨b, 0, none⟩ = some (.int .i64 9)) (hu : VC w g 0 u) (hv : VC w g 3 v) :
    Calls Tryz.prog 130 #[.pointer (some ⟨b, 0, none⟩), .slice (some ⟨g, 0, none⟩) 2 c] w fun x w' => x = .returned (.tuple #[vV (hk 9 [u, v]).1, .int .i64 (hk 9 [u, v]).2]) ∧ Tch (fun _ => False) w w' := by
  have hbl : b < w.heap.size := cell_lt h0
  have e0 : ∀ ob, (w.alloc ob).cell? ⟨b, 0, none⟩ = some (.int .i64 9) := fun ob => by rw [World.cell?_alloc_lt _ _ _ hbl]; exact h0
  obtain ⟨w0, hw0⟩ : ∃ w0, w0 = w.alloc (.cells #[.int .i64 0, .int .i64 0, .string ⟨#[]⟩] 29) := ⟨_, rfl⟩
  have t0 : Tch (fun _ => False) w w0 := by rw [hw0]; exact Tch.alloc _ _ _
  have HB : Hid (∀ W, Tch (fun _ => False) w0 W → OneB w.heap.size W ∧ Tch (fun _ => False) w W) := fun W t => ⟨oneB (by rw [← hw0]; exact t), t0.trans' t⟩
  have hgl : g < w.heap.size := cell_lt hu.1
  have HC : Hid (∀ W, Tch (fun i => i = w.heap.size) w0 W → Tch (fun i => i = w.heap.size) w0 W ∧ W.cell? ⟨b, 0, none⟩ = some (.int .i64 9) ∧ W.cell? ⟨g, 0, none⟩ = some (.int .i64 u.k) ∧ W.cell? ⟨g, 1, none⟩ = some (.int .i64 u.n) ∧ W.cell? ⟨g, 2, none⟩ = some (.string u.s) ∧ W.cell? ⟨g, 3, none⟩ = some (.int .i64 v.k) ∧ W.cell? ⟨g, 4, none⟩ = some (.int .i64 v.n) ∧ W.cell? ⟨g, 5, none⟩ = some (.string v.s)) := fun W t => by
    have T : Tch (fun i => i = w.heap.size) w W := (t0.mono (fun _ _ h => h.elim)).trans' t
    exact ⟨t, (T.cell (p := ⟨b, 0, none⟩) hbl (by show ¬ b = w.heap.size; omega)).trans h0, (hu.tch T (by show ¬ g = w.heap.size; omega)).1, (hu.tch T (by show ¬ g = w.heap.size; omega)).2.1, (hu.tch T (by show ¬ g = w.heap.size; omega)).2.2, (hv.tch T (by show ¬ g = w.heap.size; omega)).1, (hv.tch T (by show ¬ g = w.heap.size; omega)).2.1, (hv.tch T (by show ¬ g = w.heap.size; omega)).2.2⟩
  obtain ⟨k, hk'⟩ : ∃ k, k = cmpV u v := ⟨_, rfl⟩
  have Hq1 : Hid (∀ W, Calls Tryz.prog 155 #[vA u.k u.n u.s, vA v.k v.n v.s] W fun x w' => x = .returned (.int .i64 k) ∧ Tch (fun _ => False) W w') := fun W => by rw [hk']; exact compare_any u v W
  obtain ⟨r, hr⟩ : ∃ r, r = cmps 9 k := ⟨_, rfl⟩
  have Hq2 : Hid (∀ W, Calls Tryz.prog 157 #[.int .i64 9, .int .i64 k] W fun x w' => x = .returned (.bool r) ∧ w' = W) := fun W => by rw [hr]; exact compares_any 9 k W
  have Hq3 : Hid _ := fun W => truth_any r W
  obtain ⟨R, hR⟩ : ∃ R, R = tr r := ⟨_, rfl⟩
  rw [← hR] at Hq3
  have HR : Hid (hk 9 [u, v] = (R, 0)) := (show _ = _ from by rw [hR, hr, hk']; rfl)
  have Hw0 : Hid _ := hw0
  clear hR hr hk' hu hv h0 hw0 t0 hgl
  go_enter Tryz.func130, Tryz.ntmps130
  go_wp2_with fail
  rw [← Hw0.out]
  clear e0
  obtain ⟨_, q0, q1, q2, q3, q4, q5, q6⟩ := HC.out w0 (Tch.refl _ _)
  go_region_held3 (fun W => Tch (fun i => i = w.heap.size) w0 W ∧ W.cell? ⟨b, 0, none⟩ = some (.int .i64 9) ∧ W.cell? ⟨g, 0, none⟩ = some (.int .i64 u.k) ∧ W.cell? ⟨g, 1, none⟩ = some (.int .i64 u.n) ∧ W.cell? ⟨g, 2, none⟩ = some (.string u.s) ∧ W.cell? ⟨g, 3, none⟩ = some (.int .i64 v.k) ∧ W.cell? ⟨g, 4, none⟩ = some (.int .i64 v.n) ∧ W.cell? ⟨g, 5, none⟩ = some (.string v.s))
    ((refine HC.out _ ?_; first | assumption | exact (Tch.refl _ _).drew | exact no_mono (by assumption) | exact (no_mono (by assumption)).trans' (box_set_tch _ _ _ _ _)))
    (first | (go_at_call 155; refine (Hq1.out _).mono ?_; rintro y v1 ⟨rfl, t1⟩; have V1 : Tch (fun _ => False) w0 v1 := by first | exact Tch.trans' (Tch.refl _ _).drew t1 | exact Tch.trans' (Tch.refl _ _) t1) | (go_at_call 157; refine (Hq2.out _).mono ?_; rintro y v2 ⟨rfl, rfl⟩) | (go_at_call 93; refine (Hq3.out _).mono ?_; rintro y v3 ⟨rfl, t3⟩; have V3 : Tch (fun _ => False) w0 v3 := Tch.trans' V1 t3; obtain ⟨⟨⟨x0, x1, x2⟩, f0, f1, f2⟩, hw⟩ := HB.out _ V3))
  all_goals
    go_wp2_with fail
    obtain ⟨k0, k1, k2⟩ := box_set v3 w.heap.size _ _ _ (.int .i64 R.k) (.int .i64 R.n) (.string R.s) x0 x1 x2
    exact bodyPost_ret (res_ve (j := 4) (m := 5) (by kernel_rfl) _ _ w.heap.size R (.int .i64 0) rfl rfl k0 k1 k2) rfl ⟨by rw [HR.out], hw.trans (box_set_tch v3 w.heap.size _ _ _) (fun i hi h => by omega)⟩
theorem hk_10 (b g c : Nat) (u v : Val) (w : World) (h0 : w.cell? ⟨b, 0, none⟩ = some (.int .i64 10)) (hu : VC w g 0 u) (hv : VC w g 3 v) :
    Calls Tryz.prog 130 #[.pointer (some ⟨b, 0, none⟩), .slice (some ⟨g, 0, none⟩) 2 c] w fun x w' => x = .returned (.tuple #[vV (hk 10 [u, v]).1, .int .i64 (hk 10 [u, v]).2]) ∧ Tch (fun _ => False) w w' := by
  have hbl : b < w.heap.size := cell_lt h0
  have e0 : ∀ ob, (w.alloc ob).cell? ⟨b, 0, none⟩ = some (.int .i64 10) := fun ob => by rw [World.cell?_alloc_lt _ _ _ hbl]; exact h0
  obtain ⟨w0, hw0⟩ : ∃ w0, w0 = w.alloc (.cells #[.int .i64 0, .int .i64 0, .string ⟨#[]⟩] 29) := ⟨_, rfl⟩
  have t0 : Tch (fun _ => False) w w0 := by rw [hw0]; exact Tch.alloc _ _ _
  have HB : Hid (∀ W, Tch (fun _ => False) w0 W → OneB w.heap.size W ∧ Tch (fun _ => False) w W) := fun W t => ⟨oneB (by rw [← hw0]; exact t), t0.trans' t⟩
  have hgl : g < w.heap.size := cell_lt hu.1
  have HC : Hid (∀ W, Tch (fun i => i = w.heap.size) w0 W → Tch (fun i => i = w.heap.size) w0 W ∧ W.cell? ⟨b, 0, none⟩ = some (.int .i64 10) ∧ W.cell? ⟨g, 0, none⟩ = some (.int .i64 u.k) ∧ W.cell? ⟨g, 1, none⟩ = some (.int .i64 u.n) ∧ W.cell? ⟨g, 2, none⟩ = some (.string u.s) ∧ W.cell? ⟨g, 3, none⟩ = some (.int .i64 v.k) ∧ W.cell? ⟨g, 4, none⟩ = some (.int .i64 v.n) ∧ W.cell? ⟨g, 5, none⟩ = some (.string v.s)) := fun W t => by
    have T : Tch (fun i => i = w.heap.size) w W := (t0.mono (fun _ _ h => h.elim)).trans' t
    exact ⟨t, (T.cell (p := ⟨b, 0, none⟩) hbl (by show ¬ b = w.heap.size; omega)).trans h0, (hu.tch T (by show ¬ g = w.heap.size; omega)).1, (hu.tch T (by show ¬ g = w.heap.size; omega)).2.1, (hu.tch T (by show ¬ g = w.heap.size; omega)).2.2, (hv.tch T (by show ¬ g = w.heap.size; omega)).1, (hv.tch T (by show ¬ g = w.heap.size; omega)).2.1, (hv.tch T (by show ¬ g = w.heap.size; omega)).2.2⟩
  obtain ⟨k, hk'⟩ : ∃ k, k = cmpV u v := ⟨_, rfl⟩
  have Hq1 : Hid (∀ W, Calls Tryz.prog 155 #[vA u.k u.n u.s, vA v.k v.n v.s] W fun x w' => x = .returned (.int .i64 k) ∧ Tch (fun _ => False) W w') := fun W => by rw [hk']; exact compare_any u v W
  obtain ⟨r, hr⟩ : ∃ r, r = cmps 10 k := ⟨_, rfl⟩
  have Hq2 : Hid (∀ W, Calls Tryz.prog 157 #[.int .i64 10, .int .i64 k] W fun x w' => x = .returned (.bool r) ∧ w' = W) := fun W => by rw [hr]; exact compares_any 10 k W
  have Hq3 : Hid _ := fun W => truth_any r W
  obtain ⟨R, hR⟩ : ∃ R, R = tr r := ⟨_, rfl⟩
  rw [← hR] at Hq3
  have HR : Hid (hk 10 [u, v] = (R, 0)) := (show _ = _ from by rw [hR, hr, hk']; rfl)
  have Hw0 : Hid _ := hw0
  clear hR hr hk' hu hv h0 hw0 t0 hgl
  go_enter Tryz.func130, Tryz.ntmps130
  go_wp2_with fail
  rw [← Hw0.out]
  clear e0
  obtain ⟨_, q0, q1, q2, q3, q4, q5, q6⟩ := HC.out w0 (Tch.refl _ _)
  go_region_held3 (fun W => Tch (fun i => i = w.heap.size) w0 W ∧ W.cell? ⟨b, 0, none⟩ = some (.int .i64 10) ∧ W.cell? ⟨g, 0, none⟩ = some (.int .i64 u.k) ∧ W.cell? ⟨g, 1, none⟩ = some (.int .i64 u.n) ∧ W.cell? ⟨g, 2, none⟩ = some (.string u.s) ∧ W.cell? ⟨g, 3, none⟩ = some (.int .i64 v.k) ∧ W.cell? ⟨g, 4, none⟩ = some (.int .i64 v.n) ∧ W.cell? ⟨g, 5, none⟩ = some (.string v.s))
    ((refine HC.out _ ?_; first | assumption | exact (Tch.refl _ _).drew | exact no_mono (by assumption) | exact (no_mono (by assumption)).trans' (box_set_tch _ _ _ _ _)))
    (first | (go_at_call 155; refine (Hq1.out _).mono ?_; rintro y v1 ⟨rfl, t1⟩; have V1 : Tch (fun _ => False) w0 v1 := by first | exact Tch.trans' (Tch.refl _ _).drew t1 | exact Tch.trans' (Tch.refl _ _) t1) | (go_at_call 157; refine (Hq2.out _).mono ?_; rintro y v2 ⟨rfl, rfl⟩) | (go_at_call 93; refine (Hq3.out _).mono ?_; rintro y v3 ⟨rfl, t3⟩; have V3 : Tch (fun _ => False) w0 v3 := Tch.trans' V1 t3; obtain ⟨⟨⟨x0, x1, x2⟩, f0, f1, f2⟩, hw⟩ := HB.out _ V3))
  all_goals
    go_wp2_with fail
    obtain ⟨k0, k1, k2⟩ := box_set v3 w.heap.size _ _ _ (.int .i64 R.k) (.int .i64 R.n) (.string R.s) x0 x1 x2
    exact bodyPost_ret (res_ve (j := 4) (m := 5) (by kernel_rfl) _ _ w.heap.size R (.int .i64 0) rfl rfl k0 k1 k2) rfl ⟨by rw [HR.out], hw.trans (box_set_tch v3 w.heap.size _ _ _) (fun i hi h => by omega)⟩
end Go.Proofs.YtmaekkhmiafnmaaGreatDoor
