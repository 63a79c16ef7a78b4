import Derived.Test.YtdbaafigmfclcaaTMem
import Derived.Lib.Bytealg
/- The order of keys; find. -/
namespace Go.Proofs.Ytdbaafigmfclcaa
open Go.RowKit Go

set_option maxRecDepth 100000 in
theorem cmpstr0_any (a b : ByteArray) (w : World) : Calls Try.prog 91 #[.string a, .string b] w fun x w' => x = .returned (.int .i64 (Lib.compareBytes a.data.toList b.data.toList)) ∧ w' = w := by
  go_enter Try.func91, Try.ntmps91
  go_wp2
  rw [run_callFunc_extern Try.func106 (by kernel_rfl) (by kernel_rfl) (by kernel_rfl) (e := Extern.BytealgCompare.compare) (by kernel_rfl), Lib.run_compareString]
  simp only [Result.andThen]
  rw [Oper.upon_value]
  go_wp2
  go_ret
  exact ⟨rfl, rfl⟩
theorem cmpstr_any (a b : ByteArray) (w : World) : Calls Try.prog 65 #[.string a, .string b] w fun x w' => x = .returned (.int .i64 (Lib.compareBytes a.data.toList b.data.toList)) ∧ w' = w := by
  go_enter Try.func65, Try.ntmps65
  go_wp2_with (go_at_call 91; refine (cmpstr0_any _ _ _).mono ?_; rintro x w1 ⟨rfl, rfl⟩)
  go_ret
  exact ⟨rfl, rfl⟩
end Go.Proofs.Ytdbaafigmfclcaa
/- Keys in their order; items. -/
namespace Go.Proofs.Ytdbaafigmfclcaa
open Go.RowKit Go

theorem cb_self : ∀ x : List UInt8, Lib.compareBytes x x = 0
  | [] => rfl
  | a :: x => by
    have h : ¬ a < a := UInt8.lt_irrefl a
    rw [Lib.compareBytes, if_neg h, if_neg h]; exact cb_self x
theorem cb_eq : ∀ {x y : List UInt8}, Lib.compareBytes x y = 0 → x = y
  | [], [], _ => rfl
  | [], _ :: _, h => by simp [Lib.compareBytes] at h
  | _ :: _, [], h => by simp [Lib.compareBytes] at h
  | a :: x, b :: y, h => by
    rw [Lib.compareBytes] at h
    split at h
    · cases h
    · split at h
      · cases h
      · rename_i h1 h2
        have e : a = b := UInt8.le_antisymm (UInt8.not_lt.1 h2) (UInt8.not_lt.1 h1)
        rw [e, cb_eq h]
theorem cb_flip : ∀ (x y : List UInt8), Lib.compareBytes y x = - Lib.compareBytes x y
  | [], [] => rfl
  | [], _ :: _ => rfl
  | _ :: _, [] => rfl
  | a :: x, b :: y => by
    have ih := cb_flip x y
    simp only [Lib.compareBytes]
    by_cases h1 : a < b
    · have h2 : ¬ b < a := fun h => UInt8.lt_irrefl a (UInt8.lt_trans h1 h)
      simp [h1, h2]
    · by_cases h2 : b < a
      · simp [h1, h2]
      · simp [h1, h2, ih]
theorem cb_trans : ∀ {x y z : List UInt8}, Lib.compareBytes x y < 0 → Lib.compareBytes y z < 0 → Lib.compareBytes x z < 0
  | [], [], _, h, _ => by simp [Lib.compareBytes] at h
  | _ :: _, [], _, h, _ => by simp [Lib.compareBytes] at h
  | _, _ :: _, [], _, h => by simp [Lib.compareBytes] at h
  | [], _ :: _, _ :: _, _, _ => by simp [Lib.compareBytes]
  | a :: x, b :: y, c :: z, h1, h2 => by
    simp only [Lib.compareBytes] at *
    by_cases ab : a < b
    · by_cases bc : b < c
      · simp [UInt8.lt_trans ab bc]
      · by_cases cb : c < b
        · simp [bc, cb] at h2
        · have e : b = c := UInt8.le_antisymm (UInt8.not_lt.1 cb) (UInt8.not_lt.1 bc)
          subst e; simp [ab]
    · by_cases ba : b < a
      · simp [ab, ba] at h1
      · have e : a = b := UInt8.le_antisymm (UInt8.not_lt.1 ba) (UInt8.not_lt.1 ab)
        subst e
        by_cases bc : a < c
        · simp [bc]
        · by_cases cb : c < a
          · simp [bc, cb] at h2
          · simp only [ab, bc, cb, if_false] at *
            exact cb_trans h1 h2
/-- What a key is against another one. -/
def kc (a b : ByteArray) : Int := Lib.compareBytes a.data.toList b.data.toList
theorem kc_self (a : ByteArray) : kc a a = 0 := cb_self _
theorem kc_eq {a b : ByteArray} (h : kc a b = 0) : a = b := by
  have := cb_eq h
  obtain ⟨⟨x⟩⟩ := a
  obtain ⟨⟨y⟩⟩ := b
  simp only at this
  rw [this]
theorem kc_flip (a b : ByteArray) : kc b a = - kc a b := cb_flip _ _
theorem kc_trans {a b c : ByteArray} (h1 : kc a b < 0) (h2 : kc b c < 0) : kc a c < 0 := cb_trans h1 h2
/-- What a tree has as values; its items. -/
abbrev GV := Int
abbrev ev (x : GV) : Value := .int .i64 x
abbrev It := ByteArray × GV
abbrev itV (e : It) : Value := .agg #[.string e.1, ev e.2]
/-- The one item stands ahead of the other. -/
def KL (a b : It) : Prop := kc a.1 b.1 < 0
abbrev Sorted (l : List It) : Prop := l.Pairwise KL
theorem KL.trans {a b c : It} (h1 : KL a b) (h2 : KL b c) : KL a c := kc_trans h1 h2
/-- Below a key; above it. -/
def Lo (k : ByteArray) (e : It) : Prop := kc e.1 k < 0
def Hi (k : ByteArray) (e : It) : Prop := 0 < kc e.1 k
theorem Lo.of {k : ByteArray} {e e' : It} (h : KL e e') (h' : Lo k e') : Lo k e := kc_trans h h'
theorem Hi.of {k : ByteArray} {e e' : It} (h : KL e e') (h' : Hi k e) : Hi k e' := by
  have h1 : kc k e.1 < 0 := by have := kc_flip e.1 k; unfold Hi at h'; omega
  have h2 := kc_trans h1 h
  have := kc_flip k e'.1
  unfold Hi
  omega
/-- The cells of items. -/
def icl (l : List It) : List Value := l.flatMap (fun e => [.string e.1, ev e.2])
theorem icl_len : ∀ l : List It, (icl l).length = l.length * 2
  | [] => rfl
  | a :: l => by
    have := icl_len l
    unfold icl at this ⊢
    simp only [List.flatMap_cons, List.length_append, List.length_cons, List.length_nil, this]; omega
theorem icl_app (a b : List It) : icl (a ++ b) = icl a ++ icl b := by simp [icl]
theorem icl_cons (e : It) (b : List It) : icl (e :: b) = [.string e.1, ev e.2] ++ icl b := by simp [icl]
theorem icl_get : ∀ (l : List It) (k : Nat) (hk : k < l.length), (icl l)[k * 2]? = some (.string l[k].1) ∧ (icl l)[k * 2 + 1]? = some (ev l[k].2)
  | [], k, hk => by simp at hk
  | a :: l, 0, _ => by simp [icl]
  | a :: l, k + 1, hk => by
    have := icl_get l k (by simpa using hk)
    rw [icl_cons]
    have e1 : (k + 1) * 2 = k * 2 + 2 := by omega
    simp only [List.getElem_cons_succ]
    rw [e1]
    refine ⟨?_, ?_⟩
    · rw [List.getElem?_append_right (by simp)]; simpa using this.1
    · rw [List.getElem?_append_right (by simp)]; simpa using this.2
theorem icl_one (l : List It) : ∀ u ∈ icl l, u.oneCell' = true := fun u hu => by
  unfold icl at hu
  rw [List.mem_flatMap] at hu
  obtain ⟨a, _, hu⟩ := hu
  simp only [List.mem_cons, List.not_mem_nil, or_false] at hu
  rcases hu with rfl | rfl <;> rfl
theorem icl_take (l : List It) (k : Nat) : (icl l).take (k * 2) = icl (l.take k) := by
  induction l generalizing k with
  | nil => simp [icl]
  | cons a l ih =>
    cases k with
    | zero => simp [icl]
    | succ k =>
      rw [List.take_succ_cons, icl_cons, icl_cons, ← ih k, show (k + 1) * 2 = k * 2 + 1 + 1 by omega]
      simp
theorem icl_drop (l : List It) (k : Nat) : (icl l).drop (k * 2) = icl (l.drop k) := by
  induction l generalizing k with
  | nil => simp [icl]
  | cons a l ih =>
    cases k with
    | zero => simp [icl]
    | succ k =>
      rw [List.drop_succ_cons, icl_cons, ← ih k, show (k + 1) * 2 = k * 2 + 1 + 1 by omega]
      simp
/-- Where a key stands among items, or would. -/
structure Found (l : List It) (k : ByteArray) (i : Nat) (th : Bool) : Prop where
  le : i ≤ l.length
  lo : ∀ e ∈ l.take i, Lo k e
  hi : th = false → ∀ e ∈ l.drop i, Hi k e
  at_ : th = true → ∃ it, l[i]? = some it ∧ it.1 = k
  behind : th = true → ∀ e ∈ l.drop (i + 1), Hi k e
end Go.Proofs.Ytdbaafigmfclcaa
