/- turn; BinarySearch, Delete. -/
import Derived.Test.YtkokmgoplldcfaaXEnd3
import Derived.Deep.RegionLaw
namespace Go.Proofs.Ytkokmgoplldcfaa
open Go.RowKit Go Go.Sort

section
variable (b : Nat) (m : Mg) (σ : Nat → Option Nat) (mb : Nat) (bl : Nat → Nat) (w : World) (h : MG w b m σ mb bl) (k : Int) (h1 : -9223372036854775808 ≤ k) (h2 : k ≤ 9223372036854775807) (to : Nat)
include h h1 h2
theorem turn_none (hf : ∀ t, fnd m.tx k ≠ some (t, -1)) : Calls Try.prog 40 #[.map (some mb), .int .i64 k, .int .i64 to] w fun x w' => x = .returned (.int .i64 70) ∧ Tch (fun _ => False) w w' := by
  have q := transaction_any b m σ mb bl w h k h1 h2
  have e : txE (lkB bl m.tx k) = .pointer none := by
    cases hk : fnd m.tx k with
    | none => simp [lkB, hk, txE]
    | some a =>
      obtain ⟨t, i⟩ := a
      obtain ⟨_, hi, _⟩ := h.at hk
      rcases hi with rfl | ⟨j, rfl, _⟩
      · exact absurd hk (hf t)
      · simp [lkB, hk, txE]
  rw [e] at q
  clear h hf e h1 h2
  go_enter Try.func40, Try.ntmps40
  go_wp2_with fail
  refine q.mono ?_
  rintro x w1 ⟨rfl, t1⟩
  clear q
  have T : Hid (Tch (fun _ => False) w w1) := t1
  clear t1
  go_wp2
  go_ret
  exact ⟨rfl, T.out⟩
theorem turn_some {t : Tx} (hf : fnd m.tx k = some (t, -1)) : Calls Try.prog 40 #[.map (some mb), .int .i64 k, .int .i64 to] w fun x w' =>
    ((to ≤ t.st ∨ 3 ≤ t.st) → x = .returned (.int .i64 71) ∧ Tch (fun _ => False) w w') ∧
    (¬ (to ≤ t.st ∨ 3 ≤ t.st) → x = .returned (.int .i64 0) ∧ ∃ w1, Tch (fun _ => False) w w1 ∧ w' = w1.setCell ⟨bl t.x, 1, none⟩ (.int .i64 to)) := by
  have q := transaction_any b m σ mb bl w h k h1 h2
  obtain ⟨hx, _, h64, hst, hlk, _⟩ := h.at hf
  rw [hlk] at q
  have e : txE (some (bl t.x, -1)) = .pointer (some ⟨bl t.x, 0, none⟩) := rfl
  rw [e] at q
  have qo := fun W (hW : Tch (fun _ => False) w W) => over_any σ (bl t.x) t W (hx.same hW)
  have Hx : Hid (XB w σ (bl t.x) t) := hx
  obtain ⟨tb, htb⟩ : ∃ tb, tb = bl t.x := ⟨_, rfl⟩
  rw [← htb] at q qo Hx ⊢
  obtain ⟨s, hs⟩ : ∃ s, s = t.st := ⟨_, rfl⟩
  have Hs : Hid (s = t.st) := hs
  rw [← hs] at qo hst ⊢
  clear h hf e h1 h2 hx h64 hlk htb hs
  go_enter Try.func40, Try.ntmps40
  go_wp2_with fail
  refine q.mono ?_
  rintro x w1 ⟨rfl, t1⟩
  clear q
  have T : Hid (Tch (fun _ => False) w w1) := t1
  obtain ⟨v, hb, _⟩ := (Hx.out.same t1).blk
  have c1 : w1.cell? ⟨tb, 1, none⟩ = some (.int .i64 s) := by rw [blk_cell hb, Hs.out]; rfl
  have f1 := blk_frozen hb 1
  have Q := qo w1 t1
  clear t1 hb qo
  by_cases h1 : to ≤ s
  · have h1I : (to : Int) ≤ s := by omega
    have HO : Hid (to ≤ s ∨ 3 ≤ s) := Or.inl h1
    go_wp2
    go_ret
    exact ⟨fun _ => ⟨rfl, T.out⟩, fun e => absurd HO.out e⟩
  · have h1I : ¬ (to : Int) ≤ s := by omega
    by_cases h3 : 3 ≤ s
    · rw [decide_eq_true h3] at Q
      have HO : Hid (to ≤ s ∨ 3 ≤ s) := Or.inr h3
      go_wp2_with fail
      refine Q.mono ?_
      rintro x w2 ⟨rfl, hw2⟩
      obtain rfl := hw2.symm
      clear Q hw2
      go_wp2
      go_ret
      exact ⟨fun _ => ⟨rfl, T.out⟩, fun e => absurd HO.out e⟩
    · rw [decide_eq_false h3] at Q
      have HO : Hid (¬ (to ≤ s ∨ 3 ≤ s)) := fun e => e.elim h1 h3
      go_wp2_with fail
      refine Q.mono ?_
      rintro x w2 ⟨rfl, hw2⟩
      obtain rfl := hw2.symm
      clear Q hw2
      go_wp2
      go_ret
      exact ⟨fun e => absurd e HO.out, fun _ => ⟨rfl, w1, T.out, rfl⟩⟩
end

theorem nan1 (a : Int) (w : World) : Calls Try.prog 83 #[.int .i64 a] w fun x w' => x = .returned (.bool false) ∧ w' = w := by
  go_enter Try.func83, Try.ntmps83
  go_wp2
  go_ret
  exact ⟨by simp, rfl⟩
theorem less_any (a c : Int) (w : World) : Calls Try.prog 78 #[.int .i64 a, .int .i64 c] w fun x w' => x = .returned (.bool (decide (a < c))) ∧ w' = w := by
  have q := nan1 a w
  go_enter Try.func78, Try.ntmps78
  go_wp2_with fail
  refine q.mono ?_
  rintro x w1 ⟨rfl, hw1⟩
  obtain rfl := hw1.symm
  clear q hw1
  go_wp2
  go_ret
  exact ⟨rfl, rfl⟩

set_option maxHeartbeats 1000000 in
theorem bs_any (l : List Nat) (g c p : Nat) (x : Int) (w : World) (hc : ∀ j n, l[j]? = some n → w.cell? ⟨g, j, none⟩ = some (.int .i64 (n : Nat))) (hl : l.length ≤ 2147483648) (hs : l.Pairwise (· < ·)) (hp : ∃ n : Nat, l[p]? = some n ∧ (n : Int) = x) :
    Calls Try.prog 62 #[.slice (some ⟨g, 0, none⟩) l.length c, .int .i64 x] w fun y w' => y = .returned (.tuple #[.int .i64 p, .bool true]) ∧ w' = w := by
  obtain ⟨n, hn⟩ : ∃ n, n = l.length := ⟨_, rfl⟩
  rw [← hn] at hl ⊢
  obtain ⟨px, hpx, rfl⟩ := hp
  have hpl : p < n := by rw [hn]; exact (List.getElem?_eq_some_iff.1 hpx).1
  have Hn : Hid (n = l.length) := hn
  have Hc : Hid _ := hc
  have hcp := hc p px hpx
  have Hlt : Hid (∀ j y, l[j]? = some y → ((y < px → j < p) ∧ (¬ y < px → p ≤ j))) := fun j y hy => by
    have hj := (List.getElem?_eq_some_iff.1 hy)
    have hq := (List.getElem?_eq_some_iff.1 hpx)
    obtain ⟨hj1, hj2⟩ := hj
    obtain ⟨hq1, hq2⟩ := hq
    have key := List.pairwise_iff_getElem.1 hs
    refine ⟨fun h => ?_, fun h => ?_⟩
    · rcases Nat.lt_trichotomy j p with h1 | h1 | h1
      · exact h1
      · subst h1; rw [hj2] at hq2; omega
      · have := key p j hq1 hj1 h1; rw [hj2, hq2] at this; omega
    · rcases Nat.lt_or_ge j p with h1 | h1
      · have := key j p hj1 hq1 h1; rw [hj2, hq2] at this; omega
      · exact h1
  have ql := fun (a : Int) (W : World) => less_any a px W
  clear hc hs hpx hn
  go_enter Try.func62, Try.ntmps62
  go_wp2_with fail
  go_loopw [7, 8] (fun i j wr => ∃ a d : Nat, i = .int .i64 a ∧ j = .int .i64 d ∧ a ≤ p ∧ p ≤ d ∧ d ≤ n ∧ wr = w) (fun i j _ => (intOf j - intOf i).toNat)
  case atStart => exact ⟨0, n, rfl, rfl, by omega, by omega, by omega, rfl⟩
  case round =>
    obtain ⟨a, d, rfl, rfl, h1, h2, h3, hwr⟩ := hrel
    subst hwr
    by_cases hlt : (a : Int) < d
    · have hhl : (a + d) / 2 < l.length := by have := Hn.out; omega
      obtain ⟨y, hy⟩ : ∃ y, l[(a + d) / 2]? = some y := ⟨_, List.getElem?_eq_getElem hhl⟩
      have e0 := Hc.out _ y hy
      have HK : Hid _ := Hlt.out _ y hy
      clear hy hhl
      go_wp2_with fail
      refine (ql _ _).mono ?_
      rintro x w1 ⟨rfl, hw1⟩
      obtain rfl := hw1.symm
      clear hw1 e0
      by_cases hyx : y < px
      · have e1 : decide ((y : Int) < px) = true := decide_eq_true (by omega)
        have hb := HK.out.1 hyx
        rw [e1]
        clear e1
        go_wp2_with fail
        go_roundw
        case rel => exact ⟨(a + d) / 2 + 1, d, by go_num, rfl, by omega, by omega, by omega, trivial⟩
        case measure => simp [intOf]; omega
      · have e1 : decide ((y : Int) < px) = false := decide_eq_false (by omega)
        have hb := HK.out.2 hyx
        rw [e1]
        clear e1
        go_wp2_with fail
        go_roundw
        case rel => exact ⟨a, (a + d) / 2, rfl, by go_num, by omega, by omega, by omega, trivial⟩
        case measure => simp [intOf]; omega
    · obtain rfl : a = p := by omega
      have hpI : (a : Int) < n := by omega
      clear ql
      go_wp2_with fail
      go_ret2
      exact ⟨rfl, rfl⟩
end Go.Proofs.Ytkokmgoplldcfaa
