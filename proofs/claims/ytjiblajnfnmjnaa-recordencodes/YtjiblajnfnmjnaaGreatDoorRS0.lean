import Derived.Test.YtjiblajnfnmjnaaGreatDoorCChg
import Derived.Test.YtjiblajnfnmjnaaGreatDoorCAdd
set_option maxHeartbeats 2000000
set_option maxRecDepth 100000
namespace Go.Proofs.YtjiblajnfnmjnaaGreatDoor.C
open Go.RowKit Go
theorem ccl_snoc (l : List Col) (x : Col) : ccl (l ++ [x]) = ccl l ++ [.string x.nm, .int .i64 x.k, .bool x.nl] := f3_append ..
open Go.RowKit
def EqC (xs ys : List Col) (w : World) (x : Ending) (w' : World) : Prop := ∃ b : Bool, x = .returned (.bool b) ∧ (b = true ↔ xs = ys) ∧ ∃ m, w' = w.drewN m
theorem equalC_any (xs ys : List Col) (ao bo : Option Addr) (ca cb : Nat) (w : World) (ha : SL w ao (ccl xs)) (hb : SL w bo (ccl ys)) (h1 : xs.length ≤ 9223372036854775807) :
    Calls Tryz.prog 127 #[.slice ao xs.length ca, .slice bo ys.length cb] w fun x w' => EqC xs ys w x w' := by
  by_cases hl : xs.length = ys.length
  · have HA : Hid (∀ m, SL (w.drewN m) ao (ccl xs)) := fun m => ha.no ((Tch.refl _ w).drewN m)
    have HB : Hid (∀ m, SL (w.drewN m) bo (ccl ys)) := fun m => hb.no ((Tch.refl _ w).drewN m)
    have HL : Hid (xs.length = ys.length) := hl
    obtain ⟨n, hn⟩ : ∃ n, n = xs.length := ⟨_, rfl⟩
    have hn2 : n = ys.length := by omega
    rw [← hn, ← hn2]
    have HN : Hid (n = xs.length ∧ n = ys.length) := ⟨hn, hn2⟩
    rw [← hn] at h1
    clear ha hb hl hn hn2
    go_enter Tryz.func127, Tryz.ntmps127
    go_wp2_with fail
    go_loopw [13] (fun i wr => ∃ (k m : Nat), i = .int .i64 k ∧ k ≤ n ∧ Hid (∀ j (h1 : j < xs.length) (h2 : j < ys.length), j < k → xs[j] = ys[j]) ∧ wr = w.drewN m) (fun i _ => n - (intOf i).toNat)
    case atStart => exact ⟨0, 0, rfl, by omega, fun j _ _ h => by omega, rfl⟩
    case round =>
      obtain ⟨k, m, rfl, hk, HE, hwr⟩ := hrel
      by_cases hlt : (k : Int) < n
      · have hA := HA.out m
        have hB := HB.out m
        rw [← hwr] at hA hB
        have hx : k < xs.length := by have := HN.out.1; omega
        have hy : k < ys.length := by have := HN.out.2; omega
        obtain ⟨ga, oa, rfl, hra⟩ := hA.col hx
        obtain ⟨gb, ob, rfl, hrb⟩ := hB.col hy
        obtain ⟨a0, a1, a2⟩ := hra.col k hx
        obtain ⟨b0, b1, b2⟩ := hrb.col k hy
        have HW : Hid (wr = w.drewN m) := hwr
        obtain ⟨u, hu⟩ : ∃ u, u = xs[k] := ⟨_, rfl⟩
        obtain ⟨v, hv⟩ : ∃ v, v = ys[k] := ⟨_, rfl⟩
        rw [← hu] at a0 a1 a2
        rw [← hv] at b0 b1 b2
        have HU : Hid (u = xs[k] ∧ v = ys[k]) := ⟨hu, hv⟩
        clear hA hB hra hrb hwr hu hv
        obtain ⟨d, hd1, hd⟩ := ne_col u v
        have HD : Hid (d = true ↔ u ≠ v) := hd1
        clear hd1
        cases d with
        | true =>
          go_wp2_with fail
          go_quiet (fail)
          go_wp2
          go_ret
          refine ⟨false, rfl, ⟨fun h => by simp at h, fun h => ?_⟩, m + nq, by rw [HW.out, World.drewN_drewN]⟩
          exact absurd (by rw [HU.out.1, HU.out.2]; subst h; rfl) (HD.out.1 (by trivial))
        | false =>
          have HE2 : Hid (∀ j (h1 : j < xs.length) (h2 : j < ys.length), j < k + 1 → xs[j] = ys[j]) := fun j h1 h2 hj => by
            rcases Nat.lt_or_ge j k with h | h
            · exact HE.out j h1 h2 h
            · obtain rfl : j = k := by omega
              rw [← HU.out.1, ← HU.out.2]
              exact Classical.byContradiction fun hne => by have := HD.out.2 hne; simp at this
          go_wp2_with fail
          go_quiet (fail)
          go_wp2
          go_roundw
          case rel => exact ⟨k + 1, m + nq, by go_num, by omega, HE2, by rw [HW.out, World.drewN_drewN]⟩
          case measure => simp [intOf]; omega
      · have HW : Hid (wr = w.drewN m) := hwr
        clear hwr
        go_wp2
        go_ret
        refine ⟨true, rfl, ⟨fun _ => ?_, fun _ => rfl⟩, m, HW.out⟩
        exact List.ext_getElem HL.out (fun j h1 h2 => HE.out j h1 h2 (by have := HN.out.1; omega))
  · have hl' : ((xs.length : Int) != ys.length) = true := by simp; omega
    clear ha hb
    go_enter Tryz.func127, Tryz.ntmps127
    go_wp2
    go_ret
    exact ⟨false, rfl, ⟨fun h => by simp at h, fun h => absurd (by rw [h]) hl⟩, 0, rfl⟩
theorem Tbl.ext' {a b : Tbl} (h : a.id = b.id ∧ a.ver = b.ver ∧ a.nm = b.nm ∧ a.cols = b.cols ∧ a.key = b.key) : a = b := by
  obtain ⟨a1, a2, a3, a4, a5⟩ := a
  obtain ⟨b1, b2, b3, b4, b5⟩ := b
  simp at h
  simp [h]
theorem int_ne {a b : Int} (h : a ≠ b) : (a == b) = false := by simpa using h
theorem int_eq' {a b : Int} (h : a = b) : (a == b) = true := by simpa using h
theorem bs_eq {a b : ByteArray} (h : a = b) : (a.toList == b.toList) = true := by rw [h]; simp
theorem bs_ne {a b : ByteArray} (h : a ≠ b) : (a.toList == b.toList) = false := by
  simp only [beq_eq_false_iff_ne, ne_eq]
  intro e
  rw [ByteArray.toList_eq, ByteArray.toList_eq] at e
  exact h (ByteArray.ext (Array.ext' e))
def EqT (p : Prop) (w : World) (x : Ending) (w' : World) : Prop := ∃ b : Bool, x = .returned (.bool b) ∧ (b = true ↔ p) ∧ Tch (fun _ => False) w w'
theorem eqT_no {p : Prop} {w w' : World} (h : ¬ p) (t : Tch (fun _ => False) w w') : EqT p w (.returned (.bool false)) w' := ⟨false, rfl, ⟨(fun e => by simp at e), (fun e => absurd e h)⟩, t⟩
theorem sameTab_any (a b : Tbl) (ao bo : Option Addr) (ca cb : Nat) (w : World) (ha : SL w ao (ccl a.cols)) (hb : SL w bo (ccl b.cols)) (h1 : a.cols.length ≤ 9223372036854775807) :
    Calls Tryz.prog 103 #[tA a.id a.ver a.nm (.slice ao a.cols.length ca) a.key, tA b.id b.ver b.nm (.slice bo b.cols.length cb) b.key] w fun x w' => EqT (a = b) w x w' := by
  have t0 : ∀ o1 o2, Tch (fun _ => False) w ((w.alloc o1).alloc o2) := fun o1 o2 => (Tch.alloc _ _ _).allocR _
  have HQ : Hid (∀ o1 o2, Calls Tryz.prog 127 #[.slice ao a.cols.length ca, .slice bo b.cols.length cb] ((w.alloc o1).alloc o2) fun x w' => EqC a.cols b.cols ((w.alloc o1).alloc o2) x w') := fun o1 o2 => equalC_any a.cols b.cols ao bo ca cb _ (ha.no (t0 o1 o2)) (hb.no (t0 o1 o2)) h1
  have HT0 : Hid _ := t0
  obtain ⟨n, hn⟩ : ∃ n, n = a.cols.length := ⟨_, rfl⟩
  obtain ⟨m, hm⟩ : ∃ m, m = b.cols.length := ⟨_, rfl⟩
  rw [← hn, ← hm] at HQ ⊢
  clear ha hb t0 h1 hn hm
  by_cases e1 : a.id = b.id
  · have e1' := int_eq' e1
    have E1 : Hid (a.id = b.id) := e1
    clear e1
    by_cases e2 : a.ver = b.ver
    · have e2' := int_eq' e2
      have E2 : Hid (a.ver = b.ver) := e2
      clear e2
      by_cases e3 : a.nm = b.nm
      · have e3' := bs_eq e3
        have E3 : Hid (a.nm = b.nm) := e3
        clear e3
        by_cases e5 : a.key = b.key
        · have e5' := int_eq' e5
          have E5 : Hid (a.key = b.key) := e5
          clear e5
          go_enter Tryz.func103, Tryz.ntmps103
          go_wp2_with fail
          refine (HQ.out _ _).mono ?_
          rintro x w1 ⟨d, rfl, hd, k, rfl⟩
          have HD : Hid (d = true ↔ a.cols = b.cols) := hd
          clear hd
          cases d
          · go_wp2_with fail
            go_ret
            exact eqT_no (fun e => by have := HD.out.2 (by rw [e]); simp at this) ((HT0.out _ _).drewN k)
          · go_wp2_with fail
            go_ret
            exact ⟨true, rfl, ⟨fun _ => Tbl.ext' ⟨E1.out, E2.out, E3.out, HD.out.1 (by trivial), E5.out⟩, fun _ => rfl⟩, (HT0.out _ _).drewN k⟩
        · have e5' := int_ne e5
          go_enter Tryz.func103, Tryz.ntmps103
          go_wp2_with fail
          refine (HQ.out _ _).mono ?_
          rintro x w1 ⟨d, rfl, -, k, rfl⟩
          cases d
          all_goals
            go_wp2_with fail
            go_ret
            exact eqT_no (fun e => e5 (by rw [e])) ((HT0.out _ _).drewN k)
      · have e3' := bs_ne e3
        go_enter Tryz.func103, Tryz.ntmps103
        go_wp2_with fail
        go_ret
        exact eqT_no (fun e => e3 (by rw [e])) (HT0.out _ _)
    · have e2' := int_ne e2
      go_enter Tryz.func103, Tryz.ntmps103
      go_wp2_with fail
      go_ret
      exact eqT_no (fun e => e2 (by rw [e])) (HT0.out _ _)
  · have e1' := int_ne e1
    go_enter Tryz.func103, Tryz.ntmps103
    go_wp2_with fail
    go_ret
    exact eqT_no (fun e => e1 (by rw [e])) (HT0.out _ _)
end Go.Proofs.YtjiblajnfnmjnaaGreatDoor.C
