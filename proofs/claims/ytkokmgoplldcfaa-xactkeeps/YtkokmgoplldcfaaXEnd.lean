/- within. -/
import Derived.Test.YtkokmgoplldcfaaXPart2
namespace Go.Proofs.Ytkokmgoplldcfaa
open Go.RowKit Go Go.Sort

theorem within_step {ps : List Pt} {o a : Int} {k : Nat} {p : Pt} (h : o < a) (hp : ps[a.toNat]? = some p) : within ps o (k + 1) a = within ps o k p.ar := by
  simp only [within]
  rw [if_pos h, hp]
theorem within_stop {ps : List Pt} {o a : Int} (k : Nat) (h : ¬ o < a) : within ps o k a = (a == o) := by
  cases k with
  | zero => rfl
  | succ k => simp only [within]; rw [if_neg h]
theorem within_congr {ps qs : List Pt} (h : ps.map (·.ar) = qs.map (·.ar)) (o : Int) : ∀ (k : Nat) (a : Int), within ps o k a = within qs o k a
  | 0, _ => rfl
  | k + 1, a => by
    have ih := within_congr h o k
    have e : (match ps[a.toNat]? with | some p => p.ar | none => -1) = (match qs[a.toNat]? with | some p => p.ar | none => -1) := by
      have h1 : (ps.map (·.ar))[a.toNat]? = (qs.map (·.ar))[a.toNat]? := by rw [h]
      rw [List.getElem?_map, List.getElem?_map] at h1
      cases hp : ps[a.toNat]? with
      | none => cases hq : qs[a.toNat]? with
        | none => rfl
        | some q => rw [hp, hq] at h1; cases h1
      | some p => cases hq : qs[a.toNat]? with
        | none => rw [hp, hq] at h1; cases h1
        | some q =>
          rw [hp, hq] at h1
          simpa using h1
    simp only [within]
    split
    · rw [ih]
      exact congrArg (within qs o k) e
    · rfl

set_option maxHeartbeats 1000000 in
theorem within_any (σ : Nat → Option Nat) (tb : Nat) (t : Tx) (a o : Int) (w : World) (h : XB w σ tb t) (h64 : t.ps.length ≤ 64) (har : ∀ (i : Nat) p, t.ps[i]? = some p → -1 ≤ p.ar ∧ p.ar < i) (ha : -1 ≤ a ∧ a < t.ps.length) (ho : 0 ≤ o) :
    Calls Try.prog 58 #[.pointer (some ⟨tb, 0, none⟩), .int .i64 a, .int .i64 o] w fun x w' => x = .returned (.bool (within t.ps o t.ps.length a)) ∧ w' = w := by
  obtain ⟨v, _, _, c2, hv⟩ := h.c
  obtain ⟨ao, cap, rfl⟩ := row_slice hv
  obtain ⟨n, hn⟩ : ∃ n, n = t.ps.length := ⟨_, rfl⟩
  have Hn : Hid (n = t.ps.length) := hn
  rw [← hn] at c2 h64 ha ⊢
  have Hh : Hid (XB w σ tb t) := h
  have Har : Hid _ := har
  obtain ⟨r, hr⟩ : ∃ r, r = within t.ps o n a := ⟨_, rfl⟩
  rw [← hr]
  have Hr : Hid (r = within t.ps o n a) := hr
  have Hc2 : Hid (w.cell? ⟨tb, 2, none⟩ = some (.slice ao n cap)) := c2
  clear hv hn h hr har
  go_enter Try.func58, Try.ntmps58
  go_wp2_with fail
  go_loopw [1] (fun i wr => ∃ (c : Int) (k : Nat), i = .int .i64 c ∧ -1 ≤ c ∧ c < n ∧ wr = w ∧ Hid (c < k ∧ r = within t.ps o k c)) (fun i _ => (intOf i + 1).toNat)
  case atStart => exact ⟨a, n, rfl, ha.1, ha.2, rfl, ⟨ha.2, Hr.out⟩⟩
  case round =>
    obtain ⟨c, k, rfl, hc1, hc2, hwr, HK⟩ := hrel
    subst hwr
    by_cases hlt : o < c
    · obtain ⟨cn, rfl⟩ : ∃ cn : Nat, c = cn := ⟨c.toNat, by omega⟩
      have hkl : cn < t.ps.length := by have := Hn.out; omega
      obtain ⟨p, hp⟩ : ∃ p, t.ps[cn]? = some p := ⟨_, List.getElem?_eq_getElem hkl⟩
      obtain ⟨g, cap', d2, e0, e1, e2⟩ := Hh.out.part hp
      have hpa := Har.out cn p hp
      have hao : ao = some ⟨g, 0, none⟩ := by
        have := Hc2.out
        rw [d2] at this
        injection this with this
        injection this with this
        exact this.symm
      subst hao
      have HK2 : Hid (∃ k : Nat, p.ar < k ∧ r = within t.ps o k p.ar) := by
        obtain ⟨h1, h2⟩ := HK.out
        obtain ⟨k', rfl⟩ : ∃ k', k = k' + 1 := ⟨k - 1, by omega⟩
        exact ⟨k', by omega, by rw [h2, within_step hlt (by simpa using hp)]⟩
      have hpn : p.ar < n := by omega
      obtain ⟨pa, hpa'⟩ : ∃ pa, pa = p.ar := ⟨_, rfl⟩
      rw [← hpa'] at e1 hpa HK2 hpn
      have hcn : (cn : Int) < n := hc2
      clear hp d2 e0 e2 hpa' hkl
      go_wp2_with fail
      go_roundw
      case rel =>
        obtain ⟨k', h1, h2⟩ := HK2.out
        exact ⟨pa, k', rfl, by omega, by omega, trivial, ⟨h1, h2⟩⟩
      case measure => simp [intOf]; omega
    · have HE : Hid (r = (c == o)) := by show _ = _; rw [HK.out.2, within_stop k hlt]
      go_wp2_with fail
      go_ret
      exact ⟨by rw [HE.out]; rfl, rfl⟩
end Go.Proofs.Ytkokmgoplldcfaa
