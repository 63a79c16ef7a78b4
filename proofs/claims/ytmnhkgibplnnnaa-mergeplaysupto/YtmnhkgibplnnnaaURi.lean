import Derived.Test.YtmnhkgibplnnnaaUCp
/- Rising; rows as one, of rows that are alike. -/
namespace Go.Proofs.Ytmnhkgibplnnnaa
open Go.RowKit Go

/-- Numbers that rise. -/
def Ris (l : List Int) : Prop := ∀ (i : Nat) (a b : Int), l[i]? = some a → l[i + 1]? = some b → a < b
def RisO (u : List Rc) (e : Ending) : Prop := ∃ d : Bool, e = .returned (.bool d) ∧ (d = true ↔ Ris (u.map Rc.l))
/-- Lists of one length, place by place. -/
structure A2 {α β : Type} (R : α → β → Prop) (l : List α) (m : List β) : Prop where
  len : l.length = m.length
  el : ∀ (i : Nat) (a : α) (b : β), l[i]? = some a → m[i]? = some b → R a b
theorem A2.nil {α β : Type} (R : α → β → Prop) : A2 R [] [] := ⟨rfl, fun i a b h => by simp at h⟩
theorem A2.get {α β : Type} {R : α → β → Prop} {l : List α} {m : List β} (h : A2 R l m) {i : Nat} {a : α} (ha : l[i]? = some a) : ∃ b, m[i]? = some b ∧ R a b := by
  have hi : i < m.length := by rw [← h.len]; exact (List.getElem?_eq_some_iff.1 ha).1
  exact ⟨m[i], List.getElem?_eq_getElem hi, h.el i a _ ha (List.getElem?_eq_getElem hi)⟩
theorem A2.get' {α β : Type} {R : α → β → Prop} {l : List α} {m : List β} (h : A2 R l m) {i : Nat} {b : β} (hb : m[i]? = some b) : ∃ a, l[i]? = some a ∧ R a b := by
  have hi : i < l.length := by rw [h.len]; exact (List.getElem?_eq_some_iff.1 hb).1
  exact ⟨l[i], List.getElem?_eq_getElem hi, h.el i _ b (List.getElem?_eq_getElem hi) hb⟩
theorem A2.cons {α β : Type} {R : α → β → Prop} {l : List α} {m : List β} {a : α} {b : β} (h : A2 R l m) (r : R a b) : A2 R (a :: l) (b :: m) :=
  ⟨by simp [h.len], fun i x y hx hy => by
    cases i with
    | zero => simp at hx hy; subst hx hy; exact r
    | succ i => exact h.el i x y (by simpa using hx) (by simpa using hy)⟩
theorem A2.uncons {α β : Type} {R : α → β → Prop} {l : List α} {m : List β} {a : α} (h : A2 R (a :: l) m) : ∃ b m', m = b :: m' ∧ R a b ∧ A2 R l m' := by
  cases m with
  | nil => have := h.len; simp at this
  | cons b m => exact ⟨b, m, rfl, h.el 0 a b rfl rfl, by have := h.len; simpa using this, fun i x y hx hy => h.el (i + 1) x y (by simpa using hx) (by simpa using hy)⟩
theorem A2.set {α β : Type} {R : α → β → Prop} {l : List α} {m : List β} {a : α} {b : β} (h : A2 R l m) (r : R a b) (j : Nat) : A2 R (l.set j a) (m.set j b) :=
  ⟨by simp [h.len], fun i x y hx hy => by
    by_cases hij : j = i
    · subst hij
      rw [List.getElem?_set] at hx hy
      simp only [if_true] at hx hy
      split at hx
      · split at hy
        · simp at hx hy; subst hx hy; exact r
        · cases hy
      · cases hx
    · rw [List.getElem?_set_ne hij] at hx hy; exact h.el i x y hx hy⟩
theorem Mrg.rel {α β : Type} {k : α → Int} {k' : β → Int} {R : α → β → Prop} (hR : ∀ a b, R a b → k a = k' b) {ls : List (List α)} {out : List α} (m : Mrg k ls out) : ∀ {ls' : List (List β)}, A2 (A2 R) ls ls' → ∃ out', Mrg k' ls' out' ∧ A2 R out out' := by
  induction m with
  | nil h =>
    intro ls' h2
    refine ⟨[], Mrg.nil (fun i d v e => ?_), A2.nil R⟩
    obtain ⟨r, e1, e2⟩ := h2.get' e
    cases r with
    | nil => have := e2.len; simp at this
    | cons a r => exact h i a r e1
  | @cons rs j c u out p _ ih =>
    intro ls' h2
    obtain ⟨r', e1, e2⟩ := h2.get p.1
    obtain ⟨c', u', rfl, hc, hu⟩ := e2.uncons
    obtain ⟨out', m', ho⟩ := ih (h2.set hu j)
    refine ⟨c' :: out', Mrg.cons ⟨e1, fun i d v e => ?_⟩ m', ho.cons hc⟩
    obtain ⟨r, f1, f2⟩ := h2.get' e
    cases r with
    | nil => have := f2.len; simp at this
    | cons a r =>
      have ha := f2.el 0 a d rfl rfl
      have := p.2 i a r f1
      rw [hR _ _ hc, hR _ _ ha] at this
      exact this
set_option maxHeartbeats 4000000 in
set_option maxRecDepth 1000000 in
theorem rising_any (D : Rc → List Value × List Value) (M : Nat) (u : List Rc) (ao : Option Addr) (cp : Nat) (w : World) (h : RL D M w ao cp u) (hs : u.length ≤ 1000000000000) : Calls Try.prog 21 #[.slice ao u.length cp] w fun e w' => RisO u e ∧ Tch (fun _ => False) w w' := by
  obtain ⟨n, hn⟩ : ∃ n, n = u.length := ⟨_, rfl⟩
  have HN : Hid (n = u.length) := hn
  have HC : Hid (∀ W, Tch (fun _ => False) w W → RL D M W ao cp u) := fun W t => h.no t
  have hcp : n ≤ cp := by rw [hn]; exact h.len
  have hcm := h.cap
  rw [← hn] at hs ⊢
  clear h hn
  go_enter Try.func21, Try.ntmps21
  go_wp2_with fail
  go_loopg [3] n (fun kx s3 wr => ∃ i : Nat, s3 = .int .i64 ((i : Int) + 1) ∧ n - i ≤ kx ∧ i ≤ n ∧ Hid (∀ j (a b : Rc), j < i → u[j]? = some a → u[j + 1]? = some b → a.l < b.l) ∧ Hid (Tch (fun _ => False) w wr))
  case atStart => exact ⟨0, rfl, by omega, by omega, (fun j a b h => absurd h (Nat.not_lt_zero j) : ∀ j (a b : Rc), j < 0 → u[j]? = some a → u[j + 1]? = some b → a.l < b.l), (Tch.refl _ _ : Tch (fun _ => False) w w)⟩
  case round =>
    obtain ⟨i, rfl, hk, hin, J, T⟩ := hrel
    by_cases hi : i + 1 < n
    · have hi' : (i : Int) + 1 < (n : Int) := by omega
      have hl := HN.out
      obtain ⟨a, ha⟩ : ∃ a, u[i]? = some a := ⟨_, List.getElem?_eq_getElem (by omega)⟩
      obtain ⟨b, hb⟩ : ∃ b, u[i + 1]? = some b := ⟨_, List.getElem?_eq_getElem (by omega)⟩
      obtain ⟨g, o, rfl, x⟩ := (HC.out wr T.out).nth ha
      obtain ⟨g', o', e, y⟩ := (HC.out wr T.out).nth hb
      simp only [Option.some.injEq, Addr.mk.injEq, and_true] at e
      obtain ⟨rfl, rfl⟩ := e
      have x0 := x 0 _ rfl
      have y0 := y 0 _ rfl
      rw [Nat.add_zero] at x0 y0
      obtain ⟨p, hp⟩ : ∃ p, p = a.l := ⟨_, rfl⟩
      obtain ⟨q, hq⟩ : ∃ q, q = b.l := ⟨_, rfl⟩
      rw [← hp] at x0
      rw [← hq] at y0
      have HAB : Hid (u[i]? = some a ∧ u[i + 1]? = some b ∧ p = a.l ∧ q = b.l) := ⟨ha, hb, hp, hq⟩
      have i1 : (i : Int) < (n : Int) := by omega
      clear x y ha hb hp hq hl
      by_cases hqp : q ≤ p
      · go_wp2_with fail
        go_quiet (fail)
        have TQ : Hid (Tch (fun _ => False) w (wr.drewN nq)) := T.out.drewN nq
        clear x0 y0
        go_wp2
        go_ret
        refine ⟨⟨false, rfl, ⟨fun h => (by cases h), fun h => ?_⟩⟩, TQ.out⟩
        obtain ⟨ha, hb, e1, e2⟩ := HAB.out
        have := h i a.l b.l (by rw [List.getElem?_map, ha]; rfl) (by rw [List.getElem?_map, hb]; rfl)
        omega
      · have g1 : decide (q ≤ p) = false := decide_eq_false hqp
        have J2 : Hid (∀ j (a b : Rc), j < i + 1 → u[j]? = some a → u[j + 1]? = some b → a.l < b.l) := fun j a' b' hj ha' hb' => by
          by_cases hji : j = i
          · subst hji
            obtain ⟨ha, hb, e1, e2⟩ := HAB.out
            rw [ha] at ha'
            rw [hb] at hb'
            obtain rfl : a = a' := by simpa using ha'
            obtain rfl : b = b' := by simpa using hb'
            omega
          · exact J.out j a' b' (by omega) ha' hb'
        go_wp2_with fail
        go_quiet (fail)
        have TQ : Hid (Tch (fun _ => False) w (wr.drewN nq)) := T.out.drewN nq
        clear x0 y0
        go_wp2
        go_roundg (n - (i + 1))
        case measure => omega
        case rel => exact ⟨i + 1, rfl, by omega, by omega, J2, TQ⟩
    · have hi' : ¬ (i : Int) + 1 < (n : Int) := by omega
      go_wp2
      go_ret
      refine ⟨⟨true, rfl, ⟨fun _ j x y hx hy => ?_, fun _ => rfl⟩⟩, T.out⟩
      rw [List.getElem?_map] at hx hy
      cases hu : u[j]? with
      | none => rw [hu] at hx; cases hx
      | some a =>
        cases hv : u[j + 1]? with
        | none => rw [hv] at hy; cases hy
        | some b =>
          rw [hu] at hx
          rw [hv] at hy
          obtain rfl : a.l = x := by simpa using hx
          obtain rfl : b.l = y := by simpa using hy
          have h1 := (List.getElem?_eq_some_iff.1 hv).1
          have h2 := HN.out
          exact J.out j a b (by omega) hu hv
set_option maxHeartbeats 4000000 in
set_option maxRecDepth 1000000 in
theorem rrising_any (D : Rc → List Value × List Value) (M : Nat) (u : List Rc) (ao : Option Addr) (cp : Nat) (w : World) (h : RL D M w ao cp u) (hs : u.length ≤ 1000000000000) : Calls Try.prog 22 #[.slice ao u.length cp] w fun e w' => RisO u e ∧ Tch (fun _ => False) w w' := by
  obtain ⟨n, hn⟩ : ∃ n, n = u.length := ⟨_, rfl⟩
  have HN : Hid (n = u.length) := hn
  have HC : Hid (∀ W, Tch (fun _ => False) w W → RL D M W ao cp u) := fun W t => h.no t
  have hcp : n ≤ cp := by rw [hn]; exact h.len
  have hcm := h.cap
  rw [← hn] at hs ⊢
  clear h hn
  go_enter Try.func22, Try.ntmps22
  go_wp2_with fail
  go_loopg [3] n (fun kx s3 wr => ∃ i : Nat, s3 = .int .i64 ((i : Int) + 1) ∧ n - i ≤ kx ∧ i ≤ n ∧ Hid (∀ j (a b : Rc), j < i → u[j]? = some a → u[j + 1]? = some b → a.l < b.l) ∧ Hid (Tch (fun _ => False) w wr))
  case atStart => exact ⟨0, rfl, by omega, by omega, (fun j a b h => absurd h (Nat.not_lt_zero j) : ∀ j (a b : Rc), j < 0 → u[j]? = some a → u[j + 1]? = some b → a.l < b.l), (Tch.refl _ _ : Tch (fun _ => False) w w)⟩
  case round =>
    obtain ⟨i, rfl, hk, hin, J, T⟩ := hrel
    by_cases hi : i + 1 < n
    · have hi' : (i : Int) + 1 < (n : Int) := by omega
      have hl := HN.out
      obtain ⟨a, ha⟩ : ∃ a, u[i]? = some a := ⟨_, List.getElem?_eq_getElem (by omega)⟩
      obtain ⟨b, hb⟩ : ∃ b, u[i + 1]? = some b := ⟨_, List.getElem?_eq_getElem (by omega)⟩
      obtain ⟨g, o, rfl, x⟩ := (HC.out wr T.out).nth ha
      obtain ⟨g', o', e, y⟩ := (HC.out wr T.out).nth hb
      simp only [Option.some.injEq, Addr.mk.injEq, and_true] at e
      obtain ⟨rfl, rfl⟩ := e
      have x0 := x 0 _ rfl
      have y0 := y 0 _ rfl
      rw [Nat.add_zero] at x0 y0
      obtain ⟨p, hp⟩ : ∃ p, p = a.l := ⟨_, rfl⟩
      obtain ⟨q, hq⟩ : ∃ q, q = b.l := ⟨_, rfl⟩
      rw [← hp] at x0
      rw [← hq] at y0
      have HAB : Hid (u[i]? = some a ∧ u[i + 1]? = some b ∧ p = a.l ∧ q = b.l) := ⟨ha, hb, hp, hq⟩
      have i1 : (i : Int) < (n : Int) := by omega
      clear x y ha hb hp hq hl
      by_cases hqp : q ≤ p
      · go_wp2_with fail
        go_quiet (fail)
        have TQ : Hid (Tch (fun _ => False) w (wr.drewN nq)) := T.out.drewN nq
        clear x0 y0
        go_wp2
        go_ret
        refine ⟨⟨false, rfl, ⟨fun h => (by cases h), fun h => ?_⟩⟩, TQ.out⟩
        obtain ⟨ha, hb, e1, e2⟩ := HAB.out
        have := h i a.l b.l (by rw [List.getElem?_map, ha]; rfl) (by rw [List.getElem?_map, hb]; rfl)
        omega
      · have g1 : decide (q ≤ p) = false := decide_eq_false hqp
        have J2 : Hid (∀ j (a b : Rc), j < i + 1 → u[j]? = some a → u[j + 1]? = some b → a.l < b.l) := fun j a' b' hj ha' hb' => by
          by_cases hji : j = i
          · subst hji
            obtain ⟨ha, hb, e1, e2⟩ := HAB.out
            rw [ha] at ha'
            rw [hb] at hb'
            obtain rfl : a = a' := by simpa using ha'
            obtain rfl : b = b' := by simpa using hb'
            omega
          · exact J.out j a' b' (by omega) ha' hb'
        go_wp2_with fail
        go_quiet (fail)
        have TQ : Hid (Tch (fun _ => False) w (wr.drewN nq)) := T.out.drewN nq
        clear x0 y0
        go_wp2
        go_roundg (n - (i + 1))
        case measure => omega
        case rel => exact ⟨i + 1, rfl, by omega, by omega, J2, TQ⟩
    · have hi' : ¬ (i : Int) + 1 < (n : Int) := by omega
      go_wp2
      go_ret
      refine ⟨⟨true, rfl, ⟨fun _ j x y hx hy => ?_, fun _ => rfl⟩⟩, T.out⟩
      rw [List.getElem?_map] at hx hy
      cases hu : u[j]? with
      | none => rw [hu] at hx; cases hx
      | some a =>
        cases hv : u[j + 1]? with
        | none => rw [hv] at hy; cases hy
        | some b =>
          rw [hu] at hx
          rw [hv] at hy
          obtain rfl : a.l = x := by simpa using hx
          obtain rfl : b.l = y := by simpa using hy
          have h1 := (List.getElem?_eq_some_iff.1 hv).1
          have h2 := HN.out
          exact J.out j a b (by omega) hu hv
end Go.Proofs.Ytmnhkgibplnnnaa
