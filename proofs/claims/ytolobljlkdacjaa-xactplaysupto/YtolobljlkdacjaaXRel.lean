import Derived.Test.YtolobljlkdacjaaXForg3
/- The document's manager as plain mathematics: a list of numbers; how it goes with the code's. -/
namespace Go.Proofs.Ytolobljlkdacjaa

structure Nm where
  n : Nat
  par : Nat
  st : Nat
  had : Nat
  rl : Bool
  bk : Bool

/-- Where a number stands. -/
def posN : List Nm → Int → Option Nat
  | [], _ => none
  | a :: r, n => if (a.n : Int) = n then some 0 else (posN r n).map (· + 1)
def posZ (L : List Nm) (n : Int) : Int := match posN L n with
  | some j => j
  | none => -1
theorem posN_some {L : List Nm} {n : Int} {j : Nat} (h : posN L n = some j) : ∃ a, L[j]? = some a ∧ (a.n : Int) = n := by
  induction L generalizing j with
  | nil => cases h
  | cons p r ih =>
    unfold posN at h
    split at h
    · cases h; exact ⟨p, rfl, by assumption⟩
    · cases hi : posN r n with
      | none => rw [hi] at h; cases h
      | some k =>
        rw [hi] at h; cases h
        exact ih hi
theorem posN_none {L : List Nm} {n : Int} (h : posN L n = none) : ∀ (j : Nat) a, L[j]? = some a → (a.n : Int) ≠ n := by
  induction L with
  | nil => intro j a hp; simp at hp
  | cons p r ih =>
    unfold posN at h
    split at h
    · cases h
    · rename_i hne
      cases hi : posN r n with
      | none =>
        intro j q hq
        cases j with
        | zero => simp at hq; subst hq; exact hne
        | succ j => exact ih hi j q (by simpa using hq)
      | some k => rw [hi] at h; cases h
theorem posN_is {L : List Nm} {n : Int} {j : Nat} {a : Nm} (ha : L[j]? = some a) (hn : (a.n : Int) = n) (hb : ∀ i b, i < j → L[i]? = some b → (b.n : Int) ≠ n) : posN L n = some j := by
  induction L generalizing j with
  | nil => simp at ha
  | cons p r ih =>
    unfold posN
    cases j with
    | zero => simp at ha; subst ha; rw [if_pos hn]
    | succ j =>
      rw [if_neg (hb 0 p (by omega) rfl), ih (j := j) (by simpa using ha) (fun i b hi hb' => hb (i + 1) b (by omega) (by simpa using hb'))]; rfl
theorem posN_no {L : List Nm} {n : Int} (h : ∀ (j : Nat) a, L[j]? = some a → (a.n : Int) ≠ n) : posN L n = none := by
  cases hp : posN L n with
  | none => rfl
  | some j => obtain ⟨a, h1, h2⟩ := posN_some hp; exact absurd h2 (h j a h1)

theorem pw_get {α : Type} {R : α → α → Prop} : ∀ {l : List α}, l.Pairwise R → ∀ (i j : Nat) a b, i < j → l[i]? = some a → l[j]? = some b → R a b
  | [], _, i, j, a, b, _, h, _ => by simp at h
  | x :: l, hp, i, j, a, b, hij, ha, hb => by
    cases i with
    | zero =>
      simp at ha; subst ha
      cases j with
      | zero => omega
      | succ j => exact (List.pairwise_cons.1 hp).1 b (List.mem_of_getElem? (by simpa using hb))
    | succ i =>
      cases j with
      | zero => omega
      | succ j => exact pw_get (List.pairwise_cons.1 hp).2 i j a b (by omega) (by simpa using ha) (by simpa using hb)
theorem pw_of {α : Type} {R : α → α → Prop} : ∀ {l : List α}, (∀ (i j : Nat) a b, i < j → l[i]? = some a → l[j]? = some b → R a b) → l.Pairwise R
  | [], _ => List.Pairwise.nil
  | x :: l, h => List.pairwise_cons.2 ⟨fun b hb => by
      obtain ⟨j, hj⟩ := List.getElem?_of_mem hb
      exact h 0 (j + 1) x b (by omega) rfl (by simpa using hj), pw_of (fun i j a b hij ha hb => h (i + 1) (j + 1) a b (by omega) (by simpa using ha) (by simpa using hb))⟩
/-- Two rising lists that have the same numbers are the same. -/
theorem rise_ext : ∀ {l k : List Nat}, l.Pairwise (· < ·) → k.Pairwise (· < ·) → (∀ x, x ∈ l ↔ x ∈ k) → l = k
  | [], [], _, _, _ => rfl
  | [], b :: k, _, _, h => by have := (h b).2 (by simp); simp at this
  | a :: l, [], _, _, h => by have := (h a).1 (by simp); simp at this
  | a :: l, b :: k, hl, hk, h => by
    rw [List.pairwise_cons] at hl hk
    have hab : a = b := by
      have h1 := (h a).1 (by simp)
      have h2 := (h b).2 (by simp)
      rcases List.mem_cons.1 h1 with e | h1
      · exact e
      · rcases List.mem_cons.1 h2 with e | h2
        · exact e.symm
        · have := hk.1 a h1; have := hl.1 b h2; omega
    subst hab
    rw [rise_ext hl.2 hk.2 (fun x => ⟨fun hx => by
      rcases List.mem_cons.1 ((h x).1 (by simp [hx])) with e | e
      · have := hl.1 x hx; omega
      · exact e, fun hx => by
      rcases List.mem_cons.1 ((h x).2 (by simp [hx])) with e | e
      · have := hk.1 x hx; omega
      · exact e⟩)]
theorem rise_len : ∀ (l : List Nat) (k n : Nat), l.Pairwise (· < ·) → (∀ x ∈ l, k ≤ x ∧ x < n) → l.length ≤ n - k
  | [], k, n, _, _ => by simp
  | a :: r, k, n, hp, hx => by
    have h1 := hx a (by simp)
    have h2 := rise_len r (a + 1) n (List.pairwise_cons.1 hp).2 (fun x hx' => ⟨(List.pairwise_cons.1 hp).1 x hx', (hx x (by simp [hx'])).2⟩)
    simp only [List.length_cons]; omega

/-- What is known stands just once. -/
theorem Wf.fnd_one {m : Mg} (h : Wf m) {t : Tx} (ht : t ∈ m.tx) {k : Int} (hk : (t.x : Int) = k ∨ ∃ p ∈ t.ps, (p.x : Int) = k) : ∃ i, fnd m.tx k = some (t, i) := by
  cases hf : fnd m.tx k with
  | none =>
    have := fnd_none hf t ht
    rcases hk with e | ⟨p, hp, e⟩
    · exact absurd e this.1
    · exact absurd e (this.2 p hp)
  | some a =>
    obtain ⟨u, i⟩ := a
    obtain ⟨hu, hc⟩ := fnd_mem hf
    have hc' : (u.x : Int) = k ∨ ∃ p ∈ u.ps, (p.x : Int) = k := by
      rcases hc with ⟨_, e⟩ | ⟨j, p, _, _, hp, e, _⟩
      · exact Or.inl e
      · exact Or.inr ⟨p, List.mem_of_getElem? hp, e⟩
    have : t = u := by
      obtain ⟨i1, hi1⟩ := List.getElem?_of_mem ht
      obtain ⟨i2, hi2⟩ := List.getElem?_of_mem hu
      have key : ∀ (j1 j2 : Nat) (a b : Tx), j1 < j2 → m.tx[j1]? = some a → m.tx[j2]? = some b → ((a.x : Int) = k ∨ ∃ p ∈ a.ps, (p.x : Int) = k) → ((b.x : Int) = k ∨ ∃ p ∈ b.ps, (p.x : Int) = k) → False := by
        intro j1 j2 a b hj ha hb hka hkb
        have h1 := pw_get h.up j1 j2 a b hj ha hb
        have h2 := pw_get h.ap j1 j2 a b hj ha hb
        rcases hka with e | ⟨p, hp, e⟩
        · rcases hkb with e2 | ⟨q, hq, e2⟩
          · omega
          · have := (h.pl b (List.mem_of_getElem? hb) q hq).1; omega
        · rcases hkb with e2 | ⟨q, hq, e2⟩
          · have := (h2 p hp).1; omega
          · have := (h2 p hp).2 q hq; omega
      rcases Nat.lt_trichotomy i1 i2 with hl | hl | hl
      · exact (key i1 i2 t u hl hi1 hi2 hk hc').elim
      · subst hl; rw [hi1] at hi2; injection hi2
      · exact (key i2 i1 u t hl hi2 hi1 hc' hk).elim
    subst this
    exact ⟨i, rfl⟩
theorem Wf.fnd_tx {m : Mg} (h : Wf m) {t : Tx} (ht : t ∈ m.tx) : fnd m.tx (t.x : Int) = some (t, -1) := by
  obtain ⟨i, hi⟩ := h.fnd_one ht (Or.inl rfl)
  rcases (fnd_mem hi).2 with ⟨e, _⟩ | ⟨k, p, _, _, _, _, e⟩
  · rw [hi, e]
  · exact absurd rfl e
theorem Wf.fnd_pt {m : Mg} (h : Wf m) {t : Tx} (ht : t ∈ m.tx) {k : Nat} {p : Pt} (hp : t.ps[k]? = some p) : fnd m.tx (p.x : Int) = some (t, (k : Int)) := by
  have hm := List.mem_of_getElem? hp
  obtain ⟨i, hi⟩ := h.fnd_one ht (Or.inr ⟨p, hm, rfl⟩)
  rcases (fnd_mem hi).2 with ⟨_, e⟩ | ⟨j, q, e, _, hq, e2, _⟩
  · have := (h.pl t ht p hm).1; omega
  · have : j = k := by
      rcases Nat.lt_trichotomy j k with hl | hl | hl
      · have := pw_get (h.pu t ht) j k q p hl hq hp; omega
      · exact hl
      · have := pw_get (h.pu t ht) k j p q hl hp hq; omega
    rw [hi, e, this]
theorem Wf.fnd_lt {m : Mg} (h : Wf m) {k : Int} {t : Tx} {i : Int} (hf : fnd m.tx k = some (t, i)) : 1 ≤ k ∧ k < m.nx := by
  obtain ⟨ht, ⟨_, e⟩ | ⟨j, p, _, _, hp, e, _⟩⟩ := fnd_mem hf
  · have := h.lo t ht; omega
  · have := h.pl t ht p (List.mem_of_getElem? hp); have := h.lo t ht; omega

/-- The number around a part. -/
def parN (t : Tx) (ar : Int) : Nat := if 0 ≤ ar then match t.ps[ar.toNat]? with | some p => p.x | none => 0 else t.x
/-- What stands in the list for a number. -/
structure NmOk (t : Tx) (i : Int) (a : Nm) : Prop where
  tx : i = -1 → a.par = 0 ∧ a.st = t.st ∧ a.had = t.ps.length ∧ a.bk = false
  pt : ∀ (k : Nat) p, i = (k : Int) → t.ps[k]? = some p → a.par = parN t p.ar ∧ (p.ft = 2 ↔ (a.bk = true ∨ fate t p.ar = 2)) ∧ (p.ft ≠ 0 ↔ (a.rl = true ∨ p.ft = 2))
structure Rel (m : Mg) (L : List Nm) : Prop where
  wf : Wf m
  up : L.Pairwise (fun a b => a.n < b.n)
  no : ∀ n : Int, fnd m.tx n = none → posN L n = none
  yes : ∀ (n : Int) t i, fnd m.tx n = some (t, i) → ∃ j a, posN L n = some j ∧ L[j]? = some a ∧ (a.n : Int) = n ∧ NmOk t i a
theorem Rel.at {m : Mg} {L : List Nm} (h : Rel m L) {j : Nat} {a : Nm} (ha : L[j]? = some a) : posN L (a.n : Int) = some j ∧ ∃ t i, fnd m.tx (a.n : Int) = some (t, i) ∧ NmOk t i a := by
  have hp : posN L (a.n : Int) = some j := posN_is ha rfl (fun i b hi hb e => by have := pw_get h.up i j b a hi hb ha; omega)
  refine ⟨hp, ?_⟩
  cases hf : fnd m.tx (a.n : Int) with
  | none => rw [h.no _ hf] at hp; cases hp
  | some q =>
    obtain ⟨t, i⟩ := q
    obtain ⟨j2, a2, h1, h2, _, h3⟩ := h.yes _ t i hf
    rw [hp] at h1
    injection h1 with h1
    subst h1
    rw [ha] at h2
    injection h2 with h2
    subst h2
    exact ⟨t, i, rfl, h3⟩
theorem Rel.len {m : Mg} {L : List Nm} (h : Rel m L) : L.length ≤ 2147483648 := by
  have h1 : (L.map (·.n)).Pairwise (· < ·) := by rw [List.pairwise_map]; exact h.up
  have h2 := rise_len (L.map (·.n)) 0 m.nx h1 (fun x hx => by
    obtain ⟨a, ha, rfl⟩ := List.mem_map.1 hx
    obtain ⟨j, hj⟩ := List.getElem?_of_mem ha
    obtain ⟨_, t, i, hf, _⟩ := h.at hj
    have := h.wf.fnd_lt hf
    omega)
  have := h.wf.n2
  simp at h2
  omega
/-- From a part to what is around it. -/
theorem Rel.step {m : Mg} {L : List Nm} (h : Rel m L) {n : Int} {t : Tx} {k : Nat} (hf : fnd m.tx n = some (t, (k : Int))) {j : Nat} {a : Nm} (hj : posN L n = some j) (ha : L[j]? = some a) :
    ∃ p j', t.ps[k]? = some p ∧ a.par ≠ 0 ∧ fnd m.tx (a.par : Int) = some (t, p.ar) ∧ posN L (a.par : Int) = some j' ∧ j' < j ∧ -1 ≤ p.ar ∧ p.ar < k ∧ (p.ft = 2 ↔ (a.bk = true ∨ fate t p.ar = 2)) ∧ (p.ft ≠ 0 ↔ (a.rl = true ∨ p.ft = 2)) := by
  obtain ⟨j2, a2, e1, e2, e3, ok⟩ := h.yes _ _ _ hf
  rw [hj] at e1
  injection e1 with e1
  subst e1
  rw [ha] at e2
  injection e2 with e2
  subst e2
  obtain ⟨ht, ⟨e, _⟩ | ⟨k', p, e, _, hp, hpn, _⟩⟩ := fnd_mem hf
  · omega
  · have : k' = k := by omega
    subst this
    obtain ⟨o1, o2, o3⟩ := ok.pt k' p rfl hp
    have hr := h.wf.ar t ht k' p hp
    have hpx := h.wf.pl t ht p (List.mem_of_getElem? hp)
    have hlo := h.wf.lo t ht
    have key : fnd m.tx (a.par : Int) = some (t, p.ar) ∧ a.par ≠ 0 ∧ a.par < p.x := by
      rw [o1]
      unfold parN
      by_cases hz : 0 ≤ p.ar
      · rw [if_pos hz]
        have hlt : p.ar.toNat < t.ps.length := by
          have := (List.getElem?_eq_some_iff.1 hp).1; omega
        have hq : t.ps[p.ar.toNat]? = some t.ps[p.ar.toNat] := List.getElem?_eq_getElem hlt
        rw [hq]
        have := pw_get (h.wf.pu t ht) p.ar.toNat k' _ p (by omega) hq hp
        have h2 := h.wf.pl t ht _ (List.mem_of_getElem? hq)
        refine ⟨?_, (by show t.ps[p.ar.toNat].x ≠ 0; omega), this⟩
        rw [h.wf.fnd_pt ht hq]
        congr 2
        omega
      · rw [if_neg hz]
        have : p.ar = -1 := by omega
        rw [this]
        exact ⟨h.wf.fnd_tx ht, by omega, hpx.1⟩
    obtain ⟨j', a', f1, f2, f3, _⟩ := h.yes _ _ _ key.1
    refine ⟨p, j', hp, key.2.1, key.1, f1, ?_, hr.1, hr.2.1, o2, o3⟩
    rcases Nat.lt_trichotomy j' j with hl | hl | hl
    · exact hl
    · subst hl
      rw [ha] at f2
      injection f2 with f2
      subst f2
      have := key.2.2
      omega
    · have := pw_get h.up j j' a a' hl ha f2
      have := key.2.2
      omega
theorem Rel.root {m : Mg} {L : List Nm} (h : Rel m L) {n : Int} {t : Tx} (hf : fnd m.tx n = some (t, -1)) {j : Nat} {a : Nm} (hj : posN L n = some j) (ha : L[j]? = some a) : n = t.x ∧ a.n = t.x ∧ a.par = 0 ∧ a.st = t.st ∧ a.had = t.ps.length ∧ a.bk = false := by
  obtain ⟨j2, a2, e1, e2, e3, ok⟩ := h.yes _ _ _ hf
  rw [hj] at e1
  injection e1 with e1
  subst e1
  rw [ha] at e2
  injection e2 with e2
  subst e2
  obtain ⟨ht, ⟨e, hn⟩ | ⟨k', p, e, _, hp, hpn, _⟩⟩ := fnd_mem hf
  · exact ⟨hn.symm, by omega, ok.tx rfl⟩
  · omega
/-- A number that is known: the transaction's own, or a part's. -/
theorem fnd_cases {L : List Tx} {n : Int} {t : Tx} {i : Int} (h : fnd L n = some (t, i)) : i = -1 ∨ ∃ k : Nat, i = k ∧ k < t.ps.length := by
  obtain ⟨_, ⟨e, _⟩ | ⟨k, p, e, _, hp, _, _⟩⟩ := fnd_mem h
  · exact Or.inl e
  · exact Or.inr ⟨k, e, (List.getElem?_eq_some_iff.1 hp).1⟩
theorem fate_pt {t : Tx} {k : Nat} {p : Pt} (h : t.ps[k]? = some p) : fate t (k : Int) = p.ft := by
  unfold fate
  rw [if_pos (by omega)]
  simp [h]
theorem fate_tx (t : Tx) : fate t (-1) = 0 := by
  unfold fate
  rw [if_neg (by omega)]
/-- Fuel enough is enough. -/
theorem within_fuel {ps : List Pt} {o : Int} (har : ∀ (i : Nat) p, ps[i]? = some p → -1 ≤ p.ar ∧ p.ar < i) (ho : -1 ≤ o) : ∀ (f g : Nat) (a : Int), -1 ≤ a → a < f → a < g → a < ps.length → within ps o f a = within ps o g a
  | 0, g, a, h1, h2, h3, _ => by
    rw [within_stop 0 (by omega), within_stop g (by omega)]
  | f + 1, g, a, h1, h2, h3, h4 => by
    by_cases hlt : o < a
    · obtain ⟨g', rfl⟩ : ∃ g', g = g' + 1 := ⟨g - 1, by omega⟩
      have hl : a.toNat < ps.length := by omega
      have hp : ps[a.toNat]? = some ps[a.toNat] := List.getElem?_eq_getElem hl
      have := har _ _ hp
      rw [within_step hlt hp, within_step hlt hp]
      exact within_fuel har ho f g' _ this.1 (by omega) (by omega) (by omega)
    · rw [within_stop _ hlt, within_stop _ hlt]
theorem within_up {ps : List Pt} {o : Int} (har : ∀ (i : Nat) p, ps[i]? = some p → -1 ≤ p.ar ∧ p.ar < i) (ho : -1 ≤ o) {k : Nat} {p : Pt} (hp : ps[k]? = some p) (hk : o < k) : within ps o ps.length k = within ps o ps.length p.ar := by
  have hl := (List.getElem?_eq_some_iff.1 hp).1
  obtain ⟨f, hf⟩ : ∃ f, ps.length = f + 1 := ⟨ps.length - 1, by omega⟩
  have hr := har k p hp
  have h1 := within_step (ps := ps) (o := o) (a := (k : Int)) (k := f) hk (by simpa using hp)
  rw [hf, h1, ← hf]
  exact within_fuel har ho f ps.length _ hr.1 (by omega) (by omega) (by omega)
end Go.Proofs.Ytolobljlkdacjaa
