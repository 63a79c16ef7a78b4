import Derived.Maps.OwnSet
/- Package files, plainly: lists of named things by rising names; what a disk is; what each call answers and leaves. -/
namespace Go.Proofs.YtjambfbibeihiaaGreat
set_option maxRecDepth 100000
open Go.ChangeMaps

abbrev Nm := List UInt8

/-- A file: its bytes; how many of them last. -/
structure Fl where
  bs : List UInt8
  la : Nat

section
variable {α β : Type}
def insL (x : Nm × α) : List (Nm × α) → List (Nm × α)
  | [] => [x]
  | y :: r => if bytesBefore x.1 y.1 then x :: y :: r else y :: insL x r
def notL (n : Nm) (p : Nm × α) : Bool := !(p.1 == n)
def delL (n : Nm) (m : List (Nm × α)) : List (Nm × α) := m.filter (notL n)
def putL (n : Nm) (a : α) (m : List (Nm × α)) : List (Nm × α) := insL (n, a) (delL n m)
def getL (n : Nm) (m : List (Nm × α)) : Option α := (m.find? (fun p => p.1 == n)).map (·.2)
def mapL (g : α → β) (m : List (Nm × α)) : List (Nm × β) := m.map fun p => (p.1, g p.2)

theorem mem_insL {x y : Nm × α} : ∀ {m : List (Nm × α)}, y ∈ insL x m ↔ y = x ∨ y ∈ m
  | [] => by simp [insL]
  | z :: r => by
    unfold insL
    split
    · simp
    · simp only [List.mem_cons, mem_insL (m := r)]
      constructor
      · rintro (h | h | h) <;> simp [h]
      · rintro (h | h | h) <;> simp [h]
theorem mem_delL {n : Nm} {y : Nm × α} {m : List (Nm × α)} : y ∈ delL n m ↔ y ∈ m ∧ y.1 ≠ n := by
  simp [delL, notL, List.mem_filter]
theorem mem_putL {n : Nm} {a : α} {y : Nm × α} {m : List (Nm × α)} : y ∈ putL n a m ↔ y = (n, a) ∨ (y ∈ m ∧ y.1 ≠ n) := by
  rw [putL, mem_insL, mem_delL]
theorem insL_mapL (g : α → β) (x : Nm × α) : ∀ m : List (Nm × α), insL (x.1, g x.2) (mapL g m) = mapL g (insL x m)
  | [] => rfl
  | z :: r => by
    unfold insL mapL
    simp only [List.map_cons]
    split
    · simp
    · simp only [List.map_cons, List.cons.injEq, true_and]
      exact insL_mapL g x r
theorem delL_mapL (g : α → β) (n : Nm) : ∀ m : List (Nm × α), delL n (mapL g m) = mapL g (delL n m)
  | [] => rfl
  | z :: r => by
    have ih := delL_mapL g n r
    unfold delL mapL at *
    simp only [List.map_cons, List.filter_cons]
    have : notL n (z.1, g z.2) = notL n z := rfl
    rw [this]
    split <;> simp [ih]
theorem putL_mapL (g : α → β) (n : Nm) (a : α) (m : List (Nm × α)) : putL n (g a) (mapL g m) = mapL g (putL n a m) := by
  rw [putL, delL_mapL]; exact insL_mapL g (n, a) _
theorem getL_mapL (g : α → β) (n : Nm) : ∀ m : List (Nm × α), getL n (mapL g m) = (getL n m).map g
  | [] => rfl
  | z :: r => by
    have ih := getL_mapL g n r
    unfold getL mapL at *
    simp only [List.map_cons, List.find?_cons]
    split <;> simp_all
theorem getL_mem {n : Nm} {a : α} {m : List (Nm × α)} (h : getL n m = some a) : (n, a) ∈ m := by
  unfold getL at h
  cases hf : m.find? (fun p => p.1 == n) with
  | none => rw [hf] at h; cases h
  | some p =>
    rw [hf] at h
    have h1 := List.find?_some hf
    have h2 := List.mem_of_find?_eq_some hf
    simp at h h1
    obtain ⟨p1, p2⟩ := p
    subst h1 h
    exact h2
theorem getL_none {n : Nm} {m : List (Nm × α)} (h : getL n m = none) : ∀ p ∈ m, p.1 ≠ n := by
  unfold getL at h
  simp only [Option.map_eq_none_iff, List.find?_eq_none] at h
  intro p hp e
  exact h p hp (by simp [e])
theorem getL_insL_same {n : Nm} {a : α} : ∀ m : List (Nm × α), (∀ p ∈ m, p.1 ≠ n) → getL n (insL (n, a) m) = some a
  | [], _ => by simp [insL, getL]
  | z :: r, h => by
    unfold insL
    split
    · simp [getL]
    · have hz : (z.1 == n) = false := by simpa using h z (by simp)
      have := getL_insL_same (a := a) r (fun p hp => h p (by simp [hp]))
      simp only [getL, List.find?_cons, hz] at this ⊢
      exact this
theorem getL_insL_other {n n' : Nm} {a : α} (hn : n' ≠ n) : ∀ m : List (Nm × α), getL n' (insL (n, a) m) = getL n' m
  | [] => by simp [insL, getL, Ne.symm hn]
  | z :: r => by
    have hb : (n == n') = false := by simpa using Ne.symm hn
    unfold insL
    split
    · simp [getL, List.find?_cons, hb]
    · have ih := getL_insL_other (a := a) hn r
      simp only [getL, List.find?_cons] at ih ⊢
      split
      · rfl
      · exact ih
theorem getL_delL_other {n n' : Nm} (hn : n' ≠ n) : ∀ m : List (Nm × α), getL n' (delL n m) = getL n' m
  | [] => rfl
  | z :: r => by
    have ih := getL_delL_other hn r
    simp only [delL, getL, List.filter_cons, List.find?_cons] at ih ⊢
    by_cases hz : z.1 = n
    · have h1 : notL n z = false := by simp [notL, hz]
      have h2 : (z.1 == n') = false := by simp [hz]; exact Ne.symm hn
      simp only [h1, h2]
      exact ih
    · have h1 : notL n z = true := by simp [notL, hz]
      simp only [h1, if_true, List.find?_cons]
      split
      · rfl
      · exact ih
theorem getL_delL_same (n : Nm) (m : List (Nm × α)) : getL n (delL n m) = none := by
  cases h : getL n (delL n m) with
  | none => rfl
  | some a => exact absurd rfl (mem_delL.1 (getL_mem h)).2
theorem getL_putL_same (n : Nm) (a : α) (m : List (Nm × α)) : getL n (putL n a m) = some a :=
  getL_insL_same _ (fun _ hp => (mem_delL.1 hp).2)
theorem getL_putL_other {n n' : Nm} (hn : n' ≠ n) (a : α) (m : List (Nm × α)) : getL n' (putL n a m) = getL n' m := by
  rw [putL, getL_insL_other hn, getL_delL_other hn]
theorem length_insL (x : Nm × α) : ∀ m : List (Nm × α), (insL x m).length = m.length + 1
  | [] => rfl
  | z :: r => by
    unfold insL
    split
    · rfl
    · simp [length_insL x r]
theorem length_delL_le (n : Nm) (m : List (Nm × α)) : (delL n m).length ≤ m.length := List.length_filter_le _ _
theorem length_putL_le (n : Nm) (a : α) (m : List (Nm × α)) : (putL n a m).length ≤ m.length + 1 := by
  rw [putL, length_insL]
  have := length_delL_le n m
  omega

/-- The thing of a name in another's place. -/
def setL (n : Nm) (a : α) (m : List (Nm × α)) : List (Nm × α) := m.map fun p => if p.1 == n then (p.1, a) else p
theorem mem_setL {n : Nm} {a : α} {y : Nm × α} {m : List (Nm × α)} (h : y ∈ setL n a m) : y = (n, a) ∨ (y ∈ m ∧ y.1 ≠ n) := by
  obtain ⟨p, hp, rfl⟩ := List.mem_map.1 h
  by_cases hn : p.1 = n
  · left; simp [hn]
  · right; simp [hn, hp]
theorem setL_mapL (g : α → β) (n : Nm) (a : α) (m : List (Nm × α)) : setL n (g a) (mapL g m) = mapL g (setL n a m) := by
  unfold setL mapL
  rw [List.map_map, List.map_map]
  refine List.map_congr_left (fun p _ => ?_)
  simp only [Function.comp]
  split <;> rfl
theorem getL_setL_same {n : Nm} {a a0 : α} : ∀ {m : List (Nm × α)}, getL n m = some a0 → getL n (setL n a m) = some a
  | [], h => by cases h
  | z :: r, h => by
    simp only [getL, List.find?_cons] at h
    simp only [getL, setL, List.map_cons, List.find?_cons]
    cases hz : (z.1 == n)
    · rw [hz] at h
      simp only [Bool.false_eq_true, if_false, hz]
      exact getL_setL_same (m := r) h
    · simp [hz]
theorem getL_setL_other {n n' : Nm} (hn : n' ≠ n) (a : α) : ∀ m : List (Nm × α), getL n' (setL n a m) = getL n' m
  | [] => rfl
  | z :: r => by
    have ih := getL_setL_other hn a r
    simp only [getL, setL, List.map_cons, List.find?_cons] at ih ⊢
    by_cases hz : z.1 = n
    · have h1 : (z.1 == n) = true := by simpa using hz
      have h2 : (z.1 == n') = false := by simp [hz]; exact Ne.symm hn
      simp only [h1, if_true, h2]
      exact ih
    · have h1 : (z.1 == n) = false := by simpa using hz
      simp only [h1, Bool.false_eq_true, if_false]
      split
      · rfl
      · exact ih
theorem length_setL (n : Nm) (a : α) (m : List (Nm × α)) : (setL n a m).length = m.length := by simp [setL]
theorem names_setL (n : Nm) (a : α) (m : List (Nm × α)) : (setL n a m).map (·.1) = m.map (·.1) := by
  unfold setL
  rw [List.map_map]
  refine List.map_congr_left (fun p _ => ?_)
  simp only [Function.comp]
  split <;> rfl

/-- No name twice. -/
def Apart (m : List (Nm × α)) : Prop := m.Pairwise (fun p q => p.1 ≠ q.1)
theorem Apart.get {m : List (Nm × α)} (h : Apart m) {n : Nm} {a : α} (hm : (n, a) ∈ m) : getL n m = some a := by
  induction m with
  | nil => cases hm
  | cons z r ih =>
    obtain ⟨h1, h2⟩ := List.pairwise_cons.1 h
    simp only [getL, List.find?_cons]
    rcases List.mem_cons.1 hm with rfl | hm
    · simp
    · have : (z.1 == n) = false := by simpa using h1 _ hm
      rw [this]
      exact ih h2 hm
/-- A sum over them. -/
def sumL (g : α → Nat) (m : List (Nm × α)) : Nat := (m.map fun p => g p.2).sum
theorem sumL_insL (g : α → Nat) (x : Nm × α) : ∀ m : List (Nm × α), sumL g (insL x m) = g x.2 + sumL g m
  | [] => by simp [insL, sumL]
  | z :: r => by
    unfold insL
    split
    · simp [sumL]
    · have := sumL_insL g x r
      simp only [sumL, List.map_cons, List.sum_cons] at this ⊢
      omega
theorem sumL_delL_none (g : α → Nat) (n : Nm) {m : List (Nm × α)} (h : getL n m = none) : sumL g (delL n m) = sumL g m := by
  have : delL n m = m := by
    refine List.filter_eq_self.2 (fun p hp => ?_)
    have := getL_none h p hp
    simp [notL, this]
  rw [this]
theorem sumL_delL_some (g : α → Nat) (n : Nm) {a : α} : ∀ {m : List (Nm × α)}, Apart m → getL n m = some a → sumL g m = g a + sumL g (delL n m)
  | [], _, h => by cases h
  | z :: r, hA, h => by
    obtain ⟨h1, h2⟩ := List.pairwise_cons.1 hA
    simp only [getL, List.find?_cons] at h
    by_cases hz : z.1 = n
    · have hb : (z.1 == n) = true := by simpa using hz
      rw [hb] at h
      simp at h
      subst h
      have hr : getL n r = none := by
        cases hg : getL n r with
        | none => rfl
        | some a => exact absurd hz (h1 _ (getL_mem hg))
      have h3 := sumL_delL_none g n hr
      have h4 : delL n (z :: r) = delL n r := by
        have : notL n z = false := by simp [notL, hz]
        simp [delL, this]
      rw [h4, h3]
      simp [sumL]
    · have hb : (z.1 == n) = false := by simpa using hz
      rw [hb] at h
      have ih := sumL_delL_some g n h2 h
      have h4 : delL n (z :: r) = z :: delL n r := by
        have : notL n z = true := by simp [notL, hz]
        simp [delL, this]
      rw [h4]
      simp only [sumL, List.map_cons, List.sum_cons] at ih ⊢
      omega
theorem Apart.set {m : List (Nm × α)} (h : Apart m) (n : Nm) (a : α) : Apart (setL n a m) := by
  unfold Apart setL
  rw [List.pairwise_map]
  refine h.imp (fun {p q} hpq => ?_)
  have e : ∀ x : Nm × α, (if x.1 == n then (x.1, a) else x).1 = x.1 := fun x => by split <;> rfl
  rw [e, e]; exact hpq
theorem setL_none (n : Nm) (a : α) {m : List (Nm × α)} (h : getL n m = none) : setL n a m = m := by
  unfold setL
  conv => rhs; rw [← List.map_id m]
  refine List.map_congr_left (fun p hp => ?_)
  have := getL_none h p hp
  simp [this]
theorem sumL_setL (g : α → Nat) (n : Nm) {a a0 : α} : ∀ {m : List (Nm × α)}, Apart m → getL n m = some a0 → sumL g (setL n a m) + g a0 = sumL g m + g a
  | [], _, h => by cases h
  | z :: r, hA, h => by
    obtain ⟨h1, h2⟩ := List.pairwise_cons.1 hA
    simp only [getL, List.find?_cons] at h
    by_cases hz : z.1 = n
    · have hb : (z.1 == n) = true := by simpa using hz
      rw [hb] at h
      simp at h
      subst h
      have hr : getL n r = none := by
        cases hg : getL n r with
        | none => rfl
        | some a => exact absurd hz (h1 _ (getL_mem hg))
      have h4 : setL n a (z :: r) = (z.1, a) :: r := by
        have := setL_none n a hr
        unfold setL at this ⊢
        rw [List.map_cons, this]
        simp [hb]
      rw [h4]
      simp only [sumL, List.map_cons, List.sum_cons]
      omega
    · have hb : (z.1 == n) = false := by simpa using hz
      rw [hb] at h
      have ih := sumL_setL g n (a := a) h2 h
      have h4 : setL n a (z :: r) = z :: setL n a r := by
        unfold setL
        rw [List.map_cons]
        simp [hb]
      rw [h4]
      simp only [sumL, List.map_cons, List.sum_cons] at ih ⊢
      omega
theorem apart_mapL (g : α → β) {m : List (Nm × α)} (h : Apart m) : Apart (mapL g m) := by
  unfold Apart mapL
  rw [List.pairwise_map]
  exact h
theorem mapL_apart (g : α → β) {m : List (Nm × α)} (h : Apart (mapL g m)) : Apart m := by
  unfold Apart mapL at h
  rw [List.pairwise_map] at h
  exact h
theorem Apart.del {m : List (Nm × α)} (h : Apart m) (n : Nm) : Apart (delL n m) := h.filter _
theorem apart_insL {x : Nm × α} : ∀ {m : List (Nm × α)}, Apart m → (∀ p ∈ m, p.1 ≠ x.1) → Apart (insL x m)
  | [], _, _ => by simp [insL, Apart]
  | z :: r, h, hx => by
    obtain ⟨h1, h2⟩ := List.pairwise_cons.1 h
    unfold insL
    split
    · exact List.pairwise_cons.2 ⟨fun p hp => (hx p hp).symm, h⟩
    · refine List.pairwise_cons.2 ⟨fun p hp => ?_, apart_insL h2 (fun p hp => hx p (by simp [hp]))⟩
      rcases mem_insL.1 hp with rfl | hp
      · exact hx z (by simp)
      · exact h1 p hp
theorem Apart.put {m : List (Nm × α)} (h : Apart m) (n : Nm) (a : α) : Apart (putL n a m) :=
  apart_insL (h.del n) (fun _ hp => (mem_delL.1 hp).2)
theorem sumL_mapL (f : β → Nat) (g : α → β) (m : List (Nm × α)) : sumL f (mapL g m) = sumL (fun a => f (g a)) m := by
  simp [sumL, mapL, List.map_map, Function.comp_def]
end

/-- A disk. -/
structure Dsk where
  cap : Nat
  m : List (Nm × Fl)
  dead : Bool
  die : Nat
  fail : Nat

def lenF (f : Fl) : Nat := f.bs.length
def Dsk.used (d : Dsk) : Nat := sumL lenF d.m

def okB (c : UInt8) : Bool := decide (97 ≤ c.toNat ∧ c.toNat ≤ 122 ∨ 48 ≤ c.toNat ∧ c.toNat ≤ 57 ∨ c.toNat = 46 ∨ c.toNat = 95 ∨ c.toNat = 45)
def okN (s : Nm) : Bool := 1 ≤ s.length && s.length ≤ 40 && s.all okB

/-- What every call that has a name answers first. -/
def Dsk.refuse (d : Dsk) (n : Nm) : Int := if okN n = false then 20 else if d.dead then 2 else 0
/-- What a call answers that needs the file. -/
def Dsk.ask (d : Dsk) (n : Nm) : Int := if d.refuse n ≠ 0 then d.refuse n else if (getL n d.m).isNone then 21 else 0
/-- The act: g: what is done. -/
def Dsk.act (d : Dsk) (g : Dsk → Dsk) : Int × Dsk := if d.die = 1 then (2, { d with dead := true, die := 0 }) else (0, { g d with die := d.die - 1 })
def Dsk.set (d : Dsk) (n : Nm) (f : Fl) : Dsk := { d with m := setL n f d.m }
def Dsk.file (d : Dsk) (n : Nm) : Fl := (getL n d.m).getD ⟨[], 0⟩

def Dsk.create (d : Dsk) (n : Nm) : Int × Dsk :=
  if d.refuse n ≠ 0 then (d.refuse n, d) else if (getL n d.m).isSome then (22, d) else d.act fun d => { d with m := putL n ⟨[], 0⟩ d.m }
def Dsk.append (d : Dsk) (n s : Nm) : Int × Dsk :=
  if d.ask n ≠ 0 then (d.ask n, d) else if d.cap < d.used + s.length then (23, d) else d.act fun d => d.set n ⟨(d.file n).bs ++ s, (d.file n).la⟩
def Dsk.sync (d : Dsk) (n : Nm) : Int × Dsk :=
  if d.ask n ≠ 0 then (d.ask n, d) else if d.die = 1 then (2, { d with dead := true, die := 0 })
  else if d.fail = 1 then (25, { d with fail := 0, die := d.die - 1 })
  else (0, { d.set n ⟨(d.file n).bs, (d.file n).bs.length⟩ with fail := d.fail - 1, die := d.die - 1 })
def Dsk.trunc (d : Dsk) (n : Nm) (k : Int) : Int × Dsk :=
  if d.ask n ≠ 0 then (d.ask n, d) else if k < 0 ∨ ((d.file n).bs.length : Int) < k then (24, d) else d.act fun d => d.set n ⟨(d.file n).bs.take k.toNat, min (d.file n).la k.toNat⟩
def Dsk.remove (d : Dsk) (n : Nm) : Int × Dsk :=
  if d.ask n ≠ 0 then (d.ask n, d) else d.act fun d => { d with m := delL n d.m }
def Dsk.rename (d : Dsk) (n n' : Nm) : Int × Dsk :=
  if okN n' = false then (20, d) else if d.ask n ≠ 0 then (d.ask n, d) else d.act fun d => if n = n' then d else { d with m := putL n' (d.file n) (delL n (delL n' d.m)) }
def Dsk.arm (d : Dsk) (k : Int) : Int × Dsk := if k < 0 then (1, d) else if d.dead then (2, d) else (0, { d with die := k.toNat })
def Dsk.failSync (d : Dsk) (k : Int) : Int × Dsk := if k < 0 then (1, d) else if d.dead then (2, d) else (0, { d with fail := k.toNat })
def Dsk.pending (d : Dsk) (n : Nm) : Nat := (d.file n).bs.length - (d.file n).la
/-- What a Crash keeps of a file. -/
def keepF (k : Nm → Nat) (n : Nm) (f : Fl) : Fl := ⟨f.bs.take (f.la + k n), f.la + k n⟩
def Dsk.torn (d : Dsk) (k : Nm → Nat) : Dsk := { d with m := d.m.map fun p => (p.1, keepF k p.1 p.2), dead := false, die := 0, fail := 0 }

end Go.Proofs.YtjambfbibeihiaaGreat
