/- Forget. -/
import Derived.Test.YtkokmgoplldcfaaXForg
namespace Go.Proofs.Ytkokmgoplldcfaa
open Go.RowKit Go Go.Sort Go.Maps

def Mg.forget (m : Mg) (below : Int) : Mg := ⟨m.nx, m.on, m.tx.filter (fun t => !goneT t below)⟩
theorem Wf.forget {m : Mg} (h : Wf m) (below : Int) : Wf (m.forget below) := by
  have hm : ∀ t ∈ (m.forget below).tx, t ∈ m.tx := fun t ht => (List.mem_filter.1 ht).1
  refine ⟨h.n1, h.n2, fun t ht => h.lo t (hm t ht), fun t ht => h.pl t (hm t ht), fun t ht => h.st t (hm t ht), fun t ht => h.ln t (hm t ht), fun t ht => h.ar t (hm t ht), h.up.filter _, h.ap.filter _, fun t ht => h.pu t (hm t ht), ?_⟩
  show m.on = ((m.tx.filter (fun t => !goneT t below)).filter (fun t => t.st < 3)).map (·.x)
  rw [h.on, List.filter_filter]
  congr 1
  refine List.filter_congr (fun t _ => ?_)
  by_cases hs : t.st < 3
  · have : goneT t below = false := by simp [goneT]; omega
    simp [hs, this]
  · simp [hs]
/-- Under a number stands one transaction alone. -/
theorem fnd_filter {m : Mg} (h : Wf m) (f : Tx → Bool) (k : Int) : fnd (m.tx.filter f) k = match fnd m.tx k with
    | some (t, i) => if f t then some (t, i) else none
    | none => none := by
  have hin : ∀ t ∈ m.tx, ∀ u ∈ m.tx, ((t.x : Int) = k ∨ ∃ p ∈ t.ps, (p.x : Int) = k) → ((u.x : Int) = k ∨ ∃ p ∈ u.ps, (p.x : Int) = k) → t = u := by
    have key : ∀ L : List Tx, (∀ t ∈ L, t ∈ m.tx) → L.Pairwise (fun t u => t.x < u.x) → L.Pairwise (fun t u => ∀ p ∈ t.ps, p.x ≠ u.x ∧ ∀ q ∈ u.ps, p.x ≠ q.x) → ∀ t ∈ L, ∀ u ∈ L, ((t.x : Int) = k ∨ ∃ p ∈ t.ps, (p.x : Int) = k) → ((u.x : Int) = k ∨ ∃ p ∈ u.ps, (p.x : Int) = k) → t = u := by
      intro L
      induction L with
      | nil => intro _ _ _ t ht; cases ht
      | cons a r ih =>
        intro hL h1 h2 t ht u hu ct cu
        obtain ⟨h1a, h1b⟩ := List.pairwise_cons.1 h1
        obtain ⟨h2a, h2b⟩ := List.pairwise_cons.1 h2
        have no : ∀ v ∈ r, ((a.x : Int) = k ∨ ∃ p ∈ a.ps, (p.x : Int) = k) → ((v.x : Int) = k ∨ ∃ p ∈ v.ps, (p.x : Int) = k) → False := fun v hv ca cv => by
          have l1 := h1a v hv
          rcases ca with ca | ⟨p, hp, ca⟩ <;> rcases cv with cv | ⟨q, hq, cv⟩
          · omega
          · have := (h.pl v (hL v (by simp [hv])) q hq).1; omega
          · have := (h2a v hv p hp).1; omega
          · have := (h2a v hv p hp).2 q hq; omega
        rcases List.mem_cons.1 ht with e1 | ht' <;> rcases List.mem_cons.1 hu with e2 | hu'
        · rw [e1, e2]
        · rw [e1] at ct; exact (no u hu' ct cu).elim
        · rw [e2] at cu; exact (no t ht' cu ct).elim
        · exact ih (fun v hv => hL v (by simp [hv])) h1b h2b t ht' u hu' ct cu
    exact key m.tx (fun _ h => h) h.up h.ap
  have cl : ∀ {L : List Tx} {t : Tx} {i : Int}, fnd L k = some (t, i) → (t.x : Int) = k ∨ ∃ p ∈ t.ps, (p.x : Int) = k := fun {L t i} hf => by
    obtain ⟨_, ⟨_, e⟩ | ⟨j, p, _, _, hp, e, _⟩⟩ := fnd_mem hf
    · exact Or.inl e
    · exact Or.inr ⟨p, List.mem_of_getElem? hp, e⟩
  have pl : ∀ {L L' : List Tx} {t : Tx} {i i' : Int}, fnd L k = some (t, i) → fnd L' k = some (t, i') → i = i' := fun {L L' t i i'} hf hf' => by
    obtain ⟨_, ⟨e0, e⟩ | ⟨j, p, e0, hj, hp, e, en⟩⟩ := fnd_mem hf <;> obtain ⟨_, ⟨e0', e'⟩ | ⟨j', p', e0', hj', hp', e', en'⟩⟩ := fnd_mem hf'
    · rw [e0, e0']
    · exact absurd e en'
    · exact absurd e' en
    · rw [hj] at hj'; injection hj' with hj'; rw [e0, e0', hj']
  cases hf : fnd m.tx k with
  | none =>
    simp only
    exact fnd_no (fun t ht => fnd_none hf t (List.mem_filter.1 ht).1)
  | some a =>
    obtain ⟨t, i⟩ := a
    simp only
    have htm := (fnd_mem hf).1
    cases hg : fnd (m.tx.filter f) k with
    | none =>
      split
      · rename_i hft
        have := fnd_none hg t (List.mem_filter.2 ⟨htm, hft⟩)
        rcases cl hf with e | ⟨p, hp, e⟩
        · exact absurd e this.1
        · exact absurd e (this.2 p hp)
      · rfl
    | some b =>
      obtain ⟨u, j⟩ := b
      obtain ⟨hum, huf⟩ := List.mem_filter.1 (fnd_mem hg).1
      have e := hin u hum t htm (cl hg) (cl hf)
      subst e
      rw [if_pos huf, pl hg hf]

/-- The entries of the map, by their numbers. -/
theorem own_entries {w : World} {mb n : Nat} {D : DataW Unit} (h : w.ownsMap Try.prog 3 numElem mb n D) : ∃ es, D = .map es ∧ es.Pairwise (fun p q => p.1 ≠ q.1) ∧ ∀ p ∈ es, ∃ k : Int, p.1 = .int .i64 k := by
  obtain ⟨es, clock, hb, F, hs, rfl⟩ := h
  refine ⟨_, rfl, ((WideShapes.sorted_perm _).pairwise_iff (fun {_ _} hne => Ne.symm hne)).2 (Maps.fit_apart law_int F), fun p hp => ?_⟩
  obtain ⟨v, hv⟩ := Maps.fit_keys F p ((WideShapes.sorted_perm _).mem_iff.1 hp)
  obtain ⟨x, _, e, _⟩ := Maps.keyOf_int_inv Try.underlying3 hv
  exact ⟨x, e⟩
theorem at_iff {es : List (Lit × DataW Unit)} (hap : es.Pairwise (fun p q => p.1 ≠ q.1)) {k : Int} {y : DataW Unit} : (∀ zd, (DataW.map es).atKey (.int .i64 k) zd = y) ↔ (.int .i64 k, y) ∈ es := by
  constructor
  · intro h
    have h1 := has_true_of_atKey h
    obtain ⟨p, hp, e⟩ := List.any_eq_true.1 h1
    have e1 := WideAt.sameKey_eq e
    have h2 := WideAt.atKey_mem .nil (key_int k) hap (show (Lit.int .i64 k, p.2) ∈ es by rw [← e1]; exact hp)
    rw [h .nil] at h2
    rw [h2, ← e1]; exact hp
  · intro h zd
    exact WideAt.atKey_mem zd (key_int k) hap h
theorem at_none {es : List (Lit × DataW Unit)} {k : Int} (h : ∀ y, (.int .i64 k, y) ∉ es) (zd : DataW Unit) : (DataW.map es).atKey (.int .i64 k) zd = zd := by
  refine atKey_of_not_has ?_ zd
  cases hh : has (DataW.map es) (.int .i64 k) with
  | false => rfl
  | true =>
    obtain ⟨p, hp, e⟩ := List.any_eq_true.1 hh
    have e1 := WideAt.sameKey_eq e
    exact absurd (by rw [← e1]; exact hp) (h p.2)
theorem atE_all {o : Option (Nat × Int)} {y : DataW Unit} (h : ∀ zd, atE o zd = y) : ∃ a, o = some a ∧ y = encN a := by
  cases o with
  | some a => exact ⟨a, rfl, (h .nil).symm⟩
  | none =>
    have h1 := h .nil
    have h2 := h (.lit (.bool true))
    simp only [atE] at h1 h2
    rw [← h1] at h2
    cases h2
/-- What the map holds, entry by entry. -/
theorem MG.entry {w : World} {b : Nat} {m : Mg} {σ : Nat → Option Nat} {mb : Nat} {bl : Nat → Nat} (_h : MG w b m σ mb bl) {es : List (Lit × DataW Unit)} (hap : es.Pairwise (fun p q => p.1 ≠ q.1)) (hk : ∀ k zd, (DataW.map es).atKey (.int .i64 k) zd = atE (lkB bl m.tx k) zd) (k : Int) (y : DataW Unit) : (.int .i64 k, y) ∈ es ↔ ∃ a, lkB bl m.tx k = some a ∧ y = encN a := by
  rw [← at_iff hap]
  constructor
  · intro h
    exact atE_all (fun zd => by rw [← hk]; exact h zd)
  · rintro ⟨a, e, rfl⟩ zd
    rw [hk, e]; rfl

def pdF (m : Mg) (below : Int) : Lit → DataW Unit → Bool := fun kl _ => match kl with
  | .int _ k => match fnd m.tx k with
    | some (t, _) => goneT t below
    | none => false
  | _ => false
/-- How many numbers are forgotten. -/
def goneN (m : Mg) (below : Int) (j : Nat) : Bool := match fnd m.tx (j : Int) with
  | some (t, _) => goneT t below
  | none => false
def Mg.many (m : Mg) (below : Int) : Nat := ((List.range m.nx).filter (goneN m below)).length
theorem many_eq {w : World} {b : Nat} {m : Mg} {σ : Nat → Option Nat} {mb : Nat} {bl : Nat → Nat} (h : MG w b m σ mb bl) {es : List (Lit × DataW Unit)} (hap : es.Pairwise (fun p q => p.1 ≠ q.1)) (hint : ∀ p ∈ es, ∃ k : Int, p.1 = .int .i64 k) (hk : ∀ k zd, (DataW.map es).atKey (.int .i64 k) zd = atE (lkB bl m.tx k) zd) (below : Int) :
    (es.filter (fun p => pdF m below p.1 p.2)).length = m.many below := by
  have hlo : ∀ k t i, fnd m.tx k = some (t, i) → ∃ j : Nat, k = j ∧ j < m.nx := fun k t i hf => by
    obtain ⟨htm, ⟨_, e⟩ | ⟨j, p, _, _, hp, e, _⟩⟩ := fnd_mem hf
    · exact ⟨t.x, e.symm, (h.wf.lo t htm).2⟩
    · exact ⟨p.x, e.symm, (h.wf.pl t htm p (List.mem_of_getElem? hp)).2⟩
  let kf : Lit × DataW Unit → Nat := fun p => match p.1 with
    | .int _ k => k.toNat
    | _ => 0
  have hmem : ∀ p ∈ es, ∃ (j : Nat) (a : Nat × Int), p = (.int .i64 (j : Int), encN a) ∧ lkB bl m.tx j = some a ∧ j < m.nx := fun p hp => by
    obtain ⟨k, ek⟩ := hint p hp
    have hp' : (Lit.int .i64 k, p.2) ∈ es := by rw [← ek]; exact hp
    obtain ⟨a, e1, e2⟩ := (h.entry hap hk k p.2).1 hp'
    cases hf : fnd m.tx k with
    | none => simp [lkB, hf] at e1
    | some ti =>
      obtain ⟨j, rfl, hj⟩ := hlo k ti.1 ti.2 hf
      exact ⟨j, a, by rw [← ek, ← e2], e1, hj⟩
  have hnd : ((es.filter (fun p => pdF m below p.1 p.2)).map kf).Nodup := by
    rw [List.nodup_iff_pairwise_ne, List.pairwise_map]
    have h1 := (hap.filter (fun p => pdF m below p.1 p.2))
    refine h1.imp_of_mem (fun {p q} hp hq hne e => hne ?_)
    obtain ⟨j, a, rfl, _, _⟩ := hmem p (List.mem_filter.1 hp).1
    obtain ⟨j', a', rfl, _, _⟩ := hmem q (List.mem_filter.1 hq).1
    have e' : (j : Int).toNat = (j' : Int).toNat := e
    simp at e'
    rw [e']
  have hnd2 : ((List.range m.nx).filter (goneN m below)).Nodup := List.nodup_range.filter _
  have hperm := (List.perm_ext_iff_of_nodup hnd hnd2).2 (fun j => ?_)
  · have := hperm.length_eq
    rw [List.length_map] at this
    exact this
  · rw [List.mem_map, List.mem_filter, List.mem_range]
    constructor
    · rintro ⟨p, hp, e⟩
      obtain ⟨hp1, hp2⟩ := List.mem_filter.1 hp
      obtain ⟨j', a, rfl, e1, hj⟩ := hmem p hp1
      have e' : (j' : Int).toNat = j := e
      simp at e'
      subst e'
      exact ⟨hj, hp2⟩
    · rintro ⟨hj, hg⟩
      unfold goneN at hg
      cases hf : fnd m.tx (j : Int) with
      | none => rw [hf] at hg; cases hg
      | some ti =>
        have hlk : lkB bl m.tx j = some (bl ti.1.x, ti.2) := by simp [lkB, hf]
        refine ⟨(.int .i64 (j : Int), encN (bl ti.1.x, ti.2)), List.mem_filter.2 ⟨(h.entry hap hk j _).2 ⟨_, hlk, rfl⟩, ?_⟩, by simp [kf]⟩
        simp only [pdF]
        exact hg
end Go.Proofs.Ytkokmgoplldcfaa
