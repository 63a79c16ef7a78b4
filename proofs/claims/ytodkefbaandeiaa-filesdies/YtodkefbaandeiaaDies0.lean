/- FilesDies, plainly. -/
import Derived.Test.YtodkefbaandeiaaPure
namespace Go.Proofs.Ytodkefbaandeiaa

def nA : Nm := [97]
def nB : Nm := [98, 46, 49]
def nC : Nm := [99, 95, 50]
def nmI (i : Nat) : Nm := [110, UInt8.ofNat (97 + i)]

structure MI (i : Nat) (m : List (Nm × Fl)) : Prop where
  fa : ∃ f, getL nA m = some f
  fb : ∃ f, getL nB m = some f
  fc : ∃ f, getL nC m = some f
  no : ∀ j, i ≤ j → j ≤ 22 → getL (nmI j) m = none
  used : sumL lenF m + 1 ≤ i
  len : m.length + 1 ≤ 4 + i
  ap : Apart m
theorem MI.mono {i : Nat} {m : List (Nm × Fl)} (h : MI i m) : MI (i + 1) m := ⟨h.fa, h.fb, h.fc, fun j hj => h.no j (by omega), Nat.le_succ_of_le h.used, by have := h.len; omega, h.ap⟩
theorem nmI_ne {i j : Nat} (hi : i ≤ 22) (hj : j ≤ 22) (h : i ≠ j) : nmI i ≠ nmI j := by
  unfold nmI
  intro e
  simp only [List.cons.injEq, and_true, true_and] at e
  have := congrArg UInt8.toNat e
  simp only [UInt8.toNat_ofNat'] at this
  omega
theorem nmI_A (i : Nat) : nmI i ≠ nA ∧ nmI i ≠ nB ∧ nmI i ≠ nC := by unfold nmI nA nB nC; simp
theorem MI.set {i : Nat} {m : List (Nm × Fl)} (h : MI i m) {n : Nm} {f f' : Fl} (hg : getL n m = some f) (hl : f'.bs.length ≤ f.bs.length + 1) : MI (i + 1) (setL n f' m) := by
  have key : ∀ x, (∃ f, getL x m = some f) → ∃ f, getL x (setL n f' m) = some f := by
    rintro x ⟨g, hx⟩
    by_cases e : x = n
    · rw [e]; exact ⟨f', getL_setL_same hg⟩
    · exact ⟨g, by rw [getL_setL_other e]; exact hx⟩
  refine ⟨key _ h.fa, key _ h.fb, key _ h.fc, fun j h1 h2 => ?_, ?_, by rw [length_setL]; have := h.len; omega, h.ap.set _ _⟩
  · have := h.no j (by omega) h2
    have hne : nmI j ≠ n := by rintro rfl; rw [hg] at this; cases this
    rw [getL_setL_other hne]; exact this
  · have h1 := sumL_setL lenF n (a := f') h.ap hg
    have h2 := h.used
    simp only [lenF] at h1 h2 ⊢
    omega
theorem MI.put {i : Nat} {m : List (Nm × Fl)} (h : MI i m) (hi : i ≤ 22) : MI (i + 1) (putL (nmI i) ⟨[], 0⟩ m) := by
  obtain ⟨na, nb, nc⟩ := nmI_A i
  refine ⟨by rw [getL_putL_other (Ne.symm na)]; exact h.fa, by rw [getL_putL_other (Ne.symm nb)]; exact h.fb, by rw [getL_putL_other (Ne.symm nc)]; exact h.fc, fun j h1 h2 => ?_, ?_, ?_, h.ap.put _ _⟩
  · rw [getL_putL_other (nmI_ne h2 hi (by omega))]; exact h.no j (by omega) h2
  · rw [putL, sumL_insL, sumL_delL_none _ _ (h.no i (Nat.le_refl _) hi)]
    have := h.used
    simp only [lenF, List.length_nil] at this ⊢
    omega
  · have := length_putL_le (nmI i) (⟨[], 0⟩ : Fl) m
    have := h.len
    omega

structure DI (n m i s : Nat) (d : Dsk) : Prop where
  mi : MI i d.m
  cap : d.cap = 100000
  dead : d.dead = decide (n < i)
  die : i ≤ n → d.die + i = n + 1
  fail : i ≤ n → d.fail = m - s
theorem DI.ref {n m i s : Nat} {d : Dsk} (h : DI n m i s d) {x : Nm} (hx : okN x = true) : d.refuse x = if n < i then 2 else 0 := by
  unfold Dsk.refuse
  rw [if_neg (by rw [hx]; exact fun h => by cases h), h.dead]
  simp
theorem DI.ask {n m i s : Nat} {d : Dsk} (h : DI n m i s d) {x : Nm} (hx : okN x = true) {f : Fl} (hg : getL x d.m = some f) : d.ask x = if n < i then 2 else 0 := by
  unfold Dsk.ask
  rw [h.ref hx, hg]
  by_cases e : n < i <;> simp [e]
theorem DI.gone {n m i s : Nat} {d : Dsk} (h : DI n m i s d) (hn : n < i) (t : Nat) : DI n m (i + 1) t d :=
  ⟨h.mi.mono, h.cap, by rw [h.dead]; simp; omega, fun h => by omega, fun h => by omega⟩
theorem DI.act {n m i s : Nat} {d : Dsk} (h : DI n m i s d) (hn : i ≤ n) {g : Dsk → Dsk} (hm : MI (i + 1) (g d).m) (hc : (g d).cap = d.cap) (hd : (g d).dead = d.dead) (hf : (g d).fail = d.fail) :
    (d.act g).1 = (if n ≤ i then 2 else 0) ∧ DI n m (i + 1) s (d.act g).2 := by
  have h1 := h.die hn
  unfold Dsk.act
  by_cases e : d.die = 1
  · rw [if_pos e, if_pos (by omega)]
    exact ⟨rfl, h.mi.mono, h.cap, by simp; omega, fun h => by omega, fun h => by omega⟩
  · rw [if_neg e, if_neg (by omega)]
    refine ⟨rfl, hm, hc.trans h.cap, ?_, fun _ => ?_, fun _ => hf.trans (h.fail hn)⟩
    · show (g d).dead = _
      rw [hd, h.dead]; simp; omega
    · show d.die - 1 + (i + 1) = n + 1
      omega
theorem di_append {n m i s : Nat} {d : Dsk} (h : DI n m i s d) (hi : i ≤ 22) : (d.append nA [120]).1 = (if n ≤ i then 2 else 0) ∧ DI n m (i + 1) s (d.append nA [120]).2 := by
  obtain ⟨f, hf⟩ := h.mi.fa
  have ha := h.ask (x := nA) rfl hf
  by_cases hn : n < i
  · rw [if_pos hn] at ha
    have e : d.append nA [120] = (2, d) := by simp [Dsk.append, ha]
    rw [e]
    exact ⟨(if_pos (by omega)).symm, h.gone hn s⟩
  · rw [if_neg hn] at ha
    have hr : ¬ d.cap < d.used + 1 := by
      have := h.mi.used
      rw [h.cap]
      unfold Dsk.used
      omega
    have e : d.append nA [120] = d.act fun d => d.set nA ⟨(d.file nA).bs ++ [120], (d.file nA).la⟩ := by
      simp only [Dsk.append, ha, List.length_cons, List.length_nil]
      rw [if_neg (by simp), if_neg (by omega)]
    rw [e]
    refine h.act (by omega) (h.mi.set (f' := ⟨(d.file nA).bs ++ [120], (d.file nA).la⟩) hf ?_) rfl rfl rfl
    simp [Dsk.file, hf]
theorem di_trunc {n m i s : Nat} {d : Dsk} (h : DI n m i s d) : (d.trunc nB 0).1 = (if n ≤ i then 2 else 0) ∧ DI n m (i + 1) s (d.trunc nB 0).2 := by
  obtain ⟨f, hf⟩ := h.mi.fb
  have ha := h.ask (x := nB) rfl hf
  by_cases hn : n < i
  · rw [if_pos hn] at ha
    have e : d.trunc nB 0 = (2, d) := by simp [Dsk.trunc, ha]
    rw [e]
    exact ⟨(if_pos (by omega)).symm, h.gone hn s⟩
  · rw [if_neg hn] at ha
    have e : d.trunc nB 0 = d.act fun d => d.set nB ⟨(d.file nB).bs.take 0, min (d.file nB).la 0⟩ := by
      simp only [Dsk.trunc, ha]
      rw [if_neg (by simp), if_neg (by omega)]
      rfl
    rw [e]
    exact h.act (by omega) (h.mi.set (f' := ⟨(d.file nB).bs.take 0, min (d.file nB).la 0⟩) hf (by simp)) rfl rfl rfl
theorem di_rename {n m i s : Nat} {d : Dsk} (h : DI n m i s d) : (d.rename nC nC).1 = (if n ≤ i then 2 else 0) ∧ DI n m (i + 1) s (d.rename nC nC).2 := by
  obtain ⟨f, hf⟩ := h.mi.fc
  have ha := h.ask (x := nC) rfl hf
  have ho : ¬ okN nC = false := by decide
  by_cases hn : n < i
  · rw [if_pos hn] at ha
    have e : d.rename nC nC = (2, d) := by simp [Dsk.rename, ha, ho]
    rw [e]
    exact ⟨(if_pos (by omega)).symm, h.gone hn s⟩
  · rw [if_neg hn] at ha
    have e : d.rename nC nC = d.act fun d => d := by
      simp only [Dsk.rename, ha, if_neg ho]
      rw [if_neg (by simp)]
      simp
    rw [e]
    exact h.act (by omega) h.mi.mono rfl rfl rfl
theorem okN_nmI {i : Nat} (hi : i ≤ 22) (h1 : 1 ≤ i) : okN (nmI i) = true := by
  unfold okN nmI okB
  simp [UInt8.toNat_ofNat']
  omega
theorem di_create {n m i s : Nat} {d : Dsk} (h : DI n m i s d) (hi : i ≤ 22) (h1 : 1 ≤ i) : (d.create (nmI i)).1 = (if n ≤ i then 2 else 0) ∧ DI n m (i + 1) s (d.create (nmI i)).2 := by
  have ha := h.ref (okN_nmI hi h1)
  have hg := h.mi.no i (Nat.le_refl _) hi
  by_cases hn : n < i
  · rw [if_pos hn] at ha
    have e : d.create (nmI i) = (2, d) := by simp [Dsk.create, ha]
    rw [e]
    exact ⟨(if_pos (by omega)).symm, h.gone hn s⟩
  · rw [if_neg hn] at ha
    have e : d.create (nmI i) = d.act fun d => { d with m := putL (nmI i) ⟨[], 0⟩ d.m } := by
      simp only [Dsk.create, ha, hg]
      rw [if_neg (by simp)]
      simp
    rw [e]
    exact h.act (by omega) (h.mi.put hi) rfl rfl rfl
theorem di_sync {n m i s : Nat} {d : Dsk} (h : DI n m i s d) : (d.sync nA).1 = (if n ≤ i then 2 else if s + 1 = m then 25 else 0) ∧ DI n m (i + 1) (s + 1) (d.sync nA).2 := by
  obtain ⟨f, hf⟩ := h.mi.fa
  have ha := h.ask (x := nA) rfl hf
  by_cases hn : n < i
  · rw [if_pos hn] at ha
    have e : d.sync nA = (2, d) := by simp [Dsk.sync, ha]
    rw [e]
    exact ⟨(if_pos (by omega)).symm, h.gone hn _⟩
  · rw [if_neg hn] at ha
    have h1 := h.die (by omega)
    have h2 := h.fail (by omega)
    have hdd : n ≠ i → d.dead = decide (n < i + 1) := fun hni => by rw [h.dead]; simp; omega
    by_cases e : d.die = 1
    · have e0 : d.sync nA = (2, { d with dead := true, die := 0 }) := by simp [Dsk.sync, ha, e]
      rw [e0]
      exact ⟨(if_pos (by omega)).symm, h.mi.mono, h.cap, by simp; omega, fun h => by omega, fun h => by omega⟩
    · rw [if_neg (show ¬ n ≤ i by omega)]
      by_cases e2 : d.fail = 1
      · have e0 : d.sync nA = (25, { d with fail := 0, die := d.die - 1 }) := by simp [Dsk.sync, ha, e, e2]
        rw [e0]
        exact ⟨(if_pos (by omega)).symm, h.mi.mono, h.cap, hdd (by omega), fun _ => by show d.die - 1 + (i + 1) = n + 1; omega, fun _ => by show 0 = m - (s + 1); omega⟩
      · have e0 : d.sync nA = (0, { d.set nA ⟨(d.file nA).bs, (d.file nA).bs.length⟩ with fail := d.fail - 1, die := d.die - 1 }) := by simp [Dsk.sync, ha, e, e2]
        rw [e0]
        exact ⟨(if_neg (by omega)).symm, h.mi.set (f' := ⟨(d.file nA).bs, (d.file nA).bs.length⟩) hf (by simp [Dsk.file, hf]), h.cap, hdd (by omega), fun _ => by show d.die - 1 + (i + 1) = n + 1; omega, fun _ => by show d.fail - 1 = m - (s + 1); omega⟩

/-- The end: the disk is dead; behind a crash it does acts again. -/
theorem torn_get (K : Nm → Nat) (d : Dsk) (n : Nm) : getL n (d.torn K).m = (getL n d.m).map (keepF K n) := by
  unfold Dsk.torn getL
  simp only []
  induction d.m with
  | nil => rfl
  | cons z r ih =>
    simp only [List.map_cons, List.find?_cons]
    by_cases hz : z.1 = n
    · have hb : (z.1 == n) = true := by simpa using hz
      rw [hb]
      simp [hz]
    · have hb : (z.1 == n) = false := by simpa using hz
      rw [hb]
      exact ih
theorem torn_used (d : Dsk) (K : Nm → Nat) : (d.torn K).used ≤ d.used := by
  unfold Dsk.torn Dsk.used sumL
  simp only []
  induction d.m with
  | nil => simp
  | cons z r ih =>
    simp only [List.map_cons, List.sum_cons, List.map_map] at ih ⊢
    have : lenF (keepF K z.1 z.2) ≤ lenF z.2 := by simp only [lenF, keepF, List.length_take]; omega
    omega
end Go.Proofs.Ytodkefbaandeiaa
