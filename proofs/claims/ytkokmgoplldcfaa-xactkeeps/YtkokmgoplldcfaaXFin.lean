/- Prepare, end, Commit, Abort. -/
import Derived.Test.YtkokmgoplldcfaaXDel
namespace Go.Proofs.Ytkokmgoplldcfaa
open Go.RowKit Go Go.Sort

def setS (s : Nat) (t : Tx) : Tx := { t with st := s }
def Mg.prep (m : Mg) (x : Nat) : Mg := ⟨m.nx, m.on, upd m.tx x (setS 2)⟩
def Mg.fin (m : Mg) (x s : Nat) : Mg := ⟨m.nx, m.on.filter (fun y => decide (y ≠ x)), upd m.tx x (setS s)⟩
theorem Wf.setS {m : Mg} (h : Wf m) {m' : Mg} {x s : Nat} (hn : m'.nx = m.nx) (ht : m'.tx = upd m.tx x (setS s)) (hs : 1 ≤ s ∧ s ≤ 4) (hon : m'.on = (m'.tx.filter (fun t => t.st < 3)).map (·.x)) : Wf m' := by
  have hm : ∀ u ∈ m'.tx, ∃ u0 ∈ m.tx, u = u0 ∨ u = Go.Proofs.Ytkokmgoplldcfaa.setS s u0 := fun u hu => by
    rw [ht] at hu
    obtain ⟨u0, hu0, e⟩ := mem_upd hu
    refine ⟨u0, hu0, ?_⟩
    split at e
    · exact Or.inr e
    · exact Or.inl e
  have e : ∀ u : Tx, (if u.x = x then Go.Proofs.Ytkokmgoplldcfaa.setS s u else u).x = u.x := fun u => by split <;> rfl
  have e2 : ∀ u : Tx, (if u.x = x then Go.Proofs.Ytkokmgoplldcfaa.setS s u else u).ps = u.ps := fun u => by split <;> rfl
  refine ⟨by rw [hn]; exact h.n1, by rw [hn]; exact h.n2, ?_, ?_, ?_, ?_, ?_, ?_, ?_, ?_, hon⟩
  · intro u hu
    rw [hn]
    obtain ⟨u0, hu0, rfl | rfl⟩ := hm u hu
    · exact h.lo u hu0
    · exact h.lo u0 hu0
  · intro u hu p hp
    rw [hn]
    obtain ⟨u0, hu0, rfl | rfl⟩ := hm u hu
    · exact h.pl u hu0 p hp
    · exact h.pl u0 hu0 p hp
  · intro u hu
    obtain ⟨u0, hu0, rfl | rfl⟩ := hm u hu
    · exact h.st u hu0
    · exact hs
  · intro u hu
    obtain ⟨u0, hu0, rfl | rfl⟩ := hm u hu
    · exact h.ln u hu0
    · exact h.ln u0 hu0
  · intro u hu
    obtain ⟨u0, hu0, rfl | rfl⟩ := hm u hu
    · exact h.ar u hu0
    · exact h.ar u0 hu0
  · rw [ht, upd, List.pairwise_map]
    refine h.up.imp (fun {a b} hab => ?_)
    rw [e, e]; exact hab
  · rw [ht, upd, List.pairwise_map]
    refine h.ap.imp (fun {a b} hab => ?_)
    rw [e, e2, e2]; exact hab
  · intro u hu
    obtain ⟨u0, hu0, rfl | rfl⟩ := hm u hu
    · exact h.pu u hu0
    · exact h.pu u0 hu0
theorem Wf.prep {m : Mg} (h : Wf m) {t : Tx} (ht : t ∈ m.tx) (hst : t.st < 3) : Wf (m.prep t.x) := by
  refine h.setS (x := t.x) (s := 2) rfl rfl ⟨by omega, by omega⟩ ?_
  show m.on = _
  rw [h.on]
  have key : ∀ L : List Tx, (∀ u ∈ L, u ∈ m.tx) → (L.filter (fun t => t.st < 3)).map (·.x) = ((upd L t.x (Go.Proofs.Ytkokmgoplldcfaa.setS 2)).filter (fun t => t.st < 3)).map (·.x) := by
    intro L
    induction L with
    | nil => intro _; rfl
    | cons u r ih =>
      intro hL
      have ih := ih (fun v hv => hL v (by simp [hv]))
      simp only [upd, List.map_cons, List.filter_cons] at ih ⊢
      by_cases hx : u.x = t.x
      · have e := h.uniq u (hL u (by simp)) t ht hx
        subst e
        simp only [if_pos]
        simp [hst, Go.Proofs.Ytkokmgoplldcfaa.setS, ih]
      · simp only [if_neg hx]
        by_cases h2 : u.st < 3
        · simp [h2, ih]
        · simp [h2, ih]
  exact key m.tx (fun _ h => h)
theorem Wf.fin {m : Mg} (h : Wf m) {x s : Nat} (hs : 3 ≤ s ∧ s ≤ 4) : Wf (m.fin x s) := by
  refine h.setS (x := x) (s := s) rfl rfl ⟨by omega, by omega⟩ ?_
  show m.on.filter _ = ((upd m.tx x (Go.Proofs.Ytkokmgoplldcfaa.setS s)).filter _).map _
  rw [h.on]
  have key : ∀ L : List Tx, ((L.filter (fun t => t.st < 3)).map (·.x)).filter (fun y => decide (y ≠ x)) = ((upd L x (Go.Proofs.Ytkokmgoplldcfaa.setS s)).filter (fun t => t.st < 3)).map (·.x) := by
    intro L
    induction L with
    | nil => rfl
    | cons u r ih =>
      simp only [upd, List.map_cons, List.filter_cons] at ih ⊢
      by_cases hx : u.x = x
      · simp only [if_pos hx]
        have e : decide ((Go.Proofs.Ytkokmgoplldcfaa.setS s u).st < 3) = false := decide_eq_false (by simp only [Go.Proofs.Ytkokmgoplldcfaa.setS]; omega)
        rw [e]
        simp only [Bool.false_eq_true, if_false]
        rw [← ih]
        by_cases h2 : u.st < 3
        · simp [h2, hx]
        · simp [h2]
      · simp only [if_neg hx]
        by_cases h2 : u.st < 3
        · simp only [h2, decide_true, if_true, List.map_cons]
          rw [List.filter_cons_of_pos (by simp [hx]), ih]
        · simp only [h2, decide_false, Bool.false_eq_true, if_false]
          exact ih
  exact key m.tx
theorem fnd_setS (L : List Tx) (x s : Nat) (k : Int) : fnd (upd L x (setS s)) k = (fnd L k).map (fun p => (if p.1.x = x then setS s p.1 else p.1, p.2)) := fnd_upd x (setS s) (fun _ => ⟨rfl, rfl⟩) k L
theorem lk_setS (bl : Nat → Nat) (L : List Tx) (x s : Nat) (k : Int) : lkB bl (upd L x (setS s)) k = lkB bl L k := by
  simp only [lkB, fnd_setS]
  cases fnd L k with
  | none => rfl
  | some a =>
    simp only [Option.map_some]
    have e : (if a.1.x = x then setS s a.1 else a.1).x = a.1.x := by split <;> rfl
    rw [e]
theorem del_filter : ∀ (l : List Nat) (p x : Nat), l.Pairwise (· < ·) → l[p]? = some x → l.take p ++ l.drop (p + 1) = l.filter (fun y => decide (y ≠ x))
  | [], p, x, _, h => by simp at h
  | a :: r, 0, x, hp, h => by
    simp only [List.getElem?_cons_zero, Option.some.injEq] at h
    subst h
    simp only [List.take_zero, List.nil_append, List.drop_succ_cons, List.drop_zero]
    rw [List.filter_cons_of_neg (by simp)]
    symm
    rw [List.filter_eq_self]
    intro y hy
    have := (List.pairwise_cons.1 hp).1 y hy
    simp; omega
  | a :: r, p + 1, x, hp, h => by
    have ih := del_filter r p x (List.pairwise_cons.1 hp).2 (by simpa using h)
    have hx : x ∈ r := List.mem_of_getElem? (by simpa using h)
    have := (List.pairwise_cons.1 hp).1 x hx
    simp only [List.take_succ_cons, List.drop_succ_cons, List.cons_append]
    rw [ih, List.filter_cons_of_pos (by simp; omega)]

/-- The state of a transaction has been set. -/
theorem MG.setS {w w1 w' : World} {b : Nat} {m : Mg} {σ : Nat → Option Nat} {mb : Nat} {bl : Nat → Nat} (h : MG w b m σ mb bl) {t : Tx} (ht : t ∈ m.tx) {s : Nat} (hw1 : Tch (fun _ => False) w w1) (hw' : w' = w1.setCell ⟨bl t.x, 1, none⟩ (.int .i64 s)) :
    XB w' σ (bl t.x) (Go.Proofs.Ytkokmgoplldcfaa.setS s t) ∧ Tch (fun i => i = bl t.x) w w' := by
  have hx := (h.xs t ht).same hw1
  have t2 : Tch (fun i => i = bl t.x) w1 w' := by rw [hw']; exact Tch.setCell _ _ _ _ rfl
  refine ⟨?_, (hw1.mono (fun _ _ h => h.elim)).trans' t2⟩
  obtain ⟨v, hb, hr, hl⟩ := hx.blk
  refine ⟨hx.lab, ⟨v, by rw [hw']; exact blk_set hb _, own_tch hr t2 (fun g hg e => ?_), hl⟩⟩
  obtain ⟨cur, hc⟩ := own_blk hr hg
  rw [e, hb] at hc
  cases hc

/-- What Prepare gives; ends: Commit (3), Abort (4). -/
def TurnOut (m : Mg) (b : Nat) (k : Int) (to : Nat) (M : Tx → Mg) (w : World) (F : Nat → Prop) (x : Ending) (w' : World) : Prop :=
  ((∀ t, fnd m.tx k ≠ some (t, -1)) → x = .returned (.int .i64 70) ∧ Tch (fun _ => False) w w') ∧
  (∀ t, fnd m.tx k = some (t, -1) → ((to ≤ t.st ∨ 3 ≤ t.st) → x = .returned (.int .i64 71) ∧ Tch (fun _ => False) w w') ∧ (¬ (to ≤ t.st ∨ 3 ≤ t.st) → x = .returned (.int .i64 0) ∧ MF w' b (M t) F ∧ Kept F w w'))
theorem prepare_f (b : Nat) (m : Mg) (w : World) (F : Nat → Prop) (h : MF w b m F) (k : Int) (h1 : -9223372036854775808 ≤ k) (h2 : k ≤ 9223372036854775807) :
    Calls Try.prog 16 #[.pointer (some ⟨b, 0, none⟩), .int .i64 k] w fun x w' => TurnOut m b k 2 (fun t => m.prep t.x) w F x w' := by
  obtain ⟨σ, mb, bl, h, hF⟩ := h
  have c0 := h.c0
  by_cases hp : ∃ t, fnd m.tx k = some (t, -1)
  · obtain ⟨t, hf⟩ := hp
    have q : Calls Try.prog 40 #[.map (some mb), .int .i64 k, .int .i64 2] w _ := turn_some b m σ mb bl w h k h1 h2 2 hf
    have hU : ∀ u, fnd m.tx k = some (u, -1) → u = t := fun u hu => by
      rw [hf] at hu
      injection hu with hu
      injection hu with hu
      exact hu.symm
    obtain ⟨_, _, _, hst, hlk, htm⟩ := h.at hf
    have HK : Hid (∀ w', (∃ w1, Tch (fun _ => False) w w1 ∧ w' = w1.setCell ⟨bl t.x, 1, none⟩ (.int .i64 2)) → t.st < 3 → MF w' b (m.prep t.x) F ∧ Kept F w w') := fun w' ⟨w1, t1, e⟩ hs3 => by
      obtain ⟨hX, T⟩ := h.setS htm (s := 2) t1 e
      obtain ⟨ov, hB, hon, hlab⟩ := h.blk
      obtain ⟨nn, D, hnn, hD, hkD⟩ := h.mp
      have hnb : ∀ z, σ z = some b → z ≠ bl t.x := fun z hz e => by
        rw [e, (h.xs t htm).lab] at hz
        injection hz with hz
        exact h.nb t htm hz
      have h9 := h.chg (m' := m.prep t.x) (σ' := σ) htm (Go.Proofs.Ytkokmgoplldcfaa.setS 2) (fun _ => rfl) rfl (h.wf.prep htm hs3) (fun _ _ => rfl) (fun z hz => Nat.lt_of_lt_of_le (h.lt z hz) T.size) T (fun z _ hz => Or.inr (by rw [hz]; exact (h.xs t htm).lab)) ⟨ov, (T.block b h.bl' (hnb b h.lb)).trans hB, own_tch hon T (fun z hz => hnb z (hlab z hz)), hlab⟩ ⟨nn, D, hnn, ownsMap_tch hD T (hnb mb h.lm), fun k' zd => by rw [hkD]; exact congrArg (fun o => atE o zd) (lk_setS bl m.tx t.x 2 k').symm⟩ hX
      exact MF.stp hF h9.1 h9.2
    have Hf : Hid (fnd m.tx k = some (t, -1)) := hf
    have HU : Hid _ := hU
    clear hf hU hlk htm hst h hF
    go_enter Try.func16, Try.ntmps16
    go_wp2_with fail
    refine q.mono ?_
    rintro x w1 ⟨hA, hBB⟩
    clear q
    by_cases hc : 2 ≤ t.st ∨ 3 ≤ t.st
    · obtain ⟨rfl, T⟩ := hA hc
      have HT : Hid _ := T
      have Hc : Hid _ := hc
      clear hA hBB T c0
      go_wp2
      go_ret
      refine ⟨fun hn => absurd Hf.out (hn t), fun u hu => ?_⟩
      obtain rfl := HU.out u hu
      exact ⟨fun _ => ⟨rfl, HT.out⟩, fun hn => absurd Hc.out hn⟩
    · obtain ⟨rfl, hw⟩ := hBB hc
      have HM : Hid _ := HK.out w1 hw (by omega)
      have Hc : Hid _ := hc
      clear hA hBB hw c0
      go_wp2
      go_ret
      refine ⟨fun hn => absurd Hf.out (hn t), fun u hu => ?_⟩
      obtain rfl := HU.out u hu
      exact ⟨fun hn => absurd hn Hc.out, fun _ => ⟨rfl, HM.out⟩⟩
  · have q : Calls Try.prog 40 #[.map (some mb), .int .i64 k, .int .i64 2] w _ := turn_none b m σ mb bl w h k h1 h2 2 (fun t e => hp ⟨t, e⟩)
    have Hp : Hid _ := hp
    clear hp h hF
    go_enter Try.func16, Try.ntmps16
    go_wp2_with fail
    refine q.mono ?_
    rintro x w1 ⟨rfl, T⟩
    have HT : Hid _ := T
    clear q T c0
    go_wp2
    go_ret
    exact ⟨fun _ => ⟨rfl, HT.out⟩, fun t e => absurd ⟨t, e⟩ Hp.out⟩
end Go.Proofs.Ytkokmgoplldcfaa
