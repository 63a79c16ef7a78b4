import Derived.Test.YtjambfbibeihiaaGreatRef4
import Derived.Laws.OwnMore
/- The document's disk, said of it and of what it leaves alone: take, asked, act. -/
namespace Go.Proofs.YtjambfbibeihiaaGreat
set_option maxRecDepth 100000
open Go.RowKit Go.ChangeMaps Go.Sort

/-- The document's disk at rb, which has none of the blocks F. -/
def RF (w : World) (rb : Nat) (d : Dsk) (F : Nat → Prop) : Prop := ∃ v acts, RW w rb d v acts ∧ ¬ F rb ∧ (∀ g, v.ownBlock = some g → ¬ F g ∧ g ≠ rb) ∧ ∀ i, F i → i < w.heap.size
theorem RF.tch {w w' : World} {rb : Nat} {d : Dsk} {F S : Nat → Prop} (h : RF w rb d F) (t : Tch S w w') (hS : ∀ i, i < w.heap.size → S i → F i) : RF w' rb d F := by
  obtain ⟨v, acts, h, h1, h2, h3⟩ := h
  exact ⟨v, acts, h.tch t (fun hs => h1 (hS _ h.lt hs)) (fun g hg hs => (h2 g hg).1 (hS _ (h.own.lt g hg).2 hs)), h1, h2, fun i hi => Nat.lt_of_lt_of_le (h3 i hi) t.size⟩
theorem RF.no {w w' : World} {rb : Nat} {d : Dsk} {F : Nat → Prop} (h : RF w rb d F) (t : Tch (fun _ => False) w w') : RF w' rb d F := h.tch t (fun _ _ h => h.elim)
theorem RF.drewN {w : World} {rb : Nat} {d : Dsk} {F : Nat → Prop} (h : RF w rb d F) (n : Nat) : RF (w.drewN n) rb d F := h.no ((Tch.refl _ w).drewN n)
theorem RF.mono {w : World} {rb : Nat} {d : Dsk} {F G : Nat → Prop} (h : RF w rb d F) (hG : ∀ i, G i → F i) : RF w rb d G := by
  obtain ⟨v, acts, h, h1, h2, h3⟩ := h
  exact ⟨v, acts, h, fun h => h1 (hG _ h), fun g hg => ⟨fun h => (h2 g hg).1 (hG _ h), (h2 g hg).2⟩, fun i hi => h3 i (hG i hi)⟩
theorem RF.fresh {w w' : World} {rb : Nat} {d : Dsk} {F : Nat → Prop} (h : RF w rb d F) (t : Tch (fun _ => False) w w') : RF w' rb d (fun i => F i ∨ w.heap.size ≤ i ∧ i < w'.heap.size) := by
  obtain ⟨v, acts, h, h1, h2, h3⟩ := h
  refine ⟨v, acts, h.no t, fun hf => ?_, fun g hg => ⟨fun hf => ?_, (h2 g hg).2⟩, fun i hi => ?_⟩
  · rcases hf with hf | hf
    · exact h1 hf
    · have := h.lt; omega
  · rcases hf with hf | hf
    · exact (h2 g hg).1 hf
    · have := (h.own.lt g hg).2; omega
  · rcases hi with hi | hi
    · exact Nat.lt_of_lt_of_le (h3 i hi) t.size
    · exact hi.2
/-- What a call of it leaves. -/
theorem RF.step {w w' : World} {rb : Nat} {d' : Dsk} {F : Nat → Prop} {v v' : Value} {acts' : Int} (hl : rb < w.heap.size) (h1 : ¬ F rb) (h2 : ∀ g, v.ownBlock = some g → ¬ F g ∧ g ≠ rb) (h3 : ∀ i, F i → i < w.heap.size)
    (h' : RW w' rb d' v' acts') (hv : ∀ g, v'.ownBlock = some g → v.ownBlock = some g ∨ w.heap.size ≤ g) (t : Tch (fun i => i = rb ∨ v.ownBlock = some i) w w') : RF w' rb d' F ∧ Kept F w w' := by
  refine ⟨⟨v', acts', h', h1, fun g hg => ?_, fun i hi => Nat.lt_of_lt_of_le (h3 i hi) t.size⟩, t.mono (fun i _ hs hf => ?_)⟩
  · rcases hv g hg with h | h
    · exact h2 g h
    · exact ⟨fun hf => by have := h3 g hf; omega, by omega⟩
  · rcases hs with rfl | hs
    · exact h1 hf
    · exact (h2 i hs).1 hf

theorem Up.apart {m : List (Nm × Fl)} (h : Up m) : Apart m := h.imp (fun {p q} hb e => by rw [e, before_irrefl] at hb; cases hb)
theorem up_at {n : Nm} {f : Fl} {m : List (Nm × Fl)} (hu : Up m) (hg : getL n m = some f) : ∃ h : posL n m < m.length, m[posL n m] = (n, f) := by
  have h1 := posL_there (n := n) hu
  rw [hg] at h1
  obtain ⟨h, e⟩ := of_decide_eq_true h1.symm
  refine ⟨h, ?_⟩
  have hm := List.getElem_mem h
  clear h1
  generalize m[posL n m] = q at e hm ⊢
  obtain ⟨q1, q2⟩ := q
  simp only at e
  subst e
  have h2 := hu.apart.get hm
  rw [hg] at h2
  cases h2
  rfl
theorem delL_pos {n : Nm} {f : Fl} : ∀ {m : List (Nm × Fl)}, Up m → getL n m = some f → delL n m = m.take (posL n m) ++ m.drop (posL n m + 1)
  | [], _, h => by cases h
  | p :: m, hu, hg => by
    obtain ⟨h1, h2⟩ := List.pairwise_cons.1 hu
    by_cases hp : p.1 = n
    · have hb : bytesBefore p.1 n = false := by rw [hp]; exact before_irrefl n
      have e : posL n (p :: m) = 0 := by unfold posL; rw [List.takeWhile_cons, hb]; rfl
      have hm : getL n m = none := Up.get_lt (fun q hq => by rw [← hp]; exact h1 q hq)
      rw [e]
      have e2 : delL n (p :: m) = delL n m := by
        have : notL n p = false := by simp [notL, hp]
        simp [delL, this]
      rw [e2, delL_none hm]; rfl
    · have hg' : getL n m = some f := by simpa [getL, hp] using hg
      have hb : bytesBefore p.1 n = true := h1 _ (getL_mem hg')
      have e : posL n (p :: m) = posL n m + 1 := by unfold posL; rw [List.takeWhile_cons, hb]; rfl
      have e2 : delL n (p :: m) = p :: delL n m := by
        have : notL n p = true := by simp [notL, hp]
        simp [delL, this]
      rw [e, e2, delL_pos h2 hg']
      rfl
theorem setL_pos {n : Nm} {f a : Fl} : ∀ {m : List (Nm × Fl)}, Up m → getL n m = some f → setL n a m = m.take (posL n m) ++ (n, a) :: m.drop (posL n m + 1)
  | [], _, h => by cases h
  | p :: m, hu, hg => by
    obtain ⟨h1, h2⟩ := List.pairwise_cons.1 hu
    by_cases hp : p.1 = n
    · have hb : bytesBefore p.1 n = false := by rw [hp]; exact before_irrefl n
      have e : posL n (p :: m) = 0 := by unfold posL; rw [List.takeWhile_cons, hb]; rfl
      have hm : getL n m = none := Up.get_lt (fun q hq => by rw [← hp]; exact h1 q hq)
      have e2 : setL n a (p :: m) = (n, a) :: setL n a m := by simp [setL, hp]
      rw [e, e2, setL_none n a hm]; rfl
    · have hg' : getL n m = some f := by simpa [getL, hp] using hg
      have hb : bytesBefore p.1 n = true := h1 _ (getL_mem hg')
      have e : posL n (p :: m) = posL n m + 1 := by unfold posL; rw [List.takeWhile_cons, hb]; rfl
      have e2 : setL n a (p :: m) = p :: setL n a m := by simp [setL, hp]
      rw [e, e2, setL_pos h2 hg']
      rfl

section
variable {w : World} {rb : Nat} {d : Dsk} {v : Value} {acts : Int}
theorem RW.c2 (h : RW w rb d v acts) : w.cell? ⟨rb, 2, none⟩ = some (.int .i64 d.die) := by rw [blk_cell h.blk]; rfl
theorem RW.c3 (h : RW w rb d v acts) : w.cell? ⟨rb, 3, none⟩ = some (.int .i64 d.fail) := by rw [blk_cell h.blk]; rfl
theorem RW.c4 (h : RW w rb d v acts) : w.cell? ⟨rb, 4, none⟩ = some (.bool d.dead) := by rw [blk_cell h.blk]; rfl
theorem RW.c5 (h : RW w rb d v acts) : w.cell? ⟨rb, 5, none⟩ = some (.int .i64 acts) := by rw [blk_cell h.blk]; rfl
theorem RW.fz (h : RW w rb d v acts) (i : Nat) : w.frozen? ⟨rb, i, none⟩ = false := blk_frozen h.blk i
/-- Its own cells are turned, its files are not. -/
theorem RW.own1 {w' : World} {d' : Dsk} {acts' : Int} (h : RW w rb d v acts) (t : Tch (fun i => i = rb) w w') (hne : ∀ g, v.ownBlock = some g → g ≠ rb)
    (hb : w'.heap[rb]? = some (.cells #[.int .i64 d'.cap, v, .int .i64 d'.die, .int .i64 d'.fail, .bool d'.dead, .int .i64 acts'] 91 (0, 0))) (hm : d'.m = d.m) : RW w' rb d' v acts' :=
  ⟨hb, by rw [hm]; exact rowN_tch h.own t (fun g hg e => hne g hg e), by rw [hm]; exact h.up⟩
end

/-- What an act answers. -/
def Dsk.actR (d : Dsk) : Int := if d.die = 1 then 2 else 0
/-- The disk behind an act. -/
def Dsk.acted (d : Dsk) : Dsk := if d.die = 1 then { d with dead := true, die := 0 } else { d with die := d.die - 1 }
set_option maxHeartbeats 1000000 in
theorem ract_any (rb : Nat) (d : Dsk) (v : Value) (acts : Int) (w : World) (h : RW w rb d v acts) (hne : ∀ g, v.ownBlock = some g → g ≠ rb) (hd : d.die ≤ 9223372036854775807) :
    Calls Tryz.prog 51 #[.pointer (some ⟨rb, 0, none⟩)] w fun x w' => x = .returned (.int .i64 d.actR) ∧ ∃ acts', RW w' rb d.acted v acts' ∧ Tch (fun i => i = rb) w w' := by
  have c2 := h.c2
  have c4 := h.c4
  have c5 := h.c5
  have f2 := h.fz 2
  have f4 := h.fz 4
  have f5 := h.fz 5
  have hb := h.blk
  rcases (show d.die = 0 ∨ d.die = 1 ∨ 2 ≤ d.die by omega) with h0 | h0 | h0
  · have HR : Hid (∀ a', RW (w.setCell ⟨rb, 5, none⟩ (.int .i64 a')) rb d.acted v a' ∧ Tch (fun i => i = rb) w (w.setCell ⟨rb, 5, none⟩ (.int .i64 a'))) := fun a' => by
      have t := Tch.setCell (fun i => i = rb) w ⟨rb, 5, none⟩ (.int .i64 a') rfl
      refine ⟨h.own1 t hne ?_ ?_, t⟩
      · rw [blk_set hb]; simp [Dsk.acted, h0]
      · simp [Dsk.acted, h0]
    have HX : Hid (d.actR = 0) := if_neg (by omega)
    rw [h0] at c2
    clear h hb hne
    go_enter Tryz.func51, Tryz.ntmps51
    go_wp2
    go_ret
    first | exact ⟨by rw [HX.out]; rfl, _, HR.out _⟩ | exact ⟨by rw [HX.out]; rfl, ⟨_, (HR.out _).1⟩, (HR.out _).2⟩
  · have HR : Hid (∀ a', RW (((w.setCell ⟨rb, 5, none⟩ (.int .i64 a')).setCell ⟨rb, 2, none⟩ (.int .i64 0)).setCell ⟨rb, 4, none⟩ (.bool true)) rb d.acted v a' ∧ Tch (fun i => i = rb) w (((w.setCell ⟨rb, 5, none⟩ (.int .i64 a')).setCell ⟨rb, 2, none⟩ (.int .i64 0)).setCell ⟨rb, 4, none⟩ (.bool true))) := fun a' => by
      have t := ((Tch.setCell (fun i => i = rb) w ⟨rb, 5, none⟩ (.int .i64 a') rfl).setCellR ⟨rb, 2, none⟩ (.int .i64 0) rfl).setCellR ⟨rb, 4, none⟩ (.bool true) rfl
      refine ⟨h.own1 t hne ?_ ?_, t⟩
      · rw [blk_set (blk_set (blk_set hb _) _) _]; simp [Dsk.acted, h0]
      · simp [Dsk.acted, h0]
    have HX : Hid (d.actR = 2) := if_pos h0
    rw [h0] at c2
    have c2' : w.cell? ⟨rb, 2, none⟩ = some (.int .i64 1) := c2
    clear h hb hne c2
    go_enter Tryz.func51, Tryz.ntmps51
    go_wp2
    go_ret
    first | exact ⟨by rw [HX.out]; rfl, _, HR.out _⟩ | exact ⟨by rw [HX.out]; rfl, ⟨_, (HR.out _).1⟩, (HR.out _).2⟩
  · have HR : Hid (∀ a', RW ((w.setCell ⟨rb, 5, none⟩ (.int .i64 a')).setCell ⟨rb, 2, none⟩ (.int .i64 ((d.die : Int) - 1))) rb d.acted v a' ∧ Tch (fun i => i = rb) w ((w.setCell ⟨rb, 5, none⟩ (.int .i64 a')).setCell ⟨rb, 2, none⟩ (.int .i64 ((d.die : Int) - 1)))) := fun a' => by
      have t := (Tch.setCell (fun i => i = rb) w ⟨rb, 5, none⟩ (.int .i64 a') rfl).setCellR ⟨rb, 2, none⟩ (.int .i64 ((d.die : Int) - 1)) rfl
      have h1 : d.die ≠ 1 := by omega
      have e : ((d.die - 1 : Nat) : Int) = (d.die : Int) - 1 := by omega
      refine ⟨h.own1 t hne ?_ ?_, t⟩
      · rw [blk_set (blk_set hb _) _]; simp [Dsk.acted, h1, e]
      · simp [Dsk.acted, h1]
    have HX : Hid (d.actR = 0) := if_neg (by omega)
    have g1 : (0 : Int) < d.die := by omega
    have g2 : ¬ (d.die : Int) - 1 = 0 := by omega
    clear h hb hne
    go_enter Tryz.func51, Tryz.ntmps51
    go_wp2
    go_ret
    first | exact ⟨by rw [HX.out]; rfl, _, HR.out _⟩ | exact ⟨by rw [HX.out]; rfl, ⟨_, (HR.out _).1⟩, (HR.out _).2⟩

set_option maxHeartbeats 1000000 in
theorem rasked_any (rb : Nat) (d : Dsk) (v : Value) (acts : Int) (nm : ByteArray) (w : World) (h : RW w rb d v acts) (hl : d.m.length ≤ 9223372036854775807) :
    Calls Tryz.prog 50 #[.pointer (some ⟨rb, 0, none⟩), .string nm] w fun x w' => (∃ i : Int, x = .returned (.tuple #[.int .i64 i, .int .i64 (d.ask nm.data.toList)]) ∧ (d.ask nm.data.toList = 0 → i = posL nm.data.toList d.m)) ∧ ∃ n, w' = w.drewN n := by
  have hn := named_any nm w
  have c4 := h.c4
  cases ho : okN nm.data.toList
  · rw [ho] at hn
    have HX : Hid (d.ask nm.data.toList = 20) := by show _ = _; simp [Dsk.ask, Dsk.refuse, ho]
    clear h
    go_enter Tryz.func50, Tryz.ntmps50
    go_wp2_with fail
    refine hn.mono ?_
    rintro x w1 ⟨rfl, rfl⟩
    go_wp2
    go_ret2
    exact ⟨⟨0, by rw [HX.out]; rfl, fun h => by rw [HX.out] at h; cases h⟩, 0, rfl⟩
  · rw [ho] at hn
    cases hd : d.dead
    · have hf := rfind_any rb d v acts nm w h hl
      rw [hd] at c4
      clear h
      cases hg : getL nm.data.toList d.m with
      | none =>
        have HX : Hid (d.ask nm.data.toList = 21) := by show _ = _; simp [Dsk.ask, Dsk.refuse, ho, hd, hg]
        rw [hg] at hf
        clear hg
        go_enter Tryz.func50, Tryz.ntmps50
        go_wp2_with fail
        refine hn.mono ?_
        rintro x w1 ⟨rfl, rfl⟩
        go_wp2_with fail
        refine hf.mono ?_
        rintro x w2 ⟨rfl, k, hw2⟩
        go_wp2
        go_ret2
        exact ⟨⟨_, by rw [HX.out]; rfl, fun h => absurd (HX.out.symm.trans h) (by decide)⟩, k, rfl⟩
      | some f =>
        have HX : Hid (d.ask nm.data.toList = 0) := by show _ = _; simp [Dsk.ask, Dsk.refuse, ho, hd, hg]
        rw [hg] at hf
        clear hg
        go_enter Tryz.func50, Tryz.ntmps50
        go_wp2_with fail
        refine hn.mono ?_
        rintro x w1 ⟨rfl, rfl⟩
        go_wp2_with fail
        refine hf.mono ?_
        rintro x w2 ⟨rfl, k, hw2⟩
        go_wp2
        go_ret2
        exact ⟨⟨_, by rw [HX.out]; rfl, fun _ => rfl⟩, k, rfl⟩
    · have HX : Hid (d.ask nm.data.toList = 2) := by show _ = _; simp [Dsk.ask, Dsk.refuse, ho, hd]
      rw [hd] at c4
      clear h
      go_enter Tryz.func50, Tryz.ntmps50
      go_wp2_with fail
      refine hn.mono ?_
      rintro x w1 ⟨rfl, rfl⟩
      go_wp2
      go_ret2
      exact ⟨⟨0, by rw [HX.out]; rfl, fun h => by rw [HX.out] at h; cases h⟩, 0, rfl⟩
end Go.Proofs.YtjambfbibeihiaaGreat
/- The document's disk: take; a file's cells stored. -/
namespace Go.Proofs.YtjambfbibeihiaaGreat
set_option maxRecDepth 100000
open Go.RowKit Go.ChangeMaps Go.Sort

theorem setL_set {n : Nm} {f a : Fl} : ∀ {m : List (Nm × Fl)}, Up m → getL n m = some f → setL n a m = m.set (posL n m) (n, a)
  | [], _, h => by cases h
  | p :: m, hu, hg => by
    obtain ⟨h1, h2⟩ := List.pairwise_cons.1 hu
    by_cases hp : p.1 = n
    · have hb : bytesBefore p.1 n = false := by rw [hp]; exact before_irrefl n
      have e : posL n (p :: m) = 0 := by unfold posL; rw [List.takeWhile_cons, hb]; rfl
      have hm : getL n m = none := Up.get_lt (fun q hq => by rw [← hp]; exact h1 q hq)
      have e2 : setL n a (p :: m) = (n, a) :: setL n a m := by simp [setL, hp]
      rw [e, e2, setL_none n a hm]; rfl
    · have hg' : getL n m = some f := by simpa [getL, hp] using hg
      have hb : bytesBefore p.1 n = true := h1 _ (getL_mem hg')
      have e : posL n (p :: m) = posL n m + 1 := by unfold posL; rw [List.takeWhile_cons, hb]; rfl
      have e2 : setL n a (p :: m) = p :: setL n a m := by simp [setL, hp]
      rw [e, e2, setL_set h2 hg', List.set_cons_succ]
theorem rcells_set1 (s : ByteArray) : ∀ (m : List (Nm × Fl)) (i : Nat) (h : i < m.length), (rcells m).set (i * 3 + 1) (.string s) = rcells (m.set i (m[i].1, ⟨s.data.toList, m[i].2.la⟩))
  | [], i, h => by simp at h
  | p :: m, 0, _ => by simp [rcells, rfcells]
  | p :: m, i + 1, h => by
    have ih := rcells_set1 s m i (by simpa using h)
    rw [rcells_cons, List.set_append_right _ _ (by simp [rfcells]; omega)]
    have hl : (rfcells p).length = 3 := rfl
    rw [hl, show (i + 1) * 3 + 1 - 3 = i * 3 + 1 by omega, ih]
    rfl
theorem rcells_set2 (la : Nat) : ∀ (m : List (Nm × Fl)) (i : Nat) (h : i < m.length), (rcells m).set (i * 3 + 2) (.int .i64 la) = rcells (m.set i (m[i].1, ⟨m[i].2.bs, la⟩))
  | [], i, h => by simp at h
  | p :: m, 0, _ => by simp [rcells, rfcells]
  | p :: m, i + 1, h => by
    have ih := rcells_set2 la m i (by simpa using h)
    rw [rcells_cons, List.set_append_right _ _ (by simp [rfcells]; omega)]
    have hl : (rfcells p).length = 3 := rfl
    rw [hl, show (i + 1) * 3 + 2 - 3 = i * 3 + 2 by omega, ih]
    rfl

section
variable {w : World} {rb g cp : Nat} {d : Dsk} {acts : Int} {n : Nm} {f : Fl}
/-- A file's bytes are stored. -/
theorem RW.set1 (h : RW w rb d (.slice (some ⟨g, 0, none⟩) d.m.length cp) acts) (hg : getL n d.m = some f) (hne : g ≠ rb) (s : ByteArray) :
    RW (w.setCell ⟨g, posL n d.m * 3 + 1, none⟩ (.string s)) rb (d.set n ⟨s.data.toList, f.la⟩) (.slice (some ⟨g, 0, none⟩) (d.set n ⟨s.data.toList, f.la⟩).m.length cp) acts := by
  obtain ⟨hi, hm⟩ := up_at h.up hg
  have h1 := (h.own.stored (posL n d.m * 3 + 1) (.string s)).1
  have hl : (d.set n ⟨s.data.toList, f.la⟩).m.length = d.m.length := length_setL _ _ _
  have t := Tch.setCell (fun i => i = g) w ⟨g, posL n d.m * 3 + 1, none⟩ (.string s) rfl
  rw [hl]
  refine ⟨(t.block rb h.lt (fun e => hne e.symm)).trans h.blk, ?_, h.up.set _ _⟩
  rw [hl]
  rw [rcells_set1 s d.m _ hi] at h1
  show World.ownsRow _ 0 _ 3 _ _ (rcells (setL n _ d.m))
  rw [setL_set h.up hg]
  rw [hm] at h1
  exact h1
/-- How much of a file lasts is stored. -/
theorem RW.set2 (h : RW w rb d (.slice (some ⟨g, 0, none⟩) d.m.length cp) acts) (hg : getL n d.m = some f) (hne : g ≠ rb) (la : Nat) :
    RW (w.setCell ⟨g, posL n d.m * 3 + 2, none⟩ (.int .i64 la)) rb (d.set n ⟨f.bs, la⟩) (.slice (some ⟨g, 0, none⟩) (d.set n ⟨f.bs, la⟩).m.length cp) acts := by
  obtain ⟨hi, hm⟩ := up_at h.up hg
  have h1 := (h.own.stored (posL n d.m * 3 + 2) (.int .i64 la)).1
  have hl : (d.set n ⟨f.bs, la⟩).m.length = d.m.length := length_setL _ _ _
  have t := Tch.setCell (fun i => i = g) w ⟨g, posL n d.m * 3 + 2, none⟩ (.int .i64 la) rfl
  rw [hl]
  refine ⟨(t.block rb h.lt (fun e => hne e.symm)).trans h.blk, ?_, h.up.set _ _⟩
  rw [hl]
  rw [rcells_set2 la d.m _ hi] at h1
  show World.ownsRow _ 0 _ 3 _ _ (rcells (setL n _ d.m))
  rw [setL_set h.up hg]
  rw [hm] at h1
  exact h1
/-- What is at hand of a file that is there. -/
theorem RW.at_ {v : Value} (h : RW w rb d v acts) (hg : getL n d.m = some f) : ∃ g cp, v = .slice (some ⟨g, 0, none⟩) d.m.length cp ∧ posL n d.m < d.m.length ∧ w.cell? ⟨g, posL n d.m * 3, none⟩ = some (.string ⟨n.toArray⟩) ∧ w.cell? ⟨g, posL n d.m * 3 + 1, none⟩ = some (.string ⟨f.bs.toArray⟩) ∧ w.cell? ⟨g, posL n d.m * 3 + 2, none⟩ = some (.int .i64 f.la) ∧ (∀ j, w.frozen? ⟨g, j, none⟩ = false) := by
  obtain ⟨hi, hm⟩ := up_at h.up hg
  obtain ⟨ao, cp, rfl⟩ := rowN_of h.own
  obtain ⟨g, rfl, h1, h2, h3⟩ := h.row _ hi
  rw [hm] at h1 h2 h3
  exact ⟨g, cp, rfl, hi, h1, h2, h3, fun j => h.own.frozenAt j⟩
end

theorem rtake_end {w w3 : World} {rb : Nat} {d : Dsk} {v v3 : Value} {acts : Int} {n : Nm} {f : Fl} {k : Nat} (h : RW w rb d v acts) (hg : getL n d.m = some f) (T3 : Tch (fun i => w.heap.size ≤ i) w w3)
    (hk : k + 1 = d.m.length) (ho : w3.ownsRow w.heap.size 84 3 v3 k (rcells (d.m.take (posL n d.m)) ++ rcells (d.m.drop (posL n d.m + 1)))) :
    (w3.cell? ⟨rb, 1, none⟩ = some v ∧ w3.frozen? ⟨rb, 1, none⟩ = false) ∧ RW (w3.setCell ⟨rb, 1, none⟩ v3) rb { d with m := delL n d.m } v3 acts ∧ (∀ g, v3.ownBlock = some g → w.heap.size ≤ g) ∧ Tch (fun i => i = rb) w (w3.setCell ⟨rb, 1, none⟩ v3) := by
  have hrl := h.lt
  have hb : w3.heap[rb]? = _ := (T3.block rb hrl (by omega)).trans h.blk
  have hp := delL_pos h.up hg
  obtain ⟨hi, _⟩ := up_at h.up hg
  refine ⟨⟨by rw [blk_cell hb]; rfl, blk_frozen hb 1⟩, ⟨?_, ?_, ?_⟩, fun g hg' => (ho.lt g hg').1, ?_⟩
  · exact blk_set hb v3
  · have h1 := rowN_tch ho (Tch.setCell (fun i => i = rb) w3 ⟨rb, 1, none⟩ v3 rfl) (fun g hg' e => by have := (ho.lt g hg').1; omega)
    have e1 : (delL n d.m).length = k := by
      rw [hp]
      simp only [List.length_append, List.length_take, List.length_drop]
      omega
    show World.ownsRow _ 0 _ 3 v3 (delL n d.m).length (rcells (delL n d.m))
    rw [e1, hp, rcells_append]
    obtain ⟨h2, h3⟩ := h1
    refine ⟨h2, ?_⟩
    rcases h3 with h3 | ⟨g, cap, cur, h4, h5, h6⟩
    · exact Or.inl h3
    · exact Or.inr ⟨g, cap, cur, h4, Nat.zero_le _, h6⟩
  · exact List.Pairwise.filter _ h.up
  · exact (T3.mono (T := fun i => i = rb) (fun i hi h => by omega)).setCellR _ _ rfl

set_option maxHeartbeats 4000000 in
theorem rtake_any (rb : Nat) (d : Dsk) (v : Value) (acts : Int) (n : Nm) (f : Fl) (w : World) (h : RW w rb d v acts) (hl : (d.m.length + 1) * 40 ≤ 140737488355328) (hg : getL n d.m = some f) :
    Calls Tryz.prog 60 #[.pointer (some ⟨rb, 0, none⟩), .int .i64 (posL n d.m)] w fun x w' => x = .returned (.tuple #[]) ∧ ∃ v', RW w' rb { d with m := delL n d.m } v' acts ∧ (∀ g, v'.ownBlock = some g → w.heap.size ≤ g) ∧ Tch (fun i => i = rb) w w' := by
  obtain ⟨g, cp, rfl, hpi, _⟩ := h.at_ hg
  obtain ⟨i0, hi0, hz0, hz1, hz2⟩ := info_parts info_rfile
  have hrl := h.lt
  have c1 := h.c1
  obtain ⟨p, hp⟩ : ∃ p, p = posL n d.m := ⟨_, rfl⟩
  have HE : Hid (∀ w3 v3 k, Tch (fun i => w.heap.size ≤ i) w w3 → k + 1 = d.m.length → w3.ownsRow w.heap.size 84 3 v3 k (rcells (d.m.take p) ++ rcells (d.m.drop (p + 1))) → _) := fun w3 v3 k T3 hk ho => rtake_end h hg T3 hk (by rw [← hp]; exact ho)
  rw [← hp] at hpi ⊢
  clear hp
  have hgl := (h.own.lt g rfl).2
  have hcap : d.m.length ≤ cp := by
    rcases h.own.2 with ⟨e, _⟩ | ⟨g', cp', cur, e, _, _, h1, _⟩
    · cases e
    · simp only [Value.slice.injEq, true_and] at e
      obtain ⟨_, rfl⟩ := e
      exact h1
  have hn1 : ∀ j u, (rcells (d.m.take p))[j]? = some u → w.cell? ((⟨g, 0, none⟩ : Addr).add j) = some u := fun j u hu => h.own.cells rfl j u (by
    rw [← rcells_take _ p (by omega)] at hu
    have hj := (List.getElem?_eq_some_iff.1 hu).1
    rw [List.length_take] at hj
    rw [List.getElem?_take_of_lt (by omega)] at hu
    exact hu)
  have hn3 : ∀ j u, (rcells (d.m.drop (p + 1)))[j]? = some u → w.cell? ((⟨g, (p + 1) * 3, none⟩ : Addr).add j) = some u := fun j u hu => by
    rw [← rcells_drop _ (p + 1) (by omega), List.getElem?_drop] at hu
    have := h.own.cells rfl _ _ hu
    rw [Addr.add_lit] at this ⊢
    simpa [Nat.add_assoc] using this
  obtain ⟨off, hoff, hn4⟩ : ∃ off, (if cp = p + 1 then some (⟨g, 0, none⟩ : Addr) else some ⟨g, (p + 1) * 3, none⟩) = some ⟨g, off, none⟩ ∧ ∀ j u, (rcells (d.m.drop (p + 1)))[j]? = some u → w.cell? ((⟨g, off, none⟩ : Addr).add j) = some u := by
    by_cases e : cp = p + 1
    · refine ⟨0, if_pos e, fun j u hu => ?_⟩
      rw [List.drop_of_length_le (by omega)] at hu
      simp [rcells] at hu
    · exact ⟨(p + 1) * 3, if_neg e, hn3⟩
  have HN3 : Hid (∀ w1, Tch (fun _ => False) w w1 → ∀ j u, (rcells (d.m.drop (p + 1)))[j]? = some u → w1.cell? ((⟨g, off, none⟩ : Addr).add j) = some u) := fun w1 tn j u hu => by
    have h1 := hn4 j u hu
    rw [Addr.add_lit] at h1 ⊢
    exact (tn.cell (p := ⟨g, _, none⟩) (cell_lt h1) (fun h => h)).trans h1
  clear hn3 hn4 h hg
  have hl1 : (rcells (d.m.take p)).length = p * 3 := by rw [rcells_len, List.length_take]; omega
  have hl3 : (rcells (d.m.drop (p + 1))).length = (d.m.length - (p + 1)) * 3 := by rw [rcells_len, List.length_drop]
  have ho1 := rcells_one (d.m.take p)
  have ho3 := rcells_one (d.m.drop (p + 1))
  have hcap' : p ≤ cp := by omega
  have hpI : ((p : Int) + 1).toNat = p + 1 := by omega
  have hpw : IntKind.wrap .i64 ((p : Int) + 1) = (p : Int) + 1 := by simp [IntKind.wrap, IntKind.signed, IntKind.bits]; omega
  go_enter Tryz.func60, Tryz.ntmps60
  go_wp2_with (first
    | (at_builtin; refine wpList_append_own _ rfl (.tmp 5) (.tmp 11) 89 rfl w.heap.size 84 i0 (.agg #[.string ⟨#[]⟩, .string ⟨#[]⟩, .int .i64 0]) 3 40 Tryz.underlying89 hi0 hz0 hz1 hz2 rfl (by decide) _ 0 [] rfl (World.ownsRow_nil _ _ _ _) ⟨g, 0, none⟩ p cp (rcells (d.m.take p)) rfl hl1 hn1 ho1 (by unfold maxLen; omega) (by omega) (by omega) ?_; intro v1 w1 hown1 hgrow1 _
       have tn : Tch (fun _ => False) w w1 := Tch.of_grown hgrow1 (fun g e => by cases e)
       have c1' := (tn.cell (p := ⟨rb, 1, none⟩) (cell_lt c1) (fun h => h)).trans c1
       have hs1 := tn.size
       simp only [Nat.zero_add, List.nil_append] at hown1
       clear c1 hgrow1 hn1)
    | (at_builtin; refine wpList_append_own _ rfl (.tmp 13) (.tmp 20) 89 rfl w.heap.size 84 i0 (.agg #[.string ⟨#[]⟩, .string ⟨#[]⟩, .int .i64 0]) 3 40 Tryz.underlying89 hi0 hz0 hz1 hz2 rfl (by decide) _ _ _ rfl hown1 ⟨g, off, none⟩ (d.m.length - (p + 1)) (cp - (p + 1)) (rcells (d.m.drop (p + 1))) rfl hl3 (HN3.out _ tn) ho3 (by unfold maxLen; omega) (by omega) (by omega) ?_; intro v3 w3 hown3 hgrow3 _
       obtain ⟨ao3, cp3, hv3⟩ := rowN_of hown3
       subst hv3
       have t3 : Tch (fun i => w.heap.size ≤ i) w1 w3 := Tch.of_grown hgrow3 (fun g e => (hown1.lt g e).1)
       obtain ⟨⟨e1, e2⟩, hend⟩ := HE.out w3 _ _ ((tn.mono (fun _ _ h => h.elim)).trans t3 (fun i hi h => h)) (by omega) hown3
       have HEND : Hid _ := hend
       clear hown3 hgrow3 hown1 hend c1')
    | fail)
  go_end0
  exact ⟨rfl, _, HEND.out⟩
end Go.Proofs.YtjambfbibeihiaaGreat
/- The document's disk: Create, Remove, Rename. -/
namespace Go.Proofs.YtjambfbibeihiaaGreat
set_option maxRecDepth 100000
open Go.RowKit Go.ChangeMaps Go.Sort

/-- What holds of every disk that is met. -/
structure Bd (d : Dsk) : Prop where
  room : d.used ≤ d.cap
  cap : d.cap ≤ 1000000000
  die : d.die ≤ 9223372036854775807
  fail : d.fail ≤ 9223372036854775807
  len : (d.m.length + 1) * 40 ≤ 140737488355328
  la : ∀ p ∈ d.m, p.2.la ≤ p.2.bs.length

theorem ask_bad {d : Dsk} {n : Nm} (h : ¬ d.ask n = 0) (h' : ¬ d.ask n = 21) : d.refuse n = d.ask n ∧ ¬ d.refuse n = 0 := by
  unfold Dsk.ask at *
  by_cases hr : d.refuse n = 0
  · rw [if_neg (by simpa using hr)] at h h'
    by_cases hg : (getL n d.m).isNone = true
    · rw [if_pos hg] at h'; exact absurd rfl h'
    · rw [if_neg hg] at h; exact absurd rfl h
  · rw [if_pos hr]; exact ⟨rfl, hr⟩
theorem ask_none {d : Dsk} {n : Nm} (h : d.ask n = 21) : d.refuse n = 0 ∧ getL n d.m = none := by
  unfold Dsk.ask at h
  by_cases hr : d.refuse n = 0
  · rw [if_neg (by simpa using hr)] at h
    by_cases hg : (getL n d.m).isNone = true
    · exact ⟨hr, by simpa using hg⟩
    · rw [if_neg hg] at h; cases h
  · rw [if_pos hr] at h
    exfalso
    unfold Dsk.refuse at h
    split at h
    · cases h
    · split at h <;> cases h
theorem ask_zero {d : Dsk} {n : Nm} (h : d.ask n = 0) : d.refuse n = 0 ∧ ∃ f, getL n d.m = some f := by
  unfold Dsk.ask at h
  by_cases hr : d.refuse n = 0
  · rw [if_neg (by simpa using hr)] at h
    by_cases hg : (getL n d.m).isNone = true
    · rw [if_pos hg] at h; cases h
    · refine ⟨hr, ?_⟩
      cases hx : getL n d.m with
      | none => rw [hx] at hg; exact absurd rfl hg
      | some f => exact ⟨f, rfl⟩
  · rw [if_pos hr] at h; exact absurd h hr
theorem acted_m (d : Dsk) : d.acted.m = d.m := by unfold Dsk.acted; split <;> rfl
theorem act_acted {d : Dsk} (g : Dsk → Dsk) (h : d.die = 1) : d.act g = (2, d.acted) := by simp [Dsk.act, Dsk.acted, h]

section
variable (rb : Nat) (d : Dsk) (F : Nat → Prop) (w : World)

set_option maxHeartbeats 2000000 in
theorem rcreate_f (nm : ByteArray) (h : RF w rb d F) (hB : Bd d) :
    Calls Tryz.prog 13 #[.pointer (some ⟨rb, 0, none⟩), .string nm] w fun x w' => x = .returned (.int .i64 (d.create nm.data.toList).1) ∧ RF w' rb (d.create nm.data.toList).2 F ∧ Kept F w w' := by
  have hF := h
  obtain ⟨v, acts, h, h1, h2, h3⟩ := h
  have hlen := hB.len
  have hask := rasked_any rb d v acts nm w h (by omega)
  have hl := h.lt
  obtain ⟨e, he⟩ : ∃ e, e = d.ask nm.data.toList := ⟨_, rfl⟩
  rw [← he] at hask
  by_cases e0 : e = 0
  · have HX : Hid (d.create nm.data.toList = (22, d)) := by
      obtain ⟨hr, f, hg⟩ := ask_zero (he.symm.trans e0)
      show _ = _
      simp [Dsk.create, hr, hg]
    clear he
    subst e0
    go_enter Tryz.func13, Tryz.ntmps13
    go_wp2_with fail
    refine hask.mono ?_
    rintro x w1 ⟨⟨i, rfl, _⟩, k, rfl⟩
    clear hask
    go_wp2
    go_ret
    exact ⟨by rw [HX.out]; rfl, by rw [HX.out]; exact hF.drewN k, (Tch.refl _ w).drewN k⟩
  · by_cases e1 : e = 21
    · obtain ⟨hr, hg⟩ := ask_none (he.symm.trans e1)
      have hcr : d.create nm.data.toList = d.act fun d => { d with m := putL nm.data.toList ⟨[], 0⟩ d.m } := by simp [Dsk.create, hr, hg]
      have hact := fun W (hW : RW W rb d v acts) => ract_any rb d v acts W hW (fun g hg => (h2 g hg).2) hB.die
      clear he e0
      subst e1
      by_cases hd : d.die = 1
      · have HX : Hid (d.create nm.data.toList = (2, d.acted)) := hcr.trans (act_acted _ hd)
        simp only [show d.actR = 2 from if_pos hd] at hact
        clear hcr
        go_enter Tryz.func13, Tryz.ntmps13
        go_wp2_with fail
        refine hask.mono ?_
        rintro x w1 ⟨⟨i, rfl, _⟩, k, rfl⟩
        clear hask
        go_wp2_with fail
        refine (hact _ (h.drewN k)).mono ?_
        rintro x w2 ⟨rfl, a2, hR2, t2⟩
        clear hact
        go_wp2
        go_ret
        rw [HX.out]
        exact ⟨rfl, RF.step hl h1 h2 h3 hR2 (fun g hg => Or.inl hg) ((((Tch.refl _ w).drewN k).mono (fun _ _ h => h)).trans' (t2.mono (fun _ _ h => Or.inl h)))⟩
      · have hput := fun W a (hW : RW W rb d.acted v a) => rput_any rb d.acted v a nm ⟨#[]⟩ 0 W hW (by rw [acted_m]; exact hlen) (by rw [acted_m]; exact hg)
        have HX : Hid (d.create nm.data.toList = (0, { d.acted with m := putL nm.data.toList ⟨[], 0⟩ d.acted.m })) := by
          show _ = _
          rw [hcr]
          simp [Dsk.act, Dsk.acted, hd]
        simp only [show d.actR = 0 from if_neg hd] at hact
        clear hcr
        go_enter Tryz.func13, Tryz.ntmps13
        go_wp2_with fail
        refine hask.mono ?_
        rintro x w1 ⟨⟨i, rfl, _⟩, k, rfl⟩
        clear hask
        go_wp2_with fail
        refine (hact _ (h.drewN k)).mono ?_
        rintro x w2 ⟨rfl, a2, hR2, t2⟩
        clear hact
        have hz := t2.size
        have T2 : Tch (fun i => i = rb ∨ v.ownBlock = some i) w w2 := (((Tch.refl (fun i => i = rb ∨ v.ownBlock = some i) w).drewN k)).trans' (t2.mono (fun _ _ h => Or.inl h))
        have hz2 := T2.size
        clear t2 hz
        go_wp2_with fail
        refine (hput _ _ hR2).mono ?_
        rintro x w3 ⟨rfl, v3, hR3, hv3, t3⟩
        clear hput
        go_wp2
        go_ret
        rw [HX.out]
        exact ⟨rfl, RF.step hl h1 h2 h3 hR3 (fun g hg => Or.inr (by have := hv3 g hg; omega)) (T2.trans' (t3.mono (fun _ _ h => Or.inl h)))⟩
    · have HX : Hid (d.create nm.data.toList = (e, d)) := by
        obtain ⟨hr, hr0⟩ := ask_bad (he ▸ e0) (he ▸ e1)
        show _ = _
        simp only [Dsk.create, hr0, ne_eq, not_false_eq_true, if_true]
        rw [hr, ← he]
      clear he
      go_enter Tryz.func13, Tryz.ntmps13
      go_wp2_with fail
      refine hask.mono ?_
      rintro x w1 ⟨⟨i, rfl, _⟩, k, rfl⟩
      clear hask
      go_wp2
      go_ret
      exact ⟨by rw [HX.out]; rfl, by rw [HX.out]; exact hF.drewN k, (Tch.refl _ w).drewN k⟩

set_option maxHeartbeats 2000000 in
theorem rremove_f (nm : ByteArray) (h : RF w rb d F) (hB : Bd d) :
    Calls Tryz.prog 21 #[.pointer (some ⟨rb, 0, none⟩), .string nm] w fun x w' => x = .returned (.int .i64 (d.remove nm.data.toList).1) ∧ RF w' rb (d.remove nm.data.toList).2 F ∧ Kept F w w' := by
  have hF := h
  obtain ⟨v, acts, h, h1, h2, h3⟩ := h
  have hlen := hB.len
  have hask := rasked_any rb d v acts nm w h (by omega)
  have hl := h.lt
  obtain ⟨e, he⟩ : ∃ e, e = d.ask nm.data.toList := ⟨_, rfl⟩
  rw [← he] at hask
  by_cases e0 : e = 0
  · obtain ⟨hr, f, hg⟩ := ask_zero (he.symm.trans e0)
    have hcr : d.remove nm.data.toList = d.act fun d => { d with m := delL nm.data.toList d.m } := by simp [Dsk.remove, ← he, e0]
    have hact := fun W (hW : RW W rb d v acts) => ract_any rb d v acts W hW (fun g hg => (h2 g hg).2) hB.die
    clear he
    subst e0
    by_cases hd : d.die = 1
    · have HX : Hid (d.remove nm.data.toList = (2, d.acted)) := hcr.trans (act_acted _ hd)
      simp only [show d.actR = 2 from if_pos hd] at hact
      clear hcr
      go_enter Tryz.func21, Tryz.ntmps21
      go_wp2_with fail
      refine hask.mono ?_
      rintro x w1 ⟨⟨i, rfl, _⟩, k, rfl⟩
      clear hask
      go_wp2_with fail
      refine (hact _ (h.drewN k)).mono ?_
      rintro x w2 ⟨rfl, a2, hR2, t2⟩
      clear hact
      go_wp2
      go_ret
      rw [HX.out]
      exact ⟨rfl, RF.step hl h1 h2 h3 hR2 (fun g hg => Or.inl hg) ((((Tch.refl _ w).drewN k).mono (fun _ _ h => h)).trans' (t2.mono (fun _ _ h => Or.inl h)))⟩
    · have htk := fun W a (hW : RW W rb d.acted v a) => rtake_any rb d.acted v a nm.data.toList f W hW (by rw [acted_m]; exact hlen) (by rw [acted_m]; exact hg)
      rw [acted_m] at htk
      have HX : Hid (d.remove nm.data.toList = (0, { d.acted with m := delL nm.data.toList d.m })) := by
        show _ = _
        rw [hcr]
        simp [Dsk.act, Dsk.acted, hd]
      simp only [show d.actR = 0 from if_neg hd] at hact
      clear hcr
      go_enter Tryz.func21, Tryz.ntmps21
      go_wp2_with fail
      refine hask.mono ?_
      rintro x w1 ⟨⟨i, rfl, hi⟩, k, rfl⟩
      have hi' := hi (by trivial)
      subst hi'
      clear hask hi
      go_wp2_with fail
      refine (hact _ (h.drewN k)).mono ?_
      rintro x w2 ⟨rfl, a2, hR2, t2⟩
      clear hact
      have T2 : Tch (fun i => i = rb ∨ v.ownBlock = some i) w w2 := (((Tch.refl (fun i => i = rb ∨ v.ownBlock = some i) w).drewN k)).trans' (t2.mono (fun _ _ h => Or.inl h))
      have hz2 := T2.size
      clear t2
      go_wp2_with fail
      refine (htk _ _ hR2).mono ?_
      rintro x w3 ⟨rfl, v3, hR3, hv3, t3⟩
      clear htk
      go_wp2
      go_ret
      rw [HX.out]
      exact ⟨rfl, RF.step hl h1 h2 h3 hR3 (fun g hg => Or.inr (by have := hv3 g hg; omega)) (T2.trans' (t3.mono (fun _ _ h => Or.inl h)))⟩
  · have HX : Hid (d.remove nm.data.toList = (e, d)) := by
      show _ = _
      simp only [Dsk.remove, ← he, e0, ne_eq, not_false_eq_true, if_true]
    clear he
    go_enter Tryz.func21, Tryz.ntmps21
    go_wp2_with fail
    refine hask.mono ?_
    rintro x w1 ⟨⟨i, rfl, _⟩, k, rfl⟩
    clear hask
    go_wp2
    go_ret
    exact ⟨by rw [HX.out]; rfl, by rw [HX.out]; exact hF.drewN k, (Tch.refl _ w).drewN k⟩
end
end Go.Proofs.YtjambfbibeihiaaGreat
/- The document's disk: Append, Sync, Truncate. -/
namespace Go.Proofs.YtjambfbibeihiaaGreat
set_option maxRecDepth 100000
open Go.RowKit Go.ChangeMaps Go.Sort

theorem file_some {d : Dsk} {n : Nm} {f : Fl} (h : getL n d.m = some f) : d.file n = f := by simp [Dsk.file, h]
theorem sumF_mem (g : Fl → Nat) {p : Nm × Fl} : ∀ {m : List (Nm × Fl)}, p ∈ m → g p.2 ≤ sumL g m
  | [], h => by cases h
  | z :: r, h => by
    simp only [sumL, List.map_cons, List.sum_cons]
    rcases List.mem_cons.1 h with rfl | h
    · omega
    · have := sumF_mem g h
      simp only [sumL] at this
      omega
theorem mem_used {d : Dsk} {n : Nm} {f : Fl} (h : getL n d.m = some f) : f.bs.length ≤ d.used := sumF_mem lenF (getL_mem h)
theorem acted_die {d : Dsk} (h : ¬ d.die = 1) : d.acted = { d with die := d.die - 1 } := by simp [Dsk.acted, h]

section
variable (rb : Nat) (d : Dsk) (F : Nat → Prop) (w : World)

set_option maxHeartbeats 4000000 in
theorem rappend_f (nm s : ByteArray) (h : RF w rb d F) (hB : Bd d) :
    Calls Tryz.prog 15 #[.pointer (some ⟨rb, 0, none⟩), .string nm, .string s] w fun x w' => x = .returned (.int .i64 (d.append nm.data.toList s.data.toList).1) ∧ RF w' rb (d.append nm.data.toList s.data.toList).2 F ∧ Kept F w w' := by
  have hF := h
  obtain ⟨v, acts, h, h1, h2, h3⟩ := h
  have hlen := hB.len
  have hask := rasked_any rb d v acts nm w h (by omega)
  have hl := h.lt
  obtain ⟨e, he⟩ : ∃ e, e = d.ask nm.data.toList := ⟨_, rfl⟩
  rw [← he] at hask
  by_cases e0 : e = 0
  · obtain ⟨hr, f, hg⟩ := ask_zero (he.symm.trans e0)
    have hroom := hB.room
    have hcap := hB.cap
    have hfree := fun W (hW : RW W rb d v acts) => rfree_any rb d v acts W hW (by omega) (by omega) hcap
    have hsz : s.data.toList.length = s.size := by simp
    by_cases hfu : (d.cap : Int) - d.used < s.size
    · have HX : Hid (d.append nm.data.toList s.data.toList = (23, d)) := by
        show _ = _
        have : d.cap < d.used + s.data.toList.length := by omega
        simp only [Dsk.append, ← he, e0, ne_eq, not_true_eq_false, if_false, this, if_true]
      clear he
      subst e0
      generalize (d.cap : Int) - d.used = X at *
      go_enter Tryz.func15, Tryz.ntmps15
      go_wp2_with fail
      refine hask.mono ?_
      rintro x w1 ⟨⟨i, rfl, _⟩, k, rfl⟩
      clear hask
      go_wp2_with fail
      refine (hfree _ (h.drewN k)).mono ?_
      rintro x w2 ⟨rfl, rfl⟩
      clear hfree
      go_wp2
      go_ret
      exact ⟨by rw [HX.out]; rfl, by rw [HX.out]; exact hF.drewN k, (Tch.refl _ w).drewN k⟩
    · have hcr : d.append nm.data.toList s.data.toList = d.act fun d => d.set nm.data.toList ⟨(d.file nm.data.toList).bs ++ s.data.toList, (d.file nm.data.toList).la⟩ := by
        have : ¬ d.cap < d.used + s.data.toList.length := by omega
        simp only [Dsk.append, ← he, e0, ne_eq, not_true_eq_false, if_false, this]
      have hact := fun W (hW : RW W rb d v acts) => ract_any rb d v acts W hW (fun g hg => (h2 g hg).2) hB.die
      clear he
      subst e0
      by_cases hd : d.die = 1
      · have HX : Hid (d.append nm.data.toList s.data.toList = (2, d.acted)) := hcr.trans (act_acted _ hd)
        simp only [show d.actR = 2 from if_pos hd] at hact
        clear hcr
        generalize (d.cap : Int) - d.used = X at *
        go_enter Tryz.func15, Tryz.ntmps15
        go_wp2_with fail
        refine hask.mono ?_
        rintro x w1 ⟨⟨i, rfl, _⟩, k, rfl⟩
        clear hask
        go_wp2_with fail
        refine (hfree _ (h.drewN k)).mono ?_
        rintro x w2 ⟨rfl, rfl⟩
        clear hfree
        go_wp2_with fail
        refine (hact _ (h.drewN k)).mono ?_
        rintro x w2 ⟨rfl, a2, hR2, t2⟩
        clear hact
        go_wp2
        go_ret
        rw [HX.out]
        exact ⟨rfl, RF.step hl h1 h2 h3 hR2 (fun g hg => Or.inl hg) ((((Tch.refl _ w).drewN k).mono (fun _ _ h => h)).trans' (t2.mono (fun _ _ h => Or.inl h)))⟩
      · obtain ⟨g, cp, rfl, hpi, -⟩ := h.at_ hg
        have hgr := (h2 g rfl).2
        have hmu := mem_used hg
        have HX : Hid (d.append nm.data.toList s.data.toList = (0, d.acted.set nm.data.toList ⟨f.bs ++ s.data.toList, f.la⟩)) := by
          show _ = _
          rw [hcr]
          simp only [Dsk.act, hd, if_false, acted_die hd, Dsk.set, file_some hg]
        have HS : Hid (∀ W a, RW W rb d.acted (.slice (some ⟨g, 0, none⟩) d.m.length cp) a → (W.cell? ⟨rb, 1, none⟩ = some (.slice (some ⟨g, 0, none⟩) d.m.length cp) ∧ W.cell? ⟨g, posL nm.data.toList d.m * 3 + 1, none⟩ = some (.string ⟨f.bs.toArray⟩) ∧ W.frozen? ⟨g, posL nm.data.toList d.m * 3 + 1, none⟩ = false) ∧ RW (W.setCell ⟨g, posL nm.data.toList d.m * 3 + 1, none⟩ (.string (⟨f.bs.toArray⟩ ++ s))) rb (d.acted.set nm.data.toList ⟨f.bs ++ s.data.toList, f.la⟩) (.slice (some ⟨g, 0, none⟩) d.m.length cp) a) := fun W a hW => by
          have hW' : RW W rb d.acted (.slice (some ⟨g, 0, none⟩) d.acted.m.length cp) a := by rw [acted_m]; exact hW
          have hg' : getL nm.data.toList d.acted.m = some f := by rw [acted_m]; exact hg
          obtain ⟨g', cp', e1, _, _, c2, _, fz⟩ := hW'.at_ hg'
          simp only [Value.slice.injEq, Option.some.injEq, Addr.mk.injEq, and_true, true_and] at e1
          obtain ⟨rfl, rfl⟩ := e1
          have h4 := hW'.set1 hg' hgr (⟨f.bs.toArray⟩ ++ s)
          rw [acted_m] at c2 h4
          refine ⟨⟨hW.c1, c2, fz _⟩, ?_⟩
          have e2 : ((⟨f.bs.toArray⟩ : ByteArray) ++ s).data.toList = f.bs ++ s.data.toList := by simp
          have e3 : (d.acted.set nm.data.toList ⟨f.bs ++ s.data.toList, f.la⟩).m.length = d.m.length := by
            show (setL _ _ d.acted.m).length = _
            rw [length_setL, acted_m]
          rw [e2, e3] at h4
          exact h4
        obtain ⟨p, hp⟩ : ∃ p, p = posL nm.data.toList d.m := ⟨_, rfl⟩
        rw [← hp] at hask HS hpi
        simp only [show d.actR = 0 from if_neg hd] at hact
        have hp1 : (p : Int) < d.m.length := by omega
        have hxs : (⟨f.bs.toArray⟩ : ByteArray).size = f.bs.length := by show Array.size _ = _; simp
        have hns : ¬ 9223372036854775807 < f.bs.length + s.size := by omega
        generalize (⟨f.bs.toArray⟩ : ByteArray) = xb at *
        clear hcr hp hg
        generalize (d.cap : Int) - d.used = X at *
        go_enter Tryz.func15, Tryz.ntmps15
        go_wp2_with fail
        refine hask.mono ?_
        rintro x w1 ⟨⟨i, rfl, hi⟩, k, rfl⟩
        have hi' := hi (by trivial)
        subst hi'
        clear hask hi
        go_wp2_with fail
        refine (hfree _ (h.drewN k)).mono ?_
        rintro x w2 ⟨rfl, rfl⟩
        clear hfree
        go_wp2_with fail
        refine (hact _ (h.drewN k)).mono ?_
        rintro x w2 ⟨rfl, a2, hR2, t2⟩
        clear hact
        have T2 : Tch (fun i => i = rb ∨ (Value.slice (some ⟨g, 0, none⟩) d.m.length cp).ownBlock = some i) w w2 := (((Tch.refl (fun i => i = rb ∨ (Value.slice (some ⟨g, 0, none⟩) d.m.length cp).ownBlock = some i) w).drewN k)).trans' (t2.mono (fun _ _ h => Or.inl h))
        obtain ⟨⟨c1, c2, c3⟩, hR3⟩ := HS.out w2 a2 hR2
        have HR3 : Hid _ := hR3
        clear hR3 HS hR2 t2
        generalize d.m.length = L at *
        go_wp2_with fail
        go_region
        go_wp2
        go_ret
        rw [HX.out]
        exact ⟨rfl, RF.step hl h1 h2 h3 (HR3.out.no ((Tch.refl _ _).drew)) (fun g hg => Or.inl hg) ((T2.setCellR ⟨g, p * 3 + 1, none⟩ _ (Or.inr rfl)).drew)⟩
  · have HX : Hid (d.append nm.data.toList s.data.toList = (e, d)) := by
      show _ = _
      simp only [Dsk.append, ← he, e0, ne_eq, not_false_eq_true, if_true]
    clear he
    go_enter Tryz.func15, Tryz.ntmps15
    go_wp2_with fail
    refine hask.mono ?_
    rintro x w1 ⟨⟨i, rfl, _⟩, k, rfl⟩
    clear hask
    go_wp2
    go_ret
    exact ⟨by rw [HX.out]; rfl, by rw [HX.out]; exact hF.drewN k, (Tch.refl _ w).drewN k⟩
end
end Go.Proofs.YtjambfbibeihiaaGreat
