import Derived.Test.YtmnhkgibplnnnaaVAsk
import Derived.Test.YtmnhkgibplnnnaaUAdd
import Derived.Test.YtmnhkgibplnnnaaUNext
/- MergePlays: a merge of sources in the world. -/
namespace Go.Proofs.Ytmnhkgibplnnnaa
open Go.RowKit Go

/-- A source. -/
structure Sd where
  sb : Nat
  la : Option Addr
  lc : Nat
  L : List Rc
  L' : List Rc
/-- How often it was asked, u left. -/
def kk (x : Sd) (u : List Rc) : Nat := x.L.length - u.length
def Fx (x : Sd) (u : List Rc) (g : Nat) : Prop := Fs x.sb x.la x.lc x.L' (kk x u) g
/-- A row that holds h, which is c, and whose source goes on with u. -/
structure RP (W w : World) (p : Nat) (x : Sd) (h c : Rc) (u : List Rc) : Prop where
  blk : w.heap[p]? = some (.cells (rwS x.sb h) 69 (0, 0))
  src : SW W w x.sb x.la x.lc x.L x.L' (kk x u)
  dr : x.L.drop (kk x u) = u
  sm : Sm c h
  own : OwnC 0 w h (DW W c).1 (DW W c).2
theorem RP.tch {S : Nat → Prop} {W w w' : World} {p : Nat} {x : Sd} {h c : Rc} {u : List Rc} (k : RP W w p x h c u) (t : Tch S w w') (h1 : ¬ S p) (h2 : ∀ g, Fx x u g → ¬ S g) (h3 : ∀ g, Bk h g → ¬ S g) : RP W w' p x h c u :=
  ⟨(t.block p (blk_lt k.blk) h1).trans k.blk, k.src.tch t h2, k.dr, k.sm, ⟨own_tch k.own.o t (fun g e => h3 g (.inl e)), own_tch k.own.n t (fun g e => h3 g (.inr e)), k.own.ne⟩⟩
theorem RP.fty {W w : World} {p : Nat} {x : Sd} {h c : Rc} {u : List Rc} (k : RP W w p x h c u) {g : Nat} (hg : Fx x u g) : ∃ cur t, w.heap[g]? = some (.cells cur t (0, 0)) ∧ (t = 48 ∨ t = 27 ∨ t = 76) := k.src.fty hg
theorem RP.bty {W w : World} {p : Nat} {x : Sd} {h c : Rc} {u : List Rc} (k : RP W w p x h c u) {g : Nat} (hg : Bk h g) : ∃ cur, w.heap[g]? = some (.cells cur 76 (0, 0)) := hg.elim (fun e => own_ty k.own.o e) (fun e => own_ty k.own.n e)
/-- A source that has said false. -/
def Ended (w : World) (x : Sd) : Prop := w.heap[x.sb]? = some (.cells #[.slice x.la x.L'.length x.lc, .int .i64 ((x.L.length + 1 : Nat) : Int), .bool false] 48 (0, 0))
/-- The merge; of the rows E nothing is known but that they hold nothing. -/
structure MP (W w : World) (mb g cap : Nat) (L : List It) (P : Nat → Nat) (X : Nat → Sd) (H : Nat → Rc) (E : Nat → Prop) (rs : List (List Rc)) : Prop where
  mbk : w.heap[mb]? = some (.cells #[hV g cap L, .int .i64 rs.length] 66 (0, 0))
  hr : HR w g cap L
  hp : Heap L
  its : Its Rc.l rs tn1 P L
  row : ∀ j c u, rs[j]? = some (c :: u) → RP W w (P j) (X j) (H j) c u
  fin : ∀ j, ¬ E j → rs[j]? = some [] → Ended w (X j)
  injP : ∀ i j, i < rs.length → j < rs.length → P i = P j → i = j
  lt : ∀ j, j < rs.length → P j < w.heap.size ∧ (X j).sb < w.heap.size
  sbs : ∀ i j, i < rs.length → j < rs.length → (X i).sb = (X j).sb → i = j
  dS : ∀ (i j : Nat) (c d : Rc) (u v : List Rc), rs[i]? = some (c :: u) → rs[j]? = some (d :: v) → i ≠ j → ∀ g, Fx (X i) u g → ¬ Fx (X j) v g
  dH : ∀ (i j : Nat) (c d : Rc) (u v : List Rc), rs[i]? = some (c :: u) → rs[j]? = some (d :: v) → i ≠ j → ∀ g, Bk (H i) g → ¬ Bk (H j) g
  dX : ∀ (i j : Nat) (c d : Rc) (u v : List Rc), rs[i]? = some (c :: u) → rs[j]? = some (d :: v) → ∀ g, Bk (H i) g → ¬ Fx (X j) v g
theorem MP.tch {S : Nat → Prop} {W w w' : World} {mb g cap : Nat} {L : List It} {P : Nat → Nat} {X : Nat → Sd} {H : Nat → Rc} {E : Nat → Prop} {rs : List (List Rc)} (h : MP W w mb g cap L P X H E rs) (t : Tch S w w') (h1 : ∀ i cur tt, w.heap[i]? = some (.cells cur tt (0, 0)) → S i → tt = 76 ∨ tt = 27 ∨ tt = 28 ∨ tt = 3 ∨ tt = 42 ∨ tt = 38 ∨ tt = 46 ∨ tt = 25) (h2 : ∀ (j : Nat) (c : Rc) (u : List Rc), rs[j]? = some (c :: u) → ∀ g, Fx (X j) u g ∨ Bk (H j) g → ¬ S g) : MP W w' mb g cap L P X H E rs := by
  have nt : ∀ i cur tt, w.heap[i]? = some (.cells cur tt (0, 0)) → tt = 66 ∨ tt = 69 ∨ tt = 48 → ¬ S i := fun i cur tt hi ht hs => by
    have := h1 i cur tt hi hs
    rcases ht with e | e | e <;> (rw [e] at this; revert this; decide)
  refine ⟨(t.block mb (blk_lt h.mbk) (nt _ _ _ h.mbk (.inl rfl))).trans h.mbk, h.hr.tch t (fun hs => ?_), h.hp, h.its, fun j c u e => (h.row j c u e).tch t (nt _ _ _ (h.row j c u e).blk (.inr (.inl rfl))) (fun g hg => h2 j c u e g (.inl hg)) (fun g hg => h2 j c u e g (.inr hg)), fun j hj e => (t.block _ (blk_lt (h.fin j hj e)) (nt _ _ _ (h.fin j hj e) (.inr (.inr rfl)))).trans (h.fin j hj e), h.injP, fun j hj => ⟨Nat.lt_of_lt_of_le (h.lt j hj).1 t.size, Nat.lt_of_lt_of_le (h.lt j hj).2 t.size⟩, h.sbs, h.dS, h.dH, h.dX⟩
  obtain ⟨cur, tt, hg⟩ : ∃ cur tt, w.heap[g]? = some (.cells cur tt (0, 0)) := by
    obtain ⟨⟨cur, tt, hg, _⟩, _⟩ := h.hr
    exact ⟨cur, tt, hg⟩
  have h3 := h1 g cur tt hg hs
  rcases h.hr.ty _ _ _ hg with e | e <;> (rw [e] at h3; revert h3; decide)
theorem MP.no {W w w' : World} {mb g cap : Nat} {L : List It} {P : Nat → Nat} {X : Nat → Sd} {H : Nat → Rc} {E : Nat → Prop} {rs : List (List Rc)} (h : MP W w mb g cap L P X H E rs) (t : Tch (fun _ => False) w w') : MP W w' mb g cap L P X H E rs := h.tch t (fun _ _ _ _ h => h.elim) (fun _ _ _ _ _ _ h => h)
theorem kk_cons {x : Sd} {d : Rc} {v : List Rc} (h : x.L.drop (kk x (d :: v)) = d :: v) : x.L[kk x (d :: v)]? = some d ∧ kk x v = kk x (d :: v) + 1 ∧ x.L.drop (kk x v) = v := by
  have hl : kk x (d :: v) < x.L.length := by
    rcases Nat.lt_or_ge (kk x (d :: v)) x.L.length with e | e
    · exact e
    · rw [List.drop_eq_nil_of_le e] at h; cases h
  have hlen := congrArg List.length h
  simp only [List.length_drop, List.length_cons] at hlen
  have e1 : kk x v = kk x (d :: v) + 1 := by unfold kk at *; simp only [List.length_cons] at *; omega
  rw [List.drop_eq_getElem_cons hl] at h
  simp only [List.cons.injEq] at h
  exact ⟨by rw [List.getElem?_eq_getElem hl, h.1], e1, by rw [e1]; exact h.2⟩
end Go.Proofs.Ytmnhkgibplnnnaa
/- MergePlays: a row of the merge is asked. -/
namespace Go.Proofs.Ytmnhkgibplnnnaa
open Go.RowKit Go

theorem SW.fx {W w : World} {x : Sd} {u : List Rc} (h : SW W w x.sb x.la x.lc x.L x.L' (kk x u)) {g : Nat} (hg : Fx x u g) : g < w.heap.size := by
  obtain ⟨_, _, hc, _⟩ := h.fty hg
  exact blk_lt hc
theorem Fx.sb (x : Sd) (u : List Rc) : Fx x u x.sb := .inl rfl
theorem Fx.down {x : Sd} {d : Rc} {v : List Rc} {g : Nat} (h : Fx x v g) (hk : kk x v = kk x (d :: v) + 1) : Fx x (d :: v) g := Fs.down h (by omega)
/-- What ask may turn is of no other row. -/
theorem MP.nS {W w : World} {mb g cap : Nat} {L : List It} {P : Nat → Nat} {X : Nat → Sd} {H : Nat → Rc} {E : Nat → Prop} {rs : List (List Rc)} (h : MP W w mb g cap L P X H E rs) {j : Nat} {c0 : Rc} {u : List Rc} (hp : w.heap[P j]? = some (.cells (rwS (X j).sb c0) 69 (0, 0))) {i : Nat} {cur : Array Value} {t : TypeId} (hi : w.heap[i]? = some (.cells cur t (0, 0))) (ht : t = 48 ∨ t = 27 ∨ t = 76) (hx : ¬ Fx (X j) u i) : ¬ (i = mb ∨ i = P j ∨ Fx (X j) u i ∨ i = g) := by
  rintro (e | e | e | e)
  · subst e; rcases ht with e | e | e <;> (subst e; exact ne_ty hi h.mbk (by decide) rfl)
  · subst e; rcases ht with e | e | e <;> (subst e; exact ne_ty hi hp (by decide) rfl)
  · exact hx e
  · subst e; rcases ht with e | e | e <;> (subst e; exact h.hr.ne hi (by decide) (by decide) rfl)
/-- The others, behind an ask of row j. -/
theorem MP.others {W w w' : World} {mb g cap : Nat} {L : List It} {P : Nat → Nat} {X : Nat → Sd} {H : Nat → Rc} {E : Nat → Prop} {rs : List (List Rc)} (h : MP W w mb g cap L P X H E rs) {j : Nat} {c0 : Rc} {u : List Rc} (hj : rs[j]? = some []) (hp : w.heap[P j]? = some (.cells (rwS (X j).sb c0) 69 (0, 0))) (hsw : SW W w (X j).sb (X j).la (X j).lc (X j).L (X j).L' (kk (X j) u))
    (ap1 : ∀ (i : Nat) (d : Rc) (v : List Rc), rs[i]? = some (d :: v) → ∀ g, Fx (X i) v g → ¬ Fx (X j) u g) (ap2 : ∀ (i : Nat) (d : Rc) (v : List Rc), rs[i]? = some (d :: v) → ∀ g, Bk (H i) g → ¬ Fx (X j) u g) (t : Tch (fun i => i = mb ∨ i = P j ∨ Fx (X j) u i ∨ i = g) w w') :
    (∀ i d v, rs[i]? = some (d :: v) → RP W w' (P i) (X i) (H i) d v) ∧ (∀ i, i ≠ j → ¬ E i → rs[i]? = some [] → Ended w' (X i)) := by
  have hjl : j < rs.length := (List.getElem?_eq_some_iff.1 hj).1
  refine ⟨fun i d v e => ?_, fun i hij hE e => ?_⟩
  · have hil : i < rs.length := (List.getElem?_eq_some_iff.1 e).1
    have hij : i ≠ j := fun e' => by subst e'; rw [hj] at e; simp at e
    have hR := h.row i d v e
    refine hR.tch t ?_ (fun g0 hg => ?_) (fun g0 hg => ?_)
    · rintro (e1 | e1 | e1 | e1)
      · exact ne_ty hR.blk h.mbk (by decide) e1
      · exact hij (h.injP i j hil hjl e1)
      · obtain ⟨cv, tv, hcv, h1⟩ := hsw.fty e1
        rcases h1 with h1 | h1 | h1 <;> (subst h1; exact ne_ty hR.blk hcv (by decide) rfl)
      · exact h.hr.ne hR.blk (by decide) (by decide) e1
    · obtain ⟨cv, tv, hcv, h1⟩ := hR.fty hg
      exact h.nS hp hcv h1 (ap1 i d v e g0 hg)
    · obtain ⟨cv, hcv⟩ := hR.bty hg
      exact h.nS hp hcv (.inr (.inr rfl)) (ap2 i d v e g0 hg)
  · have hil : i < rs.length := (List.getElem?_eq_some_iff.1 e).1
    have hF := h.fin i hE e
    refine (t.block _ (blk_lt hF) (h.nS hp hF (.inl rfl) (fun hx => ?_))).trans hF
    rcases hx with hx | hx | ⟨q, c', hc', hk, hb⟩
    · exact hij (h.sbs i j hil hjl hx)
    · obtain ⟨cu, hcu⟩ := own_ty hsw.own hx
      exact ne_ty hF hcu (by decide) rfl
    · have r := hsw.el q _ c' (List.getElem?_eq_getElem (by rw [hsw.len]; exact (List.getElem?_eq_some_iff.1 hc').1)) hc' hk
      have hty : ∃ cur, w.heap[(X i).sb]? = some (.cells cur 76 (0, 0)) := hb.elim (fun e => own_ty r.own.o e) (fun e => own_ty r.own.n e)
      obtain ⟨cu, hcu⟩ := hty
      exact ne_ty hF hcu (by decide) rfl
/-- The row j, which held nothing, was asked and has told c. -/
theorem MP.asked {W w w' : World} {mb g cap : Nat} {L : List It} {P : Nat → Nat} {X : Nat → Sd} {H : Nat → Rc} {E : Nat → Prop} {rs : List (List Rc)} {j : Nat} {c c0 hc : Rc} {u : List Rc} {g' cap' : Nat} {L' : List It} (h : MP W w mb g cap L P X H E rs) (hE : ∀ i, E i → i = j) (hj : rs[j]? = some [])
    (hp : w.heap[P j]? = some (.cells (rwS (X j).sb c0) 69 (0, 0))) (hsw : SW W w (X j).sb (X j).la (X j).lc (X j).L (X j).L' (kk (X j) (c :: u))) (hdr : (X j).L.drop (kk (X j) (c :: u)) = c :: u)
    (ap1 : ∀ (i : Nat) (d : Rc) (v : List Rc), rs[i]? = some (d :: v) → ∀ g, Fx (X i) v g → ¬ Fx (X j) (c :: u) g) (ap2 : ∀ (i : Nat) (d : Rc) (v : List Rc), rs[i]? = some (d :: v) → ∀ g, Bk (H i) g → ¬ Fx (X j) (c :: u) g)
    (a : AV W w w' mb (P j) (X j).sb (X j).la (X j).lc (X j).L (X j).L' (kk (X j) (c :: u)) g cap rs.length (tn1 j) L c g' cap' L' hc) : MP W w' mb g' cap' L' P X (upH H j hc) (fun _ => False) (rs.set j (c :: u)) ∧ Tch (fun i => i = mb ∨ i = P j ∨ Fx (X j) (c :: u) i ∨ i = g) w w' := by
  have hjl : j < rs.length := (List.getElem?_eq_some_iff.1 hj).1
  obtain ⟨_, hk1, hd1⟩ := kk_cons hdr
  have t : Tch (fun i => i = mb ∨ i = P j ∨ Fx (X j) (c :: u) i ∨ i = g) w w' := a.tch.mono (fun i _ e => by
    rcases e with e | e | e | e
    · exact .inl e
    · exact .inr (.inl e)
    · exact .inr (.inr (.inl (e.elim (fun e => .inl e) (fun e => e.fs))))
    · exact .inr (.inr (.inr e)))
  obtain ⟨oth, ofin⟩ := h.others hj hp hsw ap1 ap2 t
  have back : ∀ (i : Nat) (d : Rc) (v' : List Rc), i ≠ j → (rs.set j (c :: u))[i]? = some (d :: v') → rs[i]? = some (d :: v') := fun i d v' hij e => by rw [List.getElem?_set_ne (Ne.symm hij)] at e; exact e
  have self : ∀ (d : Rc) (v' : List Rc), (rs.set j (c :: u))[j]? = some (d :: v') → d = c ∧ v' = u := fun d v' e => by
    rw [List.getElem?_set_self hjl] at e
    simp only [Option.some.injEq, List.cons.injEq] at e
    exact ⟨e.1.symm, e.2.symm⟩
  refine ⟨⟨by rw [List.length_set]; exact a.mbk, a.hr, a.hp, ((h.its.push (tn1_up _) hj c u).perm a.pm), ?_, ?_, by rw [List.length_set]; exact h.injP, fun i hi => ?_, by rw [List.length_set]; exact h.sbs, ?_, ?_, ?_⟩, t⟩
  · intro i d v' e
    by_cases hij : i = j
    · subst hij
      obtain ⟨rfl, rfl⟩ := self d v' e
      rw [upH_at]
      exact ⟨a.rowb, by rw [hk1]; exact a.src, hd1, a.sm, a.ownh.low (Nat.zero_le _)⟩
    · rw [upH_ne _ _ hij]
      exact oth i d v' (back i d v' hij e)
  · intro i _ e
    have hij : i ≠ j := fun e' => by subst e'; rw [List.getElem?_set_self hjl] at e; simp at e
    rw [List.getElem?_set_ne (Ne.symm hij)] at e
    exact ofin i hij (fun hh => hij (hE i hh)) e
  · rw [List.length_set] at hi
    exact ⟨Nat.lt_of_lt_of_le (h.lt i hi).1 t.size, Nat.lt_of_lt_of_le (h.lt i hi).2 t.size⟩
  · intro i i' d d' v1 v2 e e' hne g0 hg hg'
    by_cases hij : i = j
    · subst hij
      obtain ⟨rfl, rfl⟩ := self d v1 e
      exact ap1 i' d' v2 (back i' d' v2 (Ne.symm hne) e') g0 hg' (hg.down hk1)
    · have e1 := back i d v1 hij e
      by_cases hij' : i' = j
      · subst hij'
        obtain ⟨rfl, rfl⟩ := self d' v2 e'
        exact ap1 i d v1 e1 g0 hg (hg'.down hk1)
      · exact h.dS i i' d d' v1 v2 e1 (back i' d' v2 hij' e') hne g0 hg hg'
  · intro i i' d d' v1 v2 e e' hne g0 hg hg'
    by_cases hij : i = j
    · subst hij
      rw [upH_at] at hg
      rw [upH_ne _ _ (Ne.symm hne)] at hg'
      have h1 := (a.ownh.lt hg).1
      have h2 := ((h.row i' d' v2 (back i' d' v2 (Ne.symm hne) e')).own.lt hg').2
      omega
    · rw [upH_ne _ _ hij] at hg
      have e1 := back i d v1 hij e
      by_cases hij' : i' = j
      · subst hij'
        rw [upH_at] at hg'
        have h1 := (a.ownh.lt hg').1
        have h2 := ((h.row i d v1 e1).own.lt hg).2
        omega
      · rw [upH_ne _ _ hij'] at hg'
        exact h.dH i i' d d' v1 v2 e1 (back i' d' v2 hij' e') hne g0 hg hg'
  · intro i i' d d' v1 v2 e e' g0 hg hg'
    by_cases hij : i = j
    · subst hij
      rw [upH_at] at hg
      have h1 := (a.ownh.lt hg).1
      by_cases hij' : i' = i
      · subst hij'
        obtain ⟨rfl, rfl⟩ := self d' v2 e'
        have h2 := hsw.fx (hg'.down hk1)
        omega
      · have h2 := (h.row i' d' v2 (back i' d' v2 hij' e')).src.fx hg'
        omega
    · rw [upH_ne _ _ hij] at hg
      have e1 := back i d v1 hij e
      by_cases hij' : i' = j
      · subst hij'
        obtain ⟨rfl, rfl⟩ := self d' v2 e'
        exact ap2 i d v1 e1 g0 hg (hg'.down hk1)
      · exact h.dX i i' d d' v1 v2 e1 (back i' d' v2 hij' e') g0 hg hg'
/-- The row j was asked and has said false. -/
theorem MP.ended {W w w' : World} {mb g cap : Nat} {L : List It} {P : Nat → Nat} {X : Nat → Sd} {H : Nat → Rc} {E : Nat → Prop} {rs : List (List Rc)} {j : Nat} {c0 : Rc} (h : MP W w mb g cap L P X H E rs) (hE : ∀ i, E i → i = j) (hj : rs[j]? = some [])
    (hp : w.heap[P j]? = some (.cells (rwS (X j).sb c0) 69 (0, 0))) (hsw : SW W w (X j).sb (X j).la (X j).lc (X j).L (X j).L' (kk (X j) []))
    (ap1 : ∀ (i : Nat) (d : Rc) (v : List Rc), rs[i]? = some (d :: v) → ∀ g, Fx (X i) v g → ¬ Fx (X j) [] g) (ap2 : ∀ (i : Nat) (d : Rc) (v : List Rc), rs[i]? = some (d :: v) → ∀ g, Bk (H i) g → ¬ Fx (X j) [] g)
    (hb : Ended w' (X j)) (t0 : Tch (fun g => g = (X j).sb ∨ Ov (X j).L' (kk (X j) []) g) w w') : MP W w' mb g cap L P X H (fun _ => False) rs ∧ Tch (fun i => i = mb ∨ i = P j ∨ Fx (X j) [] i ∨ i = g) w w' := by
  have t1 : Tch (fun i => Fx (X j) [] i) w w' := t0.mono (fun i _ e => e.elim (fun e => .inl e) (fun e => e.fs))
  have t : Tch (fun i => i = mb ∨ i = P j ∨ Fx (X j) [] i ∨ i = g) w w' := t1.mono (fun i _ e => .inr (.inr (.inl e)))
  obtain ⟨oth, ofin⟩ := h.others hj hp hsw ap1 ap2 t
  have nF : ∀ i cur tt, w.heap[i]? = some (.cells cur tt (0, 0)) → tt = 66 → ¬ Fx (X j) [] i := fun i cur tt hi ht hx => by
    obtain ⟨cv, tv, hcv, h1⟩ := hsw.fty hx
    subst ht
    rcases h1 with h1 | h1 | h1 <;> (subst h1; exact ne_ty hi hcv (by decide) rfl)
  refine ⟨⟨(t1.block mb (blk_lt h.mbk) (nF _ _ _ h.mbk rfl)).trans h.mbk, h.hr.tch t1 (fun hx => ?_), h.hp, h.its, oth, fun i _ e => ?_, h.injP, fun i hi => ⟨Nat.lt_of_lt_of_le (h.lt i hi).1 t.size, Nat.lt_of_lt_of_le (h.lt i hi).2 t.size⟩, h.sbs, h.dS, h.dH, h.dX⟩, t⟩
  · obtain ⟨cv, tv, hcv, h1⟩ := hsw.fty hx
    rcases h1 with h1 | h1 | h1 <;> (subst h1; exact h.hr.ne hcv (by decide) (by decide) rfl)
  · by_cases hij : i = j
    · subst hij; exact hb
    · exact ofin i hij (fun hh => hij (hE i hh)) e
/-- ask of a row, whatever its source has. -/
theorem MP.ask {W w : World} {mb g cap : Nat} {L : List It} {P : Nat → Nat} {X : Nat → Sd} {H : Nat → Rc} {E : Nat → Prop} {rs : List (List Rc)} {j : Nat} {c0 : Rc} {u : List Rc} (h : MP W w mb g cap L P X H E rs) (hE : ∀ i, E i → i = j) (hj : rs[j]? = some [])
    (hp : w.heap[P j]? = some (.cells (rwS (X j).sb c0) 69 (0, 0))) (hsw : SW W w (X j).sb (X j).la (X j).lc (X j).L (X j).L' (kk (X j) u)) (hdr : (X j).L.drop (kk (X j) u) = u)
    (ap1 : ∀ (i : Nat) (d : Rc) (v : List Rc), rs[i]? = some (d :: v) → ∀ g, Fx (X i) v g → ¬ Fx (X j) u g) (ap2 : ∀ (i : Nat) (d : Rc) (v : List Rc), rs[i]? = some (d :: v) → ∀ g, Bk (H i) g → ¬ Fx (X j) u g) (hs : rs.length < 1000000000000) (hn : (X j).L'.length ≤ 2000000) :
    Calls Try.prog 25 #[.pointer (some ⟨mb, 0, none⟩), .pointer (some ⟨P j, 0, none⟩), .int .i64 (tn1 j)] w fun e w' => e = .returned (.tuple #[]) ∧ (∃ g' cap' L' H', MP W w' mb g' cap' L' P X H' (fun _ => False) (rs.set j u) ∧ (∀ i, i ≠ j → H' i = H i) ∧ (u ≠ [] → ∀ g, Bk (H' j) g → w.heap.size ≤ g) ∧ (g' = g ∨ w.heap.size ≤ g')) ∧ Tch (fun i => i = mb ∨ i = P j ∨ Fx (X j) u i ∨ i = g) w w' := by
  have hjl : j < rs.length := (List.getElem?_eq_some_iff.1 hj).1
  cases u with
  | nil =>
    have hk : kk (X j) [] = (X j).L'.length := by unfold kk; rw [hsw.len]; rfl
    refine (vask_nil W mb (P j) (X j).sb (tn1 j) c0 (X j).la (X j).lc (X j).L (X j).L' (kk (X j) []) w hp hsw hk hn).mono ?_
    rintro e w' ⟨rfl, hb, t⟩
    have hb' : Ended w' (X j) := by
      unfold Ended
      rw [hb, hk, hsw.len]
    obtain ⟨h1, t1⟩ := h.ended hE hj hp hsw ap1 ap2 hb' t
    have e2 : rs.set j [] = rs := by
      apply List.ext_getElem?
      intro i
      by_cases hij : i = j
      · subst hij; rw [List.getElem?_set_self hjl, hj]
      · rw [List.getElem?_set_ne (Ne.symm hij)]
    rw [e2]
    exact ⟨rfl, ⟨g, cap, L, H, h1, fun _ _ => rfl, fun h => absurd rfl h, .inl rfl⟩, t1⟩
  | cons d v =>
    have hL : L.length ≤ rs.length := its_len h.its
    obtain ⟨hd, _, _⟩ := kk_cons hdr
    refine (vask_cons W mb (P j) (X j).sb g cap (rs.length : Nat) (tn1 j) L (X j).la (X j).lc (X j).L (X j).L' (kk (X j) (d :: v)) d c0 w h.mbk h.hr h.hp (by omega) hp hsw hd hn).mono ?_
    rintro e w' ⟨rfl, g', cap', L', hc, a⟩
    obtain ⟨h1, t1⟩ := h.asked hE hj hp hsw hdr ap1 ap2 a
    exact ⟨rfl, ⟨g', cap', L', _, h1, fun i hi => upH_ne _ _ hi, fun _ g0 hg => by rw [upH_at] at hg; exact (a.ownh.lt hg).1, a.at'⟩, t1⟩
end Go.Proofs.Ytmnhkgibplnnnaa
/- MergePlays: Add of a source, Add of nothing, Held. -/
namespace Go.Proofs.Ytmnhkgibplnnnaa
open Go.RowKit Go

def upX (f : Nat → Sd) (n : Nat) (x : Sd) (j : Nat) : Sd := if j = n then x else f j
theorem upX_at (f : Nat → Sd) (n : Nat) (x : Sd) : upX f n x n = x := if_pos rfl
theorem upX_ne (f : Nat → Sd) (n : Nat) (x : Sd) {j : Nat} (h : j < n) : upX f n x j = f j := if_neg (by omega)
theorem kk_all (x : Sd) : kk x x.L = 0 := Nat.sub_self _
theorem app_old {α : Type} {rs : List (List α)} {j : Nat} {c : α} {u : List α} (e : (rs ++ [[]])[j]? = some (c :: u)) : j < rs.length ∧ rs[j]? = some (c :: u) := by
  have hj : j < rs.length := by
    rcases Nat.lt_or_ge j rs.length with h1 | h1
    · exact h1
    · rw [List.getElem?_append_right h1] at e
      exfalso
      by_cases h0 : j - rs.length = 0
      · rw [h0] at e; simp at e
      · rw [List.getElem?_eq_none (by simp; omega)] at e; cases e
  rw [List.getElem?_append_left hj] at e
  exact ⟨hj, e⟩
/-- A row more, that holds nothing yet. -/
theorem MP.room {W w w2 : World} {mb g cap : Nat} {L : List It} {P : Nat → Nat} {X : Nat → Sd} {H : Nat → Rc} {rs : List (List Rc)} {x : Sd} (h : MP W w mb g cap L P X H (fun _ => False) rs) (hx : SW W w x.sb x.la x.lc x.L x.L' 0)
    (hsb : ∀ i, i < rs.length → (X i).sb ≠ x.sb)
    (e2 : w2 = (w.setCell ⟨mb, 1, none⟩ (.int .i64 ((rs.length : Int) + 1))).alloc (.cells (rwS x.sb k0) 69)) :
    MP W w2 mb g cap L (upF P rs.length w.heap.size) (upX X rs.length x) H (fun i => i = rs.length) (rs ++ [[]]) ∧ w2.heap[w.heap.size]? = some (.cells (rwS x.sb k0) 69 (0, 0)) ∧ SW W w2 x.sb x.la x.lc x.L x.L' 0 ∧ Tch (fun i => i = mb) w w2 := by
  have hsz : (w.setCell ⟨mb, 1, none⟩ (.int .i64 ((rs.length : Int) + 1))).heap.size = w.heap.size := by simp [World.setCell]
  have t1 : Tch (fun i => i = mb) w (w.setCell ⟨mb, 1, none⟩ (.int .i64 ((rs.length : Int) + 1))) := Tch.setCell (fun i => i = mb) _ _ _ rfl
  have t2 : Tch (fun i => i = mb) w w2 := by rw [e2]; exact t1.allocR _
  have hml := blk_lt h.mbk
  have hlen : (rs ++ [[]]).length = rs.length + 1 := by simp
  have nm : ∀ i cur tt, w.heap[i]? = some (.cells cur tt (0, 0)) → tt = 48 ∨ tt = 27 ∨ tt = 76 → ¬ i = mb := fun i cur tt hi ht e => by
    subst e
    rcases ht with ht | ht | ht <;> (subst ht; exact ne_ty hi h.mbk (by decide) rfl)
  have hxl : x.sb < w.heap.size := blk_lt hx.blk
  refine ⟨⟨?_, h.hr.tch t2 (fun e => h.hr.ne h.mbk (by decide) (by decide) e.symm), h.hp, ?_, ?_, ?_, ?_, ?_, ?_, ?_, ?_, ?_⟩, ?_, hx.tch t2 (fun g0 hg => by obtain ⟨cv, tv, hcv, h1⟩ := hx.fty hg; exact nm _ _ _ hcv h1), t2⟩
  · rw [e2, Below.heap_alloc _ _ _ (by rw [hsz]; exact hml), blk_set h.mbk, hlen]
    simp
  · exact (h.its.ext (fun _ _ => rfl) (fun j hj => (upF_ne P _ _ hj).symm)).more
  · intro j c u e
    obtain ⟨hj, e⟩ := app_old e
    rw [upF_ne P _ _ hj, upX_ne X _ _ hj]
    have hR := h.row j c u e
    exact hR.tch t2 (ne_ty hR.blk h.mbk (by decide)) (fun g0 hg => by obtain ⟨cv, tv, hcv, h1⟩ := hR.fty hg; exact nm _ _ _ hcv h1) (fun g0 hg => by obtain ⟨cv, hcv⟩ := hR.bty hg; exact nm _ _ _ hcv (.inr (.inr rfl)))
  · intro j hE e
    have hj : j < rs.length := by
      have := (List.getElem?_eq_some_iff.1 e).1
      rw [hlen] at this
      have : j ≠ rs.length := hE
      omega
    rw [List.getElem?_append_left hj] at e
    rw [upX_ne X _ _ hj]
    have hF := h.fin j (fun h => h) e
    exact (t2.block _ (blk_lt hF) (nm _ _ _ hF (.inl rfl))).trans hF
  · intro i j hi hj e
    rw [hlen] at hi hj
    unfold upF at e
    split at e <;> split at e
    · omega
    · have := (h.lt j (by omega)).1; omega
    · have := (h.lt i (by omega)).1; omega
    · exact h.injP i j (by omega) (by omega) e
  · intro j hj
    rw [hlen] at hj
    have hs2 : w2.heap.size = w.heap.size + 1 := by rw [e2, World.size_alloc, hsz]
    unfold upF upX
    split
    · exact ⟨by omega, by omega⟩
    · have := h.lt j (by omega); exact ⟨by omega, by omega⟩
  · intro i j hi hj e
    rw [hlen] at hi hj
    unfold upX at e
    split at e <;> split at e
    · omega
    · exact absurd e.symm (hsb j (by omega))
    · exact absurd e (hsb i (by omega))
    · exact h.sbs i j (by omega) (by omega) e
  · intro i j c d u v e e' hne
    obtain ⟨hi, e⟩ := app_old e
    obtain ⟨hj, e'⟩ := app_old e'
    rw [upX_ne X _ _ hi, upX_ne X _ _ hj]
    exact h.dS i j c d u v e e' hne
  · intro i j c d u v e e' hne
    exact h.dH i j c d u v (app_old e).2 (app_old e').2 hne
  · intro i j c d u v e e'
    obtain ⟨hi, e⟩ := app_old e
    obtain ⟨hj, e'⟩ := app_old e'
    rw [upX_ne X _ _ hj]
    exact h.dX i j c d u v e e'
  · rw [e2, ← hsz]; exact alloc_new _ _
theorem feq_noS (b : Nat) (w : World) : (binOp .eql 51 (.func (.func 11) #[.pointer (some ⟨b, 0, none⟩)] #[]) .nilFunc).run Try.prog w = .ok (.bool false) w := by kernel_rfl
set_option maxHeartbeats 4000000 in
set_option maxRecDepth 100000 in
theorem vadd_any (W w : World) (mb g cap : Nat) (L : List It) (P : Nat → Nat) (X : Nat → Sd) (H : Nat → Rc) (rs : List (List Rc)) (x : Sd) (h : MP W w mb g cap L P X H (fun _ => False) rs) (hx : SW W w x.sb x.la x.lc x.L x.L' 0)
    (ap1 : ∀ (i : Nat) (d : Rc) (v : List Rc), rs[i]? = some (d :: v) → ∀ g, Fx (X i) v g → ¬ Fx x x.L g) (ap2 : ∀ (i : Nat) (d : Rc) (v : List Rc), rs[i]? = some (d :: v) → ∀ g, Bk (H i) g → ¬ Fx x x.L g) (hsb : ∀ i, i < rs.length → (X i).sb ≠ x.sb) (hs : rs.length < 100000000000) (hn : x.L'.length ≤ 2000000) :
    Calls Try.prog 10 #[.pointer (some ⟨mb, 0, none⟩), fS x.sb] w fun e w' => e = .returned (.tuple #[]) ∧ (∃ g' cap' L' H', MP W w' mb g' cap' L' (upF P rs.length w.heap.size) (upX X rs.length x) H' (fun _ => False) (rs ++ [x.L]) ∧ (∀ i, i < rs.length → H' i = H i) ∧ (x.L ≠ [] → ∀ g, Bk (H' rs.length) g → w.heap.size ≤ g) ∧ (g' = g ∨ w.heap.size ≤ g')) ∧ Tch (fun i => i = mb ∨ Fx x x.L i ∨ i = g) w w' := by
  have m1 : w.cell? ⟨mb, 1, none⟩ = some (.int .i64 (rs.length : Int)) := blk_cell h.mbk 1
  have fm := blk_frozen h.mbk
  obtain ⟨w1, hw1⟩ : ∃ w1, w1 = w.setCell ⟨mb, 1, none⟩ (.int .i64 ((rs.length : Int) + 1)) := ⟨_, rfl⟩
  obtain ⟨w2, hw2⟩ : ∃ w2, w2 = w1.alloc (.cells (rwS x.sb k0) 69) := ⟨_, rfl⟩
  obtain ⟨h2, hp2, hx2, t2⟩ := h.room hx hsb (w2 := w2) (by rw [hw2, hw1])
  have hsz : w1.heap.size = w.heap.size := by rw [hw1]; simp [World.setCell]
  have k1 : w2.cell? ⟨mb, 1, none⟩ = some (.int .i64 ((rs.length : Int) + 1)) := by
    have := blk_cell h2.mbk 1
    rw [this]; simp
  have hlen : (rs ++ [([] : List Rc)]).length = rs.length + 1 := by simp
  have q : Calls Try.prog 25 #[.pointer (some ⟨mb, 0, none⟩), .pointer (some ⟨w.heap.size, 0, none⟩), .int .i64 ((rs.length : Int) + 1)] w2 fun e w' => e = .returned (.tuple #[]) ∧ (∃ g' cap' L' H', MP W w' mb g' cap' L' (upF P rs.length w.heap.size) (upX X rs.length x) H' (fun _ => False) (rs ++ [x.L]) ∧ (∀ i, i < rs.length → H' i = H i) ∧ (x.L ≠ [] → ∀ g, Bk (H' rs.length) g → w.heap.size ≤ g) ∧ (g' = g ∨ w.heap.size ≤ g')) ∧ Tch (fun i => i = mb ∨ Fx x x.L i ∨ i = g) w w' := by
    have q1 := h2.ask (j := rs.length) (c0 := k0) (u := x.L) (fun i hi => hi) (by simp) (by rw [upF_at, upX_at]; exact hp2) (by rw [upX_at, kk_all]; exact hx2) (by rw [upX_at, kk_all]; rfl)
      (fun i d v e g0 hg => by
        obtain ⟨hi, e⟩ := app_old e
        rw [upX_ne X _ _ hi] at hg
        rw [upX_at]
        exact ap1 i d v e g0 hg)
      (fun i d v e g0 hg => by
        rw [upX_at]
        exact ap2 i d v (app_old e).2 g0 hg) (by rw [hlen]; omega) (by rw [upX_at]; exact hn)
    rw [upF_at, upX_at, List.set_append_right _ _ (Nat.le_refl _), Nat.sub_self] at q1
    refine q1.mono ?_
    rintro e w' ⟨rfl, ⟨g', cap', L', H', h3, h4, h5, h6⟩, t3⟩
    refine ⟨rfl, ⟨g', cap', L', H', h3, fun i hi => h4 i (by omega), fun hu g0 hg => Nat.le_trans t2.size (h5 hu g0 hg), h6.imp id (fun e => Nat.le_trans t2.size e)⟩, (t2.mono (fun i _ e => .inl e)).trans t3 (fun i hi e => ?_)⟩
    rcases e with e | e | e | e
    · exact .inl e
    · omega
    · exact .inr (.inl e)
    · exact .inr (.inr e)
  have HW1 : Hid (w1 = _) := hw1
  have HW2 : Hid (w2 = w1.alloc (.cells #[.func (.func 11) #[.pointer (some ⟨x.sb, 0, none⟩)] #[], .int .i64 0, .int .i64 0, .int .i64 0, .int .i64 0, .slice none 0 0, .slice none 0 0] 69)) := hw2
  unfold fS
  have hfe := feq_noS x.sb
  obtain ⟨n, hnn⟩ : ∃ n, n = rs.length := ⟨_, rfl⟩
  have Hn : Hid (n = rs.length) := hnn
  rw [← hnn] at m1 k1 q HW1 hs
  clear h hx ap1 ap2 hsb h2 hp2 hx2 t2 hlen hw1 hw2 hnn
  go_enter Try.func10, Try.ntmps10
  go_upto_region 2 with (fail)
  rw [← HW1.out]
  clear m1 fm
  rw [HW2.out] at k1 q
  go_wp2_with fail
  refine q.mono ?_
  rintro e w3 ⟨rfl, h3⟩
  have H3 : Hid _ := h3
  clear h3 q k1
  go_wp2
  go_end0
  rw [← Hn.out]
  exact ⟨rfl, H3.out⟩
theorem feq_yes (w : World) : (binOp .eql 51 .nilFunc .nilFunc).run Try.prog w = .ok (.bool true) w := by kernel_rfl
theorem vadd_nil (mb : Nat) (w : World) : Calls Try.prog 10 #[.pointer (some ⟨mb, 0, none⟩), .nilFunc] w fun e w' => e = .returned (.tuple #[]) ∧ w' = w := by
  have hfe := feq_yes
  go_enter Try.func10, Try.ntmps10
  go_wp2
  refine bodyPost_ret (results_none rfl _ _ _) rfl ?_
  exact ⟨rfl, rfl⟩
theorem vheld_any {W w : World} {mb g cap : Nat} {L : List It} {P : Nat → Nat} {X : Nat → Sd} {H : Nat → Rc} {E : Nat → Prop} {rs : List (List Rc)} (h : MP W w mb g cap L P X H E rs) : Calls Try.prog 17 #[.pointer (some ⟨mb, 0, none⟩)] w fun e w' => e = .returned (.int .i64 (L.length : Int)) ∧ w' = w := by
  have c0 : w.cell? ⟨mb, 0, none⟩ = some (.slice (some ⟨g, 0, none⟩) L.length cap) := blk_cell h.mbk 0
  clear h
  go_enter Try.func17, Try.ntmps17
  go_wp2
  go_ret
  exact ⟨rfl, rfl⟩
end Go.Proofs.Ytmnhkgibplnnnaa
/- MergePlays: Next of a merge of sources. -/
namespace Go.Proofs.Ytmnhkgibplnnnaa
open Go.RowKit Go

/-- The least is taken out. -/
theorem MP.popped {W w w' : World} {mb g cap : Nat} {L L1 : List It} {P : Nat → Nat} {X : Nat → Sd} {H : Nat → Rc} {rs : List (List Rc)} {j : Nat} {c : Rc} {u : List Rc} (h : MP W w mb g cap L P X H (fun _ => False) rs) (hL : L ≠ []) (hj : rs[j]? = some (c :: u)) (hx : hat L 0 = ⟨c.l, tn1 j, P j⟩) (p : L1.Perm (popL L)) (hh : Heap L1) (hr : HR w' g cap L1) (hm : w'.heap[mb]? = some (.cells #[hV g cap L1, .int .i64 rs.length] 66 (0, 0))) (t : Tch (fun i => i = mb ∨ i = g) w w') :
    MP W w' mb g cap L1 P X H (fun i => i = j) (rs.set j []) ∧ RP W w' (P j) (X j) (H j) c u ∧ (∀ (i : Nat) (d : Rc) (v : List Rc), (rs.set j [])[i]? = some (d :: v) → ∀ g, Fx (X i) v g → ¬ Fx (X j) u g) ∧ (∀ (i : Nat) (d : Rc) (v : List Rc), (rs.set j [])[i]? = some (d :: v) → ∀ g, Bk (H i) g → ¬ Fx (X j) u g) := by
  have hjl := (List.getElem?_eq_some_iff.1 hj).1
  have nS : ∀ i cur t, w.heap[i]? = some (.cells cur t (0, 0)) → t ≠ 66 → t ≠ 72 → t ≠ 77 → ¬ (i = mb ∨ i = g) := fun i cur t hi h1 h4 h5 e => by
    rcases e with e | e
    · exact ne_ty hi h.mbk h1 e
    · exact h.hr.ne hi h4 h5 e
  have kR : ∀ i d v, rs[i]? = some (d :: v) → RP W w' (P i) (X i) (H i) d v := fun i d v e => by
    have hR := h.row i d v e
    refine hR.tch t (nS _ _ _ hR.blk (by decide) (by decide) (by decide)) (fun g0 hg => ?_) (fun g0 hg => ?_)
    · obtain ⟨cv, tv, hcv, h1⟩ := hR.fty hg
      rcases h1 with h1 | h1 | h1 <;> (subst h1; exact nS _ _ _ hcv (by decide) (by decide) (by decide))
    · obtain ⟨cv, hcv⟩ := hR.bty hg
      exact nS _ _ _ hcv (by decide) (by decide) (by decide)
  have back : ∀ (i : Nat) (d : Rc) (v : List Rc), (rs.set j [])[i]? = some (d :: v) → i ≠ j ∧ rs[i]? = some (d :: v) := fun i d v e => by
    have hij : i ≠ j := fun e' => by
      subst e'
      rw [List.getElem?_set_self hjl] at e
      simp at e
    rw [List.getElem?_set_ne (Ne.symm hij)] at e
    exact ⟨hij, e⟩
  refine ⟨⟨by rw [List.length_set]; exact hm, hr, hh, ?_, fun i d v e => kR i d v (back i d v e).2, fun i hE e => ?_, by rw [List.length_set]; exact h.injP, fun i hi => ?_, by rw [List.length_set]; exact h.sbs, ?_, ?_, ?_⟩, kR j c u hj, fun i d v e g0 hg => ?_, fun i d v e g0 hg => ?_⟩
  · exact (h.its.perm (popL_perm hL)).pop (tn1_up _) hj hx p
  · rw [List.getElem?_set_ne (Ne.symm hE)] at e
    have hF := h.fin i (fun h => h) e
    exact (t.block _ (blk_lt hF) (nS _ _ _ hF (by decide) (by decide) (by decide))).trans hF
  · rw [List.length_set] at hi
    exact ⟨Nat.lt_of_lt_of_le (h.lt i hi).1 t.size, Nat.lt_of_lt_of_le (h.lt i hi).2 t.size⟩
  · intro i i' d d' v v' e e' hne
    exact h.dS i i' d d' v v' (back i d v e).2 (back i' d' v' e').2 hne
  · intro i i' d d' v v' e e' hne
    exact h.dH i i' d d' v v' (back i d v e).2 (back i' d' v' e').2 hne
  · intro i i' d d' v v' e e'
    exact h.dX i i' d d' v v' (back i d v e).2 (back i' d' v' e').2
  · exact h.dS i j d c v u (back i d v e).2 hj (back i d v e).1 g0 hg
  · exact h.dX i j d c v u (back i d v e).2 hj g0 hg
set_option maxHeartbeats 4000000 in
set_option maxRecDepth 100000 in
theorem vnext_nil {W w : World} {mb g cap : Nat} {P : Nat → Nat} {X : Nat → Sd} {H : Nat → Rc} {E : Nat → Prop} {rs : List (List Rc)} (h : MP W w mb g cap [] P X H E rs) :
    Calls Try.prog 13 #[.pointer (some ⟨mb, 0, none⟩)] w fun e w' => e = .returned (.tuple #[zV, .bool false]) ∧ Tch (fun _ => False) w w' := by
  obtain ⟨w0, hw0⟩ : ∃ w0, w0 = w.alloc (.cells #[.int .i64 0, .int .i64 0, .int .i64 0, .int .i64 0, .slice none 0 0, .slice none 0 0] 27) := ⟨_, rfl⟩
  have t0 : Tch (fun _ => False) w w0 := by rw [hw0]; exact Tch.alloc _ _ _
  have b0 : w0.heap[w.heap.size]? = some (.cells #[.int .i64 0, .int .i64 0, .int .i64 0, .int .i64 0, .slice none 0 0, .slice none 0 0] 27 (0, 0)) := by rw [hw0]; exact alloc_new _ _
  have c0 : w0.cell? ⟨mb, 0, none⟩ = some (.slice (some ⟨g, 0, none⟩) 0 cap) := by rw [blk_cell ((t0.block mb (blk_lt h.mbk) (fun h => h)).trans h.mbk)]; rfl
  obtain ⟨e0, e1, e2, e3, e4, e5⟩ := get6 b0
  have f0 := blk_frozen b0
  have HB : Hid _ := And.intro b0 t0
  have HW : Hid (w0 = _) := hw0
  clear t0 b0 h hw0
  go_enter Try.func13, Try.ntmps13
  go_upto_region 1 with (fail)
  rw [← HW.out]
  go_wp2
  refine bodyPost_ret (res_ch2 rs_nx rfl rfl (set6 HB.out.1 _ _ _ _ _ _)) rfl ?_
  exact ⟨rfl, HB.out.2.trans (tch6 _ _ _ _ _ _ _ _) (fun i hi e => by omega)⟩
set_option maxHeartbeats 4000000 in
set_option maxRecDepth 100000 in
theorem vnext_some {W w : World} {mb g cap : Nat} {L : List It} {P : Nat → Nat} {X : Nat → Sd} {H : Nat → Rc} {rs : List (List Rc)} (h : MP W w mb g cap L P X H (fun _ => False) rs) (hL : L ≠ []) (hs : rs.length < 1000000000000) (hn2 : ∀ j, j < rs.length → (X j).L'.length ≤ 2000000) :
    Calls Try.prog 13 #[.pointer (some ⟨mb, 0, none⟩)] w fun e w' => ∃ j c u, Pk Rc.l rs j c u ∧ e = .returned (.tuple #[rcV (H j), .bool true]) ∧ Sm c (H j) ∧ OwnC 0 w' (H j) (DW W c).1 (DW W c).2 ∧ (∃ g' cap' L' H', MP W w' mb g' cap' L' P X H' (fun _ => False) (rs.set j u) ∧ ((∀ i, i ≠ j → H' i = H i) ∧ (u ≠ [] → ∀ g, Bk (H' j) g → w.heap.size ≤ g) ∧ (g' = g ∨ w.heap.size ≤ g')) ∧ ∀ g, Bk (H j) g → ∀ (i : Nat) (d : Rc) (v : List Rc), (rs.set j u)[i]? = some (d :: v) → ¬ Fx (X i) v g ∧ ¬ Bk (H' i) g) ∧ Tch (fun i => i = mb ∨ i = P j ∨ Fx (X j) u i ∨ i = g) w w' := by
  obtain ⟨j, c, u, hpk, hx⟩ := h.its.least h.hp (tn1_up _) hL
  have hjl : j < rs.length := (List.getElem?_eq_some_iff.1 hpk.1).1
  have hlen : L.length ≤ rs.length := its_len h.its
  have hL0 : 0 < L.length := List.length_pos_iff.2 hL
  obtain ⟨w0, hw0⟩ : ∃ w0, w0 = w.alloc (.cells #[.int .i64 0, .int .i64 0, .int .i64 0, .int .i64 0, .slice none 0 0, .slice none 0 0] 27) := ⟨_, rfl⟩
  have t0 : Tch (fun _ => False) w w0 := by rw [hw0]; exact Tch.alloc _ _ _
  have b0 : w0.heap[w.heap.size]? = some (.cells #[.int .i64 0, .int .i64 0, .int .i64 0, .int .i64 0, .slice none 0 0, .slice none 0 0] 27 (0, 0)) := by rw [hw0]; exact alloc_new _ _
  have h0 := h.no t0
  obtain ⟨n, hn⟩ : ∃ n, n = L.length := ⟨_, rfl⟩
  have c0 : w0.cell? ⟨mb, 0, none⟩ = some (.slice (some ⟨g, 0, none⟩) n cap) := by rw [blk_cell h0.mbk, hn]; rfl
  have q := pop_any L g cap w0 h0.hr (by omega) hL0 h0.hp
  rw [hx] at q
  unfold itV hV at q
  rw [← hn] at q
  have hn0 : ¬ (n : Int) = 0 := by omega
  have hgb : g < w.heap.size := h.hr.lt
  have hml : mb < w.heap.size := blk_lt h.mbk
  have hmg : mb ≠ g := h.hr.ne h.mbk (by decide) (by decide)
  have hrow := h.row j c u hpk.1
  have HRW : Hid (RP W w (P j) (X j) (H j) c u ∧ MP W w mb g cap L P X H (fun _ => False) rs ∧ (X j).L'.length ≤ 2000000) := ⟨hrow, h, hn2 j hjl⟩
  have HW : Hid (w0 = _) := hw0
  have H0 : Hid _ := And.intro h0 (And.intro b0 (And.intro t0 (And.intro hpk (And.intro hx (And.intro hL hs)))))
  have HM : Hid (mb ≠ g) := hmg
  clear hrow h hn2 h0 b0 t0 hw0 hpk hx hL hs hn hL0 hlen hmg
  go_enter Try.func13, Try.ntmps13
  go_upto_region 1 with (fail)
  rw [← HW.out]
  go_wp2_with fail
  refine q.mono ?_
  rintro e w1 ⟨L1, rfl, pm, hh1, hr1, t1⟩
  clear q c0
  obtain ⟨hd, hhd⟩ : ∃ hd, hd = H j := ⟨_, rfl⟩
  obtain ⟨n1, hn1⟩ : ∃ n1, n1 = L1.length := ⟨_, rfl⟩
  rw [← hn1]
  obtain ⟨N1, hN1⟩ : ∃ N1, N1 = w1.heap.size := ⟨_, rfl⟩
  obtain ⟨w2, hw2⟩ : ∃ w2, w2 = w1.alloc (.cells #[.int .i64 c.l, .int .i64 (tn1 j), .pointer (some ⟨P j, 0, none⟩)] 72) := ⟨_, rfl⟩
  obtain ⟨w3, hw3⟩ : ∃ w3, w3 = w2.setCell ⟨mb, 0, none⟩ (.slice (some ⟨g, 0, none⟩) n1 cap) := ⟨_, rfl⟩
  obtain ⟨N3, hN3⟩ : ∃ N3, N3 = w3.heap.size := ⟨_, rfl⟩
  have HN3' : Hid (N3 = w3.heap.size) := hN3
  obtain ⟨w4, hw4⟩ : ∃ w4, w4 = w3.alloc (.cells #[.int .i64 hd.l, .int .i64 hd.x, .int .i64 hd.k, .int .i64 hd.t, .slice hd.oa hd.ol hd.oc, .slice hd.na hd.nl hd.nc] 27) := ⟨_, rfl⟩
  obtain ⟨h0, b0, t0, hpk, hx, hL, hs⟩ := H0.out
  have hmg := HM.out
  obtain ⟨hrw, hmp, hn2⟩ := HRW.out
  have t2 : Tch (fun i => i = g) w0 w2 := by rw [hw2]; exact t1.allocR _
  have hm2 := (t2.block mb (blk_lt h0.mbk) hmg).trans h0.mbk
  have bI2 : w2.heap[N1]? = some (.cells #[.int .i64 c.l, .int .i64 (tn1 j), .pointer (some ⟨P j, 0, none⟩)] 72 (0, 0)) := by rw [hw2, hN1]; exact alloc_new _ _
  have m0 : w2.cell? ⟨mb, 0, none⟩ = some (.slice (some ⟨g, 0, none⟩) L.length cap) := blk_cell hm2 0
  have fm := blk_frozen hm2
  have t3' : Tch (fun i => i = mb) w2 w3 := by rw [hw3]; exact Tch.setCell (fun i => i = mb) _ _ _ rfl
  have t3 : Tch (fun i => i = mb ∨ i = g) w0 w3 := (t2.mono (fun _ _ e => .inr e)).trans t3' (fun _ _ e => .inl e)
  have hr3 : HR w3 g cap L1 := (hr1.no (by rw [hw2]; exact Tch.alloc _ _ _)).tch t3' (fun e => hmg e.symm)
  have hm3 : w3.heap[mb]? = some (.cells #[hV g cap L1, .int .i64 rs.length] 66 (0, 0)) := by rw [hw3, blk_set hm2, hn1]; rfl
  obtain ⟨h3, hR3⟩ := h0.popped hL hpk.1 hx pm hh1 hr3 hm3 t3
  have bI3 := (t3'.block N1 (blk_lt bI2) (ne_ty bI2 hm2 (by decide))).trans bI2
  have i1 : w3.cell? ⟨N1, 1, none⟩ = some (.int .i64 (tn1 j)) := blk_cell bI3 1
  have i2 : w3.cell? ⟨N1, 2, none⟩ = some (.pointer (some ⟨P j, 0, none⟩)) := blk_cell bI3 2
  have r1 : w3.cell? ⟨P j, 1, none⟩ = some (.int .i64 hd.l) := by rw [blk_cell hR3.1.blk, hhd]; rfl
  have r2 : w3.cell? ⟨P j, 2, none⟩ = some (.int .i64 hd.x) := by rw [blk_cell hR3.1.blk, hhd]; rfl
  have r3 : w3.cell? ⟨P j, 3, none⟩ = some (.int .i64 hd.k) := by rw [blk_cell hR3.1.blk, hhd]; rfl
  have r4 : w3.cell? ⟨P j, 4, none⟩ = some (.int .i64 hd.t) := by rw [blk_cell hR3.1.blk, hhd]; rfl
  have r5 : w3.cell? ⟨P j, 5, none⟩ = some (.slice hd.oa hd.ol hd.oc) := by rw [blk_cell hR3.1.blk, hhd]; rfl
  have r6 : w3.cell? ⟨P j, 6, none⟩ = some (.slice hd.na hd.nl hd.nc) := by rw [blk_cell hR3.1.blk, hhd]; rfl
  have t4 : Tch (fun _ => False) w3 w4 := by rw [hw4]; exact Tch.alloc _ _ _
  have h4 := h3.no t4
  have hR4 := hR3.1.tch t4 (fun h => h) (fun _ _ h => h) (fun _ _ h => h)
  have bI4 := (t4.block N1 (blk_lt bI3) (fun h => h)).trans bI3
  have j1 : w4.cell? ⟨N1, 1, none⟩ = some (.int .i64 (tn1 j)) := blk_cell bI4 1
  have j2 : w4.cell? ⟨N1, 2, none⟩ = some (.pointer (some ⟨P j, 0, none⟩)) := blk_cell bI4 2
  have bC4 : w4.heap[N3]? = some (.cells #[.int .i64 hd.l, .int .i64 hd.x, .int .i64 hd.k, .int .i64 hd.t, .slice hd.oa hd.ol hd.oc, .slice hd.na hd.nl hd.nc] 27 (0, 0)) := by rw [hw4, hN3]; exact alloc_new _ _
  have hjj : (rs.set j [])[j]? = some [] := List.getElem?_set_self hjl
  have q4 := h4.ask (fun i hi => hi) hjj hR4.blk hR4.src hR4.dr hR3.2.1 hR3.2.2 (by rw [List.length_set]; exact hs) hn2
  rw [List.set_set] at q4
  have bZ3 := (t3.block w.heap.size (blk_lt b0) (by omega)).trans b0
  have bZ4 := (t4.block w.heap.size (blk_lt bZ3) (fun h => h)).trans bZ3
  have nx : ∀ i cur, i < w4.heap.size → w.heap.size ≤ i → w4.heap[i]? = some (.cells cur 27 (0, 0)) → ¬ (i = mb ∨ i = P j ∨ Fx (X j) u i ∨ i = g) := fun i cur _ hi hc => by
    refine h4.nS hR4.blk hc (.inr (.inl rfl)) (fun hx => ?_)
    have := hrw.src.fx hx
    omega
  have hN3le : w.heap.size ≤ N3 := by rw [hN3]; exact Nat.le_trans t0.size t3.size
  have tw4 : Tch (fun i => i = mb ∨ i = P j ∨ Fx (X j) u i ∨ i = g) w w4 := ((t0.mono (fun _ _ h => h.elim)).trans t3 (fun i _ e => e.elim .inl (fun e => .inr (.inr (.inr e))))).trans t4 (fun _ _ h => h.elim)
  have H4 : Hid (∀ w5, Tch (fun i => i = mb ∨ i = P j ∨ Fx (X j) u i ∨ i = g) w4 w5 → w5.heap[w.heap.size]? = some (.cells #[.int .i64 0, .int .i64 0, .int .i64 0, .int .i64 0, .slice none 0 0, .slice none 0 0] 27 (0, 0)) ∧ w5.heap[N3]? = some (.cells #[.int .i64 hd.l, .int .i64 hd.x, .int .i64 hd.k, .int .i64 hd.t, .slice hd.oa hd.ol hd.oc, .slice hd.na hd.nl hd.nc] 27 (0, 0)) ∧ Tch (fun i => i = mb ∨ i = P j ∨ Fx (X j) u i ∨ i = g) w w5) := fun w5 t5 =>
    ⟨(t5.block _ (blk_lt bZ4) (nx _ _ (blk_lt bZ4) (Nat.le_refl _) bZ4)).trans bZ4, (t5.block _ (blk_lt bC4) (nx _ _ (blk_lt bC4) hN3le bC4)).trans bC4, tw4.trans' t5⟩
  have HW2 : Hid (w2 = _) := hw2
  have HW3 : Hid (w3 = _) := hw3
  have HW4 : Hid (w4 = _) := hw4
  have HN1 : Hid (N1 = _) := hN1
  have HPK : Hid _ := hpk
  have HHD : Hid (hd = H j) := hhd
  have hw34 : w.heap.size ≤ w4.heap.size := Nat.le_trans (Nat.le_trans t0.size t3.size) t4.size
  have H34 : Hid (w.heap.size ≤ w4.heap.size) := hw34
  have H35 : Hid (w.heap.size < w4.heap.size) := Nat.lt_of_lt_of_le (blk_lt bZ4) (Nat.le_refl _)
  clear hN3le hhd hw34 hrw hmp hn2 nx tw4 h0 b0 t0 hpk hx hL hs hmg t1 t2 t3' t3 hr1 hr3 hm2 hm3 h3 hR3 bI2 bI3 bI4 t4 h4 hR4 bC4 bZ3 bZ4 hw2 hw3 hw4 pm hh1 hn1 hN1 hN3
  go_upto_region 4 with (fail)
  rw [← HW2.out, ← HN1.out]
  go_upto_region 5 with (fail)
  rw [← HW3.out]
  clear m0 fm
  go_upto_region 6 with (fail)
  rw [← HW4.out, ← HN3'.out]
  clear r1 r2 r3 r4 r5 r6 i1 i2
  go_wp2_with fail
  refine q4.mono ?_
  rintro e w5 ⟨rfl, h5, t5⟩
  obtain ⟨z5, k5, T5⟩ := H4.out w5 t5
  have H5 : Hid _ := And.intro h5 T5
  obtain ⟨e0, e1, e2, e3, e4, e5⟩ := get6 z5
  obtain ⟨d0, d1, d2, d3, d4, d5⟩ := get6 k5
  have f5 := blk_frozen z5
  have Z5 : Hid _ := z5
  clear q4 j1 j2 h5 t5 z5 k5 T5
  go_wp2
  refine bodyPost_ret (res_ch2 rs_nx rfl rfl (set6 Z5.out _ _ _ _ _ _)) rfl ?_
  obtain ⟨⟨g', cap', L', H', h5, hH1, hH2, hH3⟩, T5⟩ := H5.out
  obtain ⟨hrw, hmp, _⟩ := HRW.out
  have hjl2 : j < rs.length := (List.getElem?_eq_some_iff.1 HPK.out.1).1
  have low : ∀ (i : Nat) (d : Rc) (v : List Rc), (rs.set j u)[i]? = some (d :: v) → (∀ g, Fx (X i) v g → g < w.heap.size ∧ ∀ g0, Bk (H j) g0 → g0 ≠ g) ∧ ∀ g, Bk (H' i) g → g ≠ w.heap.size ∧ ∀ g0, Bk (H j) g0 → g0 ≠ g := fun i d v e => by
    have hlt : ∀ g0, Bk (H j) g0 → g0 < w.heap.size := fun g0 hg => (hrw.own.lt hg).2
    by_cases hij : i = j
    · subst hij
      rw [List.getElem?_set_self hjl2] at e
      obtain rfl : u = d :: v := by simpa using e
      obtain ⟨_, hk1, _⟩ := kk_cons hrw.dr
      refine ⟨fun g hg => ⟨hrw.src.fx (hg.down hk1), fun g0 h0 e0 => ?_⟩, fun g hg => ?_⟩
      · subst e0; exact hmp.dX i i c c _ _ HPK.out.1 HPK.out.1 g0 h0 (hg.down hk1)
      · have h1 := hH2 (by simp) g hg
        have h2 := H34.out
        exact ⟨fun e0 => by have := H35.out; omega, fun g0 h0 e0 => by have := hlt g0 h0; omega⟩
    · rw [List.getElem?_set_ne (Ne.symm hij)] at e
      rw [hH1 i hij]
      have hRi := hmp.row i d v e
      refine ⟨fun g hg => ⟨hRi.src.fx hg, fun g0 h0 e0 => ?_⟩, fun g hg => ⟨fun e0 => ?_, fun g0 h0 e0 => ?_⟩⟩
      · subst e0; exact hmp.dX j i c d _ _ HPK.out.1 e g0 h0 hg
      · have := (hRi.own.lt hg).2; omega
      · subst e0; exact hmp.dH j i c d _ _ HPK.out.1 e (Ne.symm hij) g0 h0 hg
  have t6 := tch6 w5 w.heap.size (.int .i64 hd.l) (.int .i64 hd.x) (.int .i64 hd.k) (.int .i64 hd.t) (.slice hd.oa hd.ol hd.oc) (.slice hd.na hd.nl hd.nc)
  have TT : Tch (fun i => i = mb ∨ i = P j ∨ Fx (X j) u i ∨ i = g) w _ := T5.trans t6 (fun i hi e => by omega)
  refine ⟨j, c, u, HPK.out, by rw [← HHD.out]; rfl, hrw.sm, ?_, ⟨g', cap', L', H', h5.tch t6 (fun i cur tt hi e => ?_) (fun i d v e g0 hg e0 => ?_), ⟨hH1, fun hu g0 hg => Nat.le_trans H34.out (hH2 hu g0 hg), hH3.imp id (fun e => Nat.le_trans H34.out e)⟩, fun g0 h0 i d v e => ⟨fun hx => ((low i d v e).1 g0 hx).2 g0 h0 rfl, fun hb => ((low i d v e).2 g0 hb).2 g0 h0 rfl⟩⟩, TT⟩
  · have nb : ∀ g0, Bk (H j) g0 → ¬ (g0 = mb ∨ g0 = P j ∨ Fx (X j) u g0 ∨ g0 = g) := fun g0 hg => by
      obtain ⟨cv, hcv⟩ := hrw.bty hg
      exact hmp.nS hrw.blk hcv (.inr (.inr rfl)) (fun hx => hmp.dX j j c c _ _ HPK.out.1 HPK.out.1 g0 hg hx)
    exact ⟨own_tch hrw.own.o TT (fun g0 e => nb g0 (.inl e)), own_tch hrw.own.n TT (fun g0 e => nb g0 (.inr e)), hrw.own.ne⟩
  · subst e
    rw [Z5.out] at hi
    simp only [Option.some.injEq, Obj.cells.injEq] at hi
    exact .inr (.inl hi.2.1.symm)
  · subst e0
    rcases hg with hg | hg
    · have := ((low i d v e).1 _ hg).1; omega
    · exact ((low i d v e).2 _ hg).1 rfl
end Go.Proofs.Ytmnhkgibplnnnaa
