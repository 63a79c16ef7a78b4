import Derived.Test.YtclfaflmjgpbhaaUMl2
/- MergeLists: the book's loop. -/
namespace Go.Proofs.Ytclfaflmjgpbhaa
open Go.RowKit Go

/-- What is not the book's, i changes given to it. -/
def Fq (nb : Nat) (out' : List Rc) (i : Nat) (g : Nat) : Prop := g < nb ∧ ∀ (j : Nat) (c' : Rc), out'[j]? = some c' → j < i → ¬ Bk c' g
theorem OwnC.bty {base : Nat} {w : World} {c : Rc} {a b : List Value} (h : OwnC base w c a b) {g : Nat} (hg : Bk c g) : ∃ cur, w.heap[g]? = some (.cells cur 76 (0, 0)) := hg.elim (fun e => own_ty h.o e) (fun e => own_ty h.n e)
/-- What lies there as the book's loop begins. -/
structure B0 (W w3 : World) (N2 : Nat) (outr out' : List Rc) (aa : Option Addr) (ca : Nat) (ba : Option Addr) (cb : Nat) : Prop where
  td : Td (DW W) N2 w3 outr out'
  ch : ∀ c ∈ outr, ChIn W c
  a : w3.ownsRow N2 27 6 (.slice aa out'.length ca) out'.length (kcl out')
  b : w3.ownsRow N2 27 6 (.slice ba out'.length cb) out'.length (kcl outr)
  ab : ∀ g, (Value.slice aa out'.length ca).ownBlock = some g → (Value.slice ba out'.length cb).ownBlock ≠ some g
  tch : Tch (fun g => W.heap.size ≤ g) W w3
  le : W.heap.size ≤ N2
structure P4 (w3 : World) (N2 : Nat) (out' : List Rc) (aa : Option Addr) (ca : Nat) (i : Nat) (wr : World) (rv : Value) (cur : Array Value) (A : List Value) : Prop where
  blk : wr.heap[w3.heap.size]? = some (.cells cur 42 (0, 0))
  csz : cur.size = 13
  c0 : cur[0]? = some rv
  ls : LS 25 wr (Fq w3.heap.size out' i) w3.heap.size mkR A rv
  al : A.length = 20 * i
  a : wr.ownsRow N2 27 6 (.slice aa out'.length ca) out'.length (kcl (List.replicate i r9 ++ out'.drop i))
  tch : Tch (fun g => ¬ Fq w3.heap.size out' i g ∨ (Value.slice aa out'.length ca).ownBlock = some g) w3 wr
theorem B0.out {W w3 : World} {N2 : Nat} {outr out' : List Rc} {aa : Option Addr} {ca : Nat} {ba : Option Addr} {cb : Nat} (h : B0 W w3 N2 outr out' aa ca ba cb) {i : Nat} {c' : Rc} (hc : out'[i]? = some c') : ∃ c, outr[i]? = some c ∧ Cpy W N2 w3 c c' := by
  have hi := (List.getElem?_eq_some_iff.1 hc).1
  have hl := h.td.len
  obtain ⟨c, hc0⟩ : ∃ c, outr[i]? = some c := ⟨_, List.getElem?_eq_getElem (by omega)⟩
  obtain ⟨s, o⟩ := h.td.el i c c' hc0 hc
  exact ⟨c, hc0, s, o, h.ch c (List.mem_of_getElem? hc0)⟩
/-- A change's rows, in the loop. -/
theorem P4.row {W w3 : World} {N2 : Nat} {outr out' : List Rc} {aa : Option Addr} {ca : Nat} {ba : Option Addr} {cb : Nat} (h0 : B0 W w3 N2 outr out' aa ca ba cb) {i : Nat} {wr : World} (t : Tch (fun g => ¬ Fq w3.heap.size out' i g ∨ (Value.slice aa out'.length ca).ownBlock = some g) w3 wr) {j : Nat} (hj : i ≤ j) {c c' : Rc} (hc' : out'[j]? = some c') (r : Cpy W N2 w3 c c') : Cpy W N2 wr c c' ∧ ∀ g, Bk c' g → Fq w3.heap.size out' i g := by
  have hF : ∀ g, Bk c' g → Fq w3.heap.size out' i g := fun g hg => ⟨(r.own.lt hg).2, fun k d hd hk => fun hb => h0.td.dis k j d c' hd hc' (by omega) g hb hg⟩
  have hA : ∀ g, Bk c' g → (Value.slice aa out'.length ca).ownBlock ≠ some g := fun g hg e => by
    obtain ⟨cu, hcu⟩ := r.own.bty hg
    obtain ⟨cv, hcv⟩ := own_ty h0.a e
    exact ne_ty hcu hcv (by decide) rfl
  refine ⟨⟨r.sm, ⟨own_tch r.own.o t (fun g e hs => ?_), own_tch r.own.n t (fun g e hs => ?_), r.own.ne⟩, r.ch⟩, hF⟩
  · exact hs.elim (fun k => k (hF g (.inl e))) (hA g (.inl e))
  · exact hs.elim (fun k => k (hF g (.inr e))) (hA g (.inr e))
theorem P4.b {W w3 : World} {N2 : Nat} {outr out' : List Rc} {aa : Option Addr} {ca : Nat} {ba : Option Addr} {cb : Nat} (h0 : B0 W w3 N2 outr out' aa ca ba cb) {i : Nat} {wr : World} (t : Tch (fun g => ¬ Fq w3.heap.size out' i g ∨ (Value.slice aa out'.length ca).ownBlock = some g) w3 wr) : wr.ownsRow N2 27 6 (.slice ba out'.length cb) out'.length (kcl outr) := by
  refine own_tch h0.b t (fun g e hs => ?_)
  rcases hs with hs | hs
  · refine hs ⟨(h0.b.lt g e).2, fun j c' hc' _ hb => ?_⟩
    obtain ⟨c, _, r⟩ := h0.out hc'
    obtain ⟨cu, hcu⟩ := r.own.bty hb
    obtain ⟨cv, hcv⟩ := own_ty h0.b e
    exact ne_ty hcu hcv (by decide) rfl
  · exact h0.ab g hs e
theorem P4.low {W w3 : World} {N2 : Nat} {outr out' : List Rc} {aa : Option Addr} {ca : Nat} {ba : Option Addr} {cb : Nat} (h0 : B0 W w3 N2 outr out' aa ca ba cb) {i : Nat} {wr : World} (t : Tch (fun g => ¬ Fq w3.heap.size out' i g ∨ (Value.slice aa out'.length ca).ownBlock = some g) w3 wr) : Tch (fun g => N2 ≤ g) w3 wr :=
  t.mono (fun g hg hs => by
    rcases hs with hs | hs
    · refine Decidable.by_contra (fun hn => hs ⟨hg, fun j c' hc' _ hb => ?_⟩)
      obtain ⟨c, _, r⟩ := h0.out hc'
      have := (r.own.lt hb).1
      exact hn (by omega)
    · exact (h0.a.lt g hs).1)
theorem P4.no {w3 : World} {N2 : Nat} {out' : List Rc} {aa : Option Addr} {ca : Nat} {i : Nat} {wr wr' : World} {rv : Value} {cur : Array Value} {A : List Value} (h : P4 w3 N2 out' aa ca i wr rv cur A) (t : Tch (fun _ => False) wr wr') : P4 w3 N2 out' aa ca i wr' rv cur A :=
  ⟨(t.block _ (blk_lt h.blk) (fun h => h)).trans h.blk, h.csz, h.c0, h.ls.tch t (fun _ h => h.elim), h.al, own_tch h.a t (fun _ _ h => h), h.tch.trans t (fun _ _ h => h.elim)⟩
theorem drop_nth (out' : List Rc) (i j : Nat) (hj : i ≤ j) : (List.replicate i r9 ++ out'.drop i)[j]? = out'[j]? := by
  rw [List.getElem?_append_right (by simpa using hj), List.length_replicate, List.getElem?_drop]
  congr 1; omega
theorem drop_set (out' : List Rc) (i : Nat) (hi : i < out'.length) : (List.replicate i r9 ++ out'.drop i).set i r9 = List.replicate (i + 1) r9 ++ out'.drop (i + 1) := by
  apply List.ext_getElem?
  intro j
  rw [List.getElem?_set]
  rcases Nat.lt_trichotomy i j with h | h | h
  · rw [if_neg (by omega), drop_nth _ _ _ (by omega), drop_nth _ _ _ (by omega)]
  · subst h
    rw [if_pos rfl, if_pos (by simp; omega), List.getElem?_append_left (by simp), List.getElem?_replicate, if_pos (by omega)]
  · rw [if_neg (by omega), List.getElem?_append_left (by simpa using h), List.getElem?_append_left (by simp; omega), List.getElem?_replicate, List.getElem?_replicate, if_pos h, if_pos (by omega)]
/-- The book begins. -/
theorem B0.begin {W w3 : World} {N2 : Nat} {outr out' : List Rc} {aa : Option Addr} {ca : Nat} {ba : Option Addr} {cb : Nat} (h0 : B0 W w3 N2 outr out' aa ca ba cb) (cur : Array Value) (hs : cur.size = 13) (hc : cur[0]? = some (.slice none 0 0)) : P4 w3 N2 out' aa ca 0 (w3.alloc (.cells cur 42)) (.slice none 0 0) cur [] := by
  have t : Tch (fun _ => False) w3 (w3.alloc (.cells cur 42)) := Tch.alloc _ _ _
  exact ⟨alloc_new _ _, hs, hc, ⟨World.ownsRow_nil _ _ _ _, fun g e => by simp [Value.ownBlock] at e, fun j hj => by simp at hj⟩, rfl, own_tch h0.a t (fun _ _ h => h), t.mono (fun _ _ h => h.elim)⟩
/-- The calls of a round of the book's loop. -/
theorem P4.one {W w3 : World} {N2 : Nat} {outr out' : List Rc} {aa : Option Addr} {ca : Nat} {ba : Option Addr} {cb : Nat} (h0 : B0 W w3 N2 outr out' aa ca ba cb) {i : Nat} {wr : World} {rv : Value} {cur : Array Value} {A : List Value} (h : P4 w3 N2 out' aa ca i wr rv cur A) {c' : Rc} (hc' : out'[i]? = some c') (hi : i ≤ 2000000) :
    Calls Try.prog 16 #[.pointer (some ⟨w3.heap.size, 0, none⟩), .slice c'.oa c'.ol c'.oc] wr fun x w1 => x = .returned (.tuple #[]) ∧ w1.ownsRow N2 27 6 (.slice aa out'.length ca) out'.length (kcl (List.replicate i r9 ++ out'.drop i)) ∧
      Calls Try.prog 16 #[.pointer (some ⟨w3.heap.size, 0, none⟩), .slice c'.na c'.nl c'.nc] w1 fun x w2 => x = .returned (.tuple #[]) ∧ w2.ownsRow N2 27 6 (.slice aa out'.length ca) out'.length (kcl (List.replicate i r9 ++ out'.drop i)) ∧
        ∀ W', Tch (fun g => (Value.slice aa out'.length ca).ownBlock = some g) w2 W' → W'.ownsRow N2 27 6 (.slice aa out'.length ca) out'.length (kcl (List.replicate (i + 1) r9 ++ out'.drop (i + 1))) → ∃ rv' cur' A', P4 w3 N2 out' aa ca (i + 1) W' rv' cur' A' := by
  obtain ⟨c, hc, r⟩ := h0.out hc'
  obtain ⟨rw', hF⟩ := P4.row h0 h.tch (Nat.le_refl _) hc' r
  have hbd := r.ch.o.bd
  have hbd2 := r.ch.n.bd
  have so := r.sm.o
  have sn := r.sm.n
  have hal := h.al
  have hnl : w3.heap.size < wr.heap.size := blk_lt h.blk
  have aF : ∀ g, (Value.slice aa out'.length ca).ownBlock = some g → g < w3.heap.size ∧ ∀ (j : Nat) (d : Rc), out'[j]? = some d → ¬ Bk d g := fun g e => ⟨(h0.a.lt g e).2, fun j d hd hb => by
    obtain ⟨cd, _, rd⟩ := h0.out hd
    obtain ⟨cu, hcu⟩ := rd.own.bty hb
    obtain ⟨cv, hcv⟩ := own_ty h0.a e
    exact ne_ty hcu hcv (by decide) rfl⟩
  have aFq : ∀ k g, (Value.slice aa out'.length ca).ownBlock = some g → Fq w3.heap.size out' k g := fun k g e => ⟨(aF g e).1, fun j d hd _ => (aF g e).2 j d hd⟩
  refine (row_any w3.heap.size cur A rv (.slice c'.oa c'.ol c'.oc) c'.ol _ (fun g => Fq w3.heap.size out' i g ∧ (Value.slice c'.oa c'.ol c'.oc).ownBlock ≠ some g) wr h.blk h.csz h.c0
    (h.ls.fresh (fun g _ hg => hg.elim (fun e => e.1) (fun e => hF g (.inl e)))) (own_low rw'.own.o (Nat.zero_le _)) (by omega) (fun g e => ⟨by have := (hF g (.inl e)).1; omega, fun hh => hh.2 e⟩) (fun g hg => by have := hg.1.1; omega) (by omega) (by omega)).mono ?_
  rintro x w1 ⟨rfl, ⟨rv1, A1, hA1, hb1, hL1⟩, t1⟩
  have hagr : ∀ g, rv.ownBlock = some g → ¬ Fq w3.heap.size out' i g := fun g e => (h.ls.ag g e).2
  have a1 : w1.ownsRow N2 27 6 (.slice aa out'.length ca) out'.length (kcl (List.replicate i r9 ++ out'.drop i)) := own_tch h.a t1 (fun g e hs => by
    rcases hs with hs | hs | hs
    · have := (aF g e).1; omega
    · exact hagr g hs (aFq i g e)
    · exact (aF g e).2 i c' hc' (.inl hs))
  have n1 : w1.ownsRow N2 76 3 (.slice c'.na c'.nl c'.nc) c'.nl (DW W c).2 := own_tch rw'.own.n t1 (fun g e hs => by
    rcases hs with hs | hs | hs
    · have := (hF g (.inr e)).1; omega
    · exact hagr g hs (hF g (.inr e))
    · exact rw'.own.ne g hs e)
  have hFs : ∀ g, Fq w3.heap.size out' (i + 1) g ↔ Fq w3.heap.size out' i g ∧ ¬ Bk c' g := fun g => by
    constructor
    · intro hh; exact ⟨⟨hh.1, fun j d hd hj => hh.2 j d hd (by omega)⟩, hh.2 i c' hc' (by omega)⟩
    · rintro ⟨h1, h2⟩
      refine ⟨h1.1, fun j d hd hj => ?_⟩
      rcases Nat.lt_or_ge j i with hlt | hge
      · exact h1.2 j d hd hlt
      · obtain rfl : j = i := by omega
        rw [hc'] at hd
        obtain rfl : c' = d := by simpa using hd
        exact h2
  refine ⟨rfl, a1, ?_⟩
  refine (row_any w3.heap.size (cur.setIfInBounds 0 rv1) A1 rv1 (.slice c'.na c'.nl c'.nc) c'.nl _ (Fq w3.heap.size out' (i + 1)) w1 hb1 (by rw [Array.size_setIfInBounds]; exact h.csz) (by rw [Array.getElem?_setIfInBounds]; simp [h.csz])
    (hL1.fresh (fun g _ hg => hg.elim (fun e => ⟨((hFs g).1 e).1, fun e2 => ((hFs g).1 e).2 (.inl e2)⟩) (fun e => ⟨hF g (.inr e), fun e2 => rw'.own.ne g e2 e⟩))) (own_low n1 (Nat.zero_le _)) (by omega) (fun g e => ⟨by have := (hF g (.inr e)).1; omega, fun hh => ((hFs g).1 hh).2 (.inr e)⟩) (fun g hg => by have := hg.1; have := t1.size; omega) (by omega) (by omega)).mono ?_
  rintro x w2 ⟨rfl, ⟨rv2, A2, hA2, hb2, hL2⟩, t2⟩
  have hagr1 : ∀ g, rv1.ownBlock = some g → ¬ (Fq w3.heap.size out' i g ∧ (Value.slice c'.oa c'.ol c'.oc).ownBlock ≠ some g) := fun g e => (hL1.ag g e).2
  have a2 : w2.ownsRow N2 27 6 (.slice aa out'.length ca) out'.length (kcl (List.replicate i r9 ++ out'.drop i)) := own_tch a1 t2 (fun g e hs => by
    rcases hs with hs | hs | hs
    · have := (aF g e).1; omega
    · exact hagr1 g hs ⟨aFq i g e, fun e2 => (aF g e).2 i c' hc' (.inl e2)⟩
    · exact (aF g e).2 i c' hc' (.inr hs))
  refine ⟨rfl, a2, fun W' tW haW => ⟨rv2, (cur.setIfInBounds 0 rv1).setIfInBounds 0 rv2, A2, ⟨?_, by simp [h.csz], by rw [Array.getElem?_setIfInBounds]; simp [h.csz], hL2.tch tW (fun g e => .inr (aFq (i + 1) g e)), by omega, haW, ?_⟩⟩⟩
  · exact (tW.block _ (blk_lt hb2) (fun e => by have := (aF _ e).1; omega)).trans hb2
  · have k1 : Tch (fun g => ¬ Fq w3.heap.size out' (i + 1) g ∨ (Value.slice aa out'.length ca).ownBlock = some g) w3 wr := h.tch.mono (fun g _ hs => hs.imp (fun hn hh => hn ((hFs g).1 hh).1) id)
    have k2 := k1.trans t1 (fun g hg hs => .inl (fun hh => by
      rcases hs with hs | hs | hs
      · omega
      · exact hagr g hs ((hFs g).1 hh).1
      · exact ((hFs g).1 hh).2 (.inl hs)))
    have k3 := k2.trans t2 (fun g hg hs => .inl (fun hh => by
      rcases hs with hs | hs | hs
      · omega
      · exact hagr1 g hs ⟨((hFs g).1 hh).1, fun e2 => ((hFs g).1 hh).2 (.inl e2)⟩
      · exact ((hFs g).1 hh).2 (.inr hs)))
    exact k3.trans tW (fun g _ e => .inr e)
end Go.Proofs.Ytclfaflmjgpbhaa
