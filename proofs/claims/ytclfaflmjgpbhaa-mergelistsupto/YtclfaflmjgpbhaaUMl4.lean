import Derived.Test.YtclfaflmjgpbhaaUMl3
/- MergeLists: the two merges; the end of the book's loop. -/
namespace Go.Proofs.Ytclfaflmjgpbhaa
open Go.RowKit Go

theorem RL.up {D : Rc → List Value × List Value} {M M' : Nat} {w : World} {ao : Option Addr} {cp : Nat} {u : List Rc} (h : RL D M w ao cp u) (hM : M ≤ M') : RL D M' w ao cp u :=
  ⟨h.len, h.cap, fun hu => by obtain ⟨g, o, h1, h2⟩ := h.at' hu; exact ⟨g, o, by omega, h2⟩, fun c hc => by
    obtain ⟨r1, r2, r3, r4⟩ := h.rd c hc
    exact ⟨r1, r2, fun a e z => Nat.lt_of_lt_of_le (r3 a e z) hM, fun a e z => Nat.lt_of_lt_of_le (r4 a e z) hM⟩⟩
theorem LLs.up {D : Rc → List Value × List Value} {M M' : Nat} {w : World} {lo : Option Addr} {hd : List Value} {ls : List (List Rc)} (h : LLs D M w lo hd ls) (hM : M ≤ M') : LLs D M' w lo hd ls :=
  ⟨h.len, fun hu => by obtain ⟨g, o, h1, h2, h3⟩ := h.at' hu; exact ⟨g, o, h1, by omega, h3⟩, fun j l hj => by
    obtain ⟨ao, cp, e, r⟩ := h.el j l hj
    exact ⟨ao, cp, e, r.up hM⟩⟩
theorem A2.tot {α β : Type} {R : α → β → Prop} {ls : List (List α)} {ls' : List (List β)} (h : A2 (A2 R) ls ls') : tot ls' = tot ls := by
  unfold Go.Proofs.Ytclfaflmjgpbhaa.tot
  congr 1
  apply List.ext_getElem?
  intro i
  rw [List.getElem?_map, List.getElem?_map]
  cases h1 : ls[i]? with
  | none =>
    have : ls'[i]? = none := by
      rw [List.getElem?_eq_none_iff] at h1 ⊢
      have := h.len; omega
    rw [this]; rfl
  | some u =>
    obtain ⟨u', h2, r⟩ := h.get h1
    rw [h2]
    simp [r.len]
theorem B0.no {W w3 w4 : World} {N2 : Nat} {outr out' : List Rc} {aa : Option Addr} {ca : Nat} {ba : Option Addr} {cb : Nat} (h : B0 W w3 N2 outr out' aa ca ba cb) (t : Tch (fun _ => False) w3 w4) : B0 W w4 N2 outr out' aa ca ba cb :=
  ⟨h.td.z (K76.of t (fun _ _ _ h => h)), h.ch, own_tch h.a t (fun _ _ h => h), own_tch h.b t (fun _ _ h => h), h.ab, h.tch.trans t (fun _ _ h => h.elim), h.le⟩
/-- Both merges are done. -/
theorem B0.of {W wr w1 w2 : World} {gO : Nat} {ls ls' : List (List Rc)} {n : Nat} {oc : Array Value} {hr : List Value} {out outr out' : List Rc} {aa : Option Addr} {ca : Nat} {ba : Option Addr} {cb : Nat} (h : P1 W gO ls n wr oc hr ls') (hg : gO = W.heap.size) (hn : n = ls.length) (m' : Mrg Rc.l ls' out) (td : Td (DW wr) wr.heap.size w1 out out') (ho : w1.ownsRow wr.heap.size 27 6 (.slice aa out'.length ca) out'.length (kcl out')) (t1 : Tch (fun _ => False) wr w1)
    (m : Mrg Rc.l ls outr) (hb : w2.ownsRow w1.heap.size 27 6 (.slice ba outr.length cb) outr.length (kcl outr)) (t2 : Tch (fun _ => False) w1 w2) : B0 W w2 wr.heap.size outr out' aa ca ba cb ∧ outr.length = out'.length ∧ out'.length = tot ls := by
  obtain ⟨h1, h2⟩ := both (h.rel hn) m m' td
  have hl := h1.len
  rw [← hl] at hb
  refine ⟨⟨h1.z (K76.of t2 (fun _ _ _ h => h)), h2, own_tch ho t2 (fun _ _ h => h), own_low hb t1.size, fun g e e2 => ?_, ?_, h.tch.size⟩, hl.symm, hl.trans m.len⟩
  · have k1 := (ho.lt g e).2
    have k2 := (hb.lt g e2).1
    omega
  · exact ((h.tch.mono (fun k _ e => by show W.heap.size ≤ k; omega)).trans t1 (fun _ _ h => h.elim)).trans t2 (fun _ _ h => h.elim)
/-- The cells of the two merges at one place. -/
theorem B0.at {W w3 : World} {N2 : Nat} {outr out' : List Rc} {aa : Option Addr} {ca : Nat} {ba : Option Addr} {cb : Nat} (h : B0 W w3 N2 outr out' aa ca ba cb) {p : Nat} (hp : p < out'.length) : ∃ ga gb c c', aa = some ⟨ga, 0, none⟩ ∧ ba = some ⟨gb, 0, none⟩ ∧ outr[p]? = some c ∧ out'[p]? = some c' ∧ Cpy W N2 w3 c c' ∧ ∀ Wy, Tch (fun _ => False) w3 Wy → (∀ j v, (kc6 c')[j]? = some v → Wy.cell? ⟨ga, p * 6 + j, none⟩ = some v) ∧ (∀ j v, (kc6 c)[j]? = some v → Wy.cell? ⟨gb, p * 6 + j, none⟩ = some v) := by
  have hc' : out'[p]? = some (out'[p]) := List.getElem?_eq_getElem hp
  obtain ⟨c, hc, r⟩ := h.out hc'
  obtain ⟨ga, e1, _, x⟩ := own_nth h.a hc'
  obtain ⟨gb, e2, _, y⟩ := own_nth h.b hc
  exact ⟨ga, gb, c, _, e1, e2, hc, hc', r, fun Wy t => ⟨fun j v hv => (t.cell (p := ⟨ga, p * 6 + j, none⟩) (cell_lt (x j v hv)) (fun h => h)).trans (x j v hv), fun j v hv => (t.cell (p := ⟨gb, p * 6 + j, none⟩) (cell_lt (y j v hv)) (fun h => h)).trans (y j v hv)⟩⟩
/-- The same while the book's loop goes on. -/
theorem P4.at {W w3 : World} {N2 : Nat} {outr out' : List Rc} {aa : Option Addr} {ca : Nat} {ba : Option Addr} {cb : Nat} (h : B0 W w3 N2 outr out' aa ca ba cb) {i : Nat} {wr : World} {rv : Value} {cur : Array Value} {A : List Value} (h4 : P4 w3 N2 out' aa ca i wr rv cur A) {p : Nat} (hp : p < out'.length) (hip : i ≤ p) : ∃ ga gb c c', aa = some ⟨ga, 0, none⟩ ∧ ba = some ⟨gb, 0, none⟩ ∧ out'[p]? = some c' ∧ Cpy W N2 wr c c' ∧ ∀ Wy, Tch (fun _ => False) wr Wy → (∀ j v, (kc6 c')[j]? = some v → Wy.cell? ⟨ga, p * 6 + j, none⟩ = some v) ∧ (∀ j v, (kc6 c)[j]? = some v → Wy.cell? ⟨gb, p * 6 + j, none⟩ = some v) := by
  have hc' : out'[p]? = some (out'[p]) := List.getElem?_eq_getElem hp
  obtain ⟨c, hc, r⟩ := h.out hc'
  obtain ⟨ga, e1, _, x⟩ := own_nth h4.a (k := p) (c := out'[p]) (by rw [drop_nth _ _ _ hip]; exact hc')
  obtain ⟨gb, e2, _, y⟩ := own_nth (P4.b h h4.tch) hc
  exact ⟨ga, gb, c, _, e1, e2, hc', (P4.row h h4.tch hip hc' r).1, fun Wy t => ⟨fun j v hv => (t.cell (p := ⟨ga, p * 6 + j, none⟩) (cell_lt (x j v hv)) (fun h => h)).trans (x j v hv), fun j v hv => (t.cell (p := ⟨gb, p * 6 + j, none⟩) (cell_lt (y j v hv)) (fun h => h)).trans (y j v hv)⟩⟩
theorem P4.argt {W w3 : World} {N2 : Nat} {outr out' : List Rc} {aa : Option Addr} {ca : Nat} {ba : Option Addr} {cb : Nat} (h : B0 W w3 N2 outr out' aa ca ba cb) {i : Nat} {wr : World} {rv : Value} {cur : Array Value} {A : List Value} (h4 : P4 w3 N2 out' aa ca i wr rv cur A) : Tch (fun g => W.heap.size ≤ g) W wr :=
  h.tch.trans (P4.low h h4.tch) (fun _ _ e => Nat.le_trans h.le e)
theorem own_set9 {base n : Nat} {w : World} {g cp m : Nat} {u : List Rc} (h : w.ownsRow base 27 6 (.slice (some ⟨g, 0, none⟩) n cp) m (kcl u)) {k : Nat} (hk : k < u.length) {w7 : World}
    (hw : w7 = (((((w.setCell ⟨g, k * 6, none⟩ (.int .i64 (-9))).setCell ⟨g, k * 6 + 1, none⟩ (.int .i64 0)).setCell ⟨g, k * 6 + 2, none⟩ (.int .i64 0)).setCell ⟨g, k * 6 + 3, none⟩ (.int .i64 0)).setCell ⟨g, k * 6 + 4, none⟩ (.slice none 0 0)).setCell ⟨g, k * 6 + 5, none⟩ (.slice none 0 0)) : w7.ownsRow base 27 6 (.slice (some ⟨g, 0, none⟩) n cp) m (kcl (u.set k r9)) ∧ Tch (fun i => i = g) w w7 := by
  have k1 := own_set h hk r9
  rw [hw]
  refine ⟨k1, ?_⟩
  exact (((((Tch.setCell (fun i => i = g) _ _ _ rfl).setCellR _ _ rfl).setCellR _ _ rfl).setCellR _ _ rfl).setCellR _ _ rfl).setCellR _ _ rfl
end Go.Proofs.Ytclfaflmjgpbhaa
