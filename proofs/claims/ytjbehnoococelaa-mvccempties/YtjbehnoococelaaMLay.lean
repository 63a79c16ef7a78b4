import Derived.Test.YtjbehnoococelaaMHd
/- What lay leaves. -/
namespace Go.Proofs.Ytjbehnoococelaa
open Go.RowKit Go Go.Maps

theorem info_ver : (Try.prog.info? 84).map (fun i => (i.zero, i.size, i.bytes)) = some (some (.agg #[.int .i64 0, .bool false, .slice none 0 0]), 3, 40) := by kernel_rfl
/-- What undo has: the boxes of its variables, the chain as it was. -/
structure UB (w : World) (σ : Nat → Option Nat) (hb : Nat) (k : Int) (S : ByteArray) (cb : Nat) (wo : Option Addr) (wc : Nat) (zs : List VV) (bc bw bh bt bk : Nat) : Prop where
  fc : w.heap[bc]? = some (.cells #[.pointer (some ⟨cb, 0, none⟩)] 80 (0, 0))
  fw : w.heap[bw]? = some (.cells #[.slice wo zs.length wc] 82 (0, 0))
  fh : w.heap[bh]? = some (.cells #[.pointer (some ⟨hb, 0, none⟩)] 29 (0, 0))
  ft : w.heap[bt]? = some (.cells #[.int .i64 k] 3 (0, 0))
  fk : w.heap[bk]? = some (.cells #[.string S] 9 (0, 0))
  row : w.ownsRow 0 84 3 (.slice wo zs.length wc) zs.length (vrl zs)
  rl : ∀ g, (Value.slice wo zs.length wc).ownBlock = some g → σ g = some (2 * cb + 1)
  ok : ∀ z ∈ zs, VOK w σ z
  lc : σ bc = none
  lw : σ bw = none
  lh : σ bh = none
  lt : σ bt = none
  lk : σ bk = none
theorem UB.no {w w' : World} {σ : Nat → Option Nat} {hb : Nat} {k : Int} {S : ByteArray} {cb : Nat} {wo : Option Addr} {wc : Nat} {zs : List VV} {bc bw bh bt bk : Nat} (u : UB w σ hb k S cb wo wc zs bc bw bh bt bk) (t : Tch (fun _ => False) w w') : UB w' σ hb k S cb wo wc zs bc bw bh bt bk :=
  ⟨by rw [t.block _ (blk_lt u.fc) (fun h => h)]; exact u.fc, by rw [t.block _ (blk_lt u.fw) (fun h => h)]; exact u.fw, by rw [t.block _ (blk_lt u.fh) (fun h => h)]; exact u.fh, by rw [t.block _ (blk_lt u.ft) (fun h => h)]; exact u.ft, by rw [t.block _ (blk_lt u.fk) (fun h => h)]; exact u.fk, own_tch u.row t (fun _ _ h => h), u.rl, fun z hz => (u.ok z hz).tch t (fun _ _ h => h.elim) (fun _ _ _ => rfl), u.lc, u.lw, u.lh, u.lt, u.lk⟩
/-- What lay gives. -/
def LayOut (w : World) (hb mb tb : Nat) (E : List En) (C : Nat → Ch) (σ : Nat → Option Nat) (q : Nat) (k : Int) (S : ByteArray) (z : VV) (x : Ending) (w' : World) : Prop :=
  ∃ T' E' C' σ' cb co cc zs bc bw bh bt bk wo wc,
    x = .returned (.tuple #[.slice wo zs.length wc, .func (.func 57) #[] #[.pointer (some ⟨bc, 0, none⟩), .pointer (some ⟨bw, 0, none⟩), .pointer (some ⟨bh, 0, none⟩), .pointer (some ⟨bt, 0, none⟩), .pointer (some ⟨bk, 0, none⟩)]]) ∧
    HW w' hb mb tb T' E' C' σ' (q + 3) ∧ UB w' σ' hb k S cb wo wc zs bc bw bh bt bk ∧ (⟨k, S.data.toList, cb⟩ : En) ∈ E' ∧ C' cb = (co, cc, zs ++ [z]) ∧
    ((E' = E ∧ lkE E k S.data.toList = some cb ∧ (C cb).2.2 = zs) ∨ (E' = E ++ [⟨k, S.data.toList, cb⟩] ∧ lkE E k S.data.toList = none ∧ zs = [])) ∧
    (∀ e ∈ E, e.b ≠ cb → C' e.b = C e.b) ∧ (∀ i, σ i ≠ none → σ' i = σ i) ∧ (∀ i, i < w.heap.size → σ i = none → σ' i = none) ∧ Tch (fun i => σ i ≠ none) w w'
/-- The middle: the chain is there, perhaps without versions. -/
structure Mid (w : World) (hb mb tb : Nat) (E : List En) (C : Nat → Ch) (σ : Nat → Option Nat) (q : Nat) (k : Int) (S : ByteArray) (z : VV) (W : World) (T' : List (Int × Nat)) (E' : List En) (C' : Nat → Ch) (σ' : Nat → Option Nat) (cb : Nat) (bc bh bt bk bv : Nat) : Prop where
  hw : HW W hb mb tb T' E' C' σ' (q + 2)
  me : (⟨k, S.data.toList, cb⟩ : En) ∈ E'
  old : (E' = E ∧ lkE E k S.data.toList = some cb ∧ (C cb).2.2 = (C' cb).2.2) ∨ (E' = E ++ [⟨k, S.data.toList, cb⟩] ∧ lkE E k S.data.toList = none ∧ (C' cb).2.2 = [])
  oth : ∀ e ∈ E, e.b ≠ cb → C' e.b = C e.b
  sg : ∀ i, σ i ≠ none → σ' i = σ i
  sn : ∀ i, i < w.heap.size → σ i = none → σ' i = none
  c : W.heap[bc]? = some (.cells #[.pointer (some ⟨cb, 0, none⟩)] 80 (0, 0))
  h : W.heap[bh]? = some (.cells #[.pointer (some ⟨hb, 0, none⟩)] 29 (0, 0))
  t : W.heap[bt]? = some (.cells #[.int .i64 k] 3 (0, 0))
  k : W.heap[bk]? = some (.cells #[.string S] 9 (0, 0))
  v : W.heap[bv]? = some (.cells #[.int .i64 z.1.wr, .bool z.1.th, .slice z.2.1 z.1.n z.2.2] 84 (0, 0))
  lc : σ' bc = none
  lh : σ' bh = none
  lt : σ' bt = none
  lk : σ' bk = none
  lv : σ' bv = none
  zok : VOK W σ' z
  tch : Tch (fun i => σ i ≠ none) w W
theorem Mid.no {w : World} {hb mb tb : Nat} {E : List En} {C : Nat → Ch} {σ : Nat → Option Nat} {q : Nat} {k : Int} {S : ByteArray} {z : VV} {W W' : World} {T' : List (Int × Nat)} {E' : List En} {C' : Nat → Ch} {σ' : Nat → Option Nat} {cb : Nat} {bc bh bt bk bv : Nat}
    (m : Mid w hb mb tb E C σ q k S z W T' E' C' σ' cb bc bh bt bk bv) (t : Tch (fun _ => False) W W') : Mid w hb mb tb E C σ q k S z W' T' E' C' σ' cb bc bh bt bk bv :=
  { m with hw := m.hw.no t, c := by rw [t.block _ (blk_lt m.c) (fun h => h)]; exact m.c, h := by rw [t.block _ (blk_lt m.h) (fun h => h)]; exact m.h, t := by rw [t.block _ (blk_lt m.t) (fun h => h)]; exact m.t, k := by rw [t.block _ (blk_lt m.k) (fun h => h)]; exact m.k, v := by rw [t.block _ (blk_lt m.v) (fun h => h)]; exact m.v, zok := m.zok.tch t (fun _ _ h => h.elim) (fun _ _ _ => rfl), tch := m.tch.trans t (fun _ _ h => h.elim) }
/-- The stages of the region that appends. -/
def VC (w1 : World) (v : Value) (n : Nat) (xs es : List Value) (s : List Value) (W : World) : Prop := match s with
  | [] => Tch (fun _ => False) w1 W
  | [y] => Tch (fun _ => False) w1 W ∧ ∃ g, y = .slice (some ⟨g, 0, none⟩) 1 1 ∧ ∀ j u, es[j]? = some u → W.cell? ((⟨g, 0, none⟩ : Addr).add j) = some u
  | [_, z] => Tch (fun j => v.ownBlock = some j) w1 W ∧ (∃ o5 c5, z = .slice o5 (n + 1) c5 ∧ W.ownsRow 0 84 3 z (n + 1) (xs ++ es) ∧ (z.ownBlock = v.ownBlock ∨ ∃ g, z.ownBlock = some g ∧ w1.heap.size ≤ g)) ∧ W.ownsRow 0 84 3 v n xs
  | _ => False
theorem VC.tch {w1 W : World} {v : Value} {n : Nat} {xs es s : List Value} (h : VC w1 v n xs es s W) : Tch (fun j => v.ownBlock = some j) w1 W := by
  match s, h with
  | [], h => exact Tch.mono h (fun _ _ h => h.elim)
  | [_], h => exact h.1.mono (fun _ _ h => h.elim)
  | [_, _], h => exact h.1
theorem VC.one {w1 W : World} {v : Value} {n : Nat} {xs es : List Value} (h : VC w1 v n xs es [] W) : VC w1 v n xs es [.slice (some ⟨W.heap.size, 0, none⟩) 1 1] (W.alloc (.cells es.toArray 84)) := by
  refine ⟨Tch.allocR h _, W.heap.size, rfl, fun j u hu => ?_⟩
  rw [add_plain, blk_cell (alloc_new _ _)]
  simpa using hu
theorem append_was {W w' : World} {v v' : Value} {n : Nat} {xs es : List Value} {g : Nat} (hW : W.ownsRow 0 84 3 v n xs) (hn : n ≤ 1000000) (hes : es.length = 3) (ho : ∀ u ∈ es, u.oneCell' = true) (hg : ∀ j u, es[j]? = some u → W.cell? ((⟨g, 0, none⟩ : Addr).add j) = some u)
    (hr : (Builtin.append_ #[82, 82] 82 #[v, .slice (some ⟨g, 0, none⟩) 1 1]).run Try.prog W = .ok v' w') : w'.ownsRow 0 84 3 v n xs := by
  obtain ⟨i0, hi0, hz0, hz1, hz2⟩ := info_parts info_ver
  refine ⟨hW.1, ?_⟩
  rcases hW.2 with e | ⟨gb, cap, cur, rfl, hb, hh, hnc, hcm, hcs, htake⟩
  · exact .inl e
  · by_cases hroom : n + 1 ≤ cap
    · have hfit : n * i0.size + es.length ≤ cur.size := by rw [hes, hcs, hz1]; omega
      have hr2 := run_append_room (P := Try.prog) W 82 82 84 i0 Try.underlying82 hi0 gb n cap cur hh ⟨g, 0, none⟩ 1 1 es (by rw [hz1, hes]) hg ho hroom hfit
      rw [hr] at hr2
      simp only [Result.ok.injEq] at hr2
      obtain ⟨_, rfl⟩ := hr2
      have hlen : n * 3 ≤ cur.toList.length := by rw [Array.length_toList, hcs]; omega
      refine .inr ⟨gb, cap, _, rfl, hb, setRow_heap W gb cur _ _ _ hh, hnc, hcm, ?_, ?_⟩
      · rw [hz1, hes]
        simp only [List.size_toArray, List.length_append, List.length_take, List.length_drop, hes]
        rw [Array.length_toList] at hlen ⊢
        omega
      · rw [hz1]
        simp only [List.append_assoc]
        rw [List.take_append_of_le_length (by rw [List.length_take]; omega), List.take_take, Nat.min_self]
        exact htake
    · have holds : ∀ j u, xs[j]? = some u → W.cell? ((⟨gb, 0, none⟩ : Addr).add j) = some u := hW.cells (g := gb) rfl
      have hr2 := run_append_grow (P := Try.prog) W 82 82 84 i0 (.agg #[.int .i64 0, .bool false, .slice none 0 0]) Try.underlying82 hi0 hz0 ⟨gb, 0, none⟩ n cap xs (by rw [hz1]; exact hW.1) holds ⟨g, 0, none⟩ 1 1 es (by rw [hz1, hes]) hg (by omega) (by omega) (by rw [hz2]; exact growslice_fits (by omega) (by omega))
      rw [hr] at hr2
      simp only [Result.ok.injEq] at hr2
      obtain ⟨_, rfl⟩ := hr2
      exact .inr ⟨gb, cap, cur, rfl, hb, by rw [heap_alloc_old W.drew _ (blk_lt hh)]; exact hh, hnc, hcm, hcs, htake⟩
theorem VC.two {w1 W : World} {v : Value} {n : Nat} {xs es : List Value} {g : Nat} (hrow : w1.ownsRow 0 84 3 v n xs) (hn : n ≤ 1000000) (hes : es.length = 3) (ho : ∀ u ∈ es, u.oneCell' = true) (h : VC w1 v n xs es [.slice (some ⟨g, 0, none⟩) 1 1] W) :
    ∃ o5 c5 w', (Builtin.append_ #[82, 82] 82 #[v, .slice (some ⟨g, 0, none⟩) 1 1]).run Try.prog W = .ok (.slice o5 (n + 1) c5) w' ∧ VC w1 v n xs es [.slice (some ⟨g, 0, none⟩) 1 1, .slice o5 (n + 1) c5] w' := by
  obtain ⟨i0, hi0, hz0, hz1, hz2⟩ := info_parts info_ver
  obtain ⟨tW, g', e, hg⟩ := h
  have e' : g = g' := by simpa using e
  subst e'
  have hW := own_tch hrow tW (fun _ _ h => h)
  obtain ⟨v', w', hr, hown, hgr, hat, hkp⟩ := run_append_keeps (P := Try.prog) W 0 82 82 84 i0 (.agg #[.int .i64 0, .bool false, .slice none 0 0]) 3 40 Try.underlying82 hi0 hz0 hz1 hz2 rfl (by decide) v n xs hW ⟨g, 0, none⟩ 1 1 es hes hg ho (by unfold maxLen; omega) (by omega) (Nat.zero_le _)
  obtain ⟨o5, c5, rfl⟩ := row_slice hown
  refine ⟨o5, c5, w', hr, (tW.mono (fun _ _ h => h.elim)).trans' (grown_at (Tch.refl (fun _ => False) W) hgr), ⟨o5, c5, rfl, hown, hat.imp id (fun e => ⟨_, e, tW.size⟩)⟩, ?_⟩
  exact append_was hW hn hes ho hg hr
end Go.Proofs.Ytjbehnoococelaa
