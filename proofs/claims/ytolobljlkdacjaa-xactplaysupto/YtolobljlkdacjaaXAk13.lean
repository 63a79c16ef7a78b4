import Derived.Test.YtolobljlkdacjaaXAkL
/- A step of a side: Snapshot. -/
namespace Go.Proofs.Ytolobljlkdacjaa
open Go.RowKit Go

/-- A snapshot that lies in a box of the step's. -/
structure BX (W : World) (o' : Nat → Nat) (β B : Nat) (a b : Int) (v : Value) : Prop where
  lab : o' B = β + 12
  blk : W.heap[B]? = some (.cells #[.int .i64 a, .int .i64 b, v] 36 (0, 0))
theorem BX.ev {K : Nat → Prop} {W W' : World} {o' o'' : Nat → Nat} {β B : Nat} {a b : Int} {v : Value} (h : BX W o' β B a b v) (e : Ev K W o' W' o'') (hk : ¬ K (β + 12)) : BX W' o'' β B a b v := by
  have hl := blk_lt h.blk
  exact ⟨by rw [e.old B hl (by rw [h.lab]; exact hk), h.lab], by rw [e.tch.block B hl (by rw [h.lab]; exact hk)]; exact h.blk⟩
theorem BX.no {W W' : World} {o' : Nat → Nat} {β B : Nat} {a b : Int} {v : Value} (h : BX W o' β B a b v) (t : Tch (fun _ => False) W W') (k : Nat) : BX W' (ext W o' k) β B a b v := by
  have hl := blk_lt h.blk
  exact ⟨by unfold ext; rw [if_pos hl, h.lab], by rw [t.block B hl (fun h => h)]; exact h.blk⟩
def boxW (W : World) (a b : Int) (v : Value) : World := W.alloc (.cells #[.int .i64 a, .int .i64 b, v] 36)
theorem boxW_tch (W : World) (a b : Int) (v : Value) : Tch (fun _ => False) W (boxW W a b v) := Tch.alloc _ _ _
theorem boxW_blk (W : World) (a b : Int) (v : Value) : (boxW W a b v).heap[W.heap.size]? = some (.cells #[.int .i64 a, .int .i64 b, v] 36 (0, 0)) := alloc_new _ _
section
variable {w : World} {o : Nat → Nat} {β sb N : Nat} {bx : Array Value} {mb rb : Nat} {kv rv hv wv : Value} {ks : List (Int × Int × Value)} {A : List Value} {h : List Nat} {W : World} {o' : Nat → Nat} {m mc md : Mg}
theorem PW.box (p : PW w o β sb N bx mb rb kv rv hv wv ks A h W o' mc md) (a b : Int) (v : Value) : PW w o β sb N bx mb rb kv rv hv wv ks A h (boxW W a b v) (ext W o' (β + 12)) mc md ∧ BX (boxW W a b v) (ext W o' (β + 12)) β W.heap.size a b v ∧ Ev (fun j => j = β + 12) W o' (boxW W a b v) (ext W o' (β + 12)) :=
  ⟨p.no (boxW_tch W a b v), ⟨if_neg (by omega), boxW_blk W a b v⟩, Ev.quiet (β + 12) (boxW_tch W a b v)⟩
end
theorem info_snap : (Try.prog.info? 36).map (fun i => (i.zero, i.size, i.bytes)) = some (some (.agg #[.int .i64 0, .int .i64 0, .slice none 0 0]), 3, 40) := by kernel_rfl
/-- The stages of a region that appends. -/
def RCS (w1 : World) (v : Value) (n : Nat) (xs es : List Value) (s : List Value) (W : World) : Prop := match s with
  | [] => Tch (fun _ => False) w1 W
  | [y] => Tch (fun _ => False) w1 W ∧ ∃ g, y = .slice (some ⟨g, 0, none⟩) 1 1 ∧ ∀ j u, es[j]? = some u → W.cell? ((⟨g, 0, none⟩ : Addr).add j) = some u
  | [_, z] => Tch (fun j => v.ownBlock = some j) w1 W ∧ ∃ o5 c5, z = .slice o5 (n + 1) c5 ∧ W.ownsRow 0 36 3 z (n + 1) (xs ++ es) ∧ (z.ownBlock = v.ownBlock ∨ ∃ g, z.ownBlock = some g ∧ w1.heap.size ≤ g)
  | _ => False
theorem RCS.tch {w1 W : World} {v : Value} {n : Nat} {xs es s : List Value} (h : RCS w1 v n xs es s W) : Tch (fun j => v.ownBlock = some j) w1 W := by
  match s, h with
  | [], h => exact Tch.mono h (fun _ _ h => h.elim)
  | [_], h => exact h.1.mono (fun _ _ h => h.elim)
  | [_, _], h => exact h.1
theorem RCS.one {w1 W : World} {v : Value} {n : Nat} {xs es : List Value} (h : RCS w1 v n xs es [] W) : RCS w1 v n xs es [.slice (some ⟨W.heap.size, 0, none⟩) 1 1] (W.alloc (.cells es.toArray 36)) := by
  refine ⟨Tch.allocR h _, W.heap.size, rfl, fun j u hu => ?_⟩
  rw [add_plain, blk_cell (alloc_new _ _)]
  simpa using hu
theorem RCS.two {w1 W : World} {v : Value} {n : Nat} {xs es : List Value} {g : Nat} (hrow : w1.ownsRow 0 36 3 v n xs) (hn : n ≤ 2147483648) (hes : es.length = 3) (ho : ∀ u ∈ es, u.oneCell' = true) (h : RCS w1 v n xs es [.slice (some ⟨g, 0, none⟩) 1 1] W) :
    ∃ o5 c5 w', (Builtin.append_ #[29, 29] 29 #[v, .slice (some ⟨g, 0, none⟩) 1 1]).run Try.prog W = .ok (.slice o5 (n + 1) c5) w' ∧ RCS w1 v n xs es [.slice (some ⟨g, 0, none⟩) 1 1, .slice o5 (n + 1) c5] w' := by
  obtain ⟨i0, hi0, hz0, hz1, hz2⟩ := info_parts info_snap
  obtain ⟨tW, g', e, hg⟩ := h
  have e' : g = g' := by simpa using e
  subst e'
  obtain ⟨v', w', hr, hown, hgr, hat, _⟩ := run_append_keeps (P := Try.prog) W 0 29 29 36 i0 (.agg #[.int .i64 0, .int .i64 0, .slice none 0 0]) 3 40 Try.underlying29 hi0 hz0 hz1 hz2 rfl (by decide) v n xs (own_tch hrow tW (fun _ _ h => h)) ⟨g, 0, none⟩ 1 1 es hes hg ho (by unfold maxLen; omega) (by omega) (Nat.zero_le _)
  obtain ⟨o5, c5, rfl⟩ := row_slice hown
  exact ⟨o5, c5, w', hr, (tW.mono (fun _ _ h => h.elim)).trans' (grown_at (Tch.refl (fun _ => False) W) hgr), o5, c5, rfl, hown, hat.imp id (fun e => ⟨_, e, tW.size⟩)⟩
section
variable {w : World} {o : Nat → Nat} {β sb N : Nat} {bx : Array Value} {mb rb : Nat} {rv hv wv : Value} {ks : List (Int × Int × Value)} {A : List Value} {l : List Nat} {w7 w8 : World} {o7 : Nat → Nat} {m : Mg} {ko : Option Addr} {kc B1 B2 B3 nk c5 : Nat} {a nx : Int} {v1 v2 v3 y : Value} {z5 : Option Addr}
theorem snap_fin (p : PW w o β sb N bx mb rb (.slice ko ks.length kc) rv hv wv ks A l w7 o7 m m) (r3 : RowO w7 o7 (β + 9) v3 l) (b1 : BX w7 o7 β B1 a nx v1) (b2 : BX w7 o7 β B2 a nx v2) (b3 : BX w7 o7 β B3 a nx v3) (hnk : nk = ks.length) (hr : RCS w7 (.slice ko ks.length kc) ks.length (scl ks) [.int .i64 a, .int .i64 nx, v3] [y, .slice z5 (nk + 1) c5] w8) :
    w8.frozen? ⟨sb, 2, none⟩ = false ∧ (∀ {n : Nat}, A.length ≤ n + 40 → l.length ≤ 2147483648 → -9223372036854775808 ≤ a → ∃ o' ks', Sd (w8.setCell ⟨sb, 2, none⟩ (.slice z5 (nk + 1) c5)) o' β sb m ks' (n + 40) ∧ Ev (KS β) w o (w8.setCell ⟨sb, 2, none⟩ (.slice z5 (nk + 1) c5)) o' ∧ ks'.length ≤ ks.length + 1) ∧
    ((w8.setCell ⟨sb, 2, none⟩ (.slice z5 (nk + 1) c5)).cell? ⟨B1, 0, none⟩ = some (.int .i64 a) ∧ (w8.setCell ⟨sb, 2, none⟩ (.slice z5 (nk + 1) c5)).cell? ⟨B1, 1, none⟩ = some (.int .i64 nx) ∧ (w8.setCell ⟨sb, 2, none⟩ (.slice z5 (nk + 1) c5)).cell? ⟨B2, 0, none⟩ = some (.int .i64 a) ∧ (w8.setCell ⟨sb, 2, none⟩ (.slice z5 (nk + 1) c5)).cell? ⟨B2, 1, none⟩ = some (.int .i64 nx) ∧ (w8.setCell ⟨sb, 2, none⟩ (.slice z5 (nk + 1) c5)).cell? ⟨B3, 0, none⟩ = some (.int .i64 a) ∧ (w8.setCell ⟨sb, 2, none⟩ (.slice z5 (nk + 1) c5)).cell? ⟨B3, 1, none⟩ = some (.int .i64 nx)) := by
  subst hnk
  obtain ⟨t, z', c', ez, hown, hat⟩ := hr
  have hkl := p.s.kept.lab
  have hsb : w8.heap[sb]? = _ := (t.block sb (blk_lt p.s.blk) (fun e => by have := hkl sb e; rw [p.s.osb] at this; omega)).trans p.s.blk
  have tE : Tch (fun i => i = sb) w8 (w8.setCell ⟨sb, 2, none⟩ (.slice z5 (ks.length + 1) c5)) := Tch.setCell _ _ _ _ rfl
  have bx : ∀ B v, BX w7 o7 β B a nx v → (w8.setCell ⟨sb, 2, none⟩ (.slice z5 (ks.length + 1) c5)).heap[B]? = some (.cells #[.int .i64 a, .int .i64 nx, v] 36 (0, 0)) := fun B v hB => by
    have h1 : w8.heap[B]? = _ := (t.block B (blk_lt hB.blk) (fun e => by have := hkl B e; rw [hB.lab] at this; omega)).trans hB.blk
    rw [tE.block B (blk_lt h1) (fun e => by have := hB.lab; rw [e, p.s.osb] at this; omega)]; exact h1
  refine ⟨blk_frozen hsb 2, fun {n} hA hl ha => ?_, by rw [blk_cell (bx _ _ b1)]; rfl, by rw [blk_cell (bx _ _ b1)]; rfl, by rw [blk_cell (bx _ _ b2)]; rfl, by rw [blk_cell (bx _ _ b2)]; rfl, by rw [blk_cell (bx _ _ b3)]; rfl, by rw [blk_cell (bx _ _ b3)]; rfl⟩
  have e8 : Ev (fun k => k = β + 3) w7 o7 w8 (ext w7 o7 (β + 3)) := Ev.of (t.mono (fun i hi e => fun hf => hf.2 (hkl i e)))
  have osb8 : ext w7 o7 (β + 3) sb = β + 10 := by unfold ext; rw [if_pos (blk_lt p.s.blk), p.s.osb]
  have e9 : Ev (fun k => k = β + 10) w8 (ext w7 o7 (β + 3)) (w8.setCell ⟨sb, 2, none⟩ (.slice z5 (ks.length + 1) c5)) (ext w7 o7 (β + 3)) := ⟨Tch.setCell _ _ _ _ osb8, fun _ _ _ => rfl, fun _ _ h => h, fun i hi hl => by simp [World.setCell] at hl; omega⟩
  have e10 := Ev.relab (w8.setCell ⟨sb, 2, none⟩ (.slice z5 (ks.length + 1) c5)) (ext w7 o7 (β + 3)) (β + 9) (β + 3)
  have hrow8 : w8.ownsRow 0 36 3 (.slice z5 (ks.length + 1) c5) (ks.length + 1) (scl ks ++ [.int .i64 a, .int .i64 nx, v3]) := hown
  have hzl : ∀ g, (Value.slice z5 (ks.length + 1) c5).ownBlock = some g → ext w7 o7 (β + 3) g = β + 3 := fun g hg => by
    rcases hat with e | ⟨g', e, h⟩
    · rw [e] at hg
      unfold ext
      rw [if_pos (p.s.kept.row.lt g hg).2, hkl g hg]
    · rw [e] at hg
      injection hg with hg
      unfold ext
      rw [if_neg (by omega)]
  have hrl : ∀ g, rlb (ext w7 o7 (β + 3)) (β + 9) (β + 3) g = β + 3 ↔ (ext w7 o7 (β + 3) g = β + 3 ∨ ext w7 o7 (β + 3) g = β + 9) := fun g => by
    unfold rlb
    split
    · rename_i e; simp [e]
    · rename_i e; simp [e]
  have hold : ∀ v lst, RowO w7 o7 (β + 3) v lst → RowO (w8.setCell ⟨sb, 2, none⟩ (.slice z5 (ks.length + 1) c5)) (rlb (ext w7 o7 (β + 3)) (β + 9) (β + 3)) (β + 3) v lst := fun v lst hr => by
    have h1 : w8.ownsRow 0 3 1 v lst.length (icl lst) := own_tch hr.row t (fun g hg e => by
      obtain ⟨c1, h1⟩ := own_blk hr.row hg
      obtain ⟨c2, h2⟩ := own_blk p.s.kept.row e
      rw [h1] at h2
      injection h2 with h2
      injection h2 with _ h2
      exact absurd h2 (by decide))
    refine ⟨own_tch h1 tE (fun g hg e => by have := hr.lab g hg; rw [e, p.s.osb] at this; omega), fun g hg => (hrl g).2 (Or.inl ?_)⟩
    unfold ext
    rw [if_pos (hr.row.lt g hg).2, hr.lab g hg]
  have r9 : RowO (w8.setCell ⟨sb, 2, none⟩ (.slice z5 (ks.length + 1) c5)) (rlb (ext w7 o7 (β + 3)) (β + 9) (β + 3)) (β + 3) v3 l := ((r3.ev e8 (by omega)).ev e9 (by omega)).relab (β + 3)
  have hkp : KP (w8.setCell ⟨sb, 2, none⟩ (.slice z5 (ks.length + 1) c5)) (rlb (ext w7 o7 (β + 3)) (β + 9) (β + 3)) (β + 3) (.slice z5 (ks.length + 1) c5) (ks ++ [(a, nx, v3)]) := by
    refine ⟨?_, fun g hg => (hrl g).2 (Or.inl (hzl g hg)), fun j q hq => ?_⟩
    · rw [scl_snoc, List.length_append]
      exact own_tch hrow8 tE (fun g hg e => by have := hzl g hg; rw [e, osb8] at this; omega)
    · rcases Nat.lt_or_ge j ks.length with hj | hj
      · rw [List.getElem?_append_left hj] at hq
        obtain ⟨h1, lst, h2, h3⟩ := p.s.kept.el j q hq
        exact ⟨h1, lst, hold _ _ h2, h3⟩
      · rw [List.getElem?_append_right hj] at hq
        have hj0 : j - ks.length = 0 := by
          have := (List.getElem?_eq_some_iff.1 hq).1
          simp at this; omega
        rw [hj0] at hq
        simp only [List.getElem?_cons_zero, Option.some.injEq] at hq
        subst hq
        exact ⟨ha, l, r9, hl⟩
  refine ⟨rlb (ext w7 o7 (β + 3)) (β + 9) (β + 3), ks ++ [(a, nx, v3)], ⟨mb, rb, .slice z5 (ks.length + 1) c5, rv, hv, wv, A, l, ⟨?_, blk_set hsb _, ((p.s.mf.ev e8 (by omega)).ev e9 (by omega)).ev e10 (by omega), ((p.s.rf.ev e8 (by omega)).ev e9 (by omega)).ev e10 (by omega), hkp, ((p.s.ls.ev e8 (by omega)).ev e9 (by omega)).ev e10 (by omega), fun g hg => ?_, p.s.a20⟩, ((p.was.ev e8 (by omega)).ev e9 (by omega)).ev e10 (by omega), ((p.held.ev e8 (by omega)).ev e9 (by omega)).ev e10 (by omega), hl, hA⟩, ((p.ev.trans (e8.mono (fun k hk => by unfold KS; omega))).trans (e9.mono (fun k hk => by unfold KS; omega))).trans (e10.mono (fun k hk => by unfold KS; omega)), by simp⟩
  · unfold rlb
    rw [osb8, if_neg (by omega)]
  · have h1 : ext w7 o7 (β + 3) g = β + 6 := by unfold ext; rw [if_pos (p.s.ls.lt g hg), p.s.lab g hg]
    unfold rlb
    rw [h1, if_neg (by omega)]
end
set_option maxHeartbeats 2000000 in
set_option maxRecDepth 100000 in
theorem ask_13 (w : World) (o : Nat → Nat) (β sb : Nat) (m : Mg) (mb rb : Nat) (kv rv hv wv : Value) (ks : List (Int × Int × Value)) (A : List Value) (h : List Nat) (s : SK w o β sb m m mb rb kv rv hv wv ks A) (h4 : RowO w o (β + 4) wv h) (h5 : RowO w o (β + 5) hv h) (hh : h.length ≤ 2147483648) (n : Nat) (hA : A.length ≤ n) (oN oM : Int) (oT : Bool) (mn mx : Int) (sl : Value) (b1 : -9223372036854775808 ≤ oN) (b2 : oN ≤ 9223372036854775807) (hn9 : n ≤ 99999000) (hks : ks.length ≤ 100000000) :
    Calls Try.prog 30 #[.pointer (some ⟨sb, 0, none⟩), .agg #[.int .i64 13, .int .i64 oN, .int .i64 oM, .bool oT, .int .i64 mn, .int .i64 mx, sl]] w fun x w' => x = .returned (.bool true) ∧ ∃ o' ks', Sd w' o' β sb m ks' (n + 40) ∧ Ev (KS β) w o w' o' ∧ ks'.length ≤ ks.length + 1 := by
  have _u : -9223372036854775808 ≤ oN ∧ oN ≤ 9223372036854775807 := ⟨b1, b2⟩
  clear _u
  obtain ⟨i0, hi0, hz0, hz1, hz2⟩ := info_parts info_snap
  obtain ⟨N, hN⟩ : ∃ N, N = w.heap.size := ⟨_, rfl⟩
  obtain ⟨bx, hbx⟩ : ∃ bx : Array Value, bx = #[.int .i64 13, .int .i64 oN, .int .i64 oM, .bool oT, .int .i64 mn, .int .i64 mx, sl] := ⟨_, rfl⟩
  obtain ⟨w0, hw0⟩ : ∃ w0, w0 = w.alloc (.cells #[.int .i64 13, .int .i64 oN, .int .i64 oM, .bool oT, .int .i64 mn, .int .i64 mx, sl] 38) := ⟨_, rfl⟩
  obtain ⟨o0, p0⟩ : ∃ o0, PW w o β sb N bx mb rb kv rv hv wv ks A h w0 o0 m m := by rw [hw0, hN, hbx]; exact ⟨_, PW.begin s h4 h5 _⟩
  obtain ⟨a, ha⟩ : ∃ a : Int, a = ((m.on.headD m.nx : Nat) : Int) := ⟨_, rfl⟩
  obtain ⟨nx, hnx⟩ : ∃ nx : Int, nx = m.nx := ⟨_, rfl⟩
  obtain ⟨ln, hln⟩ : ∃ ln, ln = m.on.length := ⟨_, rfl⟩
  have Hln : Hid (ln = m.on.length ∧ m.on.length ≤ 2147483648) := ⟨hln, on_le p0.wf⟩
  have Hsn : Hid (∀ W o', MF W mb m (Oth W o' (β + 1)) → Calls Try.prog 58 #[.pointer (some ⟨mb, 0, none⟩)] W fun x W' => (∃ xo xc, x = .returned (.agg #[.int .i64 a, .int .i64 nx, .slice xo ln xc]) ∧ W'.ownsRow W.heap.size 3 1 (.slice xo ln xc) m.on.length (icl m.on)) ∧ Tch (fun _ => False) W W') := fun W o' hM => (snapshot_f mb m W _ hM).mono (fun x W' ⟨⟨v, e, hr⟩, t⟩ => by
    obtain ⟨xo, xc, rfl⟩ := row_slice hr
    rw [ha, hnx, hln]
    exact ⟨⟨xo, xc, e, hr⟩, t⟩)
  have Hrn : Hid (∀ W o', RF W rb m (Oth W o' (β + 2)) → Calls Try.prog 59 #[.pointer (some ⟨rb, 0, none⟩)] W fun x W' => (∃ xo xc, x = .returned (.agg #[.int .i64 a, .int .i64 nx, .slice xo ln xc]) ∧ W'.ownsRow W.heap.size 3 1 (.slice xo ln xc) m.on.length (icl m.on)) ∧ Tch (fun _ => False) W W') := fun W o' hM => (rsnapshot_x rb m W _ hM).mono (fun x W' ⟨⟨v, e, hr⟩, t⟩ => by
    obtain ⟨xo, xc, rfl⟩ := row_slice hr
    rw [ha, hnx, hln]
    exact ⟨⟨xo, xc, e, hr⟩, t⟩)
  have HB : Hid (h.length ≤ 2147483648 ∧ A.length ≤ n ∧ n ≤ 99999000 ∧ ks.length ≤ 100000000 ∧ -9223372036854775808 ≤ a) := ⟨hh, hA, hn9, hks, by rw [ha]; omega⟩
  have HP0 : Hid _ := p0
  have q1 := Hsn.out w0 o0 p0.s.mf
  have k0 := p0.c0
  have k2 : w0.cell? ⟨N, 0, none⟩ = some (.int .i64 13) := by rw [p0.bxc, hbx]; rfl
  have Hw0 : Hid _ := hw0
  rw [hw0] at k0 k2
  rw [hN] at k2
  clear s h4 h5 hh hA b1 b2 hn9 hks hbx hw0 hN ha hnx hln p0
  go_enter Try.func30, Try.ntmps30
  go_wp2_with fail
  have hw0 := Hw0.out
  rw [← hw0]
  clear hw0 k0 k2
  refine q1.mono ?_
  rintro x w1 ⟨⟨x1, y1, rfl, hr1⟩, t1⟩
  obtain ⟨o1, p1, r1⟩ : ∃ o1, PW w o β sb N bx mb rb kv rv hv wv ks A h w1 o1 m m ∧ RowO w1 o1 (β + 7) (.slice x1 ln y1) m.on := by
    obtain ⟨p1, r1, -⟩ := HP0.out.list (k := 7) (by omega) t1 hr1
    exact ⟨_, p1, r1⟩
  clear q1 hr1 t1 HP0
  obtain ⟨w2, hw2⟩ : ∃ w2, w2 = boxW w1 a nx (.slice x1 ln y1) := ⟨_, rfl⟩
  obtain ⟨B1, hB1⟩ : ∃ B1, B1 = w1.heap.size := ⟨_, rfl⟩
  obtain ⟨o2, p2, bb1, r1⟩ : ∃ o2, PW w o β sb N bx mb rb kv rv hv wv ks A h w2 o2 m m ∧ BX w2 o2 β B1 a nx (.slice x1 ln y1) ∧ RowO w2 o2 (β + 7) (.slice x1 ln y1) m.on := by
    obtain ⟨pb1, bb1, eb1⟩ := p1.box a nx (.slice x1 ln y1)
    rw [hw2, hB1]
    exact ⟨_, pb1, bb1, r1.ev eb1 (by omega)⟩
  have q2 := Hsn.out w2 _ p2.s.mf
  have k0 := p2.c0
  have HP2 : Hid _ := p2
  have HBb1 : Hid _ := bb1
  have HR1 : Hid _ := r1
  have Hw2 : Hid (w2 = w1.alloc (.cells #[.int .i64 a, .int .i64 nx, .slice x1 ln y1] 36)) := hw2
  have HB1 : Hid _ := hB1
  rw [hw2] at k0
  unfold boxW at k0
  clear p1 p2 bb1 r1 hw2 hB1
  go_wp2_with fail
  have hw2 := Hw2.out
  rw [← hw2, ← HB1.out]
  clear hw2 k0 Hw2
  refine q2.mono ?_
  rintro x w3 ⟨⟨x2, y2, rfl, hr2⟩, t2⟩
  obtain ⟨o3, p3, r2, r1, bb1⟩ : ∃ o3, PW w o β sb N bx mb rb kv rv hv wv ks A h w3 o3 m m ∧ RowO w3 o3 (β + 8) (.slice x2 ln y2) m.on ∧ RowO w3 o3 (β + 7) (.slice x1 ln y1) m.on ∧ BX w3 o3 β B1 a nx (.slice x1 ln y1) := by
    obtain ⟨p1, r2, e⟩ := HP2.out.list (k := 8) (by omega) t2 hr2
    exact ⟨_, p1, r2, HR1.out.ev e (by omega), HBb1.out.ev e (by omega)⟩
  clear q2 hr2 t2 HP2 HR1 HBb1
  obtain ⟨w4, hw4⟩ : ∃ w4, w4 = boxW w3 a nx (.slice x2 ln y2) := ⟨_, rfl⟩
  obtain ⟨B2, hB2⟩ : ∃ B2, B2 = w3.heap.size := ⟨_, rfl⟩
  obtain ⟨o4, p4, bb2, r1', r2', bb1'⟩ : ∃ o4, PW w o β sb N bx mb rb kv rv hv wv ks A h w4 o4 m m ∧ BX w4 o4 β B2 a nx (.slice x2 ln y2) ∧ RowO w4 o4 (β + 7) (.slice x1 ln y1) m.on ∧ RowO w4 o4 (β + 8) (.slice x2 ln y2) m.on ∧ BX w4 o4 β B1 a nx (.slice x1 ln y1) := by
    obtain ⟨pb1, bb2, eb1⟩ := p3.box a nx (.slice x2 ln y2)
    rw [hw4, hB2]
    exact ⟨_, pb1, bb2, r1.ev eb1 (by omega), r2.ev eb1 (by omega), bb1.no (boxW_tch _ _ _ _) _⟩
  have q3 := Hrn.out w4 _ p4.s.rf
  have k1 := p4.c1
  have HP4 : Hid _ := p4
  have HX4 : Hid (BX w4 o4 β B1 a nx (.slice x1 ln y1) ∧ BX w4 o4 β B2 a nx (.slice x2 ln y2) ∧ RowO w4 o4 (β + 7) (.slice x1 ln y1) m.on ∧ RowO w4 o4 (β + 8) (.slice x2 ln y2) m.on) := ⟨bb1', bb2, r1', r2'⟩
  have Hw4 : Hid (w4 = w3.alloc (.cells #[.int .i64 a, .int .i64 nx, .slice x2 ln y2] 36)) := hw4
  have HB2 : Hid _ := hB2
  rw [hw4] at k1
  unfold boxW at k1
  clear p3 p4 bb1 bb2 bb1' r1 r2 r1' r2' hw4 hB2
  go_wp2_with fail
  have hw4 := Hw4.out
  rw [← hw4, ← HB2.out]
  clear hw4 k1 Hw4
  refine q3.mono ?_
  rintro x w5 ⟨⟨x3, y3, rfl, hr3⟩, t3⟩
  obtain ⟨o5, p5, r3, r1, r2, bb1, bb2⟩ : ∃ o5, PW w o β sb N bx mb rb kv rv hv wv ks A h w5 o5 m m ∧ RowO w5 o5 (β + 9) (.slice x3 ln y3) m.on ∧ RowO w5 o5 (β + 7) (.slice x1 ln y1) m.on ∧ RowO w5 o5 (β + 8) (.slice x2 ln y2) m.on ∧ BX w5 o5 β B1 a nx (.slice x1 ln y1) ∧ BX w5 o5 β B2 a nx (.slice x2 ln y2) := by
    obtain ⟨p1, r3, e⟩ := HP4.out.list (k := 9) (by omega) t3 hr3
    obtain ⟨z1, z2, z3, z4⟩ := HX4.out
    exact ⟨_, p1, r3, z3.ev e (by omega), z4.ev e (by omega), z1.ev e (by omega), z2.ev e (by omega)⟩
  clear q3 hr3 t3 HP4 HX4
  obtain ⟨w6, hw6⟩ : ∃ w6, w6 = boxW w5 a nx (.slice x3 ln y3) := ⟨_, rfl⟩
  obtain ⟨B3, hB3⟩ : ∃ B3, B3 = w5.heap.size := ⟨_, rfl⟩
  obtain ⟨o6, p6, r3', r1', r2', bb1', bb2', bb3⟩ : ∃ o6, PW w o β sb N bx mb rb kv rv hv wv ks A h w6 o6 m m ∧ RowO w6 o6 (β + 9) (.slice x3 ln y3) m.on ∧ RowO w6 o6 (β + 7) (.slice x1 ln y1) m.on ∧ RowO w6 o6 (β + 8) (.slice x2 ln y2) m.on ∧ BX w6 o6 β B1 a nx (.slice x1 ln y1) ∧ BX w6 o6 β B2 a nx (.slice x2 ln y2) ∧ BX w6 o6 β B3 a nx (.slice x3 ln y3) := by
    obtain ⟨pb1, bb3, eb1⟩ := p5.box a nx (.slice x3 ln y3)
    rw [hw6, hB3]
    exact ⟨_, pb1, r3.ev eb1 (by omega), r1.ev eb1 (by omega), r2.ev eb1 (by omega), bb1.no (boxW_tch _ _ _ _) _, bb2.no (boxW_tch _ _ _ _) _, bb3⟩
  have q4 := p6.twice r1' r2' r3' Hln.out.2 HB.out.1 (by have := HB.out; omega)
  have d1 : w6.cell? ⟨B1, 2, none⟩ = some (.slice x1 ln y1) := by rw [blk_cell bb1'.blk]; rfl
  have d2 : w6.cell? ⟨B2, 2, none⟩ = some (.slice x2 ln y2) := by rw [blk_cell bb2'.blk]; rfl
  have HX6 : Hid (BX w6 o6 β B1 a nx (.slice x1 ln y1) ∧ BX w6 o6 β B2 a nx (.slice x2 ln y2) ∧ BX w6 o6 β B3 a nx (.slice x3 ln y3)) := ⟨bb1', bb2', bb3⟩
  have Hw6 : Hid (w6 = w5.alloc (.cells #[.int .i64 a, .int .i64 nx, .slice x3 ln y3] 36)) := hw6
  have HB3 : Hid _ := hB3
  rw [hw6] at d1 d2
  unfold boxW at d1 d2
  clear p5 p6 r1 r2 r3 r1' r2' r3' bb1 bb2 bb1' bb2' bb3 hw6 hB3
  go_wp2_with fail
  have hw6 := Hw6.out
  rw [← hw6, ← HB3.out]
  clear hw6 d1 d2 Hw6
  refine q4.mono ?_
  rintro x w7 ⟨rfl, o7, rv7, wv7, A7, p7, r37, hA7, e7⟩
  have hk12 : ¬ KB β (β + 12) := fun h => by unfold KB at h; omega
  have bb1 := HX6.out.1.ev e7 hk12
  have bb2 := HX6.out.2.1.ev e7 hk12
  have bb3 := HX6.out.2.2.ev e7 hk12
  clear q4 e7 hk12 HX6
  obtain ⟨ko, kc, hkv⟩ := row_slice p7.s.kept.row
  obtain ⟨nk, hnk⟩ : ∃ nk, nk = ks.length := ⟨_, rfl⟩
  subst hkv
  obtain ⟨C, hC⟩ : ∃ C : List Value → World → Prop, C = RCS w7 (.slice ko ks.length kc) ks.length (scl ks) [.int .i64 a, .int .i64 nx, .slice x3 ln y3] := ⟨_, rfl⟩
  have hkl : ∀ g, (Value.slice ko ks.length kc).ownBlock = some g → o7 g = β + 3 := p7.s.kept.lab
  have hK : ∀ s W, C s W → W.cell? ⟨sb, 2, none⟩ = some (.slice ko nk kc) ∧ W.cell? ⟨B3, 0, none⟩ = some (.int .i64 a) ∧ W.cell? ⟨B3, 1, none⟩ = some (.int .i64 nx) ∧ W.cell? ⟨B3, 2, none⟩ = some (.slice x3 ln y3) := fun s W hW => by
    rw [hC] at hW
    have t := hW.tch
    have h1 : W.heap[sb]? = _ := (t.block sb (blk_lt p7.s.blk) (fun e => by have := hkl sb e; rw [p7.s.osb] at this; omega)).trans p7.s.blk
    have h2 : W.heap[B3]? = _ := (t.block B3 (blk_lt bb3.blk) (fun e => by have := hkl B3 e; rw [bb3.lab] at this; omega)).trans bb3.blk
    exact ⟨by rw [blk_cell h1, hnk]; rfl, by rw [blk_cell h2]; rfl, by rw [blk_cell h2]; rfl, by rw [blk_cell h2]; rfl⟩
  have h6 : ∀ W, C [] W → C [.slice (some ⟨W.heap.size, 0, none⟩) 1 1] (W.alloc (.cells #[.int .i64 a, .int .i64 nx, .slice x3 ln y3] 36)) := fun W h => by
    rw [hC] at h ⊢
    exact RCS.one h
  have h7 : ∀ g9 W, C [.slice (some ⟨g9, 0, none⟩) 1 1] W → ∃ o5 c5 w', (Builtin.append_ #[29, 29] 29 #[.slice ko nk kc, .slice (some ⟨g9, 0, none⟩) 1 1]).run Try.prog W = .ok (.slice o5 (nk + 1) c5) w' ∧ C [.slice (some ⟨g9, 0, none⟩) 1 1, .slice o5 (nk + 1) c5] w' := fun g9 W h => by
    rw [hC] at h ⊢
    rw [hnk]
    exact RCS.two p7.s.kept.row (by have := HB.out; omega) rfl (by simp [Value.oneCell']) h
  have h0' : C [] w7.drew := by rw [hC]; exact (Tch.refl _ _).drew
  have hsh1 : Hid (∀ y W, C [y] W → ∃ g, y = .slice (some ⟨g, 0, none⟩) 1 1) := fun y W h => by
    rw [hC] at h
    obtain ⟨_, g, e, _⟩ := h
    exact ⟨g, e⟩
  have hsh2 : Hid (∀ y z W, C [y, z] W → ∃ o5 c5, z = .slice o5 (nk + 1) c5) := fun y z W h => by
    rw [hC] at h
    obtain ⟨_, o5, c5, e, _⟩ := h
    exact ⟨o5, c5, by rw [hnk]; exact e⟩
  have Hfin : Hid (∀ y z W, C [y, z] W → RCS w7 (.slice ko ks.length kc) ks.length (scl ks) [.int .i64 a, .int .i64 nx, .slice x3 ln y3] [y, z] W) := fun y z W h => by rw [hC] at h; exact h
  have Hnk : Hid (nk = ks.length) := hnk
  have HP7 : Hid _ := p7
  have HR7 : Hid _ := r37
  have HA7 : Hid _ := hA7
  have HX7 : Hid (BX w7 o7 β B1 a nx (.slice x1 ln y1) ∧ BX w7 o7 β B2 a nx (.slice x2 ln y2) ∧ BX w7 o7 β B3 a nx (.slice x3 ln y3)) := ⟨bb1, bb2, bb3⟩
  have Hkl : Hid _ := hkl
  clear hC hnk p7 r37 hA7 bb1 bb2 bb3 hkl
  go_wp2_with fail
  refine wp_region_ordv [6, 7] C 8 [0, 1, 2, 3, 4, 5, 6, 7] (by kernel_rfl) (by kernel_rfl) h0' ?_
  clear h0'
  refine ordv_read rfl (by go_simp) (by rfl) ?_
  apply Exists.intro
  refine ⟨fun s' W hW b K Q hK' => ?_, fun K hK' => ?_⟩
  · obtain ⟨q0, q1, q2, q3⟩ := hK _ W hW
    go_simp
    exact hK' W hW
  go_simp
  refine hK' _ ?_
  clear hK' K
  refine ordv_read rfl (by go_simp) (by rfl) ?_
  apply Exists.intro
  refine ⟨fun s' W hW b K Q hK' => ?_, fun K hK' => ?_⟩
  · obtain ⟨q0, q1, q2, q3⟩ := hK _ W hW
    go_simp
    exact hK' W hW
  go_simp
  refine hK' _ ?_
  clear hK' K
  refine ordv_read rfl (by go_simp) (by rfl) ?_
  apply Exists.intro
  refine ⟨fun s' W hW b K Q hK' => ?_, fun K hK' => ?_⟩
  · obtain ⟨q0, q1, q2, q3⟩ := hK _ W hW
    go_simp
    exact hK' W hW
  go_simp
  refine hK' _ ?_
  clear hK' K
  refine ordv_read rfl (by go_simp) (by rfl) ?_
  apply Exists.intro
  refine ⟨fun s' W hW b K Q hK' => ?_, fun K hK' => ?_⟩
  · obtain ⟨q0, q1, q2, q3⟩ := hK _ W hW
    go_simp
    exact hK' W hW
  go_simp
  refine hK' _ ?_
  clear hK' K
  refine ordv_read rfl (by go_simp) (by rfl) ?_
  apply Exists.intro
  refine ⟨fun s' W hW b K Q hK' => ?_, fun K hK' => ?_⟩
  · obtain ⟨q0, q1, q2, q3⟩ := hK _ W hW
    go_simp
    exact hK' W hW
  go_simp
  refine hK' _ ?_
  clear hK' K
  refine ordv_read rfl (by go_simp) (by rfl) ?_
  apply Exists.intro
  refine ⟨fun s' W hW b K Q hK' => ?_, fun K hK' => ?_⟩
  · obtain ⟨q0, q1, q2, q3⟩ := hK _ W hW
    go_simp
    exact hK' W hW
  go_simp
  refine hK' _ ?_
  clear hK' K
  refine ordv_turn rfl (by go_simp) (by rfl) (fun W hW b K Q hK' => ?_) (fun u hu K hK' => ?_)
  · go_simp
    exact hK' _ _ (h6 W hW)
  obtain ⟨g5, rfl⟩ : ∃ g, u = .slice (some ⟨g, 0, none⟩) 1 1 := by
    obtain ⟨W', hW'⟩ := hu
    exact hsh1.out u W' hW'
  clear hu h6
  go_simp
  refine hK' _ ?_
  clear hK' K
  refine ordv_turn rfl (by go_simp) (by rfl) (fun W hW => ?_) (fun u hu K hK' => ?_)
  · obtain ⟨to', tc', w', hr, h1⟩ := h7 g5 W hW
    exact yv_append (.tmp 182) (.tmp 184) 29 rfl (.slice ko nk kc) (.slice (some ⟨g5, 0, none⟩) 1 1) rfl rfl hr h1
  obtain ⟨z5, c5, rfl⟩ : ∃ o5 c5, u = .slice o5 (nk + 1) c5 := by
    obtain ⟨W', hW'⟩ := hu
    exact hsh2.out _ u W' hW'
  clear hu h7 hsh1 hsh2
  go_simp
  refine hK' _ ?_
  clear hK' K
  refine ordv_nil ?_
  intro w8 hw8
  have hr8 := Hfin.out _ _ w8 hw8
  obtain ⟨f2, HFin, HCB⟩ := snap_fin HP7.out HR7.out HX7.out.1 HX7.out.2.1 HX7.out.2.2 Hnk.out hr8
  obtain ⟨q2, -⟩ := hK _ w8 hw8
  have HOK : Hid (∃ o' ks', Sd (w8.setCell ⟨sb, 2, none⟩ (.slice z5 (nk + 1) c5)) o' β sb m ks' (n + 40) ∧ Ev (KS β) w o (w8.setCell ⟨sb, 2, none⟩ (.slice z5 (nk + 1) c5)) o' ∧ ks'.length ≤ ks.length + 1) := HFin (by have := HB.out; have := HA7.out; omega) Hln.out.2 HB.out.2.2.2.2
  obtain ⟨g1, g2, g3, g4, g5', g6⟩ := HCB
  clear hK hw8 Hfin hr8 HFin
  go_wp2_with fail
  go_ret
  exact ⟨rfl, HOK.out⟩
end Go.Proofs.Ytolobljlkdacjaa
