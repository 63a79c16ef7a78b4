import Derived.Test.YtkcmpipipelgoaaKLw
import Derived.Maps.AppendAt
/- told. -/
namespace Go.Proofs.Ytkcmpipipelgoaa
open Go.RowKit Go

theorem info_tabs : (Try.prog.info? 41).map (fun i => (i.zero, i.size, i.bytes)) = some (some (.slice none 0 0), 1, 24) := by kernel_rfl
/-- The world's cells are the same but for lists. -/
def Sm3 (cur cur' : Array Value) : Prop := ∀ i, i ≠ 4 → i ≠ 5 → i ≠ 6 → cur'[i]? = cur[i]?
theorem Sm3.refl (cur : Array Value) : Sm3 cur cur := fun _ _ _ _ => rfl
theorem Sm3.trans {a b c : Array Value} (h : Sm3 a b) (g : Sm3 b c) : Sm3 a c := fun i h4 h5 h6 => (g i h4 h5 h6).trans (h i h4 h5 h6)
theorem Sm3.set {a b : Array Value} (h : Sm3 a b) {i : Nat} (v : Value) (hi : i = 4 ∨ i = 5 ∨ i = 6) : Sm3 a (b.setIfInBounds i v) := fun j h4 h5 h6 => by
  rw [Array.getElem?_setIfInBounds_ne (by omega)]; exact h j h4 h5 h6
/-- Tables of an owner's. -/
structure TabsK (w : World) (o : Nat → Nat) (k : Nat) (v : Value) (P : List (Tbl × Value)) : Prop where
  tO : TO w 0 v P
  l1 : ∀ g, v.ownBlock = some g → o g = k
  l2 : ∀ i (hi : i < P.length) g, P[i].2.ownBlock = some g → o g = k
  c8 : ∀ i (hi : i < P.length), P[i].1.cols.length ≤ 8
theorem TabsK.ev {K : Nat → Prop} {w w' : World} {o o' : Nat → Nat} {k : Nat} {v : Value} {P : List (Tbl × Value)} (h : TabsK w o k v P) (e : Ev K w o w' o') (hk : ¬ K k) : TabsK w' o' k v P := by
  refine ⟨⟨own_tch h.tO.own e.tch (fun g hg hs => hk (by rw [← h.l1 g hg]; exact hs)), fun i hi => own_tch (h.tO.col i hi) e.tch (fun g hg hs => hk (by rw [← h.l2 i hi g hg]; exact hs)), h.tO.sep, h.tO.dis⟩, fun g hg => ?_, fun i hi g hg => ?_, h.c8⟩
  · rw [e.old g (h.tO.own.lt g hg).2 (by rw [h.l1 g hg]; exact hk), h.l1 g hg]
  · rw [e.old g ((h.tO.col i hi).lt g hg).2 (by rw [h.l2 i hi g hg]; exact hk), h.l2 i hi g hg]
/-- A slice of tables, its first places marked. -/
def MC5 (W : World) (v : Value) (n : Nat) (cs : List Value) (q : Nat) : Prop := (v = .slice none 0 0 ∧ n = 0) ∨ ∃ g c cur, v = .slice (some ⟨g, 0, none⟩) n c ∧ W.heap[g]? = some (.cells cur 36 (0, 0)) ∧ n ≤ c ∧ c ≤ maxLen ∧ cur.size = c * 5 ∧ cur.toList.take (q * 5) = rep q cs
theorem MC5.of {W : World} {v : Value} {n : Nat} {cs xs : List Value} (h : W.ownsRow 0 36 5 v n xs) : MC5 W v n cs 0 := by
  rcases h.2 with h | ⟨g, c, cur, h1, _, h2, h3, h4, h5, _⟩
  · exact Or.inl h
  · exact Or.inr ⟨g, c, cur, h1, h2, h3, h4, h5, by simp [rep]⟩
theorem MC5.own {W : World} {v : Value} {n : Nat} {cs : List Value} (h : MC5 W v n cs n) (hcs : cs.length = 5) : W.ownsRow 0 36 cs.length v n (rep n cs) := by
  refine ⟨rep_len _ _, ?_⟩
  rw [hcs]
  rcases h with h | ⟨g, c, cur, h1, h2, h3, h4, h5, h6⟩
  · exact Or.inl h
  · exact Or.inr ⟨g, c, cur, h1, Nat.zero_le _, h2, h3, h4, h5, h6⟩
/-- The lists of tables have grown. -/
theorem LW.tabs {w w' : World} {o o' : Nat → Nat} {b : Nat} {cur : Array Value} {C T T' : List Value} {cv tv tv' : Value} {lo : Option Addr} {n lc : Nat} {L : List Fr} {k : Nat} (h : LW w o b cur C T cv tv lo n lc L) (e : Ev (fun j => j = 5 ∨ j = 7 ∨ j = k) w o w' o') (hk : k < 5 ∨ 10 < k) (hb : w'.heap[b]? = some (.cells (cur.setIfInBounds 5 tv') 59 (0, 0))) (hob : o' b = 5) (hT : LSb 41 w' (fun i => o' i ≠ 7) b mkT T' tv') (hl : T'.length = T.length + 20) : LW w' o' b (cur.setIfInBounds 5 tv') C T' cv tv' lo n lc L := by
  refine ⟨hb, by rw [Array.size_setIfInBounds]; exact h.sz, hob, by rw [Array.getElem?_setIfInBounds_ne (by decide)]; exact h.c4, by rw [Array.getElem?_setIfInBounds_self_of_lt (by rw [h.sz]; decide)], by rw [Array.getElem?_setIfInBounds_ne (by decide)]; exact h.c6, h.cs.ev e (by omega), hT, h.c20, by rw [hl]; have := h.t20; omega, own_tch h.fl e.tch (fun g hg hs => ?_), fun g hg => ?_, h.len, fun f hf => ?_, h.ap⟩
  · rw [ob_eq] at hg; have := h.fo g hg; omega
  · rw [e.old g (h.fl.lt g (by rw [ob_eq]; exact hg)).2 (by have := h.fo g hg; omega), h.fo g hg]
  · obtain ⟨h1, h2, h3⟩ := h.fv f hf
    exact ⟨h1.ev e (by omega), h2.ev e (by omega), h3⟩
/-- Behind so many rounds of told's first loop. -/
structure TF (w : World) (o : Nat → Nat) (b : Nat) (cur : Array Value) (C T : List Value) (cv tv : Value) (n : Nat) (k : Nat) (v : Value) (P : List (Tbl × Value)) (w0 : World) (o0 : Nat → Nat) (cur0 : Array Value) (q : Nat) (lo : Option Addr) (lc : Nat) (L : List Fr) : Prop where
  lw : LW w o b cur C T cv tv lo (n + q) lc L
  sm : Sm3 cur0 cur
  row : w.ownsRow 0 36 5 v P.length (tcl P)
  l1 : ∀ g, v.ownBlock = some g → o g = k
  cl : ∀ i (hi : i < P.length), q ≤ i → RowC w o k P[i].2 P[i].1.cols
  ev : Ev (fun j => j = 0 ∨ j = 5 ∨ j = 8 ∨ j = 9 ∨ j = 10 ∨ j = k) w0 o0 w o
theorem TF.step {w w' : World} {o o' : Nat → Nat} {b : Nat} {cur cur' : Array Value} {C T : List Value} {cv tv : Value} {n : Nat} {k : Nat} {v : Value} {P : List (Tbl × Value)} {w0 : World} {o0 : Nat → Nat} {cur0 : Array Value} {q : Nat} {lo lo' : Option Addr} {lc lc' : Nat} {L L' : List Fr} (h : TF w o b cur C T cv tv n k v P w0 o0 cur0 q lo lc L) (hq : q < P.length) (hk : k < 5 ∨ 10 < k) (hsep : ∀ i (hi : i < P.length) g, P[i].2.ownBlock = some g → v.ownBlock ≠ some g) (hdis : ∀ i j (hi : i < P.length) (hj : j < P.length) g, i ≠ j → P[i].2.ownBlock = some g → P[j].2.ownBlock ≠ some g)
    (hl : LW w' o' b cur' C T cv tv lo' (n + q + 1) lc' L') (hs : Sm3 cur cur') (hw : Ow w o w' o' (fun i => P[q].2.ownBlock = some i)) : TF w' o' b cur' C T cv tv n k v P w0 o0 cur0 (q + 1) lo' lc' L' := by
  have e := hw.ev (k := k) (h.cl q hq (Nat.le_refl _)).lab
  refine ⟨hl, h.sm.trans hs, own_tch h.row hw.tch (fun g hg hs => ?_), fun g hg => ?_, fun i hi hqi => ?_, h.ev.trans e⟩
  · have := h.l1 g hg; omega
  · rw [hw.old g (h.row.lt g hg).2 (fun e => hsep q hq g e hg)]; exact h.l1 g hg
  · have h1 := h.cl i hi (by omega)
    refine ⟨own_tch h1.row hw.tch (fun g hg hs => ?_), fun g hg => ?_⟩
    · have := h1.lab g hg; omega
    · rw [hw.old g (h1.row.lt g hg).2 (fun e => hdis i q hi hq g (by omega) hg e)]; exact h1.lab g hg
end Go.Proofs.Ytkcmpipipelgoaa
/- told: the walk. -/
namespace Go.Proofs.Ytkcmpipipelgoaa
open Go.RowKit Go
set_option maxRecDepth 100000

/-- What told leaves. -/
def ToldOut (w : World) (o : Nat → Nat) (b : Nat) (cur : Array Value) (C T : List Value) (cv : Value) (n m k : Nat) (w' : World) : Prop :=
  ∃ o' cur' T' tv' lo' lc' L', LW w' o' b cur' C T' cv tv' lo' (n + m) lc' L' ∧ Sm3 cur cur' ∧ T'.length = T.length + 20 ∧ Ev (fun j => j = 0 ∨ j = 5 ∨ j = 7 ∨ j = 8 ∨ j = 9 ∨ j = 10 ∨ j = k) w o w' o'

theorem set_same' {cur : Array Value} {i : Nat} {v : Value} (h : cur[i]? = some v) : cur.setIfInBounds i v = cur := by
  apply Array.ext_getElem?
  intro j
  by_cases e : j = i
  · subst e
    rw [Array.getElem?_setIfInBounds_self_of_lt (Array.getElem?_eq_some_iff.1 h).1, h]
  · rw [Array.getElem?_setIfInBounds_ne (fun e2 => e e2.symm)]

set_option maxHeartbeats 4000000 in
theorem told_any {w : World} {o : Nat → Nat} {b : Nat} {cur : Array Value} {C T : List Value} {cv tv : Value} {lo : Option Addr} {n lc : Nat} {L : List Fr} (h : LW w o b cur C T cv tv lo n lc L) (k : Nat) (hk : k < 5 ∨ 10 < k) (v : Value) (P : List (Tbl × Value)) (hP : TabsK w o k v P) (hPl : P.length ≤ 1000000000) (hn : n ≤ 100000000000) (hT : T.length ≤ 1000000000000) :
    Calls Try.prog 38 #[.pointer (some ⟨b, 0, none⟩), v] w fun x w' => x = .returned (.tuple #[]) ∧ ToldOut w o b cur C T cv n P.length k w' := by
  obtain ⟨i0, hi0, hz0, hz1, hz2⟩ := info_parts info_tbl
  obtain ⟨i1, hi1, hy0, hy1, hy2⟩ := info_parts info_tabs
  obtain ⟨m, hm⟩ : ∃ m, m = P.length := ⟨_, rfl⟩
  obtain ⟨vo, vc, hvv⟩ := row_slice hP.tO.own
  rw [← hm] at hvv
  subst hvv
  have HT0 : Hid (TF w o b cur C T cv tv n k (.slice vo m vc) P w o cur 0 lo lc L) := ⟨h, Sm3.refl _, hP.tO.own, hP.l1, fun i hi _ => ⟨hP.tO.col i hi, hP.l2 i hi⟩, Ev.refl _ _⟩
  have Hsep : Hid _ := hP.tO.sep
  have Hdis : Hid _ := hP.tO.dis
  have H8 : Hid _ := hP.c8
  have Hm : Hid (m = P.length) := hm
  have Hk : Hid (k < 5 ∨ 10 < k) := hk
  have hm9 : m ≤ 1000000000 := by omega
  have Hb0 : Hid (n ≤ 100000000000 ∧ T.length ≤ 1000000000000) := ⟨hn, hT⟩
  obtain ⟨M, hM⟩ : ∃ M : Int, M = -7 - (T.length : Int) := ⟨_, rfl⟩
  obtain ⟨cs, hcs⟩ : ∃ cs : List Value, cs = [.int .i64 M, .int .i64 0, .string ⟨#[]⟩, .slice none 0 0, .int .i64 0] := ⟨_, rfl⟩
  have h20 := h.t20
  have hmk : ∀ j, T.length ≤ j → j < T.length + 20 → mkT j = cs := fun j h1 h2 => by
    rw [hcs, hM]; unfold mkT; rw [show j / 20 * 20 = T.length by omega]
  have Hmk : Hid _ := hmk
  have Hcs : Hid _ := hcs
  have HM : Hid (M = -7 - (T.length : Int)) := hM
  obtain ⟨tl, htl⟩ : ∃ tl, tl = T.length := ⟨_, rfl⟩
  have Htl : Hid (tl = T.length) := htl
  have htl9 : tl ≤ 1000000000000 := by omega
  have hMw : IntKind.i64.wrap (-7 - (tl : Int)) = M := by rw [hM, htl]; exact wrap_of (by omega) (by omega)
  rw [← hm]
  clear h hP hPl hn hT hM hcs hmk h20 hm hk htl
  go_enter Try.func38, Try.ntmps38
  go_wp2_with fail
  go_loopg [4] m (fun kx s4 wr => ∃ (q : Nat) (o1 : Nat → Nat) (cur1 : Array Value) (lo1 : Option Addr) (lc1 : Nat) (L1 : List Fr), s4 = .int .i64 q ∧ m - q ≤ kx ∧ q ≤ m ∧ Hid (TF wr o1 b cur1 C T cv tv n k (.slice vo m vc) P w o cur q lo1 lc1 L1))
  case atStart => exact ⟨0, o, cur, lo, lc, L, rfl, by omega, by omega, HT0⟩
  case round =>
    clear HT0
    rename World => wr
    obtain ⟨q, o1, cur1, lo1, lc1, L1, rfl, hqx, hq, J⟩ := hrel
    by_cases hqm : q < m
    · have hqm' : (q : Int) < (m : Int) := by omega
      have hqP : q < P.length := by have := Hm.out; omega
      obtain ⟨g, hg, hgl, hat⟩ := own_at (n := m) (xs := tcl P) (by have := J.out.row; rw [← Hm.out] at this; exact this) (by omega)
      have hrc := J.out.cl q hqP (Nat.le_refl _)
      obtain ⟨co, cc, ecs⟩ := row_slice hrc.row
      have cell : ∀ j u, (tcs P[q])[j]? = some u → j < 5 → wr.cell? ⟨g, q * 5 + j, none⟩ = some u := fun j u hu hj => by
        have := hat (q * 5 + j) u (by rw [tcl_get P q j hqP hj]; exact hu)
        rwa [Nat.zero_add] at this
      obtain ⟨t, ht⟩ : ∃ t, t = P[q].1 := ⟨_, rfl⟩
      obtain ⟨cl, hcl⟩ : ∃ cl, cl = t.cols.length := ⟨_, rfl⟩
      have z0 : wr.cell? ⟨g, q * 5, none⟩ = some (.int .i64 t.id) := by rw [ht]; exact cell 0 _ rfl (by omega)
      have z1 : wr.cell? ⟨g, q * 5 + 1, none⟩ = some (.int .i64 t.ver) := by rw [ht]; exact cell 1 _ rfl (by omega)
      have z2 : wr.cell? ⟨g, q * 5 + 2, none⟩ = some (.string t.nm) := by rw [ht]; exact cell 2 _ rfl (by omega)
      have z3 : wr.cell? ⟨g, q * 5 + 3, none⟩ = some (.slice co cl cc) := by rw [hcl, ht, ← ecs]; exact cell 3 _ rfl (by omega)
      have z4 : wr.cell? ⟨g, q * 5 + 4, none⟩ = some (.int .i64 t.key) := by rw [ht]; exact cell 4 _ rfl (by omega)
      have q1 : Calls Try.prog 35 #[.pointer (some ⟨b, 0, none⟩), tA t.id t.ver t.nm (.slice co cl cc) t.key] wr fun x w' => x = .returned (.tuple #[]) ∧ ∃ o' u lo' lc', LW w' o' b (cur1.setIfInBounds 6 (.slice lo' (n + q + 1) lc')) C T cv tv lo' (n + q + 1) lc' (L1 ++ [⟨t, .slice co cl cc, u, 0⟩]) ∧ Ow wr o1 w' o' (fun i => P[q].2.ownBlock = some i) := by
        have := owned_o J.out.lw P[q].1 P[q].2 k hrc Hk.out (H8.out q hqP) (by have := Hb0.out; omega)
        rw [ecs] at this
        rw [hcl, ht, ecs]
        exact this
      have HqP : Hid (q < P.length) := hqP
      subst hg
      clear hat hgl hrc ecs cell ht hcl
      go_wp2_with fail
      refine q1.mono ?_
      rintro x w2 ⟨rfl, o2, u, lo2, lc2, hL2, hw2⟩
      have HJ2 : Hid (TF w2 o2 b (cur1.setIfInBounds 6 (.slice lo2 (n + q + 1) lc2)) C T cv tv n k (.slice (some ⟨g, 0, none⟩) m vc) P w o cur (q + 1) lo2 lc2 (L1 ++ [⟨t, .slice co cl cc, u, 0⟩])) := J.out.step HqP.out Hk.out Hsep.out Hdis.out hL2 ((Sm3.refl _).set _ (.inr (.inr rfl))) hw2
      clear q1 hL2 hw2 z0 z1 z2 z3 z4 J
      go_wp2_with fail
      go_roundg (m - (q + 1))
      case measure => omega
      case rel => exact ⟨q + 1, o2, _, lo2, lc2, _, rfl, by omega, by omega, HJ2⟩
    · have hqm' : ¬ (q : Int) < (m : Int) := by omega
      obtain rfl : q = m := by omega
      obtain ⟨w1, hw1⟩ : ∃ w1, w1 = wr := ⟨_, rfl⟩
      subst hw1
      obtain ⟨to1, tc1, htv⟩ := row_slice J.out.lw.ts.all
      have d5 : w1.cell? ⟨b, 5, none⟩ = some (.slice to1 tl tc1) := by rw [blk_cell J.out.lw.blk, Htl.out, ← htv]; exact J.out.lw.c5
      have HMC0 : Hid (MC5 w1 (.slice vo q vc) q cs 0) := MC5.of (xs := tcl P) (by have := J.out.row; rw [← Hm.out] at this; exact this)
      have Hvb : Hid (∀ g, (Value.slice vo q vc).ownBlock = some g → o1 g = k ∧ g < w1.heap.size) := fun g e => ⟨J.out.l1 g e, (J.out.row.lt g e).2⟩
      clear htv hqm hqm'
      go_wp2_with fail
      clear d5
      go_loopw [6] (fun i wr => ∃ p : Nat, i = .int .i64 p ∧ p ≤ q ∧ Hid (MC5 wr (.slice vo q vc) q cs p) ∧ Hid (Tch (fun i => (Value.slice vo q vc).ownBlock = some i) w1 wr)) (fun i _ => q - (intOf i).toNat)
      case atStart => exact ⟨0, rfl, by omega, HMC0, Tch.refl _ _⟩
      case round =>
        obtain ⟨p, rfl, hp, HC, HT⟩ := hrel
        by_cases hpq : (p : Int) < q
        · rcases HC.out with ⟨_, h0⟩ | ⟨g, c, cu, hvv, hh, hnc, hcm, hsz, htk⟩
          · omega
          · injection hvv with e1 e2 e3
            subst e1 e3
            have hqc : p < vc := by omega
            obtain ⟨⟨y0, e0⟩, ⟨y1, e1⟩, ⟨y2, e2⟩, ⟨y3, e3⟩, ⟨y4, e4⟩, hf⟩ := set5_cells hh hsz hqc (.int .i64 M) (.int .i64 0) (.string ⟨#[]⟩) (.slice none 0 0)
            have f0 := hf (p * 5); have f1 := hf (p * 5 + 1); have f2 := hf (p * 5 + 2); have f3 := hf (p * 5 + 3); have f4 := hf (p * 5 + 4)
            have HC2 : Hid (MC5 (((((wr.setCell ⟨g, p * 5, none⟩ (.int .i64 M)).setCell ⟨g, p * 5 + 1, none⟩ (.int .i64 0)).setCell ⟨g, p * 5 + 2, none⟩ (.string ⟨#[]⟩)).setCell ⟨g, p * 5 + 3, none⟩ (.slice none 0 0)).setCell ⟨g, p * 5 + 4, none⟩ (.int .i64 0)) (.slice (some ⟨g, 0, none⟩) q vc) q cs (p + 1)) := by
              refine Or.inr ⟨g, vc, _, rfl, blk_set (blk_set (blk_set (blk_set (blk_set hh _) _) _) _) _, hnc, hcm, by simp [hsz], ?_⟩
              have h1 := set5_step cu p vc (rep p cs) (.int .i64 M) (.int .i64 0) (.string ⟨#[]⟩) (.slice none 0 0) (.int .i64 0) hsz hqc (by rw [rep_len, Hcs.out]; rfl) htk
              rw [h1, rep_succ, Hcs.out]
            have HT2 : Hid (Tch (fun i => (Value.slice (some ⟨g, 0, none⟩) q vc).ownBlock = some i) w1 (((((wr.setCell ⟨g, p * 5, none⟩ (.int .i64 M)).setCell ⟨g, p * 5 + 1, none⟩ (.int .i64 0)).setCell ⟨g, p * 5 + 2, none⟩ (.string ⟨#[]⟩)).setCell ⟨g, p * 5 + 3, none⟩ (.slice none 0 0)).setCell ⟨g, p * 5 + 4, none⟩ (.int .i64 0))) := ((((Tch.setCellR HT.out ⟨g, p * 5, none⟩ _ rfl).setCellR ⟨g, p * 5 + 1, none⟩ _ rfl).setCellR ⟨g, p * 5 + 2, none⟩ _ rfl).setCellR ⟨g, p * 5 + 3, none⟩ _ rfl).setCellR ⟨g, p * 5 + 4, none⟩ _ rfl
            clear hh hf hsz htk HC HT
            go_wp2_with fail
            go_roundw
            case rel => exact ⟨p + 1, by go_num, by omega, HC2, HT2⟩
            case measure => simp [intOf]; omega
        · obtain rfl : p = q := by omega
          obtain ⟨w2, hw2⟩ : ∃ w2, w2 = wr := ⟨_, rfl⟩
          subst hw2
          obtain ⟨o2, ho2⟩ : ∃ o2, o2 = ext w1 o1 k := ⟨_, rfl⟩
          have e2 : Ev (fun j => j = k) w1 o1 w2 o2 := by
            rw [ho2]
            exact ⟨HT.out.mono (fun i _ e => (Hvb.out i e).1), fun i hi _ => if_pos hi, fun i hi e => (show ext w1 o1 k i = k by unfold ext; rw [if_pos hi]; exact e), fun i hi _ => if_neg (by omega)⟩
          have hL2 := J.out.lw.ev e2 (by have := Hk.out; omega)
          have HL2 : Hid (LW w2 o2 b cur1 C T cv tv lo1 (n + p) lc1 L1) := hL2
          have Hv2 : Hid (∀ g, (Value.slice vo p vc).ownBlock = some g → o2 g = k ∧ g < w2.heap.size) := fun g e => ⟨by rw [ho2]; show ext w1 o1 k g = k; unfold ext; rw [if_pos (Hvb.out g e).2]; exact (Hvb.out g e).1, Nat.lt_of_lt_of_le (Hvb.out g e).2 HT.out.size⟩
          have HE2 : Hid (Ev (fun j => j = 0 ∨ j = 5 ∨ j = 7 ∨ j = 8 ∨ j = 9 ∨ j = 10 ∨ j = k) w o w2 o2 ∧ Sm3 cur cur1) := ⟨(J.out.ev.mono (fun j e => by omega)).trans (e2.mono (fun j e => by omega)), J.out.sm⟩
          have hMe : w2.ownsRow 0 36 cs.length (.slice vo p vc) p (rep p cs) := HC.out.own (by rw [Hcs.out]; rfl)
          obtain ⟨F, hF⟩ : ∃ F : Nat → Prop, F = fun i => i < w2.heap.size ∧ o2 i ≠ 7 ∧ (Value.slice vo p vc).ownBlock ≠ some i := ⟨_, rfl⟩
          have HFe : Hid (∀ i, F i ↔ (i < w2.heap.size ∧ o2 i ≠ 7 ∧ (Value.slice vo p vc).ownBlock ≠ some i)) := fun i => by rw [hF]
          have HLG : Hid (LGb 41 36 w2 F b mkT T tv (.slice vo p vc) cs p) := by
            refine LSb.enter (hL2.ts.fresh (fun i hi hf => ?_)) hMe (fun g e => ⟨fun e3 => ?_, fun hf => ((HFe.out g).1 hf).2.2 e⟩)
            · rcases hf with hf | hf
              · exact ((HFe.out i).1 hf).2.1
              · rw [(Hv2.out i hf).1]; have := Hk.out; omega
            · have := (Hv2.out g e).1
              rw [e3, hL2.own] at this
              have := Hk.out
              omega
          have HFw : Hid (∀ i, F i → i < w2.heap.size) := fun i h => ((HFe.out i).1 h).1
          obtain ⟨Z, hZ⟩ : ∃ Z, Z = w2.heap.size := ⟨_, rfl⟩
          have HZ : Hid (Z = w2.heap.size) := hZ
          have hc5s : cur1.size = 8 := hL2.sz
          have Htv2 : Hid (cur1.setIfInBounds 5 tv = cur1) := set_same' hL2.c5
          have HbV : Hid (w2.heap[b]? = some (.cells cur1 59 (0, 0))) := hL2.blk
          have HTV : Hid (Tch (fun i => i = b ∨ tv.ownBlock = some i ∨ (Value.slice vo p vc).ownBlock = some i) w2 w2) := Tch.refl _ _
          have HFin : Hid (∀ rv' A' wx, A'.length = T.length + 20 → wx.heap[b]? = some (.cells (cur1.setIfInBounds 5 rv') 59 (0, 0)) → LSb 41 wx F b mkT A' rv' → Tch (fun i => i = b ∨ tv.ownBlock = some i ∨ (Value.slice vo p vc).ownBlock = some i) w2 wx → ToldOut w o b cur C T cv n p k wx) := fun rv' A' wx hA' hb' hL' t' => by
            have hbb := HL2.out.own
            have hTl : ∀ g, tv.ownBlock = some g → o2 g = 7 := fun g e => Classical.byContradiction fun h => (HL2.out.ts.ag g e).2 h
            let o3 : Nat → Nat := fun i => if (Value.slice vo p vc).ownBlock = some i then 7 else if i < w2.heap.size then o2 i else 7
            have hnb : ¬ (Value.slice vo p vc).ownBlock = some b := fun e => by have := (Hv2.out b e).1; rw [hbb] at this; have := Hk.out; omega
            have e3 : Ev (fun j => j = 5 ∨ j = 7 ∨ j = k) w2 o2 wx o3 := by
              refine ⟨t'.mono (fun i _ hi => ?_), fun i hi hn => ?_, fun i hi hk => ?_, fun i hi _ => ?_⟩
              · rcases hi with rfl | hi | hi
                · exact .inl hbb
                · exact .inr (.inl (hTl i hi))
                · exact .inr (.inr (Hv2.out i hi).1)
              · show (if (Value.slice vo p vc).ownBlock = some i then 7 else if i < w2.heap.size then o2 i else 7) = o2 i
                rw [if_neg (fun e => hn (.inr (.inr (Hv2.out i e).1))), if_pos hi]
              · show (if (Value.slice vo p vc).ownBlock = some i then 7 else if i < w2.heap.size then o2 i else 7) = 5 ∨ (if (Value.slice vo p vc).ownBlock = some i then 7 else if i < w2.heap.size then o2 i else 7) = 7 ∨ (if (Value.slice vo p vc).ownBlock = some i then 7 else if i < w2.heap.size then o2 i else 7) = k
                split
                · exact .inr (.inl rfl)
                · first | exact hk | (rw [if_pos hi]; exact hk)
              · refine .inr (.inl ?_)
                show (if (Value.slice vo p vc).ownBlock = some i then 7 else if i < w2.heap.size then o2 i else 7) = 7
                split
                · rfl
                · rw [if_neg (by omega)]
            refine ⟨o3, _, A', rv', lo1, lc1, L1, HL2.out.tabs e3 Hk.out hb' ?_ (hL'.fresh (fun i hi hf => ?_)) hA', HE2.out.2.set _ (.inr (.inl rfl)), hA', HE2.out.1.trans (e3.mono (fun j e => by omega))⟩
            · show (if (Value.slice vo p vc).ownBlock = some b then 7 else if b < w2.heap.size then o2 b else 7) = 5
              rw [if_neg hnb, if_pos (blk_lt HL2.out.blk), hbb]
            · have hf' : (if (Value.slice vo p vc).ownBlock = some i then 7 else if i < w2.heap.size then o2 i else 7) ≠ 7 := hf
              split at hf'
              · exact absurd rfl hf'
              · rename_i h1
                split at hf'
                · rename_i h2; exact (HFe.out i).2 ⟨h2, hf', h1⟩
                · exact absurd rfl hf'
          clear ho2 e2 hL2 hMe hF hZ HC HT J HMC0 Hvb hpq hp hMw
          go_wp2_with fail
          go_loopw [1, 7] (fun x i wr => ∃ (k nx : Nat) (A' : List Value) (rv' : Value), i = .int .i64 k ∧ k ≤ 20 ∧ (A'.length ≤ 1000000000020 ∧ Hid (A'.length = T.length + k)) ∧ nx ≤ 1000000000 + k ∧ Hid (LGb 41 36 wr F b mkT A' rv' x cs nx) ∧ Hid (wr.heap[b]? = some (.cells (cur1.setIfInBounds 5 rv') 59 (0, 0))) ∧ Hid ((∀ g, rv'.ownBlock = some g → tv.ownBlock = some g ∨ Z ≤ g) ∧ ∀ g, x.ownBlock = some g → (Value.slice vo p vc).ownBlock = some g ∨ Z ≤ g) ∧ Hid (Tch (fun i => i = b ∨ tv.ownBlock = some i ∨ (Value.slice vo p vc).ownBlock = some i) w2 wr)) (fun _ i _ => 20 - (intOf i).toNat)
          case atStart => exact ⟨0, p, T, tv, rfl, by omega, ⟨by have := Hb0.out; omega, rfl⟩, by omega, HLG, by show _ = _; rw [Htv2.out]; exact HbV.out, ⟨fun g e => Or.inl e, fun g e => Or.inl e⟩, HTV⟩
          case round =>
            clear HLG HbV HTV Htv2
            obtain ⟨k, nx, A', rv', rfl, hk, ⟨hA', HA'⟩, hnx, HG, Hb, HO, HT⟩ := hrel
            by_cases hk20 : (k : Int) < 20
            · obtain ⟨ro', rc', hrv'⟩ := row_slice HG.out.all
              subst hrv'
              obtain ⟨xo, xc, hxv⟩ := row_slice HG.out.xr
              subst hxv
              have cb2 : wr.cell? ⟨b, 5, none⟩ = some (.slice ro' A'.length rc') := by rw [blk_cell Hb.out, Array.getElem?_setIfInBounds_self_of_lt (by omega)]
              have fb2 := blk_frozen Hb.out 5
              have HF2 : Hid (∀ i, F i → i < wr.heap.size) := fun i h => by have := HFw.out i h; have := HT.out.size; omega
              have Hbl : Hid (b < wr.heap.size) := blk_lt Hb.out
              have Hcs3 : Hid (cs.length = 5) := by show _ = _; rw [Hcs.out]; rfl
              go_wp2_with (first
                | (at_builtin; refine wpList_append_keeps _ rfl _ _ 56 rfl 0 41 i1 (.slice none 0 0) 1 24 Try.underlying56 hi1 hy0 hy1 hy2 rfl (by decide) (.slice ro' A'.length rc') A'.length A' rfl (own_tch HG.out.all (Tch.alloc (fun _ => False) _ _) (fun _ _ h => h)) ⟨wr.heap.size, 0, none⟩ 1 1 [.slice xo nx xc] rfl rfl (World.news_of_block (alloc_new _ _)) (by simp [Value.oneCell']) (by unfold maxLen; omega) (by omega) (Nat.zero_le _) ?_
                   intro v1 w3 hown1 hgr1 hat1 _
                   have HG1 : Hid _ := HG.out.one (Tch.alloc _ _ _) hgr1 hown1 hat1 (Hmk.out _ (by have := HA'.out; omega) (by have := HA'.out; omega)) (by omega) Hbl.out HF2.out
                   have T1 := grown_at (Tch.alloc (fun _ => False) wr _) hgr1
                   have Hb1 : Hid (w3.heap[b]? = some (.cells (cur1.setIfInBounds 5 (.slice ro' A'.length rc')) 59 (0, 0))) := (T1.block b Hbl.out (fun e => (HG.out.ag b e).1 rfl)).trans Hb.out
                   obtain ⟨ro1, rc1, hv1⟩ := row_slice hown1
                   subst hv1
                   have HG2 : Hid (LGb 41 36 (w3.setCell ⟨b, 5, none⟩ (.slice ro1 (A'.length + 1) rc1)) F b mkT (A' ++ [.slice xo nx xc]) (.slice ro1 (A'.length + 1) rc1) (.slice xo nx xc) cs nx) := HG1.out.tch (Tch.setCell (fun i => i = b) w3 ⟨b, 5, none⟩ _ rfl) (fun i h => Or.inl h)
                   have Hb2 : Hid ((w3.setCell ⟨b, 5, none⟩ (.slice ro1 (A'.length + 1) rc1)).heap[b]? = some (.cells (cur1.setIfInBounds 5 (.slice ro1 (A'.length + 1) rc1)) 59 (0, 0))) := by
                     show _ = _
                     rw [blk_set Hb1.out, Array.setIfInBounds_setIfInBounds]
                   have T2 : Tch (fun i => i = b ∨ (Value.slice ro' A'.length rc').ownBlock = some i) wr (w3.setCell ⟨b, 5, none⟩ (.slice ro1 (A'.length + 1) rc1)) := (T1.mono (fun _ _ h => Or.inr h)).setCellR ⟨b, 5, none⟩ _ (Or.inl rfl)
                   have HO2 : Hid (∀ g, (Value.slice ro1 (A'.length + 1) rc1).ownBlock = some g → tv.ownBlock = some g ∨ Z ≤ g) := fun g e => by
                     rcases hat1 with e1 | e1
                     · exact HO.out.1 g (e1 ▸ e)
                     · rw [e1] at e; injection e with e; rw [World.size_alloc] at e; have := HT.out.size; have := HZ.out; right; omega
                   have HF3 : Hid (∀ i, F i → i < (w3.setCell ⟨b, 5, none⟩ (.slice ro1 (A'.length + 1) rc1)).heap.size) := fun i h => Nat.lt_of_lt_of_le (HF2.out i h) T2.size
                   have Hbl3 : Hid (b < (w3.setCell ⟨b, 5, none⟩ (.slice ro1 (A'.length + 1) rc1)).heap.size) := blk_lt Hb2.out
                   have HNW : Hid (∀ j u, ([.int .i64 M, .int .i64 0, .string ⟨#[]⟩, .slice none 0 0, .int .i64 0] : List Value)[j]? = some u → ((w3.setCell ⟨b, 5, none⟩ (.slice ro1 (A'.length + 1) rc1)).alloc (.cells #[.int .i64 M, .int .i64 0, .string ⟨#[]⟩, .slice none 0 0, .int .i64 0] 36)).cell? ((⟨w3.heap.size, 0, none⟩ : Addr).add j) = some u) := fun j u hu => by
                     have h1 := World.news_of_block (alloc_new (w3.setCell ⟨b, 5, none⟩ (.slice ro1 (A'.length + 1) rc1)) (.cells #[.int .i64 M, .int .i64 0, .string ⟨#[]⟩, .slice none 0 0, .int .i64 0] 36)) j u hu
                     rwa [World.size_setCell] at h1
                   have cb3 : w3.cell? ⟨b, 5, none⟩ = some (.slice ro' A'.length rc') := by rw [blk_cell Hb1.out, Array.getElem?_setIfInBounds_self_of_lt (by omega)]
                   have fb3 := blk_frozen Hb1.out 5
                   clear cb2 fb2)
                | (at_builtin; refine wpList_append_keeps _ rfl _ _ 41 rfl 0 36 i0 (.agg #[.int .i64 0, .int .i64 0, .string ⟨#[]⟩, .slice none 0 0, .int .i64 0]) 5 64 Try.underlying41 hi0 hz0 hz1 hz2 rfl (by decide) (.slice xo nx xc) nx (rep nx cs) rfl (own_tch (by have := HG2.out.xr; rw [Hcs3.out] at this; exact this) (Tch.alloc (fun _ => False) _ _) (fun _ _ h => h)) ⟨w3.heap.size, 0, none⟩ 1 1 [.int .i64 M, .int .i64 0, .string ⟨#[]⟩, .slice none 0 0, .int .i64 0] rfl rfl HNW.out (by simp [Value.oneCell']) (by unfold maxLen; omega) (by omega) (Nat.zero_le _) ?_
                   intro v2 w4 hown2 hgr2 hat2 hk2
                   have hown3 : w4.ownsRow 0 36 cs.length v2 (nx + 1) (rep (nx + 1) cs) := by
                     rw [Hcs3.out, rep_succ, Hcs.out]; rw [Hcs.out] at hown2; exact hown2
                   have HG3 : Hid _ := HG2.out.two (Tch.alloc _ _ _) hgr2 hown3 hat2 (by rw [Hcs3.out]; exact hk2) Hbl3.out HF3.out (fun j => by rw [Hcs3.out]; rfl)
                   have T3 := grown_at (Tch.alloc (fun _ => False) _ _) hgr2
                   have Hb3 : Hid (w4.heap[b]? = some (.cells (cur1.setIfInBounds 5 (.slice ro1 (A'.length + 1) rc1)) 59 (0, 0))) := (T3.block b Hbl3.out (fun e => (HG2.out.xg b e).2.1 rfl)).trans Hb2.out
                   have HO3 : Hid (∀ g, v2.ownBlock = some g → (Value.slice vo p vc).ownBlock = some g ∨ Z ≤ g) := fun g e => by
                     rcases hat2 with e1 | e1
                     · exact HO.out.2 g (e1 ▸ e)
                     · rw [e1] at e; injection e with e; rw [World.size_alloc] at e; have := HT.out.size; have := T2.size; have := HZ.out; right; omega
                   have HT3 : Hid (Tch (fun i => i = b ∨ tv.ownBlock = some i ∨ (Value.slice vo p vc).ownBlock = some i) w2 w4) := (HT.out.trans T2 (fun i hi h => by
                     rcases h with h | h
                     · exact Or.inl h
                     · rcases HO.out.1 i h with h | h
                       · exact Or.inr (Or.inl h)
                       · have := HZ.out; omega)).trans T3 (fun i hi h => by
                     rcases HO.out.2 i h with h | h
                     · exact Or.inr (Or.inr h)
                     · have := HZ.out; omega)
                   obtain ⟨xo2, xc2, hv2⟩ := row_slice hown2
                   subst hv2
                   clear cb3 fb3))
              exact ⟨⟨k + 1, nx + 1, A' ++ [.slice xo nx xc], .slice ro1 (A'.length + 1) rc1, by go_num, by omega, ⟨by have := HA'.out; have := Hb0.out; simp; omega, by show _ = _; rw [List.length_append, HA'.out]; rfl⟩, by omega, HG3, Hb3, ⟨HO2.out, HO3.out⟩, HT3⟩, by simp [intOf]; omega⟩
            · go_wp2_with fail
              go_end0
              exact ⟨rfl, HFin.out rv' A' wr (by have := HA'.out; omega) Hb.out HG.out.leave HT.out⟩
end Go.Proofs.Ytkcmpipipelgoaa
