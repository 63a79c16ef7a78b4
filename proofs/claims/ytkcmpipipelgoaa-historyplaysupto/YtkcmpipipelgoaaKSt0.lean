import Derived.Test.YtkcmpipipelgoaaKKept
import Derived.Test.YtkcmpipipelgoaaKTold2
import Derived.Test.YtkcmpipipelgoaaKLent2
import Derived.Test.YtkcmpipipelgoaaD10
import Derived.Test.YtkcmpipipelgoaaHAwk
/- A step of the law: its state. -/
namespace Go.Proofs.Ytkcmpipipelgoaa
open Go.RowKit Go

theorem HF.ev {K : Nat → Prop} {w w' : World} {o o' : Nat → Nat} {k b : Nat} {h : Hs} (H : HF w (Oth w o k) b h) (e : Ev K w o w' o') (hk : ¬ K k) : HF w' (Oth w' o' k) b h := by
  have h1 : HF w (Oth w' o' k) b h := H.mono (fun g hg hf => ⟨hg, fun e1 => hf.2 (by rw [e.old g hg (by rw [e1]; exact hk), e1])⟩)
  exact h1.tch e.tch (fun g hg hs => ⟨Nat.lt_of_lt_of_le hg e.tch.size, fun e1 => hk (by rw [← e1]; exact e.own g hg hs)⟩)
theorem DF.ev {K : Nat → Prop} {w w' : World} {o o' : Nat → Nat} {k b : Nat} {h : Dh} (H : DF w (Oth w o k) b h) (e : Ev K w o w' o') (hk : ¬ K k) : DF w' (Oth w' o' k) b h := by
  have h1 : DF w (Oth w' o' k) b h := H.mono (fun g hg hf => ⟨hg, fun e1 => hf.2 (by rw [e.old g hg (by rw [e1]; exact hk), e1])⟩)
  exact h1.tch e.tch (fun g hg hs => ⟨Nat.lt_of_lt_of_le hg e.tch.size, fun e1 => hk (by rw [← e1]; exact e.own g hg hs)⟩)
/-- Behind a call of an owner's. -/
theorem Ev.call {w w' : World} {o : Nat → Nat} {k : Nat} (t : Tch (fun g => ¬ Oth w o k g) w w') : Ev (fun j => j = k) w o w' (ext w o k) :=
  ⟨t.mono (fun i hi h => Classical.byContradiction fun e => h ⟨hi, e⟩), fun i hi _ => if_pos hi, fun i hi e => by show ext w o k i = k; unfold ext; rw [if_pos hi]; exact e, fun i hi _ => if_neg (by omega)⟩
theorem oth_ext {w w' : World} {o : Nat → Nat} {k g : Nat} (h : Oth w' (ext w o k) k g) : Oth w o k g := by
  have h2 := h.2
  unfold ext at h2
  split at h2
  · rename_i h3; exact ⟨h3, h2⟩
  · exact absurd rfl h2
theorem oth_lt {w : World} {o : Nat → Nat} {k : Nat} : ∀ g, Oth w o k g → g < w.heap.size := fun _ h => h.1
theorem HF.call {w w' : World} {o : Nat → Nat} {k b : Nat} {h : Hs} (H : HF w' (Oth w o k) b h) : HF w' (Oth w' (ext w o k) k) b h := H.mono (fun _ _ hf => oth_ext hf)
theorem DF.call {w w' : World} {o : Nat → Nat} {k b : Nat} {h : Dh} (H : DF w' (Oth w o k) b h) : DF w' (Oth w' (ext w o k) k) b h := H.mono (fun _ _ hf => oth_ext hf)
/-- The program's history and the document's, in step; or there are none. -/
def Side (w : World) (o : Nat → Nat) (kc kd TB : Nat) (hv rv : Value) : Prop :=
  (hv = .pointer none ∧ rv = .pointer none) ∨ ∃ hb rb h d, hv = .pointer (some ⟨hb, 0, none⟩) ∧ rv = .pointer (some ⟨rb, 0, none⟩) ∧ HF w (Oth w o kc) hb h ∧ DF w (Oth w o kd) rb d ∧ Lk h d ∧ h.T ≤ TB
theorem Side.ev {K : Nat → Prop} {w w' : World} {o o' : Nat → Nat} {kc kd TB : Nat} {hv rv : Value} (h : Side w o kc kd TB hv rv) (e : Ev K w o w' o') (h1 : ¬ K kc) (h2 : ¬ K kd) : Side w' o' kc kd TB hv rv := by
  rcases h with h | ⟨hb, rb, h, d, e1, e2, H, D, L, hT⟩
  · exact .inl h
  · exact .inr ⟨hb, rb, h, d, e1, e2, H.ev e h1, D.ev e h2, L, hT⟩
theorem Side.up {w : World} {o : Nat → Nat} {kc kd TB TB' : Nat} {hv rv : Value} (h : Side w o kc kd TB hv rv) (hT : TB ≤ TB') : Side w o kc kd TB' hv rv := by
  rcases h with h | ⟨hb, rb, h, d, e1, e2, H, D, L, hT'⟩
  · exact .inl h
  · exact .inr ⟨hb, rb, h, d, e1, e2, H, D, L, by omega⟩
/-- The memory that is lent again and again. -/
def MemO (w : World) (o : Nat → Nat) (mv : Value) : Prop := mv = .slice none 0 0 ∨ ∃ g m cu, mv = .slice (some ⟨g, 0, none⟩) m m ∧ o g = 11 ∧ w.heap[g]? = some (.cells cu 80 (0, 0)) ∧ cu.size = m * 3 ∧ 0 < m ∧ m ≤ 200000000
theorem MemO.ev {K : Nat → Prop} {w w' : World} {o o' : Nat → Nat} {mv : Value} (h : MemO w o mv) (e : Ev K w o w' o') (hk : ¬ K 11) : MemO w' o' mv := by
  rcases h with h | ⟨g, m, cu, h1, h2, h3, h4⟩
  · exact .inl h
  · exact .inr ⟨g, m, cu, h1, by rw [e.old g (blk_lt h3) (by rw [h2]; exact hk), h2], (e.tch.block g (blk_lt h3) (by rw [h2]; exact hk)).trans h3, h4⟩
structure PQ (w : World) (o : Nat → Nat) (b : Nat) (cur : Array Value) (C T : List Value) (cv tv : Value) (lo : Option Addr) (n lc : Nat) (L : List Fr) (TB : Nat) : Prop where
  lw : LW w o b cur C T cv tv lo n lc L
  sd : ∀ p, p < 2 → ∃ hv rv, cur[p]? = some hv ∧ cur[2 + p]? = some rv ∧ Side w o (1 + p) (3 + p) TB hv rv
  me : ∃ mv, cur[7]? = some mv ∧ MemO w o mv
theorem PQ.ev {K : Nat → Prop} {w w' : World} {o o' : Nat → Nat} {b : Nat} {cur : Array Value} {C T : List Value} {cv tv : Value} {lo : Option Addr} {n lc : Nat} {L : List Fr} {TB : Nat} (h : PQ w o b cur C T cv tv lo n lc L TB) (e : Ev K w o w' o') (hk : ∀ j, 1 ≤ j → j ≤ 11 → ¬ K j) : PQ w' o' b cur C T cv tv lo n lc L TB := by
  refine ⟨h.lw.ev e (fun j h1 h2 => hk j (by omega) (by omega)), fun p hp => ?_, ?_⟩
  · obtain ⟨hv, rv, e1, e2, s⟩ := h.sd p hp
    exact ⟨hv, rv, e1, e2, s.ev e (hk _ (by omega) (by omega)) (hk _ (by omega) (by omega))⟩
  · obtain ⟨mv, e1, m⟩ := h.me
    exact ⟨mv, e1, m.ev e (hk _ (by omega) (by omega))⟩
/-- One side has gone on. -/
theorem PQ.side {K : Nat → Prop} {w w' : World} {o o' : Nat → Nat} {b : Nat} {cur : Array Value} {C T : List Value} {cv tv : Value} {lo : Option Addr} {n lc : Nat} {L : List Fr} {TB p : Nat} (h : PQ w o b cur C T cv tv lo n lc L TB) (hp : p < 2) (e : Ev K w o w' o') (hk : ∀ j, 1 ≤ j → j ≤ 11 → K j → j = 1 + p ∨ j = 3 + p) {hv rv : Value} (c1 : cur[p]? = some hv) (c2 : cur[2 + p]? = some rv) (s : Side w' o' (1 + p) (3 + p) (TB + 1) hv rv) : PQ w' o' b cur C T cv tv lo n lc L (TB + 1) := by
  refine ⟨h.lw.ev e (fun j h1 h2 h3 => by have := hk j (by omega) (by omega) h3; omega), fun q hq => ?_, ?_⟩
  · by_cases hqp : q = p
    · subst hqp
      exact ⟨hv, rv, c1, c2, s⟩
    · obtain ⟨hv', rv', e1, e2, s'⟩ := h.sd q hq
      exact ⟨hv', rv', e1, e2, (s'.ev e (fun h3 => by have := hk _ (by omega) (by omega) h3; omega) (fun h3 => by have := hk _ (by omega) (by omega) h3; omega)).up (by omega)⟩
  · obtain ⟨mv, e1, m⟩ := h.me
    exact ⟨mv, e1, m.ev e (fun h3 => by have := hk _ (by omega) (by omega) h3; omega)⟩
theorem PQ.up {w : World} {o : Nat → Nat} {b : Nat} {cur : Array Value} {C T : List Value} {cv tv : Value} {lo : Option Addr} {n lc : Nat} {L : List Fr} {TB TB' : Nat} (h : PQ w o b cur C T cv tv lo n lc L TB) (hT : TB ≤ TB') : PQ w o b cur C T cv tv lo n lc L TB' := by
  refine ⟨h.lw, fun p hp => ?_, h.me⟩
  obtain ⟨hv, rv, e1, e2, s⟩ := h.sd p hp
  exact ⟨hv, rv, e1, e2, s.up hT⟩
/-- The world's lists have gone on. -/
theorem PQ.lists {K : Nat → Prop} {w w' : World} {o o' : Nat → Nat} {b : Nat} {cur cur' : Array Value} {C T C' T' : List Value} {cv tv cv' tv' : Value} {lo lo' : Option Addr} {n lc n' lc' : Nat} {L L' : List Fr} {TB : Nat} (h : PQ w o b cur C T cv tv lo n lc L TB) (hl : LW w' o' b cur' C' T' cv' tv' lo' n' lc' L') (hs : Sm3 cur cur') (e : Ev K w o w' o') (hk : ∀ j, (1 ≤ j ∧ j ≤ 4) ∨ j = 11 → ¬ K j) : PQ w' o' b cur' C' T' cv' tv' lo' n' lc' L' TB := by
  refine ⟨hl, fun p hp => ?_, ?_⟩
  · obtain ⟨hv, rv, e1, e2, s⟩ := h.sd p hp
    exact ⟨hv, rv, (hs p (by omega) (by omega) (by omega)).trans e1, (hs (2 + p) (by omega) (by omega) (by omega)).trans e2, s.ev e (hk _ (by omega)) (hk _ (by omega))⟩
  · obtain ⟨mv, e1, m⟩ := h.me
    exact ⟨mv, (hs 7 (by omega) (by omega) (by omega)).trans e1, m.ev e (hk _ (by omega))⟩
/-- What is to be done. -/
structure Opd where
  k : Int
  on : Int
  x : Int
  i : Int
  t : Tbl
  ao : Option Addr
  c : Nat
abbrev opV (d : Opd) : Value := .agg #[.int .i64 d.k, .int .i64 d.on, .int .i64 d.x, .int .i64 d.i, .int .i64 d.t.id, .int .i64 d.t.ver, .string d.t.nm, .slice d.ao d.t.cols.length d.c, .int .i64 d.t.key]
structure OpIn (w : World) (o : Nat → Nat) (d : Opd) : Prop where
  on : inR d.on
  i : inR d.i
  sl : SL w d.ao (ccl d.t.cols)
  no : d.ao = none → d.t.cols = [] ∧ d.c = 0
  ar : d.t.cols ≠ [] → ∀ g q, d.ao = some ⟨g, q, none⟩ → o g = 15
  le : d.t.cols.length ≤ 100000000
theorem OpIn.ev {K : Nat → Prop} {w w' : World} {o o' : Nat → Nat} {d : Opd} (h : OpIn w o d) (e : Ev K w o w' o') (hk : ¬ K 15) : OpIn w' o' d := by
  by_cases e9 : d.t.cols = []
  · exact ⟨h.on, h.i, by rw [e9]; exact SL.nil _ _, h.no, fun h => absurd e9 h, h.le⟩
  · obtain ⟨g, q, e1, ha⟩ := h.sl (f3_nil _ _ _ e9)
    have hlt := ha.lt (f3_nil _ _ _ e9)
    refine ⟨h.on, h.i, h.sl.tch e.tch (fun g q eg hs => hk (by rw [← h.ar e9 g q eg]; exact hs)), h.no, fun _ g' q' e2 => ?_, h.le⟩
    have eg : g' = g := by rw [e1] at e2; injection e2 with e2; injection e2 with e2; exact e2.symm
    subst eg
    rw [e.old g' hlt (by rw [h.ar e9 g' q e1]; exact hk)]
    exact h.ar e9 g' q e1
/-- What a step gives: B is how much may have come out more. -/
def StOut (w : World) (o : Nat → Nat) (b : Nat) (C T : List Value) (n TB : Nat) (w' : World) : Prop :=
  ∃ o' cur' C' T' cv' tv' lo' n' lc' L', PQ w' o' b cur' C' T' cv' tv' lo' n' lc' L' (TB + 1) ∧ C'.length + 20 * n' ≤ C.length + 20 * n + 40 * (TB + 1) ∧ T'.length ≤ T.length + 40 ∧ Ev (fun j => j ≠ 15) w o w' o'
theorem atT_le {w : World} {F : Nat → Prop} {b : Nat} {h : Hs} (H : HF w F b h) (x i : Int) : (atT h x i).cols.length ≤ 8 := by
  obtain ⟨mb, sb, ns, H⟩ := H
  unfold atT
  split
  · rename_i e
    have hth : (wasL (h.K i) x).th = true := by
      unfold atE at e
      split at e
      · cases e
      · split at e
        · rename_i h2; exact h2
        · cases e
    exact (H.nt i _ (wasL_th hth).2).le
  · exact Nat.zero_le _
theorem tells_le {w : World} {F : Nat → Prop} {b : Nat} {h : Hs} (H : HF w F b h) (x : Int) (S : List Int) : ∀ t ∈ tells h x S, t.cols.length ≤ 8 := fun t ht => by
  obtain ⟨mb, sb, ns, H⟩ := H
  unfold tells at ht
  obtain ⟨i, hi, rfl⟩ := List.mem_map.1 ht
  exact (H.nt i _ (wasL_th (List.mem_filter.1 hi).2).2).le
theorem HF.szT {w : World} {F : Nat → Prop} {b : Nat} {h : Hs} (H : HF w F b h) : h.sz ≤ h.T := by obtain ⟨mb, sb, ns, H⟩ := H; exact H.sz
theorem add_T (h : Hs) (i : Int) (n : Nt) : (h.add i n).T = h.T + 1 := rfl
theorem gone_T (h : Hs) (x i : Int) : (h.gone x i).T ≤ h.T + 1 := by
  unfold Hs.gone
  split
  · exact Nat.le_refl _
  · omega
end Go.Proofs.Ytkcmpipipelgoaa
