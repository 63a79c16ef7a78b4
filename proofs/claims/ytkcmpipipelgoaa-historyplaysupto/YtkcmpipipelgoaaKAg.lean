import Derived.Test.YtkcmpipipelgoaaKLw
/- ages, as it goes on. -/
namespace Go.Proofs.Ytkcmpipipelgoaa
open Go.RowKit Go

theorem fr_at {W : World} {lo : Option Addr} {n lc : Nat} {L : List Fr} (h : W.ownsRow 0 108 11 (.slice lo n lc) n (fcl L)) (hn : n = L.length) {k : Nat} {f : Fr} (hk : L[k]? = some f) : ∃ g, lo = some ⟨g, 0, none⟩ ∧ ∀ j u, f.cs[j]? = some u → j < 11 → W.cell? ⟨g, k * 11 + j, none⟩ = some u := by
  have hlt := (List.getElem?_eq_some_iff.1 hk).1
  obtain ⟨g, e, _, hat⟩ := own_at h (by omega)
  refine ⟨g, e, fun j u hu hj => ?_⟩
  have := hat (k * 11 + j) u (by rw [fcl_get _ _ _ _ hk hj]; exact hu)
  rwa [Nat.zero_add] at this
abbrev Apart (L : List Fr) : Prop := L.Pairwise (fun a c => ∀ g, a.v.ownBlock = some g → c.v.ownBlock ≠ some g)
abbrev FrOk (w : World) (o : Nat → Nat) (f : Fr) : Prop := RowC w o 9 f.v f.t.cols ∧ RowC w o 10 f.u f.t.cols ∧ f.t.cols.length ≤ 8 ∧ 0 ≤ f.a ∧ f.a ≤ 1
/-- Of the list L those in D are still to be gone through; R are kept. -/
structure AG (w : World) (o : Nat → Nat) (b : Nat) (cur : Array Value) (C T : List Value) (cv tv : Value) (lo : Option Addr) (n lc : Nat) (L D R : List Fr) (ro : Option Addr) (rn rc : Nat) : Prop where
  blk : w.heap[b]? = some (.cells cur 59 (0, 0))
  sz : cur.size = 8
  own : o b = 5
  c4 : cur[4]? = some cv
  c5 : cur[5]? = some tv
  c6 : cur[6]? = some (.slice lo n lc)
  cs : LSb 34 w (fun i => o i ≠ 6) b mkC C cv
  ts : LSb 41 w (fun i => o i ≠ 7) b mkT T tv
  c20 : C.length % 20 = 0
  t20 : T.length % 20 = 0
  fl : w.ownsRow 0 108 11 (.slice lo n lc) n (fcl L)
  fo : ∀ g, ob lo = some g → o g = 8
  len : n = L.length
  rl : w.ownsRow 0 108 11 (.slice ro rn rc) rn (fcl R)
  rlen : rn = R.length
  rf : ∀ g, ob ro = some g → o g = 8 ∧ ob lo ≠ some g
  fv : ∀ f ∈ R ++ D, FrOk w o f
  ap : Apart (R ++ D)
theorem LW.ag {w : World} {o : Nat → Nat} {b : Nat} {cur : Array Value} {C T : List Value} {cv tv : Value} {lo : Option Addr} {n lc : Nat} {L : List Fr} (h : LW w o b cur C T cv tv lo n lc L) : AG w o b cur C T cv tv lo n lc L L [] none 0 0 :=
  ⟨h.blk, h.sz, h.own, h.c4, h.c5, h.c6, h.cs, h.ts, h.c20, h.t20, h.fl, h.fo, h.len, World.ownsRow_nil _ _ _ _, rfl, (fun g e => by cases e), h.fv, h.ap⟩
theorem AG.ev {K : Nat → Prop} {w w' : World} {o o' : Nat → Nat} {b : Nat} {cur : Array Value} {C T : List Value} {cv tv : Value} {lo : Option Addr} {n lc : Nat} {L D R : List Fr} {ro : Option Addr} {rn rc : Nat} (h : AG w o b cur C T cv tv lo n lc L D R ro rn rc) (e : Ev K w o w' o') (hk : ∀ j, 5 ≤ j → j ≤ 10 → ¬ K j) : AG w' o' b cur C T cv tv lo n lc L D R ro rn rc := by
  have hbl := blk_lt h.blk
  have hKb : ¬ K (o b) := by rw [h.own]; exact hk 5 (by omega) (by omega)
  have k8 : ¬ K 8 := hk 8 (by omega) (by omega)
  refine ⟨(e.tch.block b hbl hKb).trans h.blk, h.sz, by rw [e.old b hbl hKb, h.own], h.c4, h.c5, h.c6, h.cs.ev e (hk 6 (by omega) (by omega)), h.ts.ev e (hk 7 (by omega) (by omega)), h.c20, h.t20, own_tch h.fl e.tch (fun g hg hs => ?_), fun g hg => ?_, h.len, own_tch h.rl e.tch (fun g hg hs => ?_), h.rlen, fun g hg => ⟨?_, (h.rf g hg).2⟩, fun f hf => ?_, h.ap⟩
  · rw [ob_eq] at hg
    rw [h.fo g hg] at hs
    exact k8 hs
  · rw [e.old g (h.fl.lt g (by rw [ob_eq]; exact hg)).2 (by rw [h.fo g hg]; exact k8), h.fo g hg]
  · rw [ob_eq] at hg
    rw [(h.rf g hg).1] at hs
    exact k8 hs
  · rw [e.old g (h.rl.lt g (by rw [ob_eq]; exact hg)).2 (by rw [(h.rf g hg).1]; exact k8), (h.rf g hg).1]
  · obtain ⟨h1, h2, h3⟩ := h.fv f hf
    exact ⟨h1.ev e (hk 9 (by omega) (by omega)), h2.ev e (hk 10 (by omega) (by omega)), h3⟩
theorem Mk.ev {w w' : World} {o o' : Nat → Nat} {V : Nat → Prop} (h : Mk w o w' o' V) (hV : ∀ i, V i → o i = 9) : Ev (fun j => j = 5 ∨ j = 6 ∨ j = 9) w o w' o' := by
  refine ⟨h.tch.mono (fun i _ hi => by rcases hi with e | e | e; omega; omega; have := hV i e; omega), fun i hi hn => h.old i hi (fun hv => hn (by have := hV i hv; omega)), fun i hi hk => ?_, fun i hi hl => by have := h.new i hi; omega⟩
  by_cases hv : V i
  · have := h.vs i hv; omega
  · rw [h.old i hi hv]; exact hk
/-- One is marked. -/
theorem AG.mark {w w' : World} {o o' : Nat → Nat} {b : Nat} {cur : Array Value} {C C' T : List Value} {cv cv' tv : Value} {lo : Option Addr} {n lc : Nat} {L D R : List Fr} {f : Fr} {ro : Option Addr} {rn rc : Nat} (h : AG w o b cur C T cv tv lo n lc L (f :: D) R ro rn rc) (hC : C'.length = C.length + 20) (hb : w'.heap[b]? = some (.cells (cur.setIfInBounds 4 cv') 59 (0, 0))) (hL : LSb 34 w' (fun i => o' i ≠ 6) b mkC C' cv') (hm : Mk w o w' o' (fun i => f.v.ownBlock = some i)) :
    AG w' o' b (cur.setIfInBounds 4 cv') C' T cv' tv lo n lc L D R ro rn rc ∧ Ev (fun j => j = 5 ∨ j = 6 ∨ j = 9) w o w' o' := by
  have hf9 : ∀ i, f.v.ownBlock = some i → o i = 9 := (h.fv f (List.mem_append_right _ (.head _))).1.lab
  have e := hm.ev hf9
  have hnv : ∀ i, o i ≠ 9 → ¬ f.v.ownBlock = some i := fun i hi hv => hi (hf9 i hv)
  have hold : ∀ i, i < w.heap.size → o i ≠ 9 → o' i = o i := fun i hi h9 => hm.old i hi (hnv i h9)
  refine ⟨⟨hb, by rw [Array.size_setIfInBounds]; exact h.sz, by rw [hold b (blk_lt h.blk) (by rw [h.own]; decide), h.own], by rw [Array.getElem?_setIfInBounds_self_of_lt (by rw [h.sz]; decide)], by rw [Array.getElem?_setIfInBounds_ne (by decide)]; exact h.c5, by rw [Array.getElem?_setIfInBounds_ne (by decide)]; exact h.c6, hL, h.ts.ev e (by omega), by rw [hC]; have := h.c20; omega, h.t20, own_tch h.fl e.tch (fun g hg hs => ?_), fun g hg => ?_, h.len, own_tch h.rl e.tch (fun g hg hs => ?_), h.rlen, fun g hg => ⟨?_, (h.rf g hg).2⟩, fun d hd => ?_, ?_⟩, e⟩
  · rw [ob_eq] at hg; have := h.fo g hg; omega
  · rw [hold g (h.fl.lt g (by rw [ob_eq]; exact hg)).2 (by rw [h.fo g hg]; decide), h.fo g hg]
  · rw [ob_eq] at hg; have := (h.rf g hg).1; omega
  · rw [hold g (h.rl.lt g (by rw [ob_eq]; exact hg)).2 (by rw [(h.rf g hg).1]; decide), (h.rf g hg).1]
  · have hd' : d ∈ R ++ f :: D := by
      rcases List.mem_append.1 hd with e | e
      · exact List.mem_append_left _ e
      · exact List.mem_append_right _ (.tail _ e)
    obtain ⟨h1, h2, h3⟩ := h.fv d hd'
    have hne : ∀ g, d.v.ownBlock = some g → ¬ f.v.ownBlock = some g := fun g hg hv => by
      have hp := List.pairwise_append.1 h.ap
      rcases List.mem_append.1 hd with e | e
      · exact hp.2.2 d e f (.head _) g hg hv
      · exact (List.pairwise_cons.1 hp.2.1).1 d e g hv hg
    refine ⟨⟨own_tch h1.row hm.tch (fun g hg e2 => ?_), fun g hg => ?_⟩, h2.ev e (by omega), h3⟩
    · have := h1.lab g hg
      rcases e2 with e2 | e2 | e2
      · omega
      · omega
      · exact hne g hg e2
    · rw [hm.old g (h1.row.lt g hg).2 (hne g hg)]; exact h1.lab g hg
  · have hp := List.pairwise_append.1 h.ap
    exact List.pairwise_append.2 ⟨hp.1, (List.pairwise_cons.1 hp.2.1).2, fun a ha d hd => hp.2.2 a ha d (.tail _ hd)⟩
/-- One is kept, a step older. -/
theorem AG.keep {w w' : World} {o : Nat → Nat} {b : Nat} {cur : Array Value} {C T : List Value} {cv tv : Value} {lo : Option Addr} {n lc : Nat} {L D R : List Fr} {f : Fr} {ro ro' : Option Addr} {rn rc rc' : Nat} (h : AG w o b cur C T cv tv lo n lc L (f :: D) R ro rn rc) (hr : w'.ownsRow 0 108 11 (.slice ro' (rn + 1) rc') (rn + 1) (fcl (R ++ [⟨f.t, f.v, f.u, 1⟩]))) (t : Tch (fun g => ob ro = some g) w w') (hat : ob ro' = ob ro ∨ ∃ g, ob ro' = some g ∧ w.heap.size ≤ g ∧ g < w'.heap.size) :
    ∃ o', AG w' o' b cur C T cv tv lo n lc L D (R ++ [⟨f.t, f.v, f.u, 1⟩]) ro' (rn + 1) rc' ∧ Ev (fun j => j = 0 ∨ j = 8) w o w' o' := by
  let o' : Nat → Nat := fun i => if i < w.heap.size then o i else if ob ro' = some i then 8 else 0
  have old : ∀ i, i < w.heap.size → o' i = o i := fun i hi => if_pos hi
  have new : ∀ i, w.heap.size ≤ i → o' i = 0 ∨ o' i = 8 := fun i hi => by
    show (if i < w.heap.size then o i else if ob ro' = some i then 8 else 0) = 0 ∨ (if i < w.heap.size then o i else if ob ro' = some i then 8 else 0) = 8
    rw [if_neg (by omega)]
    split <;> omega
  have new8 : ∀ i, w.heap.size ≤ i → ob ro' = some i → o' i = 8 := fun i hi e => by
    show (if i < w.heap.size then o i else if ob ro' = some i then 8 else 0) = 8
    rw [if_neg (by omega), if_pos e]
  have e : Ev (fun j => j = 0 ∨ j = 8) w o w' o' := ⟨t.mono (fun i _ hi => .inr (h.rf i hi).1), fun i hi _ => old i hi, fun i hi hk => by rw [old i hi]; exact hk, fun i hi _ => new i hi⟩
  have hbl := blk_lt h.blk
  have hl8 : ∀ g, ob lo = some g → ob ro ≠ some g := fun g hg e => (h.rf g e).2 hg
  refine ⟨o', ⟨(t.block b hbl (fun e => by have := (h.rf b e).1; rw [h.own] at this; omega)).trans h.blk, h.sz, by rw [old b hbl, h.own], h.c4, h.c5, h.c6, h.cs.ev e (by omega), h.ts.ev e (by omega), h.c20, h.t20, own_tch h.fl t (fun g hg hs => ?_), fun g hg => ?_, h.len, hr, by rw [List.length_append, ← h.rlen]; rfl, fun g hg => ?_, fun d hd => ?_, ?_⟩, e⟩
  · rw [ob_eq] at hg; exact hl8 g hg hs
  · rw [old g (h.fl.lt g (by rw [ob_eq]; exact hg)).2]; exact h.fo g hg
  · rcases hat with e1 | ⟨g', e1, e2, _⟩
    · rw [e1] at hg
      exact ⟨by rw [old g (h.rl.lt g (by rw [ob_eq]; exact hg)).2]; exact (h.rf g hg).1, (h.rf g hg).2⟩
    · have eg : g = g' := by rw [e1] at hg; injection hg with hg; exact hg.symm
      refine ⟨new8 g (by omega) hg, fun e3 => ?_⟩
      have := (h.fl.lt g (by rw [ob_eq]; exact e3)).2
      omega
  · have key : ∀ d, d ∈ R ++ f :: D → FrOk w' o' d := fun d hd => by
      obtain ⟨h1, h2, h3⟩ := h.fv d hd
      exact ⟨h1.ev e (by omega), h2.ev e (by omega), h3⟩
    rcases List.mem_append.1 hd with e1 | e1
    · rcases List.mem_append.1 e1 with e2 | e2
      · exact key d (List.mem_append_left _ e2)
      · rw [List.mem_singleton.1 e2]
        obtain ⟨h1, h2, h3, _⟩ := key f (List.mem_append_right _ (.head _))
        exact ⟨h1, h2, h3, by show (0 : Int) ≤ 1; omega, by show (1 : Int) ≤ 1; omega⟩
    · exact key d (List.mem_append_right _ (.tail _ e1))
  · have hp := List.pairwise_append.1 h.ap
    have hc := List.pairwise_cons.1 hp.2.1
    refine List.pairwise_append.2 ⟨List.pairwise_append.2 ⟨hp.1, List.pairwise_singleton _ _, fun a ha d hd => ?_⟩, hc.2, fun a ha d hd => ?_⟩
    · rw [List.mem_singleton.1 hd]
      exact hp.2.2 a ha f (.head _)
    · rcases List.mem_append.1 ha with e1 | e1
      · exact hp.2.2 a e1 d (.tail _ hd)
      · rw [List.mem_singleton.1 e1]
        exact hc.1 d hd
/-- All are gone through: the list is laid down. -/
theorem AG.done {w : World} {o : Nat → Nat} {b : Nat} {cur : Array Value} {C T : List Value} {cv tv : Value} {lo : Option Addr} {n lc : Nat} {L R : List Fr} {ro : Option Addr} {rn rc : Nat} (h : AG w o b cur C T cv tv lo n lc L [] R ro rn rc) :
    LW (w.setCell ⟨b, 6, none⟩ (.slice ro rn rc)) o b (cur.setIfInBounds 6 (.slice ro rn rc)) C T cv tv ro rn rc R ∧ Ev (fun j => j = 5) w o (w.setCell ⟨b, 6, none⟩ (.slice ro rn rc)) o := by
  have t : Tch (fun g => g = b) w (w.setCell ⟨b, 6, none⟩ (.slice ro rn rc)) := Tch.setCell (fun g => g = b) w ⟨b, 6, none⟩ _ rfl
  have e : Ev (fun j => j = 5) w o (w.setCell ⟨b, 6, none⟩ (.slice ro rn rc)) o := ⟨t.mono (fun i _ hi => by rw [show i = b from hi]; exact h.own), fun _ _ _ => rfl, fun _ _ h => h, fun i hi hl => by rw [World.size_setCell] at hl; omega⟩
  refine ⟨⟨blk_set h.blk _, by rw [Array.size_setIfInBounds]; exact h.sz, h.own, by rw [Array.getElem?_setIfInBounds_ne (by decide)]; exact h.c4, by rw [Array.getElem?_setIfInBounds_ne (by decide)]; exact h.c5, by rw [Array.getElem?_setIfInBounds_self_of_lt (by rw [h.sz]; decide)], h.cs.ev e (by omega), h.ts.ev e (by omega), h.c20, h.t20, own_tch h.rl e.tch (fun g hg hs => ?_), fun g hg => (h.rf g hg).1, h.rlen, fun f hf => ?_, ?_⟩, e⟩
  · rw [ob_eq] at hg; have := (h.rf g hg).1; omega
  · obtain ⟨h1, h2, h3⟩ := h.fv f (List.mem_append_left _ hf)
    exact ⟨h1.ev e (by omega), h2.ev e (by omega), h3⟩
  · have := h.ap
    rw [List.append_nil] at this
    exact this
end Go.Proofs.Ytkcmpipipelgoaa
