import Derived.Test.YtblhmjndegfofaaCDoc
import Derived.Test.YtblhmjndegfofaaCDod
import Derived.Test.YtblhmjndegfofaaCDoes
/- does. -/
namespace Go.Proofs.Ytblhmjndegfofaa
open Go.RowKit Go

theorem does_any (b : Nat) (L : List Tbl) (gv : Int) (P : List (Tbl × Value)) (to : Option Addr) (tc : Nat) (F : Nat → Prop) (d : Dd) (w : World) (h : CA w F b L gv P to tc) (hG : GI L gv) (hF : ∀ i, F i → i < w.heap.size) (hd : d.ok) :
    Calls Try.prog 17 #[.pointer (some ⟨b, 0, none⟩), .agg #[.int .i64 d.k, .int .i64 d.nm, .int .i64 d.n, .int .i64 d.m]] w fun x w' => x = .returned (.int .i64 (stE L gv d)) ∧ DO F b (stL L gv d) (stG L gv d) w w' := by
  have hb : b < w.heap.size := blk_lt h.blk
  have hPL : P.length = L.length := by have := congrArg List.length h.eq; simpa using this
  have hl : P.length ≤ 16 := by have := hG.len; omega
  have hPi : ∀ i (hi : i < P.length) (hj : i < L.length), P[i].1 = L[i] := fun i hi hj => by
    have h3 : (P.map Prod.fst)[i]? = L[i]? := by rw [h.eq]
    rw [List.getElem?_map, List.getElem?_eq_getElem hi, List.getElem?_eq_getElem hj] at h3
    simpa using h3
  have h8 : ∀ i (hi : i < P.length), P[i].1.cols.length ≤ 8 := fun i hi => by
    rw [hPi i hi (by omega)]
    exact cols_le (right_parts (hG.right L[i] (List.getElem_mem _))).2.2.2.1
  have hw : ∀ W (G : Nat → Prop), Tch (fun _ => False) w W → (∀ i, G i → w.heap.size ≤ i ∧ i < W.heap.size) → CA W (fun i => F i ∨ G i) b L gv P to tc ∧ ∀ i, F i ∨ G i → i < W.heap.size := fun W G tW hGb => by
    refine ⟨?_, fun i hi => hi.elim (fun h => Nat.lt_of_lt_of_le (hF i h) tW.size) (fun h => (hGb i h).2)⟩
    have h1 : CA w (fun i => F i ∨ G i) b L gv P to tc := h.fresh (fun i hi h2 => h2.elim id (fun h3 => by have := (hGb i h3).1; omega))
    exact h1.tch tW (fun _ _ h => h.elim)
  have hp4 : pk d.k 4 < 4 := by unfold pk; omega
  rcases (by omega : pk d.k 4 < 2 ∨ pk d.k 4 = 2 ∨ pk d.k 4 = 3) with hk | hk | hk
  · have eE : stE L gv d = creE L gv (nmS (pk d.nm 6)) (dCols d) (pk d.m 3 : Nat) := by unfold stE; rw [if_pos hk]
    have eL : stL L gv d = if stE L gv d = 0 then L ++ [creT gv (nmS (pk d.nm 6)) (dCols d) (pk d.m 3 : Nat)] else L := by
      unfold stL
      by_cases hE : stE L gv d = 0
      · rw [if_neg (fun e => e hE), if_pos hk, if_pos hE]
      · rw [if_pos hE, if_neg hE]
    have eG : stG L gv d = if stE L gv d = 0 then gv + 1 else gv := by
      unfold stG
      by_cases hE : stE L gv d = 0
      · rw [if_pos ⟨hE, hk⟩, if_pos hE]
      · rw [if_neg (fun e => hE e.1), if_neg hE]
    rw [eL, eG, eE]
    refine does_create b d _ F _ _ w hd hb hk (fun W g G tW hGb hat hg => ?_)
    obtain ⟨hca, hFW⟩ := hw W G tW hGb
    have q := create_any b L gv P to tc _ (nmS (pk d.nm 6)) (dCols d) (some ⟨g, 0, none⟩) 2 (pk d.m 3 : Nat) W hca hl h8 hFW (fun _ => ⟨g, 0, rfl, hat⟩) (fun e => by cases e) (by simp [dCols]) (by simp [dCols]) hG.low hG.high (fun g' o e _ => by injection e with e; injection e with e; omega)
    exact q.mono (fun y w' hy => chg_do hca hy)
  · have eG : stG L gv d = gv := by unfold stG; rw [if_neg (fun e => by omega)]
    rw [eG]
    have hno : ¬ pk d.k 4 < 2 := by omega
    rcases posT_cases (isN d) L with ⟨h1, _⟩ | ⟨k, hkl, h1, _, _⟩
    · have eE : stE L gv d = 52 := by unfold stE; rw [if_neg hno, if_pos hk, if_pos h1]
      have eL : stL L gv d = L := by unfold stL; rw [if_pos (by rw [eE]; decide)]
      rw [eL, eE]
      refine does_drop b d 52 (DO F b L gv) w hd hk (fun W tW => ?_) (fun W W' W'' t h t' => h.trans t t')
      have hca := h.tch tW (fun _ _ h => h.elim)
      have q := drop_none b L gv P to tc F (nmS (pk d.nm 6)) ⟨0, 0, ⟨#[]⟩, [], 0⟩ L W hca hl h8 (fun i hi => Nat.lt_of_lt_of_le (hF i hi) tW.size) (by rw [posP_T, h.eq]; exact h1)
      exact q.mono (fun y w' hy => chg_do hca hy)
    · have hp : ¬ posT (isN d) L = -1 := by rw [h1]; omega
      have eE : stE L gv d = 0 := by unfold stE; rw [if_neg hno, if_pos hk, if_neg hp]
      have eL : stL L gv d = L.eraseIdx k := by unfold stL; rw [if_neg (fun e => e eE), if_neg hno, if_pos hk, h1]; simp
      rw [eL, eE]
      refine does_drop b d 0 (DO F b (L.eraseIdx k) gv) w hd hk (fun W tW => ?_) (fun W W' W'' t h t' => h.trans t t')
      have hca := h.tch tW (fun _ _ h => h.elim)
      have q := drop_some b L gv P to tc F (nmS (pk d.nm 6)) k (by omega) W hca hl h8 (fun i hi => Nat.lt_of_lt_of_le (hF i hi) tW.size) (by rw [posP_T, h.eq]; exact h1)
      exact q.mono (fun y w' hy => chg_do hca hy)
  · have eG : stG L gv d = gv := by unfold stG; rw [if_neg (fun e => by omega)]
    rw [eG]
    have hno : ¬ pk d.k 4 < 2 := by omega
    have hno2 : ¬ pk d.k 4 = 2 := by omega
    rcases posT_cases (isN d) L with ⟨h1, _⟩ | ⟨k, hkl, h1, _, _⟩
    · have eE : stE L gv d = 52 := by unfold stE; rw [if_neg hno, if_neg hno2, if_pos h1]
      have eL : stL L gv d = L := by unfold stL; rw [if_pos (by rw [eE]; decide)]
      rw [eL, eE]
      refine does_widen b d 52 F L gv w hd hb hk (fun W G tW hGb => ?_)
      obtain ⟨hca, hFW⟩ := hw W G tW hGb
      have q := widen_none b L gv P to tc _ (nmS (pk d.nm 6)) (dCol d) ⟨0, 0, ⟨#[]⟩, [], 0⟩ L W hca hl h8 hFW (by rw [posP_T, h.eq]; exact h1)
      exact q.mono (fun y w' hy => chg_do hca hy)
    · have hp : ¬ posT (isN d) L = -1 := by rw [h1]; omega
      have hg : L.getD (posT (isN d) L).toNat ⟨0, 0, ⟨#[]⟩, [], 0⟩ = L[k] := by rw [h1]; simp [hkl]
      have eE : stE L gv d = widE L[k] (dCol d) := by unfold stE; rw [if_neg hno, if_neg hno2, if_neg hp, hg]
      have eL : stL L gv d = if stE L gv d = 0 then L.set k (widT L[k] (dCol d)) else L := by
        unfold stL
        by_cases hE : stE L gv d = 0
        · rw [if_neg (fun e => e hE), if_neg hno, if_neg hno2, if_pos hE, hg, h1]; simp
        · rw [if_pos hE, if_neg hE]
      rw [eL, eE]
      have hkP : k < P.length := by omega
      have e1 : P[k].1 = L[k] := hPi k hkP hkl
      have hv := num_of (right_parts (hG.right L[k] (List.getElem_mem _))).2.1
      have hGG : gv = (if widE L[k] (dCol d) = 0 then gv else gv) := by split <;> rfl
      rw [hGG]
      refine does_widen b d _ F _ _ w hd hb hk (fun W G tW hGb => ?_)
      obtain ⟨hca, hFW⟩ := hw W G tW hGb
      have q := widen_any b L gv P to tc _ (nmS (pk d.nm 6)) (dCol d) k hkP W hca hl h8 hFW (by rw [posP_T, h.eq]; exact h1) (by rw [e1]; omega)
      rw [e1] at q
      exact q.mono (fun y w' hy => chg_do hca hy)
end Go.Proofs.Ytblhmjndegfofaa
