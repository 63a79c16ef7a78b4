import Derived.Test.YtjbehnoococelaaMLay2
/- lay, ahead of the middle. -/
namespace Go.Proofs.Ytjbehnoococelaa
open Go.RowKit Go Go.Maps

/-- Ahead of the chain: its table is there. -/
structure Pre (w : World) (hb mb tb : Nat) (E : List En) (C : Nat → Ch) (σ : Nat → Option Nat) (q : Nat) (k : Int) (S : ByteArray) (z : VV) (W : World) (T1 : List (Int × Nat)) (σ1 : Nat → Option Nat) (l N : Nat) : Prop where
  hw : HW W hb mb tb T1 E C σ1 (q + 1)
  me : (k, l) ∈ T1
  sg : ∀ i, σ i ≠ none → σ1 i = σ i
  sn : ∀ i, i < w.heap.size → σ i = none → σ1 i = none
  h : W.heap[N]? = some (.cells #[.pointer (some ⟨hb, 0, none⟩)] 29 (0, 0))
  t : W.heap[N + 1]? = some (.cells #[.int .i64 k] 3 (0, 0))
  k : W.heap[N + 1 + 1]? = some (.cells #[.string S] 9 (0, 0))
  v : W.heap[N + 1 + 1 + 1]? = some (.cells #[.int .i64 z.1.wr, .bool z.1.th, .slice z.2.1 z.1.n z.2.2] 84 (0, 0))
  lh : σ1 N = none
  lt : σ1 (N + 1) = none
  lk : σ1 (N + 1 + 1) = none
  lv : σ1 (N + 1 + 1 + 1) = none
  zok : VOK W σ1 z
  tch : Tch (fun i => σ i ≠ none) w W
/-- The box of c, a chain with nothing. -/
def vW (W : World) : World := (W.alloc (.cells #[.pointer (some ⟨W.heap.size + 1, 0, none⟩)] 80)).alloc (.cells #[.slice none 0 0] 82)
theorem Pre.next {w : World} {hb mb tb : Nat} {E : List En} {C : Nat → Ch} {σ : Nat → Option Nat} {q : Nat} {k : Int} {S : ByteArray} {z : VV} {W : World} {T1 : List (Int × Nat)} {σ1 : Nat → Option Nat} {l N : Nat} (p : Pre w hb mb tb E C σ q k S z W T1 σ1 l N) (hS : S.size ≤ maxLen) (he : lkE E k S.data.toList = none) (hq : q ≤ 1000) :
    ∃ w3, (Instr.mapUpdate 79 (.map (some l)) (.string S) (.pointer (some ⟨W.heap.size + 1, 0, none⟩))).run Try.prog (vW W) = .ok () w3 ∧
      Mid w hb mb tb E C σ q k S z w3 T1 (E ++ [⟨k, S.data.toList, W.heap.size + 1⟩]) (upB C (W.heap.size + 1) (none, 0, [])) (upB σ1 (W.heap.size + 1) (some (2 * (W.heap.size + 1) + 1))) (W.heap.size + 1) W.heap.size N (N + 1) (N + 1 + 1) (N + 1 + 1 + 1) := by
  have hfre : ∀ i, W.heap.size ≤ i → σ1 i = none := fun i hi => by
    cases hs : σ1 i with
    | none => rfl
    | some a => exact absurd (p.hw.dom i (by rw [hs]; exact fun h => by cases h)) (by omega)
  have tV : Tch (fun _ => False) W (vW W) := (Tch.alloc _ _ _).allocR _
  have hc : (vW W).heap[W.heap.size]? = some (.cells #[.pointer (some ⟨W.heap.size + 1, 0, none⟩)] 80 (0, 0)) := by
    unfold vW
    rw [(Tch.alloc (fun _ => False) (W.alloc (.cells #[.pointer (some ⟨W.heap.size + 1, 0, none⟩)] 80)) _).block _ (by simp) (fun h => h)]; exact alloc_new _ _
  have hch : (vW W).heap[W.heap.size + 1]? = some (.cells #[.slice none 0 0] 82 (0, 0)) := by
    have := alloc_new (W.alloc (.cells #[.pointer (some ⟨W.heap.size + 1, 0, none⟩)] 80)) (.cells #[.slice none 0 0] 82)
    rwa [World.size_alloc] at this
  obtain ⟨w3, hrun, hw3, t3⟩ := (p.hw.no tV).addE p.me hS he (by omega) hch (hfre _ (by omega))
  have lne : ∀ b (o : Obj), W.heap[b]? = some o → σ1 b = none → w3.heap[b]? = some o := fun b o h0 h1 => by
    have hb := (Array.getElem?_eq_some_iff.1 h0).1
    rw [t3.block b (Nat.lt_of_lt_of_le hb tV.size) (fun e => by have := (p.hw.inn _ p.me).1; simp only at this; rw [← e, h1] at this; cases this), tV.block b hb (fun h => h)]; exact h0
  have hll : l < W.heap.size := by obtain ⟨_, D, hD, _⟩ := p.hw.inn _ p.me; exact hD.lt
  have t7 : Tch (fun i => i = l) W w3 := (tV.mono (fun _ _ h => h.elim)).trans t3 (fun _ _ h => h)
  refine ⟨w3, hrun, { hw := hw3, me := List.mem_append.2 (.inr (List.mem_singleton.2 rfl)), old := .inr ⟨rfl, he, by rw [upB_same]⟩, oth := fun e he' hn => upB_other _ _ hn, sg := fun i hi => ?_, sn := fun i hi h0 => ?_, c := ?_, h := lne _ _ p.h p.lh, t := lne _ _ p.t p.lt, k := lne _ _ p.k p.lk, v := lne _ _ p.v p.lv, lc := ?_, lh := ?_, lt := ?_, lk := ?_, lv := ?_, zok := ?_, tch := ?_ }⟩
  · rw [upB_other _ _ (fun e => by have := p.sg i hi; rw [e, hfre _ (by omega)] at this; exact hi (by rw [e]; exact this.symm))]; exact p.sg i hi
  · rw [upB_other _ _ (by have := p.tch.size; omega)]; exact p.sn i hi h0
  · rw [t3.block _ (blk_lt hc) (by omega)]; exact hc
  · rw [upB_other _ _ (by omega)]; exact hfre _ (Nat.le_refl _)
  · rw [upB_other _ _ (by have := blk_lt p.h; omega)]; exact p.lh
  · rw [upB_other _ _ (by have := blk_lt p.t; omega)]; exact p.lt
  · rw [upB_other _ _ (by have := blk_lt p.k; omega)]; exact p.lk
  · rw [upB_other _ _ (by have := blk_lt p.v; omega)]; exact p.lv
  · refine p.zok.tch t7 (fun g hg e j hj => ?_) (fun i hi hn => upB_other _ _ (by omega))
    have := (p.hw.inn _ p.me).1
    simp only at this
    rw [← e, hj] at this
    injection this with this
    omega
  · refine p.tch.trans t7 (fun i hi e h0 => ?_)
    have := (p.hw.inn _ p.me).1
    simp only at this
    rw [← e, p.sn i hi h0] at this
    cases this
end Go.Proofs.Ytjbehnoococelaa
