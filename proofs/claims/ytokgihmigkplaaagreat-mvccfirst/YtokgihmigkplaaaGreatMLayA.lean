import Derived.Test.YtokgihmigkplaaaGreatMLay
set_option maxHeartbeats 4000000
set_option maxRecDepth 100000
namespace Go.Proofs.YtokgihmigkplaaaGreat
open Go.RowKit Go Go.Maps
theorem Mid.fin {w : World} {hb mb tb : Nat} {E : List En} {C : Nat → Ch} {σ : Nat → Option Nat} {q : Nat} {k : Int} {S : ByteArray} {z : VV} {W : World} {T' : List (Int × Nat)} {E' : List En} {C' : Nat → Ch} {σ' : Nat → Option Nat} {cb : Nat} {bc bh bt bk bv bw : Nat}
    (m : Mid w hb mb tb E C σ q k S z W T' E' C' σ' cb bc bh bt bk bv) {co : Option Addr} {cc : Nat} {zs : List VV} (hC : C' cb = (co, cc, zs)) (hw : W.heap[bw]? = some (.cells #[.slice co zs.length cc] 82 (0, 0))) (lw : σ' bw = none)
    {y : Value} {o5 : Option Addr} {c5 : Nat} {w5 : World} (hv : VC W (.slice co zs.length cc) zs.length (vrl zs) [.int .i64 z.1.wr, .bool z.1.th, .slice z.2.1 z.1.n z.2.2] [y, .slice o5 (zs.length + 1) c5] w5) (x : Ending)
    (hx : x = .returned (.tuple #[.slice co zs.length cc, .func (.func 90) #[] #[.pointer (some ⟨bc, 0, none⟩), .pointer (some ⟨bw, 0, none⟩), .pointer (some ⟨bh, 0, none⟩), .pointer (some ⟨bt, 0, none⟩), .pointer (some ⟨bk, 0, none⟩)]])) :
    LayOut w hb mb tb E C σ q k S z x (w5.setCell ⟨cb, 0, none⟩ (.slice o5 (zs.length + 1) c5)) := by
  obtain ⟨hcb, hlq⟩ := m.hw.chs _ m.me
  simp only [hC] at hcb hlq
  have tv := hv.tch
  obtain ⟨_, ⟨o6, c6, e6, hown, hat⟩, hwas⟩ := hv
  cases e6
  have hcb5 : w5.heap[cb]? = some (.cells #[.slice co zs.length cc] 82 (0, 0)) := by
    rw [tv.block cb (blk_lt hcb.blk) (fun e => row_ne hcb.row hcb.blk (by decide) e rfl)]; exact hcb.blk
  have tS : Tch (fun i => i = cb) w5 (w5.setCell ⟨cb, 0, none⟩ (.slice o5 (zs.length + 1) c5)) := Tch.setCell (fun i => i = cb) w5 ⟨cb, 0, none⟩ _ rfl
  have t7 : Tch (fun i => σ' i = some (2 * cb + 1)) W (w5.setCell ⟨cb, 0, none⟩ (.slice o5 (zs.length + 1) c5)) :=
    (tv.mono (fun i _ e => hcb.rl i e)).trans tS (fun i _ e => by rw [e]; exact hcb.lab)
  obtain ⟨σ'', hσ''⟩ : ∃ σ'' : Nat → Option Nat, σ'' = fun i => if (Value.slice o5 (zs.length + 1) c5).ownBlock = some i then some (2 * cb + 1) else σ' i := ⟨_, rfl⟩
  have hsg : ∀ i, σ' i ≠ none → σ'' i = σ' i := fun i hi => by
    rw [hσ'']
    by_cases e : (Value.slice o5 (zs.length + 1) c5).ownBlock = some i
    · simp only [e, if_true]
      rcases hat with e2 | ⟨g, e2, hg⟩
      · rw [e2] at e; exact (hcb.rl i e).symm
      · rw [e2] at e
        injection e with e
        subst e
        have := m.hw.dom _ hi
        omega
    · simp only [if_neg e]
  have hsn : ∀ i, i < W.heap.size → σ' i = none → σ'' i = none := fun i hi h0 => by
    rw [hσ'']
    by_cases e : (Value.slice o5 (zs.length + 1) c5).ownBlock = some i
    · exfalso
      rcases hat with e2 | ⟨g, e2, hg⟩
      · rw [e2] at e; rw [hcb.rl i e] at h0; cases h0
      · rw [e2] at e
        injection e with e
        omega
    · simp only [if_neg e]; exact h0
  have hlen : (zs ++ [z]).length = zs.length + 1 := by simp
  have hodd : ∀ g, g < W.heap.size → σ' g = some (2 * cb + 1) → ∀ j, σ' g ≠ some (2 * j) := fun g _ h j e => by rw [h] at e; injection e with e; omega
  have hok : ∀ z' ∈ zs, VOK (w5.setCell ⟨cb, 0, none⟩ (.slice o5 (zs.length + 1) c5)) σ'' z' := fun z' hz' => (hcb.ok z' hz').tch t7 hodd (fun i _ hi => hsg i hi)
  have hCB : CB (w5.setCell ⟨cb, 0, none⟩ (.slice o5 (zs.length + 1) c5)) σ'' cb o5 c5 (zs ++ [z]) := by
    refine ⟨(hsg cb (by rw [hcb.lab]; exact fun h => by cases h)).trans hcb.lab, ?_, ?_, fun g hg => ?_, fun z' hz' => ?_⟩
    · rw [blk_set hcb5, hlen]; rfl
    · rw [hlen, vrl_snoc]
      exact own_tch hown tS (fun g hg e => row_ne hown hcb5 (by decide) hg e)
    · rw [hlen] at hg
      rw [hσ'']
      simp only [hg, if_true]
    · rcases List.mem_append.1 hz' with h | h
      · exact hok z' h
      · obtain rfl := List.mem_singleton.1 h
        exact m.zok.tch t7 hodd (fun i _ hi => hsg i hi)
  have hdom : ∀ i, σ'' i ≠ none → i < (w5.setCell ⟨cb, 0, none⟩ (.slice o5 (zs.length + 1) c5)).heap.size := fun i hi => by
    rw [hσ''] at hi
    by_cases e : (Value.slice o5 (zs.length + 1) c5).ownBlock = some i
    · obtain ⟨cur, hc⟩ := own_blk hown e
      exact Nat.lt_of_lt_of_le (blk_lt hc) tS.size
    · simp only [if_neg e] at hi
      exact Nat.lt_of_lt_of_le (m.hw.dom i hi) t7.size
  have bx : ∀ b o, W.heap[b]? = some o → σ' b = none → (w5.setCell ⟨cb, 0, none⟩ (.slice o5 (zs.length + 1) c5)).heap[b]? = some o := fun b o h0 h1 => by
    rw [t7.block b (blk_lt h0) (fun e => by rw [h1] at e; cases e)]; exact h0
  refine ⟨T', E', _, σ'', cb, o5, c5, zs, bc, bw, bh, bt, bk, co, cc, hx, m.hw.setC t7 (m.hw.ene m.me) (fun p hp e => (m.hw.lne hp).2.2 _ m.me e) hsg hdom (by omega) (by rw [hlen]; omega) hCB, ⟨bx _ _ m.c m.lc, bx _ _ hw lw, bx _ _ m.h m.lh, bx _ _ m.t m.lt, bx _ _ m.k m.lk, own_tch hwas tS (fun g hg e => row_ne hwas hcb5 (by decide) hg e), fun g hg => ?_, hok, hsn _ (blk_lt m.c) m.lc, hsn _ (blk_lt hw) lw, hsn _ (blk_lt m.h) m.lh, hsn _ (blk_lt m.t) m.lt, hsn _ (blk_lt m.k) m.lk⟩, m.me, upB_same _ _ _, ?_, fun e he hn => ?_, fun i hi => ?_, fun i hi h0 => ?_, ?_⟩
  · exact (hsg g (by rw [hcb.rl g hg]; exact fun h => by cases h)).trans (hcb.rl g hg)
  · have := m.old
    rw [hC] at this
    exact this
  · rw [upB_other _ _ hn]; exact m.oth e he hn
  · rw [hsg i (by rw [m.sg i hi]; exact hi)]; exact m.sg i hi
  · exact hsn i (Nat.lt_of_lt_of_le hi m.tch.size) (m.sn i hi h0)
  · refine m.tch.trans t7 (fun i hi e h0 => ?_)
    rw [m.sn i hi h0] at e; cases e
end Go.Proofs.YtokgihmigkplaaaGreat
namespace Go.Proofs.YtokgihmigkplaaaGreat
open Go.RowKit Go Go.Maps
structure Pre (w : World) (hb mb tb : Nat) (E : List En) (C : Nat → Ch) (σ : Nat → Option Nat) (q : Nat) (k : Int) (S : ByteArray) (z : VV) (W : World) (T1 : List (Int × Nat)) (σ1 : Nat → Option Nat) (l N : Nat) : Prop where
  hw : HW W hb mb tb T1 E C σ1 (q + 1)
  me : (k, l) ∈ T1
  sg : ∀ i, σ i ≠ none → σ1 i = σ i
  sn : ∀ i, i < w.heap.size → σ i = none → σ1 i = none
  h : W.heap[N]? = some (.cells #[.pointer (some ⟨hb, 0, none⟩)] 40 (0, 0))
  t : W.heap[N + 1]? = some (.cells #[.int .i64 k] 3 (0, 0))
  k : W.heap[N + 1 + 1]? = some (.cells #[.string S] 9 (0, 0))
  v : W.heap[N + 1 + 1 + 1]? = some (.cells #[.int .i64 z.1.wr, .bool z.1.th, .slice z.2.1 z.1.n z.2.2] 79 (0, 0))
  lh : σ1 N = none
  lt : σ1 (N + 1) = none
  lk : σ1 (N + 1 + 1) = none
  lv : σ1 (N + 1 + 1 + 1) = none
  zok : VOK W σ1 z
  tch : Tch (fun i => σ i ≠ none) w W
def vW (W : World) : World := (W.alloc (.cells #[.pointer (some ⟨W.heap.size + 1, 0, none⟩)] 117)).alloc (.cells #[.slice none 0 0] 82)
theorem Pre.next {w : World} {hb mb tb : Nat} {E : List En} {C : Nat → Ch} {σ : Nat → Option Nat} {q : Nat} {k : Int} {S : ByteArray} {z : VV} {W : World} {T1 : List (Int × Nat)} {σ1 : Nat → Option Nat} {l N : Nat} (p : Pre w hb mb tb E C σ q k S z W T1 σ1 l N) (hS : S.size ≤ maxLen) (he : lkE E k S.data.toList = none) (hq : q ≤ 1000) :
    ∃ w3, (Instr.mapUpdate 116 (.map (some l)) (.string S) (.pointer (some ⟨W.heap.size + 1, 0, none⟩))).run Tryz.prog (vW W) = .ok () w3 ∧
      Mid w hb mb tb E C σ q k S z w3 T1 (E ++ [⟨k, S.data.toList, W.heap.size + 1⟩]) (upB C (W.heap.size + 1) (none, 0, [])) (upB σ1 (W.heap.size + 1) (some (2 * (W.heap.size + 1) + 1))) (W.heap.size + 1) W.heap.size N (N + 1) (N + 1 + 1) (N + 1 + 1 + 1) := by
  have hfre : ∀ i, W.heap.size ≤ i → σ1 i = none := fun i hi => by
    cases hs : σ1 i with
    | none => rfl
    | some a => exact absurd (p.hw.dom i (by rw [hs]; exact fun h => by cases h)) (by omega)
  have tV : Tch (fun _ => False) W (vW W) := (Tch.alloc _ _ _).allocR _
  have hc : (vW W).heap[W.heap.size]? = some (.cells #[.pointer (some ⟨W.heap.size + 1, 0, none⟩)] 117 (0, 0)) := by
    unfold vW
    rw [(Tch.alloc (fun _ => False) (W.alloc (.cells #[.pointer (some ⟨W.heap.size + 1, 0, none⟩)] 117)) _).block _ (by simp) (fun h => h)]; exact alloc_new _ _
  have hch : (vW W).heap[W.heap.size + 1]? = some (.cells #[.slice none 0 0] 82 (0, 0)) := by
    have := alloc_new (W.alloc (.cells #[.pointer (some ⟨W.heap.size + 1, 0, none⟩)] 117)) (.cells #[.slice none 0 0] 82)
    rwa [World.size_alloc] at this
  obtain ⟨w3, hrun, hw3, t3⟩ := (p.hw.no tV).addE p.me hS he (by omega) hch (hfre _ (by omega))
  have lne : ∀ b (o : Obj), W.heap[b]? = some o → σ1 b = none → w3.heap[b]? = some o := fun b o h0 h1 => by
    have hb := (Array.getElem?_eq_some_iff.1 h0).1
    rw [t3.block b (Nat.lt_of_lt_of_le hb tV.size) (fun e => by have := (p.hw.inn _ p.me).1; simp only at this; rw [← e, h1] at this; cases this), tV.block b hb (fun h => h)]; exact h0
  have hll : l < W.heap.size := by obtain ⟨_, D, hD, _⟩ := p.hw.inn _ p.me; exact hD.lt
  have t7 : Tch (fun i => i = l) W w3 := (tV.mono (fun _ _ h => h.elim)).trans t3 (fun _ _ h => h)
  refine ⟨w3, hrun, { hw := hw3, me := List.mem_append.2 (.inr (List.mem_singleton.2 rfl)), old := .inr ⟨rfl, he, by rw [upB_same]⟩, oth := fun e he' hn => upB_other _ _ hn, sg := fun i hi => ?_, sn := fun i hi h0 => ?_, c := ?_, h := lne _ _ p.h p.lh, t := lne _ _ p.t p.lt, k := lne _ _ p.k p.lk, v := lne _ _ p.v p.lv, lc := ?_, lh := ?_, lt := ?_, lk := ?_, lv := ?_, zok := ?_, tch := ?_ }⟩
  · rw [upB_other _ _ (fun e => by have := p.sg i hi; rw [e, hfre _ (by omega)] at this; exact hi (by rw [e]; exact this.symm))]; exact p.sg i hi
  · rw [upB_other _ _ (by have := p.tch.size; omega)]; exact p.sn i hi h0
  · rw [t3.block _ (blk_lt hc) (by omega)]; exact hc
  · rw [upB_other _ _ (by omega)]; exact hfre _ (Nat.le_refl _)
  · rw [upB_other _ _ (by have := blk_lt p.h; omega)]; exact p.lh
  · rw [upB_other _ _ (by have := blk_lt p.t; omega)]; exact p.lt
  · rw [upB_other _ _ (by have := blk_lt p.k; omega)]; exact p.lk
  · rw [upB_other _ _ (by have := blk_lt p.v; omega)]; exact p.lv
  · refine p.zok.tch t7 (fun g hg e j hj => ?_) (fun i hi hn => upB_other _ _ (by omega))
    have := (p.hw.inn _ p.me).1
    simp only at this
    rw [← e, hj] at this
    injection this with this
    omega
  · refine p.tch.trans t7 (fun i hi e h0 => ?_)
    have := (p.hw.inn _ p.me).1
    simp only at this
    rw [← e, p.sn i hi h0] at this
    cases this
end Go.Proofs.YtokgihmigkplaaaGreat
namespace Go.Proofs.YtokgihmigkplaaaGreat
open Go.RowKit Go Go.Sort Go.Maps
def tidE (E : List En) (k : Int) (s : List UInt8) (zs : List VV) : List En := if zs = [] then E.filter (fun e => decide (¬ (e.k = k ∧ e.s = s))) else E
theorem tidy_any (w : World) (hb mb tb : Nat) (T : List (Int × Nat)) (E : List En) (C : Nat → Ch) (σ : Nat → Option Nat) (q : Nat) (h : HW w hb mb tb T E C σ q) (k : Int) (h1 : -9223372036854775808 ≤ k) (h2 : k ≤ 9223372036854775807) (S : ByteArray) (hS : S.size ≤ maxLen) (cb : Nat) (me : (⟨k, S.data.toList, cb⟩ : En) ∈ E) (co : Option Addr) (cc : Nat) (zs : List VV) (hC : C cb = (co, cc, zs)) :
    Calls Tryz.prog 56 #[.pointer (some ⟨hb, 0, none⟩), .int .i64 k, .string S] w fun x w' => x = .returned (.tuple #[]) ∧ (∃ T', HW w' hb mb tb T' (tidE E k S.data.toList zs) C σ q) ∧ Tch (fun i => σ i ≠ none) w w' := by
  have c1 := h.c1
  obtain ⟨l, hl⟩ : ∃ l, lkT T k = some l := by
    cases hl : lkT T k with
    | some l => exact ⟨l, rfl⟩
    | none => have := h.noT hl S.data.toList; rw [lkE_of_mem h.ek me] at this; cases this
  have hlm := lkT_mem hl
  have gl := h.look h1 h2
  rw [hl] at gl
  have gk := h.look2 hlm hS
  simp only at gk
  rw [lkE_of_mem h.ek me] at gk
  simp only [ptrV, mapV] at gl gk
  obtain ⟨hcb, hlq⟩ := h.chs _ me
  simp only [hC] at hcb hlq
  have ec : w.cell? ⟨cb, 0, none⟩ = some (.slice co zs.length cc) := by rw [blk_cell hcb.blk]; rfl
  obtain ⟨n, hlen, hn0⟩ := h.len hlm
  have hlab := (h.inn _ hlm).1
  simp only at hlab
  have hlb' : σ l ≠ none := by rw [hlab]; exact fun h => by cases h
  by_cases hz : zs = []
  · have HE : Hid (tidE E k S.data.toList zs = E.filter (fun e => decide (¬ (e.k = k ∧ e.s = S.data.toList)))) := by show _ = _; simp [tidE, hz]
    obtain ⟨w1, hd, hw1, t1⟩ := h.delE hlm hS 0
    have c1' := hw1.c1
    obtain ⟨n1, hlen1, hn1⟩ := hw1.len hlm
    obtain ⟨w2, hd2, hw2, t2⟩ := hw1.dropT h1 h2 0
    rw [hz] at ec
    simp only [List.length_nil] at ec
    have T1 : Hid (Tch (fun i => σ i ≠ none) w w1) := t1.mono (fun i _ e => by rw [e]; exact hlb')
    have T2 : Hid (Tch (fun i => σ i ≠ none) w w2) := T1.out.trans t2 (fun i _ e => by rw [e, h.lt]; exact fun h => by cases h)
    have HW1 : Hid _ := hw1
    have HW2 : Hid _ := hw2
    have HN1 : Hid _ := hn1
    clear h hcb hlq hlen hn0 hz me hw1 hw2 t1 t2 hl hlm hn1 hC
    by_cases h0 : n1 = 0
    · subst h0
      go_enter Tryz.func56, Tryz.ntmps56
      go_wp2
      go_end0
      refine ⟨rfl, ⟨T.filter (fun p => decide (p.1 ≠ k)), ?_⟩, T2.out⟩
      rw [HE.out]
      have := HW2.out
      have e0 : (E.filter (fun e => decide (¬ (e.k = k ∧ e.s = S.data.toList)))).filter (fun e => decide (e.k ≠ k)) = E.filter (fun e => decide (¬ (e.k = k ∧ e.s = S.data.toList))) := List.filter_eq_self.2 (fun e he => by simpa using HN1.out trivial e he)
      rw [e0] at this
      exact this
    · have h0' : ¬ (n1 : Int) = 0 := by omega
      have h0b : ((n1 : Int) == 0) = false := by simpa using h0'
      go_enter Tryz.func56, Tryz.ntmps56
      go_wp2
      go_end0
      refine ⟨rfl, ⟨T, ?_⟩, T1.out⟩
      rw [HE.out]
      exact HW1.out
  · have HE : Hid (tidE E k S.data.toList zs = E) := by show _ = _; simp [tidE, hz]
    have hz0 : ¬ ((zs.length : Nat) : Int) = 0 := by
      intro e
      exact hz (List.length_eq_zero_iff.1 (by omega))
    have hz0b : (((zs.length : Nat) : Int) == 0) = false := by simpa using hz0
    have h0 : ¬ n = 0 := fun e => hn0 e _ me rfl
    have h0' : ¬ (n : Int) = 0 := by omega
    have h0b : ((n : Int) == 0) = false := by simpa using h0'
    have HH : Hid _ := h
    obtain ⟨ln, hln⟩ : ∃ ln, ln = zs.length := ⟨_, rfl⟩
    rw [← hln] at ec hz0 hz0b
    clear h hcb hlq hn0 hz me hl hlm hC hln
    go_enter Tryz.func56, Tryz.ntmps56
    go_wp2
    go_end0
    exact ⟨rfl, ⟨T, by rw [HE.out]; exact HH.out⟩, Tch.refl _ _⟩
theorem clear_ver {W : World} {g off : Nat} {cur : Array Value} (hg : W.heap[g]? = some (.cells cur 79 (0, 0))) (hs : off + 3 ≤ cur.size) : ∃ W', (∀ ty c, (Builtin.clear_ #[82] ty #[.slice (some ⟨g, off, none⟩) 1 c]).run Tryz.prog W = .ok (.tuple #[]) W') ∧ Tch (fun i => i = g) W W' ∧ ∃ zs : List Value, zs.length = 3 ∧ W'.heap[g]? = some (.cells (cur.toList.take off ++ zs ++ cur.toList.drop (off + 3)).toArray 79 (0, 0)) := by
  obtain ⟨i0, hi0, hz0, hz1, hz2⟩ := info_parts info_ver
  obtain ⟨zs, hzs⟩ : ∃ zs, zs = (Builtin.zeroCells (Value.agg #[.int .i64 0, .bool false, .slice none 0 0]).cells 1).toList := ⟨_, rfl⟩
  have hzl : zs.length = 3 := by rw [hzs]; simp [Builtin.zeroCells, Value.cells]
  have hz1' : ∀ u ∈ zs, u.oneCell' = true := fun u hu => by
    rw [hzs] at hu
    simp only [Builtin.zeroCells, Value.cells, Array.toList_map, List.mem_map] at hu
    obtain ⟨k, _, rfl⟩ := hu
    show (#[Value.int .i64 0, .bool false, .slice none 0 0][k % 3]!).oneCell' = true
    rcases (by omega : k % 3 = 0 ∨ k % 3 = 1 ∨ k % 3 = 2) with e | e | e <;> rw [e] <;> rfl
  have hst := run_storeCells_at Tryz.prog g off 79 zs 0 cur W hg (by omega) hz1'
  refine ⟨W.setRow g (cur.toList.take (off + 0) ++ zs ++ cur.toList.drop (off + 0 + zs.length)).toArray, fun ty c => ?_, ⟨rfl, rfl, rfl, by simp [World.setRow], fun k _ hk => setRow_other W g k _ hk⟩, zs, hzl, ?_⟩
  · simp only [Builtin.clear_]
    simp [run_underlying Tryz.underlying82, zeroValue, typeInfo, hi0, hz0, ← hzs, hst]
  · rw [hzl, Nat.add_zero]
    simp [World.setRow, Array.getElem?_modify, hg]
end Go.Proofs.YtokgihmigkplaaaGreat
namespace Go.Proofs.YtokgihmigkplaaaGreat
open Go.RowKit Go Go.Sort Go.Maps
theorem HW.undo {w : World} {hb mb tb : Nat} {T : List (Int × Nat)} {E : List En} {C : Nat → Ch} {σ : Nat → Option Nat} {q : Nat} (h : HW w hb mb tb T E C σ q) {k : Int} {S : ByteArray} {cb : Nat} {wo : Option Addr} {wc : Nat} {zs : List VV} {bc bw bh bt bk : Nat} (u : UB w σ hb k S cb wo wc zs bc bw bh bt bk)
    (me : (⟨k, S.data.toList, cb⟩ : En) ∈ E) {co : Option Addr} {cc : Nat} {z : VV} (hC : C cb = (co, cc, zs ++ [z])) :
    ∃ g W', co = some ⟨g, 0, none⟩ ∧ zs.length + 1 ≤ cc ∧ cc ≤ maxLen ∧ (∀ ty c, (Builtin.clear_ #[82] ty #[.slice (some ⟨g, zs.length * 3, none⟩) 1 c]).run Tryz.prog w = .ok (.tuple #[]) W') ∧ Tch (fun i => σ i = some (2 * cb + 1)) w W' ∧ UB W' σ hb k S cb wo wc zs bc bw bh bt bk ∧ W'.heap[cb]? = some (.cells #[.slice co (zs.length + 1) cc] 82 (0, 0)) ∧
      HW (W'.setCell ⟨cb, 0, none⟩ (.slice wo zs.length wc)) hb mb tb T E (upB C cb (wo, wc, zs)) σ q ∧ Tch (fun i => σ i = some (2 * cb + 1)) w (W'.setCell ⟨cb, 0, none⟩ (.slice wo zs.length wc)) := by
  obtain ⟨hcb, hlq⟩ := h.chs _ me
  simp only [hC] at hcb hlq
  have hlen : (zs ++ [z]).length = zs.length + 1 := by simp
  have hblk := hcb.blk
  rw [hlen] at hblk
  rcases hcb.row.2 with ⟨e, h0⟩ | ⟨g, cap, cur, hv, _, hg, hnc, hcm, hcs, htake⟩
  · simp at h0
  injection hv with e1 e2 e3
  subst e1 e3
  rw [hlen] at hnc htake
  have hgl : σ g = some (2 * cb + 1) := hcb.rl g rfl
  obtain ⟨W', r0, tC, zz, hzz, hgC⟩ := clear_ver hg (show zs.length * 3 + 3 ≤ cur.size by rw [hcs]; omega)
  have tC' : Tch (fun i => σ i = some (2 * cb + 1)) w W' := tC.mono (fun i _ e => by rw [e]; exact hgl)
  have hgcb : g ≠ cb := row_ne hcb.row hcb.blk (by decide) (by rfl)
  have hcbC : W'.heap[cb]? = some (.cells #[.slice (some ⟨g, 0, none⟩) (zs.length + 1) cc] 82 (0, 0)) := by rw [tC.block cb (blk_lt hblk) (fun e => hgcb e.symm)]; exact hblk
  have hodd : ∀ g, g < w.heap.size → σ g = some (2 * cb + 1) → ∀ j, σ g ≠ some (2 * j) := fun g _ h j e => by rw [h] at e; injection e with e; omega
  have bx : ∀ b o, w.heap[b]? = some o → σ b = none → W'.heap[b]? = some o := fun b o h0 h1 => by rw [tC'.block b (blk_lt h0) (fun e => by rw [h1] at e; cases e)]; exact h0
  have hrow : W'.ownsRow 0 79 3 (.slice wo zs.length wc) zs.length (vrl zs) := by
    refine ⟨u.row.1, ?_⟩
    rcases u.row.2 with e | ⟨g2, cap2, cur2, hv2, b2, hg2, hn2, hm2, hs2, ht2⟩
    · exact .inl e
    · by_cases e : g2 = g
      · subst e
        rw [hg] at hg2
        cases hg2
        refine .inr ⟨g2, cap2, _, hv2, b2, hgC, hn2, hm2, ?_, ?_⟩
        · have : cur.toList.length = cap2 * 3 := by rw [Array.length_toList]; exact hs2
          simp only [List.size_toArray, List.length_append, List.length_take, List.length_drop, hzz, this]
          have := hcs
          rw [hs2] at this
          omega
        · have : cur.toList.length = cap2 * 3 := by rw [Array.length_toList]; exact hs2
          simp only [List.append_assoc]
          rw [List.take_append_of_le_length (by rw [List.length_take]; omega), List.take_take, Nat.min_self]
          exact ht2
      · exact .inr ⟨g2, cap2, cur2, hv2, b2, by rw [tC.block g2 (blk_lt hg2) e]; exact hg2, hn2, hm2, hs2, ht2⟩
  have tS : Tch (fun i => i = cb) W' (W'.setCell ⟨cb, 0, none⟩ (.slice wo zs.length wc)) := Tch.setCell (fun i => i = cb) W' ⟨cb, 0, none⟩ _ rfl
  have t7 : Tch (fun i => σ i = some (2 * cb + 1)) w (W'.setCell ⟨cb, 0, none⟩ (.slice wo zs.length wc)) := tC'.trans tS (fun i _ e => by rw [e]; exact hcb.lab)
  have hCB : CB (W'.setCell ⟨cb, 0, none⟩ (.slice wo zs.length wc)) σ cb wo wc zs := ⟨hcb.lab, by rw [blk_set hcbC]; rfl, own_tch hrow tS (fun g' hg' e => row_ne hrow hcbC (by decide) hg' e), u.rl, fun z' hz' => (u.ok z' hz').tch t7 hodd (fun _ _ _ => rfl)⟩
  refine ⟨g, W', rfl, hnc, hcm, r0, tC', ⟨bx _ _ u.fc u.lc, bx _ _ u.fw u.lw, bx _ _ u.fh u.lh, bx _ _ u.ft u.lt, bx _ _ u.fk u.lk, hrow, u.rl, fun z' hz' => (u.ok z' hz').tch tC' hodd (fun _ _ _ => rfl), u.lc, u.lw, u.lh, u.lt, u.lk⟩, hcbC, ?_, t7⟩
  · exact h.setC t7 (h.ene me) (fun p hp e => (h.lne hp).2.2 _ me e) (fun _ _ => rfl) (fun i hi => Nat.lt_of_lt_of_le (h.dom i hi) t7.size) (Nat.le_refl _) (by rw [hlen] at hlq; omega) hCB
theorem undo_any (w : World) (hb mb tb : Nat) (T : List (Int × Nat)) (E : List En) (C : Nat → Ch) (σ : Nat → Option Nat) (q : Nat) (h : HW w hb mb tb T E C σ q) (k : Int) (h1 : -9223372036854775808 ≤ k) (h2 : k ≤ 9223372036854775807) (S : ByteArray) (hS : S.size ≤ maxLen) (cb : Nat) (wo : Option Addr) (wc : Nat) (zs : List VV) (bc bw bh bt bk : Nat) (u : UB w σ hb k S cb wo wc zs bc bw bh bt bk)
    (me : (⟨k, S.data.toList, cb⟩ : En) ∈ E) (co : Option Addr) (cc : Nat) (z : VV) (hC : C cb = (co, cc, zs ++ [z])) (hq : q ≤ 2000) :
    Calls Tryz.prog 90 #[.pointer (some ⟨bc, 0, none⟩), .pointer (some ⟨bw, 0, none⟩), .pointer (some ⟨bh, 0, none⟩), .pointer (some ⟨bt, 0, none⟩), .pointer (some ⟨bk, 0, none⟩)] w fun x w' => x = .returned (.tuple #[]) ∧ (∃ T', HW w' hb mb tb T' (tidE E k S.data.toList zs) (upB C cb (wo, wc, zs)) σ q) ∧ Tch (fun i => σ i ≠ none) w w' := by
  obtain ⟨hcb, hlq⟩ := h.chs _ me
  simp only [hC] at hcb hlq
  have hlen : (zs ++ [z]).length = zs.length + 1 := by simp
  have hblk := hcb.blk
  rw [hlen] at hblk hlq
  obtain ⟨g, W9, rfl, hnc0, hcm0, hr9⟩ := h.undo u me hC
  clear hr9
  obtain ⟨ln, hln⟩ : ∃ ln, ln = zs.length := ⟨_, rfl⟩
  have d0 := cell_regrown (show w.cell? ⟨bc, 0, none⟩ = some (.pointer (some ⟨cb, 0, none⟩)) by rw [blk_cell u.fc]; rfl)
  have d1 := cell_regrown (show w.cell? ⟨bw, 0, none⟩ = some (.slice wo ln wc) by rw [blk_cell u.fw, hln]; rfl)
  have d2 := cell_regrown (show w.cell? ⟨cb, 0, none⟩ = some (.slice (some ⟨g, 0, none⟩) (ln + 1) cc) by rw [blk_cell hblk, hln]; rfl)
  have hln1 : ln + 1 ≤ cc := by omega
  have hcc : cc ≤ 9223372036854775807 := by unfold maxLen at hcm0; omega
  have HU : Hid (∀ V, Tch (fun _ => False) w V → ∃ W', (∀ ty c, (Builtin.clear_ #[82] ty #[.slice (some ⟨g, ln * 3, none⟩) 1 c]).run Tryz.prog V = .ok (.tuple #[]) W') ∧ UB W' σ hb k S cb wo wc zs bc bw bh bt bk ∧ W'.heap[cb]? = some (.cells #[.slice (some ⟨g, 0, none⟩) (ln + 1) cc] 82 (0, 0)) ∧ HW (W'.setCell ⟨cb, 0, none⟩ (.slice wo ln wc)) hb mb tb T E (upB C cb (wo, wc, zs)) σ q ∧ Tch (fun i => σ i ≠ none) w (W'.setCell ⟨cb, 0, none⟩ (.slice wo ln wc))) := fun V t => by
    obtain ⟨g', W', e, _, _, r, _, u', hb', hw', t7⟩ := (h.no t).undo (u.no t) me hC
    cases e
    rw [← hln] at r hb' hw' t7
    exact ⟨W', r, u', hb', hw', (t.mono (fun _ _ h => h.elim)).trans t7 (fun i _ e => by rw [e]; exact fun h => by cases h)⟩
  have HL : Hid (ln = zs.length) := hln
  have HA : Hid _ := And.intro h1 (And.intro h2 (And.intro hS me))
  have hlb : σ cb = some (2 * cb + 1) := hcb.lab
  have Hlab : Hid (σ bh = none ∧ σ bt = none ∧ σ bk = none ∧ σ cb ≠ none) := ⟨u.lh, u.lt, u.lk, by rw [hlb]; exact fun h => by cases h⟩
  have Hq : Hid _ := hq
  clear h hcb hlq hblk hnc0 hcm0 hC u hln h1 h2 hS me hlb hq
  have hi1 : (ln : Int) ≤ (ln : Int) + 1 := by omega
  go_enter Tryz.func90, Tryz.ntmps90
  go_wp2_with fail
  refine wp_region_below_tail 6 (by kernel_rfl) (by kernel_rfl) ?_
  simp only [List.take_succ_cons, List.take_zero, List.drop_succ_cons, List.drop_zero]
  repeat (go_big_quiet_step (fail))
  refine wpQuiet_nil ?_
  rintro V ⟨pp, hV⟩
  have tV : Tch (fun _ => False) w V := by rw [hV]; exact tch_regrown w pp
  clear hV d0 d1 d2
  obtain ⟨W', hcl, u', hb', hw', t7⟩ := HU.out V tV
  obtain ⟨h1, h2, hS, me⟩ := HA.out
  obtain ⟨l1, l2, l3, l4⟩ := Hlab.out
  have k0 : W'.cell? ⟨bc, 0, none⟩ = some (.pointer (some ⟨cb, 0, none⟩)) := by rw [blk_cell u'.fc]; rfl
  have k1 : W'.cell? ⟨bw, 0, none⟩ = some (.slice wo ln wc) := by rw [blk_cell u'.fw, HL.out]; rfl
  have k2 : W'.cell? ⟨cb, 0, none⟩ = some (.slice (some ⟨g, 0, none⟩) (ln + 1) cc) := by rw [blk_cell hb']; rfl
  have k3 := blk_frozen hb' 0
  obtain ⟨W7, hW7⟩ : ∃ W7, W7 = W'.setCell ⟨cb, 0, none⟩ (.slice wo ln wc) := ⟨_, rfl⟩
  have tS : Tch (fun i => i = cb) W' W7 := by rw [hW7]; exact Tch.setCell (fun i => i = cb) W' ⟨cb, 0, none⟩ _ rfl
  have m0 : W7.cell? ⟨bh, 0, none⟩ = some (.pointer (some ⟨hb, 0, none⟩)) := by rw [tS.cell (p := ⟨bh, 0, none⟩) (blk_lt u'.fh) (fun e => l4 (by rw [← e]; exact l1)), blk_cell u'.fh]; rfl
  have m1 : W7.cell? ⟨bt, 0, none⟩ = some (.int .i64 k) := by rw [tS.cell (p := ⟨bt, 0, none⟩) (blk_lt u'.ft) (fun e => l4 (by rw [← e]; exact l2)), blk_cell u'.ft]; rfl
  have m2 : W7.cell? ⟨bk, 0, none⟩ = some (.string S) := by rw [tS.cell (p := ⟨bk, 0, none⟩) (blk_lt u'.fk) (fun e => l4 (by rw [← e]; exact l3)), blk_cell u'.fk]; rfl
  rw [← hW7] at hw' t7
  have qT := tidy_any W7 hb mb tb T E _ σ q hw' k h1 h2 S hS cb me wo wc zs (upB_same _ _ _)
  have T7 : Hid (Tch (fun i => σ i ≠ none) w (W'.setCell ⟨cb, 0, none⟩ (.slice wo ln wc))) := by
    have := t7
    rw [hW7] at this
    exact this
  clear HU hb' hw' t7 tV u' l1 l2 l3 l4 h1 h2 me hS tS
  rw [hW7] at m0 m1 m2 qT
  clear hW7
  go_wp2_with fail
  refine qT.mono ?_
  rintro x w9 ⟨rfl, h9, t9⟩
  have H9 : Hid _ := h9
  have T9 : Hid _ := T7.out.trans' t9
  clear h9 t9 qT
  go_wp2
  go_end0
  exact ⟨rfl, H9.out, T9.out⟩
end Go.Proofs.YtokgihmigkplaaaGreat
namespace Go.Proofs.YtokgihmigkplaaaGreat
open Go.RowKit Go Go.Sort Go.Maps
theorem lay_A (w : World) (hb mb tb : Nat) (T : List (Int × Nat)) (E : List En) (C : Nat → Ch) (σ : Nat → Option Nat) (q : Nat) (h : HW w hb mb tb T E C σ q) (hq : q ≤ 1000) (k : Int) (h1 : -9223372036854775808 ≤ k) (h2 : k ≤ 9223372036854775807) (S : ByteArray) (hS : S.size ≤ maxLen) (z : VV) (hz : VOK w σ z) (l : Nat) (hl : lkT T k = some l) (cb : Nat) (he : lkE E k S.data.toList = some cb) :
    Calls Tryz.prog 62 #[.pointer (some ⟨hb, 0, none⟩), .int .i64 k, .string S, .agg #[.int .i64 z.1.wr, .bool z.1.th, .slice z.2.1 z.1.n z.2.2]] w fun x w' => LayOut w hb mb tb E C σ q k S z x w' := by
  obtain ⟨wr, hwr⟩ : ∃ wr, wr = z.1.wr := ⟨_, rfl⟩
  obtain ⟨th, hth⟩ : ∃ th, th = z.1.th := ⟨_, rfl⟩
  obtain ⟨rv, hrv⟩ : ∃ rv, rv = z.2.1 := ⟨_, rfl⟩
  obtain ⟨rn, hrn⟩ : ∃ rn, rn = z.1.n := ⟨_, rfl⟩
  obtain ⟨rc, hrc⟩ : ∃ rc, rc = z.2.2 := ⟨_, rfl⟩
  have HZ : Hid (wr = z.1.wr ∧ th = z.1.th ∧ rv = z.2.1 ∧ rn = z.1.n ∧ rc = z.2.2) := ⟨hwr, hth, hrv, hrn, hrc⟩
  rw [← hwr, ← hth, ← hrv, ← hrn, ← hrc]
  clear hwr hth hrv hrn hrc
  obtain ⟨N, hN⟩ : ∃ N, N = w.heap.size := ⟨_, rfl⟩
  obtain ⟨w0, hw0⟩ : ∃ w0, w0 = (((w.alloc (.cells #[.pointer (some ⟨hb, 0, none⟩)] 40)).alloc (.cells #[.int .i64 k] 3)).alloc (.cells #[.string S] 9)).alloc (.cells #[.int .i64 wr, .bool th, .slice rv rn rc] 79) := ⟨_, rfl⟩
  have t0 : Tch (fun _ => False) w w0 := by rw [hw0]; exact (((Tch.alloc _ _ _).allocR _).allocR _).allocR _
  have d0 : w0.heap[N]? = some (.cells #[.pointer (some ⟨hb, 0, none⟩)] 40 (0, 0)) := by
    rw [hw0, hN, (((Tch.alloc (fun _ => False) (w.alloc (.cells #[.pointer (some ⟨hb, 0, none⟩)] 40)) _).allocR _).allocR _).block _ (by simp) (fun h => h)]; exact alloc_new _ _
  have d1 : w0.heap[N + 1]? = some (.cells #[.int .i64 k] 3 (0, 0)) := by
    rw [hw0, hN, ((Tch.alloc (fun _ => False) ((w.alloc (.cells #[.pointer (some ⟨hb, 0, none⟩)] 40)).alloc (.cells #[.int .i64 k] 3)) _).allocR _).block _ (by simp) (fun h => h)]
    have := alloc_new (w.alloc (.cells #[.pointer (some ⟨hb, 0, none⟩)] 40)) (.cells #[.int .i64 k] 3)
    rwa [World.size_alloc] at this
  have d2 : w0.heap[N + 1 + 1]? = some (.cells #[.string S] 9 (0, 0)) := by
    rw [hw0, hN, (Tch.alloc (fun _ => False) (((w.alloc (.cells #[.pointer (some ⟨hb, 0, none⟩)] 40)).alloc (.cells #[.int .i64 k] 3)).alloc (.cells #[.string S] 9)) _).block _ (by simp) (fun h => h)]
    have := alloc_new ((w.alloc (.cells #[.pointer (some ⟨hb, 0, none⟩)] 40)).alloc (.cells #[.int .i64 k] 3)) (.cells #[.string S] 9)
    simp only [World.size_alloc] at this
    exact this
  have d3 : w0.heap[N + 1 + 1 + 1]? = some (.cells #[.int .i64 wr, .bool th, .slice rv rn rc] 79 (0, 0)) := by
    rw [hw0, hN]
    have := alloc_new (((w.alloc (.cells #[.pointer (some ⟨hb, 0, none⟩)] 40)).alloc (.cells #[.int .i64 k] 3)).alloc (.cells #[.string S] 9)) (.cells #[.int .i64 wr, .bool th, .slice rv rn rc] 79)
    simp only [World.size_alloc] at this
    exact this
  have hs0 : w0.heap.size = N + 4 := by rw [hw0, hN]; simp
  have H0 := h.no t0
  have HD : Hid (∀ W, Tch (fun _ => False) w0 W → W.heap[N]? = some (.cells #[.pointer (some ⟨hb, 0, none⟩)] 40 (0, 0)) ∧ W.heap[N + 1]? = some (.cells #[.int .i64 k] 3 (0, 0)) ∧ W.heap[N + 1 + 1]? = some (.cells #[.string S] 9 (0, 0)) ∧ W.heap[N + 1 + 1 + 1]? = some (.cells #[.int .i64 wr, .bool th, .slice rv rn rc] 79 (0, 0))) := fun W t =>
    ⟨by rw [t.block _ (blk_lt d0) (fun h => h)]; exact d0, by rw [t.block _ (blk_lt d1) (fun h => h)]; exact d1, by rw [t.block _ (blk_lt d2) (fun h => h)]; exact d2, by rw [t.block _ (blk_lt d3) (fun h => h)]; exact d3⟩
  have cc1 := H0.c1
  have e0 : w0.cell? ⟨N, 0, none⟩ = some (.pointer (some ⟨hb, 0, none⟩)) := by rw [blk_cell d0]; rfl
  have e1 : w0.cell? ⟨N + 1, 0, none⟩ = some (.int .i64 k) := by rw [blk_cell d1]; rfl
  have g0 := cell_regrown e0
  have g1 := cell_regrown e1
  have gc := cell_regrown cc1
  have gl : ∀ d os, (Instr.lookup 96 (.map (some tb)) (.int .i64 k) false).run Tryz.prog (grow (redrawn w0 d) os) = .ok (mapV (lkT T k)) (grow (redrawn w0 d) os) := fun d os => (H0.no (tch_regrown w0 ⟨d, os⟩)).look h1 h2
  rw [hl] at gl
  simp only [mapV] at gl
  have Hw0 : Hid _ := hw0
  have HN : Hid (N = w.heap.size ∧ w0.heap.size = N + 4) := ⟨hN, hs0⟩
  have HT0 : Hid _ := t0
  have HH0 : Hid _ := H0
  have Hdm : Hid (∀ i, σ i ≠ none → i < N) := fun i hi => by rw [hN]; exact h.dom i hi
  have HZk : Hid _ := hz
  have HK : Hid (lkT T k = some l ∧ lkE E k S.data.toList = some cb) := ⟨hl, he⟩
  clear hw0 t0 d0 d1 d2 d3 hs0 H0 h cc1 e0 e1 h1 h2 hz hl he
  go_enter Tryz.func62, Tryz.ntmps62
  go_wp2_with fail
  have hw0 := Hw0.out
  rw [← hw0, ← hN]
  clear hw0 hN
  refine wp_region_quiet_below (by kernel_rfl) (by kernel_rfl) ?_
  repeat (go_big_quiet_step (fail))
  refine wpQuiet_nil ?_
  rintro W1 ⟨pp, hW1⟩
  have t1 : Tch (fun _ => False) w0 W1 := by rw [hW1]; exact tch_regrown w0 pp
  clear hW1 g0 g1 gc gl
  have hl := HK.out.1
  have he := HK.out.2
  have gk := (HH0.out.no t1).look2 (lkT_mem hl) hS
  simp only at gk
  rw [he] at gk
  simp only [ptrV] at gk
  obtain ⟨D0, D1, D2, D3⟩ := HD.out W1 t1
  have e2 : W1.cell? ⟨N + 1 + 1, 0, none⟩ = some (.string S) := by rw [blk_cell D2]; rfl
  clear hl he D0 D1 D2 D3
  have HT1 : Hid _ := t1
  have hme : ∀ (r : Option Nat) (w : World), (binOp .eql 116 (.map r) (.map none)).run Tryz.prog w = .ok (.bool r.isNone) w := fun r w => run_eql_map_nil w _ _ _ r Tryz.underlying116
  have hcb := ((HH0.out.no HT1.out).chs _ (lkE_mem HK.out.2)).1
  obtain ⟨co, cc, zs, hC⟩ : ∃ co cc zs, C cb = (co, cc, zs) := ⟨_, _, _, rfl⟩
  simp only [hC] at hcb
  obtain ⟨ln, hln⟩ : ∃ ln, ln = zs.length := ⟨_, rfl⟩
  have ec : ∀ o, (W1.alloc o).cell? ⟨cb, 0, none⟩ = some (.slice co ln cc) := fun o => by rw [(Tch.alloc (fun _ => False) W1 o).cell (p := ⟨cb, 0, none⟩) (blk_lt hcb.blk) (fun h => h), blk_cell hcb.blk, hln]; rfl
  have HC : Hid (C cb = (co, cc, zs) ∧ ln = zs.length) := ⟨hC, hln⟩
  clear hcb hC hln t1
  go_wp2_with fail
  obtain ⟨W, hW⟩ : ∃ W, W = (W1.alloc (.cells #[.pointer (some ⟨cb, 0, none⟩)] 117)).alloc (.cells #[.slice co ln cc] 82) := ⟨_, rfl⟩
  rw [← hW]
  obtain ⟨hC, hln⟩ := HC.out
  have t1 := HT1.out
  have tW : Tch (fun _ => False) W1 W := by rw [hW]; exact (Tch.alloc _ _ _).allocR _
  obtain ⟨D0, D1, D2, D3⟩ := HD.out W (t1.trans' tW)
  obtain ⟨z1, z2, z3, z4, z5⟩ := HZ.out
  have hdom := HH0.out.dom
  have hfre : ∀ i, N ≤ i → σ i = none := fun i hi => by
    cases hs : σ i with
    | none => rfl
    | some a => exact absurd (Hdm.out i (by rw [hs]; exact fun h => by cases h)) (by omega)
  have hwb : W.heap[W1.heap.size + 1]? = some (.cells #[.slice co ln cc] 82 (0, 0)) := by
    rw [hW]
    have := alloc_new (W1.alloc (.cells #[.pointer (some ⟨cb, 0, none⟩)] 117)) (.cells #[.slice co ln cc] 82)
    rwa [World.size_alloc] at this
  have hsz1 : N + 4 ≤ W1.heap.size := by have := t1.size; have := HN.out.2; omega
  have hlw : σ (W1.heap.size + 1) = none := hfre _ (by omega)
  have hm : Mid w hb mb tb E C σ q k S z W T E C σ cb W1.heap.size N (N + 1) (N + 1 + 1) (N + 1 + 1 + 1) :=
    { hw := ((HH0.out.no t1).no tW).more (by omega)
      me := lkE_mem HK.out.2
      old := .inl ⟨rfl, HK.out.2, rfl⟩
      oth := fun _ _ _ => rfl
      sg := fun _ _ => rfl
      sn := fun _ _ h => h
      c := by rw [hW, (Tch.alloc (fun _ => False) (W1.alloc (.cells #[.pointer (some ⟨cb, 0, none⟩)] 117)) _).block _ (by simp) (fun h => h)]; exact alloc_new _ _
      h := D0
      t := D1
      k := D2
      v := by rw [← z1, ← z2, ← z3, ← z4, ← z5]; exact D3
      lc := hfre _ (by omega)
      lh := hfre _ (by omega)
      lt := hfre _ (by omega)
      lk := hfre _ (by omega)
      lv := hfre _ (by omega)
      zok := HZk.out.tch ((HT0.out.trans' t1).trans' tW) (fun _ _ h => h.elim) (fun _ _ _ => rfl)
      tch := ((HT0.out.trans' t1).trans' tW).mono (fun _ _ h => h.elim) }
  have Hne : Hid (W1.heap.size + 1 ≠ cb) := fun e => by
    have := (hm.hw.chs _ hm.me).1.lab
    simp only at this
    rw [← e, hlw] at this; cases this
  clear hfre hdom t1 tW D0 D1 D2 D3 z1 z2 z3 z4 z5 hW hsz1
  have hn : zs.length ≤ 1000000 := by
    have := (hm.hw.chs _ hm.me).2
    rw [hC] at this
    simp only at this
    omega
  obtain ⟨z1, z2, z3, z4, z5⟩ := HZ.out
  obtain ⟨CV, hCV⟩ : ∃ CV : List Value → World → Prop, CV = VC W (.slice co ln cc) ln (vrl zs) [.int .i64 wr, .bool th, .slice rv rn rc] := ⟨_, rfl⟩
  have hrow : W.ownsRow 0 79 3 (.slice co ln cc) ln (vrl zs) := by
    have := (hm.hw.chs _ hm.me).1
    rw [hC] at this
    rw [hln]
    exact this.row
  have HRow : Hid _ := hrow
  have hbx : ∀ b (cs : Array Value) t, W.heap[b]? = some (.cells cs t (0, 0)) → t ≠ 79 ∨ ¬ (Value.slice co ln cc).ownBlock = some b → ∀ s V, CV s V → V.heap[b]? = some (.cells cs t (0, 0)) := fun b cs t hb hn s V hV => by
    rw [hCV] at hV
    rw [(VC.tch hV).block b (blk_lt hb) (fun e => ?_)]
    · exact hb
    · rcases hn with hn | hn
      · exact row_ne hrow hb (fun e => hn e.symm) e rfl
      · exact hn e
  have hvn : ¬ (Value.slice co ln cc).ownBlock = some (N + 1 + 1 + 1) := fun e => by
    have hcb := (hm.hw.chs _ hm.me).1
    rw [hC] at hcb
    rw [hln] at e
    have := hcb.rl _ e
    rw [hm.lv] at this; cases this
  have hK : ∀ s V, CV s V → V.cell? ⟨W1.heap.size, 0, none⟩ = some (.pointer (some ⟨cb, 0, none⟩)) ∧ V.cell? ⟨W1.heap.size + 1, 0, none⟩ = some (.slice co ln cc) ∧ V.cell? ⟨N + 1 + 1 + 1, 0, none⟩ = some (.int .i64 wr) ∧ V.cell? ⟨N + 1 + 1 + 1, 1, none⟩ = some (.bool th) ∧ V.cell? ⟨N + 1 + 1 + 1, 2, none⟩ = some (.slice rv rn rc) := fun s V hV => by
    have a := hbx _ _ _ hm.c (.inl (by decide)) s V hV
    have b := hbx _ _ _ hwb (.inl (by decide)) s V hV
    have c := hbx _ _ _ hm.v (.inr hvn) s V hV
    refine ⟨by rw [blk_cell a]; rfl, by rw [blk_cell b]; rfl, by rw [blk_cell c, z1]; rfl, by rw [blk_cell c, z2]; rfl, by rw [blk_cell c, z3, z4, z5]; rfl⟩
  have h0' : CV [] W.drew := by rw [hCV]; exact (Tch.refl _ _).drew
  have h6 : ∀ V, CV [] V → CV [.slice (some ⟨V.heap.size, 0, none⟩) 1 1] (V.alloc (.cells #[.int .i64 wr, .bool th, .slice rv rn rc] 79)) := fun V h => by
    rw [hCV] at h ⊢
    exact VC.one h
  have h7 : ∀ g9 V, CV [.slice (some ⟨g9, 0, none⟩) 1 1] V → ∃ o5 c5 w', (Builtin.append_ #[82, 82] 82 #[Value.slice co ln cc, .slice (some ⟨g9, 0, none⟩) 1 1]).run Tryz.prog V = .ok (.slice o5 (ln + 1) c5) w' ∧ CV [.slice (some ⟨g9, 0, none⟩) 1 1, .slice o5 (ln + 1) c5] w' := fun g9 V h => by
    rw [hCV] at h ⊢
    exact VC.two HRow.out (by omega) rfl (by simp [Value.oneCell']) h
  have hsh1 : ∀ y V, CV [y] V → ∃ g, y = .slice (some ⟨g, 0, none⟩) 1 1 := fun y V h => by
    rw [hCV] at h
    obtain ⟨_, g, e, _⟩ := h
    exact ⟨g, e⟩
  have hsh2 : ∀ y z V, CV [y, z] V → ∃ o5 c5, z = .slice o5 (ln + 1) c5 := fun y z V h => by
    rw [hCV] at h
    obtain ⟨_, ⟨o5, c5, e, _⟩, _⟩ := h
    exact ⟨o5, c5, e⟩
  have Hcb : Hid (∀ s V, CV s V → V.heap[cb]? = some (.cells #[.slice co ln cc] 82 (0, 0))) := fun s V hV => by
    have hcb := (hm.hw.chs _ hm.me).1
    rw [hC] at hcb
    have := hcb.blk
    rw [← hln] at this
    exact hbx _ _ _ this (.inl (by decide)) s V hV
  have Hfin : Hid (∀ y o5 c5 V x, CV [y, .slice o5 (ln + 1) c5] V → x = Ending.returned (.tuple #[.slice co ln cc, .func (.func 90) #[] #[.pointer (some ⟨W1.heap.size, 0, none⟩), .pointer (some ⟨W1.heap.size + 1, 0, none⟩), .pointer (some ⟨N, 0, none⟩), .pointer (some ⟨N + 1, 0, none⟩), .pointer (some ⟨N + 1 + 1, 0, none⟩)]]) → LayOut w hb mb tb E C σ q k S z x (V.setCell ⟨cb, 0, none⟩ (.slice o5 (ln + 1) c5))) := fun y o5 c5 V x hV hx => by
    rw [hCV, hln, z1, z2, z3, z4, z5] at hV
    rw [hln] at hx ⊢
    rw [hln] at hwb
    exact hm.fin hC hwb hlw hV x hx
  have hmf : ∀ (fn : Fn) (first cap : Array Value) (w : World), (Instr.makeFunc fn first cap).run Tryz.prog w = .ok (.func fn first cap) w := fun _ _ _ _ => rfl
  clear hCV hbx hvn hrow hm hwb hlw hn z1 z2 z3 z4 z5 hln hC
  refine wp_region_ordv [3, 4] CV 5 [0, 1, 2, 3, 4] (by kernel_rfl) (by kernel_rfl) h0' ?_
  clear h0'
  refine ordv_read rfl (by go_simp) (by rfl) ?_
  apply Exists.intro
  refine ⟨fun s' W hW b K Q hK' => ?_, fun K hK' => ?_⟩
  · obtain ⟨q0, q1, q2, q3, q4⟩ := hK _ W hW
    go_simp
    exact hK' W hW
  go_simp
  refine hK' _ ?_
  clear hK' K
  refine ordv_read rfl (by go_simp) (by rfl) ?_
  apply Exists.intro
  refine ⟨fun s' W hW b K Q hK' => ?_, fun K hK' => ?_⟩
  · obtain ⟨q0, q1, q2, q3, q4⟩ := hK _ W hW
    go_simp
    exact hK' W hW
  go_simp
  refine hK' _ ?_
  clear hK' K
  refine ordv_read rfl (by go_simp) (by rfl) ?_
  apply Exists.intro
  refine ⟨fun s' W hW b K Q hK' => ?_, fun K hK' => ?_⟩
  · obtain ⟨q0, q1, q2, q3, q4⟩ := hK _ W hW
    go_simp
    exact hK' W hW
  go_simp
  refine hK' _ ?_
  clear hK' K
  refine ordv_turn rfl (by go_simp) (by rfl) (fun V hV b K Q hK' => ?_) (fun u hu K hK' => ?_)
  · go_simp
    exact hK' _ _ (h6 V hV)
  obtain ⟨g, rfl⟩ : ∃ g, u = .slice (some ⟨g, 0, none⟩) 1 1 := by
    obtain ⟨W', hW'⟩ := hu
    exact hsh1 u W' hW'
  clear hu h6
  go_simp
  refine hK' _ ?_
  clear hK' K
  refine ordv_turn rfl (by go_simp) (by rfl) (fun V hV => ?_) (fun u hu K hK' => ?_)
  · obtain ⟨to', tc', w', hr, h1⟩ := h7 g V hV
    exact yv_append (.tmp 41) (.tmp 43) 82 rfl (.slice co ln cc) (.slice (some ⟨g, 0, none⟩) 1 1) rfl rfl hr h1
  obtain ⟨o5, c5, rfl⟩ : ∃ o5 c5, u = .slice o5 (ln + 1) c5 := by
    obtain ⟨W', hW'⟩ := hu
    exact hsh2 _ u W' hW'
  clear hu h7 hsh1 hsh2
  go_simp
  refine hK' _ ?_
  clear hK' K
  refine ordv_nil ?_
  intro w5 hw5
  obtain ⟨q0, q1, _, _, _⟩ := hK _ _ hw5
  have b5 := Hcb.out _ _ hw5
  have q5 : w5.cell? ⟨cb, 0, none⟩ = some (.slice co ln cc) := by rw [blk_cell b5]; rfl
  have f5 := blk_frozen b5 0
  have HF : Hid _ := fun x => Hfin.out _ _ _ w5 x hw5
  have q6 : (w5.setCell ⟨cb, 0, none⟩ (.slice o5 (ln + 1) c5)).cell? ⟨W1.heap.size + 1, 0, none⟩ = some (.slice co ln cc) := by rw [World.cell?_setCell_other _ _ _ _ (by intro e; injection e with e; exact Hne.out e.symm)]; exact q1
  clear hK Hcb Hfin hw5 b5
  go_wp2_with fail
  go_ret2
  exact HF.out _ rfl
end Go.Proofs.YtokgihmigkplaaaGreat
