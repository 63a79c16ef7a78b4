import Derived.Test.YtjbehnoococelaaMLay
/- The end of lay. -/
namespace Go.Proofs.Ytjbehnoococelaa
open Go.RowKit Go Go.Maps

theorem Mid.fin {w : World} {hb mb tb : Nat} {E : List En} {C : Nat → Ch} {σ : Nat → Option Nat} {q : Nat} {k : Int} {S : ByteArray} {z : VV} {W : World} {T' : List (Int × Nat)} {E' : List En} {C' : Nat → Ch} {σ' : Nat → Option Nat} {cb : Nat} {bc bh bt bk bv bw : Nat}
    (m : Mid w hb mb tb E C σ q k S z W T' E' C' σ' cb bc bh bt bk bv) {co : Option Addr} {cc : Nat} {zs : List VV} (hC : C' cb = (co, cc, zs)) (hw : W.heap[bw]? = some (.cells #[.slice co zs.length cc] 82 (0, 0))) (lw : σ' bw = none)
    {y : Value} {o5 : Option Addr} {c5 : Nat} {w5 : World} (hv : VC W (.slice co zs.length cc) zs.length (vrl zs) [.int .i64 z.1.wr, .bool z.1.th, .slice z.2.1 z.1.n z.2.2] [y, .slice o5 (zs.length + 1) c5] w5) (x : Ending)
    (hx : x = .returned (.tuple #[.slice co zs.length cc, .func (.func 57) #[] #[.pointer (some ⟨bc, 0, none⟩), .pointer (some ⟨bw, 0, none⟩), .pointer (some ⟨bh, 0, none⟩), .pointer (some ⟨bt, 0, none⟩), .pointer (some ⟨bk, 0, none⟩)]])) :
    LayOut w hb mb tb E C σ q k S z x (w5.setCell ⟨cb, 0, none⟩ (.slice o5 (zs.length + 1) c5)) := by
  obtain ⟨hcb, hlq⟩ := m.hw.chs _ m.me
  simp only [hC] at hcb hlq
  have tv := hv.tch
  obtain ⟨_, ⟨o6, c6, e6, hown, hat⟩, hwas⟩ := hv
  cases e6
  have hcb5 : w5.heap[cb]? = some (.cells #[.slice co zs.length cc] 82 (0, 0)) := by
    rw [tv.block cb (blk_lt hcb.blk) (fun e => row_ne hcb.row hcb.blk (by decide) e rfl)]; exact hcb.blk
  have tS : Tch (fun i => i = cb) w5 (w5.setCell ⟨cb, 0, none⟩ (.slice o5 (zs.length + 1) c5)) := Tch.setCell (fun i => i = cb) w5 ⟨cb, 0, none⟩ _ rfl
  have t7 : Tch (fun i => σ' i = some (2 * cb + 1)) W (w5.setCell ⟨cb, 0, none⟩ (.slice o5 (zs.length + 1) c5)) :=
    (tv.mono (fun i _ e => hcb.rl i e)).trans tS (fun i _ e => by rw [e]; exact hcb.lab)
  obtain ⟨σ'', hσ''⟩ : ∃ σ'' : Nat → Option Nat, σ'' = fun i => if (Value.slice o5 (zs.length + 1) c5).ownBlock = some i then some (2 * cb + 1) else σ' i := ⟨_, rfl⟩
  have hsg : ∀ i, σ' i ≠ none → σ'' i = σ' i := fun i hi => by
    rw [hσ'']
    by_cases e : (Value.slice o5 (zs.length + 1) c5).ownBlock = some i
    · simp only [e, if_true]
      rcases hat with e2 | ⟨g, e2, hg⟩
      · rw [e2] at e; exact (hcb.rl i e).symm
      · rw [e2] at e
        injection e with e
        subst e
        have := m.hw.dom _ hi
        omega
    · simp only [if_neg e]
  have hsn : ∀ i, i < W.heap.size → σ' i = none → σ'' i = none := fun i hi h0 => by
    rw [hσ'']
    by_cases e : (Value.slice o5 (zs.length + 1) c5).ownBlock = some i
    · exfalso
      rcases hat with e2 | ⟨g, e2, hg⟩
      · rw [e2] at e; rw [hcb.rl i e] at h0; cases h0
      · rw [e2] at e
        injection e with e
        omega
    · simp only [if_neg e]; exact h0
  have hlen : (zs ++ [z]).length = zs.length + 1 := by simp
  have hodd : ∀ g, g < W.heap.size → σ' g = some (2 * cb + 1) → ∀ j, σ' g ≠ some (2 * j) := fun g _ h j e => by rw [h] at e; injection e with e; omega
  have hok : ∀ z' ∈ zs, VOK (w5.setCell ⟨cb, 0, none⟩ (.slice o5 (zs.length + 1) c5)) σ'' z' := fun z' hz' => (hcb.ok z' hz').tch t7 hodd (fun i _ hi => hsg i hi)
  have hCB : CB (w5.setCell ⟨cb, 0, none⟩ (.slice o5 (zs.length + 1) c5)) σ'' cb o5 c5 (zs ++ [z]) := by
    refine ⟨(hsg cb (by rw [hcb.lab]; exact fun h => by cases h)).trans hcb.lab, ?_, ?_, fun g hg => ?_, fun z' hz' => ?_⟩
    · rw [blk_set hcb5, hlen]; rfl
    · rw [hlen, vrl_snoc]
      exact own_tch hown tS (fun g hg e => row_ne hown hcb5 (by decide) hg e)
    · rw [hlen] at hg
      rw [hσ'']
      simp only [hg, if_true]
    · rcases List.mem_append.1 hz' with h | h
      · exact hok z' h
      · obtain rfl := List.mem_singleton.1 h
        exact m.zok.tch t7 hodd (fun i _ hi => hsg i hi)
  have hdom : ∀ i, σ'' i ≠ none → i < (w5.setCell ⟨cb, 0, none⟩ (.slice o5 (zs.length + 1) c5)).heap.size := fun i hi => by
    rw [hσ''] at hi
    by_cases e : (Value.slice o5 (zs.length + 1) c5).ownBlock = some i
    · obtain ⟨cur, hc⟩ := own_blk hown e
      exact Nat.lt_of_lt_of_le (blk_lt hc) tS.size
    · simp only [if_neg e] at hi
      exact Nat.lt_of_lt_of_le (m.hw.dom i hi) t7.size
  have bx : ∀ b o, W.heap[b]? = some o → σ' b = none → (w5.setCell ⟨cb, 0, none⟩ (.slice o5 (zs.length + 1) c5)).heap[b]? = some o := fun b o h0 h1 => by
    rw [t7.block b (blk_lt h0) (fun e => by rw [h1] at e; cases e)]; exact h0
  refine ⟨T', E', _, σ'', cb, o5, c5, zs, bc, bw, bh, bt, bk, co, cc, hx, m.hw.setC t7 (m.hw.ene m.me) (fun p hp e => (m.hw.lne hp).2.2 _ m.me e) hsg hdom (by omega) (by rw [hlen]; omega) hCB, ⟨bx _ _ m.c m.lc, bx _ _ hw lw, bx _ _ m.h m.lh, bx _ _ m.t m.lt, bx _ _ m.k m.lk, own_tch hwas tS (fun g hg e => row_ne hwas hcb5 (by decide) hg e), fun g hg => ?_, hok, hsn _ (blk_lt m.c) m.lc, hsn _ (blk_lt hw) lw, hsn _ (blk_lt m.h) m.lh, hsn _ (blk_lt m.t) m.lt, hsn _ (blk_lt m.k) m.lk⟩, m.me, upB_same _ _ _, ?_, fun e he hn => ?_, fun i hi => ?_, fun i hi h0 => ?_, ?_⟩
  · exact (hsg g (by rw [hcb.rl g hg]; exact fun h => by cases h)).trans (hcb.rl g hg)
  · have := m.old
    rw [hC] at this
    exact this
  · rw [upB_other _ _ hn]; exact m.oth e he hn
  · rw [hsg i (by rw [m.sg i hi]; exact hi)]; exact m.sg i hi
  · exact hsn i (Nat.lt_of_lt_of_le hi m.tch.size) (m.sn i hi h0)
  · refine m.tch.trans t7 (fun i hi e h0 => ?_)
    rw [m.sn i hi h0] at e; cases e
end Go.Proofs.Ytjbehnoococelaa
