import Derived.Test.YtjbehnoococelaaMWr1
import Derived.Laws.EntriesVeiled
/- write with mayInsert. -/
namespace Go.Proofs.Ytjbehnoococelaa
open Go.RowKit Go Go.Sort Go.Maps

theorem SB.keep {w w' : World} {σ : Nat → Option Nat} {hb bh bs bx : Nat} {mn mx : Int} {l : List Int} {so : Option Addr} {sc : Nat} {own : Int} (k : SB w hb bh bs bx mn mx l so sc own) (t : Tch (fun i => σ i ≠ none) w w') (l1 : σ bh = none) (l2 : σ bs = none) (l3 : σ bx = none) (l4 : ∀ a, so = some a → σ a.block = none) : SB w' hb bh bs bx mn mx l so sc own := by
  refine ⟨by rw [t.block bh (blk_lt k.h) (fun h => h l1)]; exact k.h, by rw [t.block bs (blk_lt k.s) (fun h => h l2)]; exact k.s, by rw [t.block bx (blk_lt k.x) (fun h => h l3)]; exact k.x, fun i n hi => ?_⟩
  obtain ⟨g, o, e, hc⟩ := k.ir i n hi
  exact ⟨g, o, e, by rw [t.cell (p := ⟨g, o + i, none⟩) (cell_lt hc) (fun h => h (l4 ⟨g, o, none⟩ e))]; exact hc⟩
/-- What write gives. -/
def WrOut (w : World) (hb mb tb : Nat) (E : List En) (C : Nat → Ch) (σ : Nat → Option Nat) (q : Nat) (k : Int) (s : List UInt8) (v : Ver) (ee : Nat) (x : Ending) (w' : World) : Prop :=
  ∃ ro rn rc T' E' C' σ', x = .returned (.tuple #[.slice ro rn rc, .int .i64 (ee : Nat)]) ∧ HW w' hb mb tb T' E' C' σ' (q + 3) ∧ labs E' C' = (if ee = 0 then appL (labs E C) k s v else labs E C) ∧ (∀ i, σ i ≠ none → σ' i = σ i) ∧ (∀ i, i < w.heap.size → σ i = none → σ' i = none) ∧ Tch (fun i => σ i ≠ none) w w'
theorem enters_stands : ∀ args w, (callFunc 47 args).run Try.prog w = .ok (.enter 47 args) w := enters_of Try.func47 (by kernel_rfl) rfl
set_option maxHeartbeats 4000000 in
set_option maxRecDepth 100000 in
theorem write_any (w : World) (hb mb tb : Nat) (T : List (Int × Nat)) (E : List En) (C : Nat → Ch) (σ : Nat → Option Nat) (q : Nat) (h : HW w hb mb tb T E C σ q) (hne : ∀ e ∈ E, (C e.b).2.2 ≠ []) (hq : q ≤ 1000) (m : Mg) (F : Nat → Prop) (hM : MF w mb m (fun i => F i ∨ σ i ≠ none)) (k : Int) (h1 : -9223372036854775808 ≤ k) (h2 : k ≤ 9223372036854775807) (S : ByteArray) (hS : S.size ≤ maxLen) (z : VV) (hz : VOK w σ z)
    (bh bs bx : Nat) (mn mx : Int) (l : List Int) (so : Option Addr) (sc : Nat) (own : Int) (h3 : -9223372036854775808 ≤ own) (h4 : own ≤ 9223372036854775807) (hl : l.length ≤ 9223372036854775807) (sb : SB w hb bh bs bx mn mx l so sc own) (l1 : σ bh = none) (l2 : σ bs = none) (l3 : σ bx = none) (l4 : ∀ a, so = some a → σ a.block = none) :
    Calls Try.prog 33 #[.pointer (some ⟨hb, 0, none⟩), .int .i64 k, .string S, .agg #[.int .i64 z.1.wr, .bool z.1.th, .slice z.2.1 z.1.n z.2.2], .func (.func 48) #[] #[.pointer (some ⟨bh, 0, none⟩), .pointer (some ⟨bs, 0, none⟩), .pointer (some ⟨bx, 0, none⟩)], .func (.func 36) #[] #[]] w fun x w' => WrOut w hb mb tb E C σ q k S.data.toList z.1 (insE m mn mx l own (chL (labs E C) k S.data.toList)) x w' := by
  obtain ⟨w0, hw0⟩ : ∃ w0, w0 = w.alloc (.cells #[.int .i64 z.1.wr, .bool z.1.th, .slice z.2.1 z.1.n z.2.2] 84) := ⟨_, rfl⟩
  have t0 : Tch (fun _ => False) w w0 := by rw [hw0]; exact Tch.alloc _ _ _
  have qL := lay_any w0 hb mb tb T E C σ q (h.no t0) hq k h1 h2 S hS z (hz.tch t0 (fun _ _ h => h.elim) (fun _ _ _ => rfl))
  obtain ⟨EE, hEE⟩ : ∃ EE, EE = insE m mn mx l own (chL (labs E C) k S.data.toList) := ⟨_, rfl⟩
  rw [← hEE]
  have HEE : Hid _ := hEE
  obtain ⟨wr, hwr⟩ : ∃ wr, wr = z.1.wr := ⟨_, rfl⟩
  obtain ⟨th, hth⟩ : ∃ th, th = z.1.th := ⟨_, rfl⟩
  obtain ⟨rv, hrv⟩ : ∃ rv, rv = z.2.1 := ⟨_, rfl⟩
  obtain ⟨rn, hrn⟩ : ∃ rn, rn = z.1.n := ⟨_, rfl⟩
  obtain ⟨rc, hrc⟩ : ∃ rc, rc = z.2.2 := ⟨_, rfl⟩
  have e0 : w0.heap[w.heap.size]? = some (.cells #[.int .i64 wr, .bool th, .slice rv rn rc] 84 (0, 0)) := by rw [hw0, hwr, hth, hrv, hrn, hrc]; exact alloc_new _ _
  rw [← hwr, ← hth, ← hrv, ← hrn, ← hrc] at hw0 qL ⊢
  have T0 : Hid _ := t0
  have HH : Hid (∀ w1 (σ' : Nat → Option Nat), Tch (fun i => σ i ≠ none) w0 w1 → (∀ i, i < w0.heap.size → σ i = none → σ' i = none) → (∀ i, σ' i ≠ none → i < w1.heap.size) → MF w1 mb m (fun i => F i ∨ σ' i ≠ none) ∧ SB w1 hb bh bs bx mn mx l so sc own ∧ Tch (fun i => σ i ≠ none) w w1) := fun w1 σ' t hsn hd => ⟨(hM.no t0).beside t hsn hd, (sb.no t0).keep t l1 l2 l3 l4, (t0.mono (fun _ _ h => h.elim)).trans' t⟩
  have HB : Hid (E.Pairwise (fun e f => ¬ (e.k = f.k ∧ e.s = f.s)) ∧ E.Pairwise (fun e f => e.b ≠ f.b) ∧ (∀ e ∈ E, (C e.b).2.2 ≠ []) ∧ q ≤ 1000) := ⟨h.ek, h.eb, hne, hq⟩
  have HK : Hid (-9223372036854775808 ≤ k ∧ k ≤ 9223372036854775807 ∧ S.size ≤ maxLen ∧ -9223372036854775808 ≤ own ∧ own ≤ 9223372036854775807 ∧ l.length ≤ 9223372036854775807 ∧ w0.heap.size = w.heap.size + 1) := ⟨h1, h2, hS, h3, h4, hl, by rw [hw0]; simp⟩
  have Hw0 : Hid _ := hw0
  have hmf : ∀ (fn : Fn) (first cap : Array Value) (w : World), (Instr.makeFunc fn first cap).run Try.prog w = .ok (.func fn first cap) w := fun _ _ _ _ => rfl
  have k0 : w0.cell? ⟨w.heap.size, 0, none⟩ = some (.int .i64 wr) := by rw [blk_cell e0]; rfl
  have k1 : w0.cell? ⟨w.heap.size, 1, none⟩ = some (.bool th) := by rw [blk_cell e0]; rfl
  have k2 : w0.cell? ⟨w.heap.size, 2, none⟩ = some (.slice rv rn rc) := by rw [blk_cell e0]; rfl
  rw [hw0] at qL
  clear h hne hq hM h1 h2 hS hz h3 h4 hl sb l1 l2 l3 l4 t0 hEE hwr hth hrv hrn hrc e0 hw0 k0 k1 k2
  go_enter_defers Try.func33, Try.ntmps33
  go_wp2_with fail
  refine qL.mono ?_
  clear qL
  rw [← Hw0.out]
  rintro x w1 ⟨T', E', C', σ', cb, co, cc, zs, bc, bw, bh', bt, bk, wo, wc, rfl, hw1, u1, me, hC, hold, hoth, hsg, hsn, t1⟩
  obtain ⟨hM1, sb1, T1⟩ := HH.out w1 σ' t1 hsn hw1.dom
  obtain ⟨hek, heb, hne, hq⟩ := HB.out
  obtain ⟨h1, h2, hS, h3, h4, hl, hs0⟩ := HK.out
  have hn : lkE E k S.data.toList = none → ∀ e ∈ E, e.b ≠ cb := fun h0 e he => by
    rcases hold with ⟨_, e1, _⟩ | ⟨rfl, _, _⟩
    · rw [h0] at e1; cases e1
    · have := hw1.eb
      rw [List.pairwise_append] at this
      exact this.2.2 e he _ (List.mem_singleton.2 rfl)
  obtain ⟨hlab, hchl⟩ := labs_app hek heb hC hold hoth hn
  have hlabU := fun wo wc => labs_undo (wo := wo) (wc := wc) hek heb hold hoth hn hne
  have hEE : EE = insE m mn mx l own (zs.map (·.1)) := by rw [HEE.out, hchl]
  have hlz : zs.length ≤ 1000000 := by
    have := (hw1.chs _ me).2
    rw [hC] at this
    simp at this
    omega
  have hsn' : ∀ i, i < w.heap.size → σ i = none → σ' i = none := fun i hi h0 => hsn i (by omega) h0
  have HO : Hid (∀ w9 (ee : Nat) (ro : Option Addr) (rn rc : Nat), ee = EE → EE = 0 → Tch (fun _ => False) w1 w9 → WrOut w hb mb tb E C σ q k S.data.toList z.1 EE (.returned (.tuple #[.slice ro rn rc, .int .i64 (ee : Nat)])) w9) := fun w9 ee ro rn rc he h0 t => by
    subst he
    exact ⟨ro, rn, rc, T', E', C', σ', rfl, hw1.no t, by rw [if_pos h0]; exact hlab, hsg, hsn', T1.trans t (fun _ _ h => h.elim)⟩
  have HU : Hid (∀ w9 (R : World → Prop), Tch (fun _ => False) w1 w9 → EE ≠ 0 → (∀ w8, WrOut w hb mb tb E C σ q k S.data.toList z.1 EE (.returned (.tuple #[.slice none 0 0, .int .i64 (EE : Nat)])) w8 → R w8) → Calls Try.prog 57 #[.pointer (some ⟨bc, 0, none⟩), .pointer (some ⟨bw, 0, none⟩), .pointer (some ⟨bh', 0, none⟩), .pointer (some ⟨bt, 0, none⟩), .pointer (some ⟨bk, 0, none⟩)] w9 fun x w' => x = .returned (.tuple #[]) ∧ R w') := fun w9 R t hne0 hR => by
    refine (undo_any w9 hb mb tb T' E' C' σ' (q + 3) (hw1.no t) k h1 h2 S hS cb wo wc zs bc bw bh' bt bk (u1.no t) me co cc z hC (by omega)).mono ?_
    rintro x w8 ⟨rfl, ⟨T8, hw8⟩, t8⟩
    refine ⟨rfl, hR w8 ⟨none, 0, 0, T8, _, _, σ', rfl, hw8, by rw [if_neg hne0]; exact hlabU wo wc, hsg, hsn', (T1.trans t (fun _ _ h => h.elim)).trans t8 (fun i hi hs h0 => hs (hsn' i hi h0))⟩⟩
  obtain ⟨W2, hW2⟩ : ∃ W2, W2 = (w1.alloc (.cells #[.func (.func 57) #[] #[.pointer (some ⟨bc, 0, none⟩), .pointer (some ⟨bw, 0, none⟩), .pointer (some ⟨bh', 0, none⟩), .pointer (some ⟨bt, 0, none⟩), .pointer (some ⟨bk, 0, none⟩)]] 1)).alloc (.cells #[.bool false] 4) := ⟨_, rfl⟩
  have t2 : Tch (fun _ => False) w1 W2 := by rw [hW2]; exact (Tch.alloc _ _ _).allocR _
  have b15 : W2.heap[w1.heap.size]? = some (.cells #[.func (.func 57) #[] #[.pointer (some ⟨bc, 0, none⟩), .pointer (some ⟨bw, 0, none⟩), .pointer (some ⟨bh', 0, none⟩), .pointer (some ⟨bt, 0, none⟩), .pointer (some ⟨bk, 0, none⟩)]] 1 (0, 0)) := by
    rw [hW2, (Tch.alloc (fun _ => False) (w1.alloc (.cells #[.func (.func 57) #[] #[.pointer (some ⟨bc, 0, none⟩), .pointer (some ⟨bw, 0, none⟩), .pointer (some ⟨bh', 0, none⟩), .pointer (some ⟨bt, 0, none⟩), .pointer (some ⟨bk, 0, none⟩)]] 1)) _).block _ (by simp) (fun h => h)]; exact alloc_new _ _
  have b16 : W2.heap[w1.heap.size + 1]? = some (.cells #[.bool false] 4 (0, 0)) := by
    rw [hW2]
    have := alloc_new (w1.alloc (.cells #[.func (.func 57) #[] #[.pointer (some ⟨bc, 0, none⟩), .pointer (some ⟨bw, 0, none⟩), .pointer (some ⟨bh', 0, none⟩), .pointer (some ⟨bt, 0, none⟩), .pointer (some ⟨bk, 0, none⟩)]] 1)) (.cells #[.bool false] 4)
    rwa [World.size_alloc] at this
  have hc0 := hw1.c0
  have hok := u1.ok
  have qN := newest_any wo wc zs hlz W2 ((vrd_of u1.row).tch t2) (fun z => ((m.state z.1.wr : Int) != 4)) 47 #[.pointer (some ⟨hb, 0, none⟩)] #[] ⟨enters_stands, fun z' W hz' tW => by
    have tt := t2.trans' tW
    exact stands_any hb mb m W _ (hM1.no tt) (by rw [tt.cell (p := ⟨hb, 0, none⟩) (cell_lt hc0) (fun h => h)]; exact hc0) z'.1.wr (hok z' hz').lo (hok z' hz').hi z'.1.th z'.2.1 z'.1.n z'.2.2⟩
  have HQ : Hid (∀ W (z' : VV), z' ∈ zs → Tch (fun _ => False) w1 W → Calls Try.prog 48 #[.agg #[.int .i64 z'.1.wr, .bool z'.1.th, .slice z'.2.1 z'.1.n z'.2.2], .pointer (some ⟨bh, 0, none⟩), .pointer (some ⟨bs, 0, none⟩), .pointer (some ⟨bx, 0, none⟩)] W fun x w' => x = .returned (.bool (m.sees mn mx l own z'.1.wr)) ∧ Tch (fun _ => False) W w') := fun W z' hz' tt =>
    seen1_any hb mb m W _ (hM1.no tt) (by rw [tt.cell (p := ⟨hb, 0, none⟩) (cell_lt hc0) (fun h => h)]; exact hc0) z'.1.wr (hok z' hz').lo (hok z' hz').hi z'.1.th z'.2.1 z'.1.n z'.2.2 bh bs bx mn mx l so sc own h3 h4 hl (sb1.no tt)
  have HR : Hid (∀ W (z' : VV), z' ∈ zs → Tch (fun _ => False) w1 W → RdR W z'.2.1 z'.1.n z'.2.2 z'.1.cs) := fun W z' hz' tt => (RdR.of_own (hok z' hz').own (hok z' hz').one (hok z' hz').sm).no tt
  obtain ⟨ln, hln⟩ : ∃ ln, ln = zs.length := ⟨_, rfl⟩
  rw [← hln] at qN ⊢
  have HE : Hid _ := hEE
  have T2 : Hid _ := t2
  have HW2 : Hid _ := hW2
  have B15 : Hid _ := b15
  have B16 : Hid _ := b16
  clear HH HB HK hM1 sb1 T1 hek heb hne hq h1 h2 hS h3 h4 hl hs0 hn hlab hchl hlabU hEE hlz hsn' hc0 hok hold hoth hsg hsn t1 hC me u1 hw1 t2 b15 b16 hln
  rw [hW2] at qN
  clear hW2
  go_wp2_with fail
  refine qN.mono ?_
  clear qN
  rw [← HW2.out]
  rintro x w3 ⟨hnw, t3⟩
  have T3 : Hid (Tch (fun _ => False) w1 w3) := T2.out.trans' t3
  have c15 : Hid (∀ W, Tch (fun _ => False) w3 W → W.heap[w1.heap.size]? = some (.cells #[.func (.func 57) #[] #[.pointer (some ⟨bc, 0, none⟩), .pointer (some ⟨bw, 0, none⟩), .pointer (some ⟨bh', 0, none⟩), .pointer (some ⟨bt, 0, none⟩), .pointer (some ⟨bk, 0, none⟩)]] 1 (0, 0)) ∧ W.heap[w1.heap.size + 1]? = some (.cells #[.bool false] 4 (0, 0))) := fun W t =>
    ⟨by rw [(t3.trans' t).block _ (blk_lt B15.out) (fun h => h)]; exact B15.out, by rw [(t3.trans' t).block _ (blk_lt B16.out) (fun h => h)]; exact B16.out⟩
  clear t3
  rcases hnw with ⟨hall, rfl⟩ | ⟨i, z0, hz0, hp0, hla, rfl⟩
  · have hE0 : EE = 0 := by rw [HE.out]; exact insE_none hall
    obtain ⟨w4, hw4⟩ : ∃ w4, w4 = w3.alloc (.cells #[.int .i64 0, .bool false, .slice none 0 0] 84) := ⟨_, rfl⟩
    have t4 : Tch (fun _ => False) w3 w4 := by rw [hw4]; exact Tch.alloc _ _ _
    have OB : Hid (w4.heap[w3.heap.size]? = some (.cells #[.int .i64 0, .bool false, .slice none 0 0] 84 (0, 0))) := by
      show _ = _
      rw [hw4]; exact alloc_new _ _
    have qM := mayInsert_any 0 false none 0 0 w4
    simp only [Bool.false_eq_true, if_false] at qM
    rw [hw4] at qM
    clear hall
    go_wp2_with fail
    refine qM.mono ?_
    rw [← hw4]
    rintro x w5 ⟨rfl, t5⟩
    clear qM
    obtain ⟨b15, b16⟩ := c15.out w5 (t4.trans' t5)
    have bo : w5.heap[w3.heap.size]? = some (.cells #[.int .i64 0, .bool false, .slice none 0 0] 84 (0, 0)) := by rw [t5.block _ (blk_lt OB.out) (fun h => h)]; exact OB.out
    have a16 : w5.cell? ⟨w1.heap.size + 1, 0, none⟩ = some (.bool false) := by rw [blk_cell b16]; rfl
    have f16 := blk_frozen b16 0
    have b16' := blk_set (i := 0) b16 (.bool true)
    have tS : Tch (fun i => i = w1.heap.size + 1) w5 (w5.setCell ⟨w1.heap.size + 1, 0, none⟩ (.bool true)) := Tch.setCell (fun i => i = w1.heap.size + 1) w5 ⟨w1.heap.size + 1, 0, none⟩ _ rfl
    have T5 : Tch (fun _ => False) w1 w5 := (T3.out.trans' t4).trans' t5
    have T6 : Tch (fun _ => False) w1 (w5.setCell ⟨w1.heap.size + 1, 0, none⟩ (.bool true)) := tch_new T5 (Nat.le_succ _) tS
    have hob : w3.heap.size ≠ w1.heap.size + 1 := fun e => by rw [e, b16] at bo; cases bo
    have bo' : (w5.setCell ⟨w1.heap.size + 1, 0, none⟩ (.bool true)).heap[w3.heap.size]? = some (.cells #[.int .i64 0, .bool false, .slice none 0 0] 84 (0, 0)) := by rw [tS.block _ (blk_lt bo) hob]; exact bo
    have ao : (w5.setCell ⟨w1.heap.size + 1, 0, none⟩ (.bool true)).cell? ⟨w3.heap.size, 2, none⟩ = some (.slice none 0 0) := by rw [blk_cell bo']; rfl
    have qC := rclone_any none 0 0 [] (w5.setCell ⟨w1.heap.size + 1, 0, none⟩ (.bool true)) ⟨rfl, (fun u hu => by cases hu), by omega, .inl ⟨rfl, rfl, rfl⟩⟩
    have HB16 : Hid _ := b16'
    have HT6 : Hid _ := T6
    clear b15 b16 b16' bo bo' tS T5 T6 hob t5
    go_wp2_with fail
    refine qC.mono ?_
    rintro x w7 ⟨⟨ro7, rc7, rfl, _⟩, t7⟩
    clear qC
    have d7 : w7.cell? ⟨w1.heap.size + 1, 0, none⟩ = some (.bool true) := by rw [t7.cell (p := ⟨w1.heap.size + 1, 0, none⟩) (blk_lt HB16.out) (fun h => h), blk_cell HB16.out]; rfl
    have T7 : Tch (fun _ => False) w1 w7 := HT6.out.trans' t7
    clear t7 ao a16 f16
    go_wp2_with fail
    refine leaves_cons (f := 46) (args := #[.pointer (some ⟨w1.heap.size + 1, 0, none⟩), .pointer (some ⟨w1.heap.size, 0, none⟩)]) (by simp) (by simp [go_sem]) ?_
    refine (wdone_d _ _ .returning _ d7).mono ?_
    rintro e u' w'' ⟨rfl, rfl, rfl⟩
    refine ⟨_, results_tmp2 rfl _ _ _, ?_⟩
    exact HO.out _ 0 _ _ _ hE0.symm hE0 T7
  · have hEs := HE.out.trans (insE_some hz0 hp0 hla)
    have hm0 : z0 ∈ zs := List.mem_of_getElem? hz0
    obtain ⟨w4, hw4⟩ : ∃ w4, w4 = w3.alloc (.cells #[.int .i64 z0.1.wr, .bool z0.1.th, .slice z0.2.1 z0.1.n z0.2.2] 84) := ⟨_, rfl⟩
    have t4 : Tch (fun _ => False) w3 w4 := by rw [hw4]; exact Tch.alloc _ _ _
    have OB : Hid (w4.heap[w3.heap.size]? = some (.cells #[.int .i64 z0.1.wr, .bool z0.1.th, .slice z0.2.1 z0.1.n z0.2.2] 84 (0, 0))) := by
      show _ = _
      rw [hw4]; exact alloc_new _ _
    have qS := HQ.out w4 z0 hm0 (T3.out.trans' t4)
    rw [hw4] at qS
    clear hz0 hp0 hla
    cases hse : m.sees mn mx l own z0.1.wr
    · rw [hse] at qS
      have hE0 : EE = 92 := by rw [hEs, hse]; rfl
      clear hEs hse
      go_wp2_with fail
      refine qS.mono ?_
      rw [← hw4]
      rintro x w5 ⟨rfl, t5⟩
      clear qS
      have T5 : Tch (fun _ => False) w1 w5 := (T3.out.trans' t4).trans' t5
      obtain ⟨b15, b16⟩ := c15.out w5 (t4.trans' t5)
      have d5 : w5.cell? ⟨w1.heap.size + 1, 0, none⟩ = some (.bool false) := by rw [blk_cell b16]; rfl
      have d6 : w5.cell? ⟨w1.heap.size, 0, none⟩ = some (.func (.func 57) #[] #[.pointer (some ⟨bc, 0, none⟩), .pointer (some ⟨bw, 0, none⟩), .pointer (some ⟨bh', 0, none⟩), .pointer (some ⟨bt, 0, none⟩), .pointer (some ⟨bk, 0, none⟩)]) := by rw [blk_cell b15]; rfl
      clear b15 b16 t5
      go_wp2_with fail
      refine leaves_cons (f := 46) (args := #[.pointer (some ⟨w1.heap.size + 1, 0, none⟩), .pointer (some ⟨w1.heap.size, 0, none⟩)]) (by simp) (by simp [go_sem]) ?_
      refine (wundo_d _ _ .returning _ _ d5 _ _ _ _ _ d6 (HU.out _ _ T5 (by rw [hE0]; decide) (fun _ h => h))).mono ?_
      rintro e u' w'' ⟨rfl, rfl, hw⟩
      refine ⟨_, results_tmp2 rfl _ _ _, ?_⟩
      rw [hE0] at hw
      rw [hE0]
      exact hw
    · rw [hse] at qS
      cases hth0 : z0.1.th
      · have hE0 : EE = 0 := by rw [hEs, hse, hth0]; rfl
        rw [hth0] at qS hw4
        have hrd := HR.out
        clear hEs hse
        go_wp2_with fail
        refine qS.mono ?_
        rw [← hw4]
        rintro x w5s ⟨rfl, t5s⟩
        clear qS
        have OB1 : Hid (w5s.heap[w3.heap.size]? = some (.cells #[.int .i64 z0.1.wr, .bool false, .slice z0.2.1 z0.1.n z0.2.2] 84 (0, 0))) := by
          have := OB.out
          rw [hth0] at this
          show _ = _
          rw [t5s.block _ (blk_lt this) (fun h => h)]; exact this
        have o0 : w5s.cell? ⟨w3.heap.size, 0, none⟩ = some (.int .i64 z0.1.wr) := by rw [blk_cell OB1.out]; rfl
        have o1 : w5s.cell? ⟨w3.heap.size, 1, none⟩ = some (.bool false) := by rw [blk_cell OB1.out]; rfl
        have o2 : w5s.cell? ⟨w3.heap.size, 2, none⟩ = some (.slice z0.2.1 z0.1.n z0.2.2) := by rw [blk_cell OB1.out]; rfl
        have t45 := t4.trans' t5s
        have qM := mayInsert_any z0.1.wr false z0.2.1 z0.1.n z0.2.2 w5s
        simp only [Bool.false_eq_true, if_false] at qM
        clear OB hth0 t5s t4 hw4
        go_wp2_with fail
        refine qM.mono ?_
        rintro x w5 ⟨rfl, t5⟩
        clear qM o0 o1 o2
        obtain ⟨b15, b16⟩ := c15.out w5 (t45.trans' t5)
        have bo : w5.heap[w3.heap.size]? = some (.cells #[.int .i64 z0.1.wr, .bool false, .slice z0.2.1 z0.1.n z0.2.2] 84 (0, 0)) := by rw [t5.block _ (blk_lt OB1.out) (fun h => h)]; exact OB1.out
        have a16 : w5.cell? ⟨w1.heap.size + 1, 0, none⟩ = some (.bool false) := by rw [blk_cell b16]; rfl
        have f16 := blk_frozen b16 0
        have b16' := blk_set (i := 0) b16 (.bool true)
        have tS : Tch (fun i => i = w1.heap.size + 1) w5 (w5.setCell ⟨w1.heap.size + 1, 0, none⟩ (.bool true)) := Tch.setCell (fun i => i = w1.heap.size + 1) w5 ⟨w1.heap.size + 1, 0, none⟩ _ rfl
        have T5 : Tch (fun _ => False) w1 w5 := (T3.out.trans' t45).trans' t5
        have T6 : Tch (fun _ => False) w1 (w5.setCell ⟨w1.heap.size + 1, 0, none⟩ (.bool true)) := tch_new T5 (Nat.le_succ _) tS
        have hob : w3.heap.size ≠ w1.heap.size + 1 := fun e => by rw [e, b16] at bo; cases bo
        have bo' : (w5.setCell ⟨w1.heap.size + 1, 0, none⟩ (.bool true)).heap[w3.heap.size]? = some (.cells #[.int .i64 z0.1.wr, .bool false, .slice z0.2.1 z0.1.n z0.2.2] 84 (0, 0)) := by rw [tS.block _ (blk_lt bo) hob]; exact bo
        have ao : (w5.setCell ⟨w1.heap.size + 1, 0, none⟩ (.bool true)).cell? ⟨w3.heap.size, 2, none⟩ = some (.slice z0.2.1 z0.1.n z0.2.2) := by rw [blk_cell bo']; rfl
        have qC := rclone_any z0.2.1 z0.1.n z0.2.2 z0.1.cs (w5.setCell ⟨w1.heap.size + 1, 0, none⟩ (.bool true)) (hrd _ z0 hm0 T6)
        have HB16 : Hid _ := b16'
        have HT6 : Hid _ := T6
        clear b15 b16 b16' bo bo' tS T5 T6 hob t5
        go_wp2_with fail
        refine qC.mono ?_
        rintro x w7 ⟨⟨ro7, rc7, rfl, _⟩, t7⟩
        clear qC
        have d7 : w7.cell? ⟨w1.heap.size + 1, 0, none⟩ = some (.bool true) := by rw [t7.cell (p := ⟨w1.heap.size + 1, 0, none⟩) (blk_lt HB16.out) (fun h => h), blk_cell HB16.out]; rfl
        have T7 : Tch (fun _ => False) w1 w7 := HT6.out.trans' t7
        clear t7 ao a16 f16
        go_wp2_with fail
        refine leaves_cons (f := 46) (args := #[.pointer (some ⟨w1.heap.size + 1, 0, none⟩), .pointer (some ⟨w1.heap.size, 0, none⟩)]) (by simp) (by simp [go_sem]) ?_
        refine (wdone_d _ _ .returning _ d7).mono ?_
        rintro e u' w'' ⟨rfl, rfl, rfl⟩
        refine ⟨_, results_tmp2 rfl _ _ _, ?_⟩
        exact HO.out _ 0 _ _ _ hE0.symm hE0 T7
      · have hE0 : EE = 91 := by rw [hEs, hse, hth0]; rfl
        rw [hth0] at qS hw4
        clear hEs hse
        go_wp2_with fail
        refine qS.mono ?_
        rw [← hw4]
        rintro x w5s ⟨rfl, t5s⟩
        clear qS
        have OB1 : Hid (w5s.heap[w3.heap.size]? = some (.cells #[.int .i64 z0.1.wr, .bool true, .slice z0.2.1 z0.1.n z0.2.2] 84 (0, 0))) := by
          have := OB.out
          rw [hth0] at this
          show _ = _
          rw [t5s.block _ (blk_lt this) (fun h => h)]; exact this
        have o0 : w5s.cell? ⟨w3.heap.size, 0, none⟩ = some (.int .i64 z0.1.wr) := by rw [blk_cell OB1.out]; rfl
        have o1 : w5s.cell? ⟨w3.heap.size, 1, none⟩ = some (.bool true) := by rw [blk_cell OB1.out]; rfl
        have o2 : w5s.cell? ⟨w3.heap.size, 2, none⟩ = some (.slice z0.2.1 z0.1.n z0.2.2) := by rw [blk_cell OB1.out]; rfl
        have t45 := t4.trans' t5s
        have qM := mayInsert_any z0.1.wr true z0.2.1 z0.1.n z0.2.2 w5s
        simp only [if_true] at qM
        clear OB hth0 t5s t4 hw4
        go_wp2_with fail
        refine qM.mono ?_
        rintro x w5 ⟨rfl, t5⟩
        clear qM o0 o1 o2
        have T5 : Tch (fun _ => False) w1 w5 := (T3.out.trans' t45).trans' t5
        obtain ⟨b15, b16⟩ := c15.out w5 (t45.trans' t5)
        have d5 : w5.cell? ⟨w1.heap.size + 1, 0, none⟩ = some (.bool false) := by rw [blk_cell b16]; rfl
        have d6 : w5.cell? ⟨w1.heap.size, 0, none⟩ = some (.func (.func 57) #[] #[.pointer (some ⟨bc, 0, none⟩), .pointer (some ⟨bw, 0, none⟩), .pointer (some ⟨bh', 0, none⟩), .pointer (some ⟨bt, 0, none⟩), .pointer (some ⟨bk, 0, none⟩)]) := by rw [blk_cell b15]; rfl
        clear b15 b16 t5
        go_wp2_with fail
        refine leaves_cons (f := 46) (args := #[.pointer (some ⟨w1.heap.size + 1, 0, none⟩), .pointer (some ⟨w1.heap.size, 0, none⟩)]) (by simp) (by simp [go_sem]) ?_
        refine (wundo_d _ _ .returning _ _ d5 _ _ _ _ _ d6 (HU.out _ _ T5 (by rw [hE0]; decide) (fun _ h => h))).mono ?_
        rintro e u' w'' ⟨rfl, rfl, hw⟩
        refine ⟨_, results_tmp2 rfl _ _ _, ?_⟩
        rw [hE0] at hw
        rw [hE0]
        exact hw
end Go.Proofs.Ytjbehnoococelaa
