import Derived.Test.YtmfbhhloabkecaaGreatDoorCChg
import Derived.Test.YtmfbhhloabkecaaGreatDoorRW3
set_option maxHeartbeats 4000000
set_option maxRecDepth 100000
namespace Go.Proofs.YtmfbhhloabkecaaGreatDoor.C
open Go.RowKit Go
theorem own_set {W : World} {base sz n c T j : Nat} {e : TypeId} {xs : List Value} (h : W.ownsRow base e sz (.slice (some ⟨T, 0, none⟩) n c) n xs) (u : Value) : (W.setCell ⟨T, j, none⟩ u).ownsRow base e sz (.slice (some ⟨T, 0, none⟩) n c) n (xs.set j u) := by
  refine ⟨by rw [List.length_set]; exact h.1, ?_⟩
  rcases h.2 with ⟨h1, _⟩ | ⟨g, cap, cur, hv, hb, hg, hnc, hcm, hcs, htk⟩
  · injection h1 with h1; cases h1
  · injection hv with e1 e2 e3
    injection e1 with e1
    injection e1 with e1
    subst e1 e3
    refine Or.inr ⟨T, c, cur.setIfInBounds j u, rfl, hb, blk_set hg u, hnc, hcm, by simp [hcs], ?_⟩
    rw [Array.toList_setIfInBounds, List.take_set, htk]
theorem tcl_set : ∀ (P : List (Tbl × Value)) (k j : Nat) (hk : k < P.length) (u : Value) (p : Tbl × Value), j < 5 → tcs p = (tcs P[k]).set j u → (tcl P).set (k * 5 + j) u = tcl (P.set k p)
  | [], k, j, hk, _, _, _, _ => by simp at hk
  | a :: P, 0, j, _, u, p, hj, hp => by
    unfold tcl
    simp only [List.set_cons_zero, List.flatMap_cons, Nat.zero_mul, Nat.zero_add]
    rw [List.set_append_left _ _ (by simp [tcs]; omega), hp]; rfl
  | a :: P, k + 1, j, hk, u, p, hj, hp => by
    have ih := tcl_set P k j (by simpa using hk) u p hj hp
    unfold tcl at ih ⊢
    simp only [List.set_cons_succ, List.flatMap_cons]
    rw [List.set_append_right _ _ (by simp [tcs]; omega), ← ih]
    congr 2
    simp [tcs]; omega
theorem TO.turn {W W' : World} {base T c k : Nat} {P : List (Tbl × Value)} (h : TO W base (.slice (some ⟨T, 0, none⟩) P.length c) P) (hk : k < P.length) (p : Tbl × Value) (hW' : W'.ownsRow base 29 5 (.slice (some ⟨T, 0, none⟩) P.length c) P.length (tcl (P.set k p))) (hc : W'.ownsRow base 43 3 p.2 p.1.cols.length (ccl p.1.cols))
    (ho : ∀ i (hi : i < P.length), i ≠ k → W'.ownsRow base 43 3 P[i].2 P[i].1.cols.length (ccl P[i].1.cols)) (hT : ∀ g, p.2.ownBlock = some g → g ≠ T ∧ ∀ i (hi : i < P.length), i ≠ k → P[i].2.ownBlock ≠ some g) : TO W' base (.slice (some ⟨T, 0, none⟩) (P.set k p).length c) (P.set k p) := by
  have hTT : ∀ g, (Value.slice (some ⟨T, 0, none⟩) (P.set k p).length c).ownBlock = some g → g = T := fun g e => by
    have : T = g := by simpa [Value.ownBlock] using e
    exact this.symm
  have hsT : ∀ i (hi : i < P.length) g, P[i].2.ownBlock = some g → g ≠ T := fun i hi g e e2 => h.sep i hi g e (by rw [e2]; rfl)
  refine ⟨by rw [List.length_set]; exact hW', fun i hi => ?_, fun i hi g e e2 => ?_, fun i j hi0 hj0 g hij e1 e2 => ?_⟩
  · rw [List.length_set] at hi
    by_cases hik : i = k
    · subst hik; simp only [List.getElem_set_self]; exact hc
    · simp only [List.getElem_set_ne (fun h => hik h.symm)]; exact ho i hi hik
  · have e3 := hTT g e2
    rw [List.length_set] at hi
    by_cases hik : i = k
    · subst hik; simp only [List.getElem_set_self] at e; exact (hT g e).1 e3
    · simp only [List.getElem_set_ne (fun h => hik h.symm)] at e; exact hsT i hi g e e3
  · have hi : i < P.length := by rw [List.length_set] at hi0; exact hi0
    have hj : j < P.length := by rw [List.length_set] at hj0; exact hj0
    by_cases hik : i = k <;> by_cases hjk : j = k
    · omega
    · subst hik
      simp only [List.getElem_set_self] at e1
      simp only [List.getElem_set_ne (fun h => hjk h.symm)] at e2
      exact (hT g e1).2 j hj hjk e2
    · subst hjk
      simp only [List.getElem_set_self] at e2
      simp only [List.getElem_set_ne (fun h => hik h.symm)] at e1
      exact (hT g e2).2 i hi hik e1
    · simp only [List.getElem_set_ne (fun h => hik h.symm)] at e1
      simp only [List.getElem_set_ne (fun h => hjk h.symm)] at e2
      exact h.dis i j hi hj g hij e1 e2
def widT (t : Tbl) (x : Col) : Tbl := ⟨t.id, t.ver + 1, t.nm, t.cols ++ [x], t.key⟩
def widE (t : Tbl) (x : Col) : Int := if colsE (t.cols ++ [x]) ≠ 0 then colsE (t.cols ++ [x]) else if x.nl = false ∨ t.ver = 2147483647 then 1 else 0
theorem ccl_snoc (l : List Col) (x : Col) : ccl (l ++ [x]) = ccl l ++ [.string x.nm, .int .i64 x.k, .bool x.nl] := f3_append ..
end Go.Proofs.YtmfbhhloabkecaaGreatDoor.C
namespace Go.Proofs.YtmfbhhloabkecaaGreatDoor.C
open Go.RowKit
theorem tkCols_succ (S : ByteArray) (n : Nat) (p : Nat × Int) (l : List Col) : tkCols S (n + 1) p l = tkCols S n (tkCol S p).2 (l ++ [(tkCol S p).1]) := rfl
theorem takeTable_any (b : Nat) (S : ByteArray) (a : Nat) (e : Int) (w : World) (h : RD w b S a e) (hS : S.size ≤ 281474976710656) :
    Calls Tryz.prog 228 #[.pointer (some ⟨b, 0, none⟩)] w fun x w' => (∃ v, x = .returned (tA (tkTab S (a, e)).1.id (tkTab S (a, e)).1.ver (tkTab S (a, e)).1.nm v (tkTab S (a, e)).1.key) ∧ w'.ownsRow w.heap.size 43 3 v (tkTab S (a, e)).1.cols.length (ccl (tkTab S (a, e)).1.cols)) ∧ RD w' b S (tkTab S (a, e)).2.1 (tkTab S (a, e)).2.2 ∧ Tch (fun i => i = b) w w' := by
  obtain ⟨j0, hj0, hz0, hz1, hz2⟩ := info_parts info_col
  have HI0 : Hid _ := hj0
  have HZ0 : Hid _ := hz0
  have HZ1 : Hid _ := hz1
  have HZ2 : Hid _ := hz2
  clear hj0 hz0 hz1 hz2
  have hb := cell_lt h.st.c0
  obtain ⟨w0, hw0⟩ : ∃ w0, w0 = w.alloc (.cells #[.int .i64 0, .int .i64 0, .string ⟨#[]⟩, .slice none 0 0, .int .i64 0] 29) := ⟨_, rfl⟩
  have b0 : w0.heap[w.heap.size]? = some (.cells #[.int .i64 0, .int .i64 0, .string ⟨#[]⟩, .slice none 0 0, .int .i64 0] 29 (0, 0)) := by rw [hw0]; exact heap_new w _
  have t0 : Tch (fun _ => False) w w0 := by rw [hw0]; exact Tch.alloc _ _ _
  have q1 := rvar_any b S a e w0 (RD.no h t0) hS
  rw [hw0] at q1
  have HW0 : Hid (w0 = w.alloc (.cells #[.int .i64 0, .int .i64 0, .string ⟨#[]⟩, .slice none 0 0, .int .i64 0] 29)) := hw0
  unfold tkTab
  simp only
  obtain ⟨A1, hA1⟩ : ∃ A, A = numR 9 127 S a e := ⟨_, rfl⟩
  rw [← hA1] at q1 ⊢
  obtain ⟨A2, hA2⟩ : ∃ A, A = numR 9 127 S A1.2.1 A1.2.2 := ⟨_, rfl⟩
  rw [← hA2]
  obtain ⟨A3, hA3⟩ : ∃ A, A = textR 16 S A2.2.1 A2.2.2 := ⟨_, rfl⟩
  rw [← hA3]
  obtain ⟨A4, hA4⟩ : ∃ A, A = byteR S A3.2.1 A3.2.2 := ⟨_, rfl⟩
  have hn := byteR_lt S A3.2.1 A3.2.2
  rw [← hA4] at hn ⊢
  obtain ⟨A5, hA5⟩ : ∃ A, A = tkCols S A4.1 A4.2 [] := ⟨_, rfl⟩
  rw [← hA5]
  obtain ⟨A6, hA6⟩ : ∃ A, A = byteR S A5.2.1 A5.2.2 := ⟨_, rfl⟩
  rw [← hA6]
  have HA : Hid (A2 = numR 9 127 S A1.2.1 A1.2.2 ∧ A3 = textR 16 S A2.2.1 A2.2.2 ∧ A4 = byteR S A3.2.1 A3.2.2 ∧ A6 = byteR S A5.2.1 A5.2.2) := ⟨hA2, hA3, hA4, hA6⟩
  have HA5 : Hid (A5 = tkCols S A4.1 A4.2 []) := hA5
  have HT0 : Hid (Tch (fun _ => False) w w0) := t0
  have HB0 : Hid (w0.heap[w.heap.size]? = some (.cells #[.int .i64 0, .int .i64 0, .string ⟨#[]⟩, .slice none 0 0, .int .i64 0] 29 (0, 0))) := b0
  clear hA1 hA2 hA3 hA4 hA5 hA6 h hw0 t0 b0
  go_enter Tryz.func228, Tryz.ntmps228
  go_wp2_with fail
  refine q1.mono ?_
  rintro x w1 ⟨rfl, h1, t1⟩
  rw [← HW0.out] at t1
  clear q1
  have q2 := rvar_any b S A1.2.1 A1.2.2 w1 h1 hS
  rw [← HA.out.1] at q2
  go_wp2_with fail
  refine q2.mono ?_
  rintro x w2 ⟨rfl, h2, t2⟩
  clear q2
  have q3 := rtext_any b S A2.2.1 A2.2.2 16 w2 h2 hS
  rw [← HA.out.2.1] at q3
  go_wp2_with fail
  refine q3.mono ?_
  rintro x w3 ⟨rfl, h3, t3⟩
  clear q3
  have T3 : Tch (fun i => i = b) w0 w3 := (t1.trans' t2).trans' t3
  have hz3 : w.heap.size < w3.heap.size := by
    have := T3.size
    have := blk_lt HB0.out
    omega
  obtain ⟨i1, hi1⟩ : ∃ i1 : Int, i1 = (A1.1 : Int) := ⟨_, rfl⟩
  obtain ⟨i2, hi2⟩ : ∃ i2 : Int, i2 = (A2.1 : Int) := ⟨_, rfl⟩
  obtain ⟨nm, hnm⟩ : ∃ nm, nm = A3.1 := ⟨_, rfl⟩
  rw [← hi1, ← hi2, ← hnm]
  have HI : Hid (i1 = (A1.1 : Int) ∧ i2 = (A2.1 : Int) ∧ nm = A3.1) := ⟨hi1, hi2, hnm⟩
  clear t1 t2 t3 h1 h2 hi1 hi2 hnm
  obtain ⟨w4, hw4⟩ : ∃ w4, w4 = w3.alloc (.cells #[.int .i64 i1, .int .i64 i2, .string nm, .slice none 0 0, .int .i64 0] 29) := ⟨_, rfl⟩
  have t4 : Tch (fun _ => False) w3 w4 := by rw [hw4]; exact Tch.alloc _ _ _
  have b4 : w4.heap[w3.heap.size]? = some (.cells #[.int .i64 i1, .int .i64 i2, .string nm, .slice none 0 0, .int .i64 0] 29 (0, 0)) := by rw [hw4]; exact heap_new w3 _
  have q4 := rbyte_any b S A3.2.1 A3.2.2 w4 (RD.no h3 t4) hS
  rw [← HA.out.2.2.1, hw4] at q4
  have HW4 : Hid (w4 = w3.alloc (.cells #[.int .i64 i1, .int .i64 i2, .string nm, .slice none 0 0, .int .i64 0] 29)) := hw4
  have HT4 : Hid (Tch (fun i => i = b) w0 w4) := T3.trans t4 (fun _ _ h => h.elim)
  clear hw4 t4 T3 h3
  go_wp2_with fail
  refine q4.mono ?_
  rintro x w5 ⟨rfl, h5, t5⟩
  rw [← HW4.out] at t5
  have b5 : w5.heap[w3.heap.size]? = some (.cells #[.int .i64 i1, .int .i64 i2, .string nm, .slice none 0 0, .int .i64 0] 29 (0, 0)) := by
    rw [t5.block _ (blk_lt b4) (by omega)]; exact b4
  have T5 : Tch (fun i => i = b ∨ w3.heap.size ≤ i) w0 w5 := (HT4.out.trans' t5).mono (fun _ _ h => Or.inl h)
  clear q4 b4 t5 HW4 HT4
  obtain ⟨n, hnn⟩ : ∃ n, n = A4.1 := ⟨_, rfl⟩
  have HNN : Hid (n = A4.1) := hnn
  rw [← hnn] at hn ⊢
  clear hnn
  go_wp2_with fail
  go_loopw [13] (fun i wr => ∃ (k : Nat) (p : Nat × Int) (l : List Col) (vo : Option Addr) (vc : Nat), i = .int .i64 k ∧ k ≤ n ∧ l.length = k ∧ Hid (A5 = tkCols S (n - k) p l) ∧ RD wr b S p.1 p.2 ∧ wr.heap[w3.heap.size]? = some (.cells #[.int .i64 i1, .int .i64 i2, .string nm, .slice vo k vc, .int .i64 0] 29 (0, 0)) ∧ wr.ownsRow (w3.heap.size + 1) 43 3 (.slice vo k vc) k (ccl l) ∧ Tch (fun i => i = b ∨ w3.heap.size ≤ i) w0 wr) (fun i _ => n - (intOf i).toNat)
  case atStart => exact ⟨0, A4.2, [], none, 0, rfl, Nat.zero_le _, rfl, (by show _ = _; rw [HA5.out, HNN.out]; rfl), h5, b5, ⟨rfl, Or.inl ⟨rfl, rfl⟩⟩, T5⟩
  case round =>
    obtain ⟨k, p, l, vo, vc, rfl, hk, hlk, HX, hR, hM, hO, hT⟩ := hrel
    clear h5 b5 T5
    have hMb := blk_lt hM
    by_cases hkn : k < n
    · have hkn' : (k : Int) < n := by omega
      obtain ⟨m0, m1, m2, m3, m4⟩ := blk5 hM
      have f3 := blk_frozen hM 3
      obtain ⟨c, hc⟩ : ∃ c, c = (tkCol S p).1 := ⟨_, rfl⟩
      obtain ⟨p', hp'⟩ : ∃ p', p' = (tkCol S p).2 := ⟨_, rfl⟩
      have HX' : Hid (A5 = tkCols S (n - (k + 1)) p' (l ++ [c])) := by
        show _ = _
        rw [HX.out, show n - k = n - (k + 1) + 1 by omega, tkCols_succ, hc, hp']
      have HQ : Hid (∀ W, Tch (fun _ => False) wr W → Calls Tryz.prog 230 #[.pointer (some ⟨b, 0, none⟩)] W fun x w' => x = .returned (.agg #[.string c.nm, .int .i64 c.k, .bool c.nl]) ∧ RD w' b S p'.1 p'.2 ∧ Tch (fun i => i = b) W w') := fun W t => by
        rw [hc, hp']
        exact takeColumn_any b S p.1 p.2 W (RD.no hR t) hS
      have hbk : ∀ g, (Value.slice vo k vc).ownBlock = some g → g ≠ b ∧ w3.heap.size < g := fun g hg => by have := row_ge hO hg; omega
      have HBK : Hid _ := hbk
      clear hc hp' HX hbk
      obtain ⟨C, hC⟩ : ∃ C : List Value → World → Prop, C = fun st W => match st with
        | [] => Tch (fun _ => False) wr W
        | [y] => y = .agg #[.string c.nm, .int .i64 c.k, .bool c.nl] ∧ RD W b S p'.1 p'.2 ∧ Tch (fun i => i = b) wr W
        | [_, z] => (∃ g, z = .slice (some ⟨g, 0, none⟩) 1 1 ∧ At W g 0 [.string c.nm, .int .i64 c.k, .bool c.nl]) ∧ RD W b S p'.1 p'.2 ∧ Tch (fun i => i = b) wr W
        | [_, _, u] => (∃ vo' vc', u = .slice vo' (k + 1) vc' ∧ W.ownsRow (w3.heap.size + 1) 43 3 (.slice vo' (k + 1) vc') (k + 1) (ccl (l ++ [c]))) ∧ RD W b S p'.1 p'.2 ∧ Tch (fun i => i = b ∨ (Value.slice vo k vc).ownBlock = some i) wr W
        | _ => False := ⟨_, rfl⟩
      have h0' : C [] wr.drew := by rw [hC]; exact (Tch.refl _ _).drew
      have hKT : ∀ s W, C s W → Tch (fun i => i = b ∨ (Value.slice vo k vc).ownBlock = some i) wr W := fun s W h => by
        rw [hC] at h
        match s, h with
        | [], h => exact Tch.mono h (fun _ _ h => h.elim)
        | [y], h => exact h.2.2.mono (fun _ _ h => Or.inl h)
        | [_, z], h => exact h.2.2.mono (fun _ _ h => Or.inl h)
        | [_, _, u], h => exact h.2.2
      have hKM : ∀ s W, C s W → W.heap[w3.heap.size]? = some (.cells #[.int .i64 i1, .int .i64 i2, .string nm, .slice vo k vc, .int .i64 0] 29 (0, 0)) := fun s W h => by
        rw [(hKT s W h).block _ hMb (fun h => by
          rcases h with h | h
          · omega
          · have := (HBK.out _ h).2; omega)]
        exact hM
      have hK : ∀ s W, C s W → W.cell? ⟨w3.heap.size, 3, none⟩ = some (.slice vo k vc) := fun s W h => (blk5 (hKM s W h)).2.2.2.1
      have h3' : ∀ W, C [] W → Calls Tryz.prog 230 #[.pointer (some ⟨b, 0, none⟩)] W fun x w' => x = .returned (.agg #[.string c.nm, .int .i64 c.k, .bool c.nl]) ∧ C [.agg #[.string c.nm, .int .i64 c.k, .bool c.nl]] w' := fun W h => by
        rw [hC] at h ⊢
        have h : Tch (fun _ => False) wr W := h
        refine (HQ.out W h).mono ?_
        rintro x w' ⟨rfl, h1, h2⟩
        exact ⟨rfl, rfl, h1, (h.mono (fun _ _ h => h.elim)).trans' h2⟩
      have h4' : ∀ W, C [.agg #[.string c.nm, .int .i64 c.k, .bool c.nl]] W → C [.agg #[.string c.nm, .int .i64 c.k, .bool c.nl], .slice (some ⟨W.heap.size, 0, none⟩) 1 1] (W.alloc (.cells #[.string c.nm, .int .i64 c.k, .bool c.nl] 43)) := fun W h => by
        rw [hC] at h ⊢
        exact ⟨⟨W.heap.size, rfl, blk_at (alloc_new W (.cells ([.string c.nm, .int .i64 c.k, .bool c.nl] : List Value).toArray 43))⟩, RD.no h.2.1 (Tch.alloc _ _ _), h.2.2.allocR _⟩
      have h5' : ∀ g W, C [.agg #[.string c.nm, .int .i64 c.k, .bool c.nl], .slice (some ⟨g, 0, none⟩) 1 1] W → ∃ vo' vc' w', (Builtin.append_ #[22, 22] 22 #[.slice vo k vc, .slice (some ⟨g, 0, none⟩) 1 1]).run Tryz.prog W = .ok (.slice vo' (k + 1) vc') w' ∧ C [.agg #[.string c.nm, .int .i64 c.k, .bool c.nl], .slice (some ⟨g, 0, none⟩) 1 1, .slice vo' (k + 1) vc'] w' := fun g W h => by
        rw [hC] at h
        obtain ⟨⟨g', e, hg⟩, hRW, tW⟩ := h
        have e' : g = g' := by simpa using e
        subst e'
        have hown := own_tch hO tW (fun g hg => (HBK.out g hg).1)
        obtain ⟨v', w', hr, hown', hgr, hat, _⟩ := run_append_keeps (P := Tryz.prog) W (w3.heap.size + 1) 22 22 43 j0 (.agg #[.string ⟨#[]⟩, .int .i64 0, .bool false]) 3 32 Tryz.underlying22 HI0.out HZ0.out HZ1.out HZ2.out rfl (by decide) (.slice vo k vc) k (ccl l) hown ⟨g, 0, none⟩ 1 1 [.string c.nm, .int .i64 c.k, .bool c.nl] rfl (fun j u hu => by rw [add_plain]; exact hg j u hu) (fun u hu => by
          simp only [List.mem_cons, List.not_mem_nil, or_false] at hu
          rcases hu with rfl | rfl | rfl <;> rfl) (by have : maxLen = 9223372036854775807 := rfl; omega) (by omega) (by have := tW.size; omega)
        obtain ⟨vo', vc', rfl⟩ := row_slice hown'
        refine ⟨vo', vc', w', hr, ?_⟩
        rw [hC]
        have tG := grown_at (Tch.refl (fun _ => False) W) hgr
        refine ⟨⟨vo', vc', rfl, by rw [ccl_snoc]; exact hown'⟩, Go.Proofs.YtmfbhhloabkecaaGreatDoor.RD.tch hRW tG (fun h => (HBK.out _ h).1 rfl), (tW.mono (fun _ _ h => Or.inl h)).trans' (tG.mono (fun _ _ h => Or.inr h))⟩
      have hsh3 : ∀ y W, C [y] W → y = .agg #[.string c.nm, .int .i64 c.k, .bool c.nl] := fun y W h => by rw [hC] at h; exact h.1
      have hsh4 : ∀ y z W, C [y, z] W → ∃ g, z = .slice (some ⟨g, 0, none⟩) 1 1 := fun y z W h => by rw [hC] at h; obtain ⟨⟨g, e, _⟩, _⟩ := h; exact ⟨g, e⟩
      have hfin : ∀ y z u W, C [y, z, u] W → (∃ vo' vc', u = .slice vo' (k + 1) vc' ∧ W.ownsRow (w3.heap.size + 1) 43 3 (.slice vo' (k + 1) vc') (k + 1) (ccl (l ++ [c]))) ∧ RD W b S p'.1 p'.2 := fun y z u W h => by rw [hC] at h; exact ⟨h.1, h.2.1⟩
      have HKM : Hid _ := hKM
      have HKT : Hid _ := hKT
      have HFIN : Hid _ := hfin
      clear hC hKM hKT hfin m0 m1 m2 m3 m4 f3
      go_wp2_with fail
      refine wp_region_ordv [3, 4, 5] C 6 [0, 1, 2, 3, 4, 5] (by kernel_rfl) (by kernel_rfl) h0' ?_
      clear h0'
      refine ordv_read rfl (by go_simp) (by rfl) ?_
      apply Exists.intro
      refine ⟨fun s' W hW b K Q hK' => ?_, fun K hK' => ?_⟩
      · have m3 := hK _ W hW
        go_simp
        exact hK' W hW
      go_simp
      refine hK' _ ?_
      clear hK' K
      refine ordv_read rfl (by go_simp) (by rfl) ?_
      apply Exists.intro
      refine ⟨fun s' W hW b K Q hK' => ?_, fun K hK' => ?_⟩
      · have m3 := hK _ W hW
        go_simp
        exact hK' W hW
      go_simp
      refine hK' _ ?_
      clear hK' K
      refine ordv_read rfl (by go_simp) (by rfl) ?_
      apply Exists.intro
      refine ⟨fun s' W hW b K Q hK' => ?_, fun K hK' => ?_⟩
      · have m3 := hK _ W hW
        go_simp
        exact hK' W hW
      go_simp
      refine hK' _ ?_
      clear hK' K
      refine ordv_turn rfl (by go_simp) (by rfl) (fun W hW b K Q hK' => ?_) (fun u hu K hK' => ?_)
      · go_simp
        refine (h3' W hW).mono ?_
        rintro x w' ⟨rfl, h1⟩
        exact hK' _ _ h1
      obtain ⟨W', hW'⟩ := hu
      have hu := hsh3 u W' hW'
      subst hu
      clear hW' W'
      go_simp
      refine hK' _ ?_
      clear hK' K
      refine ordv_turn rfl (by go_simp) (by rfl) (fun W hW b K Q hK' => ?_) (fun u hu K hK' => ?_)
      · go_simp
        exact hK' _ _ (h4' W hW)
      obtain ⟨g, rfl⟩ : ∃ g, u = .slice (some ⟨g, 0, none⟩) 1 1 := by
        obtain ⟨W', hW'⟩ := hu
        exact hsh4 _ u W' hW'
      clear hu
      go_simp
      refine hK' _ ?_
      clear hK' K
      refine ordv_turn rfl (by go_simp) (by rfl) (fun W hW => ?_) (fun u hu K hK' => ?_)
      · obtain ⟨vo', vc', w', hr, h1⟩ := h5' g W hW
        exact yv_append (.tmp 16) (.tmp 19) 22 rfl (.slice vo k vc) (.slice (some ⟨g, 0, none⟩) 1 1) rfl rfl hr h1
      obtain ⟨vo', vc', rfl⟩ : ∃ vo' vc', u = .slice vo' (k + 1) vc' := by
        obtain ⟨W', hW'⟩ := hu
        obtain ⟨⟨vo', vc', e, _⟩, _⟩ := HFIN.out _ _ u W' hW'
        exact ⟨vo', vc', e⟩
      clear hu
      go_simp
      refine hK' _ ?_
      clear hK' K
      refine ordv_nil ?_
      intro w6 hw6
      have hM6 := HKM.out _ _ hw6
      have hT6 := HKT.out _ _ hw6
      obtain ⟨⟨vo2, vc2, e1, hO6⟩, hR6⟩ := HFIN.out _ _ _ _ hw6
      injection e1 with e1 e2 e3
      subst e1 e3
      clear e2 hw6 h3' h4' h5' hsh3 hsh4 hK HKM HKT HFIN HQ
      obtain ⟨m0, m1, m2, m3, m4⟩ := blk5 hM6
      have f3 := blk_frozen hM6 3
      obtain ⟨w7, hw7⟩ : ∃ w7, w7 = w6.setCell ⟨w3.heap.size, 3, none⟩ (.slice vo' (k + 1) vc') := ⟨_, rfl⟩
      have t7 : Tch (fun i => i = w3.heap.size) w6 w7 := by rw [hw7]; exact Tch.setCell _ _ _ _ rfl
      have hM7 : w7.heap[w3.heap.size]? = some (.cells #[.int .i64 i1, .int .i64 i2, .string nm, .slice vo' (k + 1) vc', .int .i64 0] 29 (0, 0)) := by rw [hw7]; exact blk_set hM6 _
      have hO7 := own_tch hO6 t7 (fun g hg h => by have := row_ge hO6 hg; omega)
      have hR7 := Go.Proofs.YtmfbhhloabkecaaGreatDoor.RD.tch hR6 t7 (by omega)
      have hT7 : Tch (fun i => i = b ∨ w3.heap.size ≤ i) w0 w7 := (hT.trans' (hT6.mono (fun i _ h => by
        rcases h with h | h
        · exact Or.inl h
        · exact Or.inr (by have := (HBK.out _ h).2; omega)))).trans' (t7.mono (fun i _ h => Or.inr (by omega)))
      have HW7 : Hid (w7 = w6.setCell ⟨w3.heap.size, 3, none⟩ (.slice vo' (k + 1) vc')) := hw7
      have HM7 : Hid _ := hM7
      have HO7 : Hid _ := hO7
      clear hw7 t7 hM7 hO7 hM6 hO6 hR6 hT6 hT hM hO hR
      go_wp2_with fail
      rw [← HW7.out]
      go_roundw
      case rel => exact ⟨k + 1, p', l ++ [c], vo', vc', by go_num, by omega, by rw [List.length_append, List.length_singleton, hlk], HX', hR7, HM7.out, HO7.out, hT7⟩
      case measure => simp [intOf]; omega
    · have hkn' : ¬ (k : Int) < n := by omega
      have hke : k = n := by omega
      subst hke
      have HX2 : Hid (A5 = (l, p)) := by
        show _ = _
        rw [HX.out, Nat.sub_self]; rfl
      have q6 := rbyte_any b S p.1 p.2 wr hR hS
      have e6 : byteR S p.1 p.2 = A6 := by rw [HA.out.2.2.2, HX2.out]
      rw [e6] at q6
      have HM : Hid _ := hM
      clear e6 HX hM
      go_wp2_with fail
      refine q6.mono ?_
      rintro x w6 ⟨rfl, h6, t6⟩
      clear q6
      have hM6 : w6.heap[w3.heap.size]? = some (.cells #[.int .i64 i1, .int .i64 i2, .string nm, .slice vo k vc, .int .i64 0] 29 (0, 0)) := by rw [t6.block _ hMb (by omega)]; exact HM.out
      have hT6 : Tch (fun i => i = b ∨ w3.heap.size ≤ i) w0 w6 := hT.trans' (t6.mono (fun _ _ h => Or.inl h))
      have hN6 : w6.heap[w.heap.size]? = some (.cells #[.int .i64 0, .int .i64 0, .string ⟨#[]⟩, .slice none 0 0, .int .i64 0] 29 (0, 0)) := by rw [hT6.block _ (blk_lt HB0.out) (by omega)]; exact HB0.out
      have hO6 := own_tch hO t6 (fun g hg h => by have := row_ge hO hg; omega)
      obtain ⟨m0, m1, m2, m3, m4⟩ := blk5 hM6
      have f4 := blk_frozen hM6 4
      obtain ⟨y0, y1, y2, y3, y4⟩ := blk5 hN6
      have g0 := blk_frozen hN6 0; have g1 := blk_frozen hN6 1; have g2 := blk_frozen hN6 2; have g3 := blk_frozen hN6 3; have g4 := blk_frozen hN6 4
      have HV : Hid (∀ W, Tch (fun i => i = w3.heap.size ∨ i = w.heap.size) w6 W → W.ownsRow w.heap.size 43 3 (.slice vo k vc) l.length (ccl l) ∧ RD W b S A6.2.1 A6.2.2 ∧ Tch (fun i => i = b) w W) := fun W tW => by
        refine ⟨?_, Go.Proofs.YtmfbhhloabkecaaGreatDoor.RD.tch h6 tW (by omega), ?_⟩
        · rw [hlk]
          exact own_low (own_tch hO6 tW (fun g hg h => by have := row_ge hO6 hg; omega)) (by omega)
        · refine ((HT0.out.mono (fun _ _ h => h.elim)).trans hT6 (fun i hi h => ?_)).trans tW (fun i hi h => ?_)
          · rcases h with h | h
            · exact h
            · omega
          · omega
      have hne : w3.heap.size ≠ w.heap.size := by omega
      have HLK : Hid (l.length = k) := hlk
      clear hM6 hN6 hO6 hO hT hT6 t6 h6 hR hlk HM
      go_wp2_with fail
      rw [HX2.out, ← HI.out.1, ← HI.out.2.1, ← HI.out.2.2]
      have hrs : Tryz.f228.results = #[.cell 2 29] := by kernel_rfl
      refine bodyPost_ret (v := tA i1 i2 nm (.slice vo k vc) A6.1) (by simp only [results, hrs]; go_simp) rfl ⟨⟨.slice vo k vc, rfl, (HV.out _ ?_).1⟩, (HV.out _ ?_).2⟩
      all_goals exact (((((Tch.setCell (fun i => i = w3.heap.size ∨ i = w.heap.size) w6 ⟨w3.heap.size, 4, none⟩ _ (Or.inl rfl)).setCellR ⟨w.heap.size, 0, none⟩ _ (Or.inr rfl)).setCellR ⟨w.heap.size, 1, none⟩ _ (Or.inr rfl)).setCellR ⟨w.heap.size, 2, none⟩ _ (Or.inr rfl)).setCellR ⟨w.heap.size, 3, none⟩ _ (Or.inr rfl)).setCellR ⟨w.heap.size, 4, none⟩ _ (Or.inr rfl)
end Go.Proofs.YtmfbhhloabkecaaGreatDoor.C
namespace Go.Proofs.YtmfbhhloabkecaaGreatDoor.C
open Go.RowKit Go
theorem TO.snoc {W w1 : World} {base M : Nat} {tv tv' : Value} {P : List (Tbl × Value)} (h : TO W base tv P) {t : Tbl} {v : Value} (hv : W.ownsRow M 43 3 v t.cols.length (ccl t.cols)) (hM : base ≤ M) (hlt : ∀ g, BL tv P g → g < M)
    (hgr : W.grownBy w1 tv.ownBlock) (hown : w1.ownsRow base 29 5 tv' (P.length + 1) (tcl (P ++ [(t, v)]))) (hat : tv'.ownBlock = tv.ownBlock ∨ tv'.ownBlock = some W.heap.size) : TO w1 base tv' (P ++ [(t, v)]) := by
  have T := grown_at (Tch.refl (fun _ => False) W) hgr
  have hvl : ∀ g, v.ownBlock = some g → M ≤ g ∧ g < W.heap.size := fun g e => hv.lt g e
  have hcl : ∀ i (hi : i < P.length) g, P[i].2.ownBlock = some g → g < W.heap.size := fun i hi g e => ((h.col i hi).lt g e).2
  have hv1 : w1.ownsRow base 43 3 v t.cols.length (ccl t.cols) := own_low (own_tch hv T (fun g e e2 => by have := hlt g (Or.inl e2); have := (hvl g e).1; omega)) hM
  have hget : ∀ i (hi : i < (P ++ [(t, v)]).length), (∃ hj : i < P.length, (P ++ [(t, v)])[i] = P[i]) ∨ (i = P.length ∧ (P ++ [(t, v)])[i] = (t, v)) := fun i hi => by
    by_cases hj : i < P.length
    · exact Or.inl ⟨hj, List.getElem_append_left hj⟩
    · have : i = P.length := by simp at hi; omega
      subst this
      exact Or.inr ⟨rfl, by simp⟩
  refine ⟨by rw [List.length_append]; exact hown, fun i hi => ?_, fun i hi g e e2 => ?_, fun i j hi hj g hij e e2 => ?_⟩
  · rcases hget i hi with ⟨hj, e⟩ | ⟨_, e⟩
    · rw [e]; exact own_tch (h.col i hj) T (fun g e e2 => h.sep i hj g e e2)
    · rw [e]; exact hv1
  · rcases hat with ha | ha
    · rw [ha] at e2
      rcases hget i hi with ⟨hj, e3⟩ | ⟨_, e3⟩
      · rw [e3] at e; exact h.sep i hj g e e2
      · rw [e3] at e; have := hlt g (Or.inl e2); have := (hvl g e).1; omega
    · rw [ha] at e2
      injection e2 with e2
      rcases hget i hi with ⟨hj, e3⟩ | ⟨_, e3⟩
      · rw [e3] at e; have := hcl i hj g e; omega
      · rw [e3] at e; have := (hvl g e).2; omega
  · rcases hget i hi with ⟨hi', e3⟩ | ⟨hi', e3⟩
    · rcases hget j hj with ⟨hj', e4⟩ | ⟨hj', e4⟩
      · rw [e3] at e; rw [e4] at e2; exact h.dis i j hi' hj' g hij e e2
      · rw [e3] at e; rw [e4] at e2; have := hlt g (Or.inr ⟨i, hi', e⟩); have := (hvl g e2).1; omega
    · rcases hget j hj with ⟨hj', e4⟩ | ⟨hj', e4⟩
      · rw [e3] at e; rw [e4] at e2; have := hlt g (Or.inr ⟨j, hj', e2⟩); have := (hvl g e).1; omega
      · omega
theorem tkTabs_succ (S : ByteArray) (n : Nat) (p : Nat × Int) (l : List Tbl) : tkTabs S (n + 1) p l = tkTabs S n (tkTab S p).2 (l ++ [(tkTab S p).1]) := rfl
theorem takeTables_any (b : Nat) (S : ByteArray) (a : Nat) (e : Int) (w : World) (h : RD w b S a e) (hS : S.size ≤ 281474976710656) :
    Calls Tryz.prog 239 #[.pointer (some ⟨b, 0, none⟩)] w fun x w' => ListOut (tkTabs S (byteR S a e).1 (byteR S a e).2 []).1 w.heap.size x w' ∧ RD w' b S (tkTabs S (byteR S a e).1 (byteR S a e).2 []).2.1 (tkTabs S (byteR S a e).1 (byteR S a e).2 []).2.2 ∧ Tch (fun i => i = b) w w' := by
  obtain ⟨i0, hi0, hz0, hz1, hz2⟩ := info_parts info_tbl
  have hb := cell_lt h.st.c0
  have q1 := rbyte_any b S a e w h hS
  have hn := byteR_lt S a e
  obtain ⟨A, hA⟩ : ∃ A, A = byteR S a e := ⟨_, rfl⟩
  rw [← hA] at q1 hn ⊢
  obtain ⟨A5, hA5⟩ : ∃ A5, A5 = tkTabs S A.1 A.2 [] := ⟨_, rfl⟩
  rw [← hA5]
  obtain ⟨n, hnn⟩ : ∃ n, n = A.1 := ⟨_, rfl⟩
  have HA5 : Hid (A5 = tkTabs S A.1 A.2 [] ∧ n = A.1) := ⟨hA5, hnn⟩
  rw [← hnn] at q1 hn
  clear hA hA5 h hnn
  go_enter Tryz.func239, Tryz.ntmps239
  go_wp2_with fail
  refine q1.mono ?_
  rintro x w1 ⟨rfl, h1, t1⟩
  clear q1
  have hz1' := t1.size
  go_wp2_with fail
  go_loopw [3, 6] (fun v iv wr => ∃ (k : Nat) (p : Nat × Int) (Q : List (Tbl × Value)), iv = .int .i64 k ∧ k ≤ n ∧ Hid (A5 = tkTabs S (n - k) p (Q.map Prod.fst) ∧ Q.length = k) ∧ RD wr b S p.1 p.2 ∧ Hid (TO wr w.heap.size v Q) ∧ Hid (Tch (fun i => i = b ∨ w.heap.size ≤ i) w wr)) (fun _ iv _ => n - (intOf iv).toNat)
  case atStart => exact ⟨0, A.2, [], rfl, by omega, ⟨by rw [HA5.out.1, ← HA5.out.2]; rfl, rfl⟩, h1, ⟨World.ownsRow_nil _ _ _ _, fun i hi => by simp at hi, fun i hi => by simp at hi, fun i j hi => by simp at hi⟩, t1.mono (fun _ _ h => Or.inl h)⟩
  case round =>
    obtain ⟨k, p, Q, rfl, hk, HQ, hR, HTO, HTw⟩ := hrel
    clear h1 t1
    obtain ⟨wV, hwV⟩ : ∃ wV, wV = wr := ⟨_, rfl⟩
    subst hwV
    obtain ⟨ho, hc, hv⟩ := row_slice HTO.out.own
    subst hv
    by_cases hlt : (k : Int) < n
    · have q := takeTable_any b S p.1 p.2 wV hR hS
      obtain ⟨T, hT⟩ : ∃ T, T = (tkTab S p).1 := ⟨_, rfl⟩
      obtain ⟨p', hp'⟩ : ∃ p', p' = (tkTab S p).2 := ⟨_, rfl⟩
      rw [show (p.1, p.2) = p from rfl, ← hT, ← hp'] at q
      have HQ1 : Hid (A5 = tkTabs S (n - (k + 1)) p' (Q.map Prod.fst ++ [T])) := by
        show _ = _
        rw [HQ.out.1, show n - k = n - (k + 1) + 1 by omega, tkTabs_succ, hT, hp']
      have hbV := cell_lt hR.st.c0
      clear hT hp' hR
      go_wp2_with fail
      refine q.mono ?_
      rintro x w1 ⟨⟨v, rfl, hv⟩, hR1, t1⟩
      clear q
      obtain ⟨vo, vc, hvv⟩ := row_slice hv
      subst hvv
      obtain ⟨wa, hwa⟩ : ∃ wa, wa = w1.alloc (.cells #[.int .i64 T.id, .int .i64 T.ver, .string T.nm, .slice vo T.cols.length vc, .int .i64 T.key] 29) := ⟨_, rfl⟩
      have ta : Tch (fun i => i = b) wV wa := by rw [hwa]; exact t1.allocR _
      have HTa : Hid (TO wa w.heap.size (.slice ho Q.length hc) Q) := HTO.out.tch ta (fun i hi _ h => by omega)
      have HVa : Hid (wa.ownsRow wV.heap.size 43 3 (.slice vo T.cols.length vc) T.cols.length (ccl T.cols)) := by rw [hwa]; exact own_tch hv (Tch.alloc (fun _ => False) _ _) (fun _ _ h => h)
      have hRa : RD wa b S p'.1 p'.2 := by rw [hwa]; exact RD.no hR1 (Tch.alloc _ _ _)
      have HBL : Hid (∀ g, BL (.slice ho Q.length hc) Q g → g < wV.heap.size) := fun g hg => by
        rcases hg with e | ⟨i, hi, e⟩
        · exact (HTO.out.own.lt g e).2
        · exact ((HTO.out.col i hi).lt g e).2
      have HNW : Hid (∀ j u, ([.int .i64 T.id, .int .i64 T.ver, .string T.nm, .slice vo T.cols.length vc, .int .i64 T.key] : List Value)[j]? = some u → wa.cell? ((⟨w1.heap.size, 0, none⟩ : Addr).add j) = some u) := by rw [hwa]; exact World.news_of_block (alloc_new w1 _)
      have hQl : Q.length ≤ 255 := by have := HQ.out.2; omega
      have Hsz : Hid (w.heap.size ≤ wa.heap.size) := Nat.le_trans HTw.out.size ta.size
      have Hsw : Hid (w.heap.size ≤ wV.heap.size) := HTw.out.size
      have Hta : Hid (Tch (fun i => i = b ∨ w.heap.size ≤ i) w wa) := HTw.out.trans' (ta.mono (fun _ _ h => Or.inl h))
      have Hwa : Hid _ := hwa
      clear hwa ta hv t1 hR1
      go_wp2_with (at_builtin; have hwa := Hwa.out; rw [← hwa]; clear hwa; refine wpList_append_keeps _ rfl _ _ 35 rfl w.heap.size 29 i0 (.agg #[.int .i64 0, .int .i64 0, .string ⟨#[]⟩, .slice none 0 0, .int .i64 0]) 5 64 Tryz.underlying35 hi0 hz0 hz1 hz2 rfl (by decide) (.slice ho Q.length hc) Q.length (tcl Q) rfl HTa.out.own ⟨w1.heap.size, 0, none⟩ 1 1 [.int .i64 T.id, .int .i64 T.ver, .string T.nm, .slice vo T.cols.length vc, .int .i64 T.key] rfl rfl HNW.out (by simp [Value.oneCell']) (by unfold maxLen; omega) (by omega) Hsz.out ?_; intro v6 w6 hown6 hgr6 hat6 _)
      have HT6 : Hid (TO w6 w.heap.size v6 (Q ++ [(T, .slice vo T.cols.length vc)])) := HTa.out.snoc HVa.out Hsw.out HBL.out hgr6 (by rw [tcl_append]; exact hown6) hat6
      have hg6 := grown_at (Tch.refl (fun _ => False) wa) hgr6
      have HTw6 : Hid (Tch (fun i => i = b ∨ w.heap.size ≤ i) w w6) := Hta.out.trans hg6 (fun i _ h => Or.inr (HTa.out.own.lt i h).1)
      have hR6 : RD w6 b S p'.1 p'.2 := Go.Proofs.YtmfbhhloabkecaaGreatDoor.RD.tch hRa hg6 (fun h => by have := (HTa.out.own.lt b h).1; omega)
      have HQ6 : Hid (A5 = tkTabs S (n - (k + 1)) p' ((Q ++ [(T, (.slice vo T.cols.length vc : Value))]).map Prod.fst) ∧ (Q ++ [(T, (.slice vo T.cols.length vc : Value))]).length = k + 1) := by
        refine ⟨?_, by simp [HQ.out.2]⟩
        rw [List.map_append]; exact HQ1.out
      obtain ⟨oo6, oc6, hov6⟩ := row_slice hown6
      subst hov6
      clear hown6 hgr6 hat6 hg6 hRa
      go_wp2_with fail
      go_roundw
      case rel => exact ⟨k + 1, p', _, by go_num, by omega, HQ6, hR6, HT6, HTw6⟩
      case measure => simp [intOf]; omega
    · have hke : k = n := by omega
      have HX2 : Hid (A5 = (Q.map Prod.fst, p)) := by
        show _ = _
        rw [HQ.out.1, hke, Nat.sub_self]; rfl
      have HF : Hid (ListOut A5.1 w.heap.size (.returned (.slice ho Q.length hc)) wV ∧ RD wV b S A5.2.1 A5.2.2 ∧ Tch (fun i => i = b) w wV) := by
        show _ ∧ _
        rw [HX2.out]
        exact ⟨⟨_, Q, rfl, rfl, HTO.out⟩, hR, HTw.out.mono (fun i h e => by omega)⟩
      clear hR
      go_wp2_with fail
      go_ret
      exact HF.out
end Go.Proofs.YtmfbhhloabkecaaGreatDoor.C
