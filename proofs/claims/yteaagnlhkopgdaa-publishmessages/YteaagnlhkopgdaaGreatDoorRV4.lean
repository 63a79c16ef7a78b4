import Derived.Test.YteaagnlhkopgdaaGreatDoorRS0
import Derived.Test.YteaagnlhkopgdaaGreatDoorOrdv
import Derived.Test.YteaagnlhkopgdaaGreatDoorRV3
set_option maxHeartbeats 4000000
set_option maxRecDepth 100000
namespace Go.Proofs.YteaagnlhkopgdaaGreatDoor.C
open Go.RowKit
theorem tkCols_succ (S : ByteArray) (n : Nat) (p : Nat × Int) (l : List Col) : tkCols S (n + 1) p l = tkCols S n (tkCol S p).2 (l ++ [(tkCol S p).1]) := rfl
theorem takeTable_any (b : Nat) (S : ByteArray) (a : Nat) (e : Int) (w : World) (h : RD w b S a e) (hS : S.size ≤ 281474976710656) :
    Calls Tryz.prog 122 #[.pointer (some ⟨b, 0, none⟩)] w fun x w' => (∃ v, x = .returned (tA (tkTab S (a, e)).1.id (tkTab S (a, e)).1.ver (tkTab S (a, e)).1.nm v (tkTab S (a, e)).1.key) ∧ w'.ownsRow w.heap.size 54 3 v (tkTab S (a, e)).1.cols.length (ccl (tkTab S (a, e)).1.cols)) ∧ RD w' b S (tkTab S (a, e)).2.1 (tkTab S (a, e)).2.2 ∧ Tch (fun i => i = b) w w' := by
  obtain ⟨j0, hj0, hz0, hz1, hz2⟩ := info_parts info_col
  have HI0 : Hid _ := hj0
  have HZ0 : Hid _ := hz0
  have HZ1 : Hid _ := hz1
  have HZ2 : Hid _ := hz2
  clear hj0 hz0 hz1 hz2
  have hb := cell_lt h.st.c0
  obtain ⟨w0, hw0⟩ : ∃ w0, w0 = w.alloc (.cells #[.int .i64 0, .int .i64 0, .string ⟨#[]⟩, .slice none 0 0, .int .i64 0] 24) := ⟨_, rfl⟩
  have b0 : w0.heap[w.heap.size]? = some (.cells #[.int .i64 0, .int .i64 0, .string ⟨#[]⟩, .slice none 0 0, .int .i64 0] 24 (0, 0)) := by rw [hw0]; exact heap_new w _
  have t0 : Tch (fun _ => False) w w0 := by rw [hw0]; exact Tch.alloc _ _ _
  have q1 := rvar_any b S a e w0 (RD.no h t0) hS
  rw [hw0] at q1
  have HW0 : Hid (w0 = w.alloc (.cells #[.int .i64 0, .int .i64 0, .string ⟨#[]⟩, .slice none 0 0, .int .i64 0] 24)) := hw0
  unfold tkTab
  simp only
  obtain ⟨A1, hA1⟩ : ∃ A, A = numR 9 127 S a e := ⟨_, rfl⟩
  rw [← hA1] at q1 ⊢
  obtain ⟨A2, hA2⟩ : ∃ A, A = numR 9 127 S A1.2.1 A1.2.2 := ⟨_, rfl⟩
  rw [← hA2]
  obtain ⟨A3, hA3⟩ : ∃ A, A = textR 16 S A2.2.1 A2.2.2 := ⟨_, rfl⟩
  rw [← hA3]
  obtain ⟨A4, hA4⟩ : ∃ A, A = byteR S A3.2.1 A3.2.2 := ⟨_, rfl⟩
  have hn := byteR_lt S A3.2.1 A3.2.2
  rw [← hA4] at hn ⊢
  obtain ⟨A5, hA5⟩ : ∃ A, A = tkCols S A4.1 A4.2 [] := ⟨_, rfl⟩
  rw [← hA5]
  obtain ⟨A6, hA6⟩ : ∃ A, A = byteR S A5.2.1 A5.2.2 := ⟨_, rfl⟩
  rw [← hA6]
  have HA : Hid (A2 = numR 9 127 S A1.2.1 A1.2.2 ∧ A3 = textR 16 S A2.2.1 A2.2.2 ∧ A4 = byteR S A3.2.1 A3.2.2 ∧ A6 = byteR S A5.2.1 A5.2.2) := ⟨hA2, hA3, hA4, hA6⟩
  have HA5 : Hid (A5 = tkCols S A4.1 A4.2 []) := hA5
  have HT0 : Hid (Tch (fun _ => False) w w0) := t0
  have HB0 : Hid (w0.heap[w.heap.size]? = some (.cells #[.int .i64 0, .int .i64 0, .string ⟨#[]⟩, .slice none 0 0, .int .i64 0] 24 (0, 0))) := b0
  clear hA1 hA2 hA3 hA4 hA5 hA6 h hw0 t0 b0
  go_enter Tryz.func122, Tryz.ntmps122
  go_wp2_with fail
  refine q1.mono ?_
  rintro x w1 ⟨rfl, h1, t1⟩
  rw [← HW0.out] at t1
  clear q1
  have q2 := rvar_any b S A1.2.1 A1.2.2 w1 h1 hS
  rw [← HA.out.1] at q2
  go_wp2_with fail
  refine q2.mono ?_
  rintro x w2 ⟨rfl, h2, t2⟩
  clear q2
  have q3 := rname_any b S A2.2.1 A2.2.2 w2 h2 hS
  rw [← HA.out.2.1] at q3
  go_wp2_with fail
  refine q3.mono ?_
  rintro x w3 ⟨rfl, h3, t3⟩
  clear q3
  have T3 : Tch (fun i => i = b) w0 w3 := (t1.trans' t2).trans' t3
  have hz3 : w.heap.size < w3.heap.size := by
    have := T3.size
    have := blk_lt HB0.out
    omega
  obtain ⟨i1, hi1⟩ : ∃ i1 : Int, i1 = (A1.1 : Int) := ⟨_, rfl⟩
  obtain ⟨i2, hi2⟩ : ∃ i2 : Int, i2 = (A2.1 : Int) := ⟨_, rfl⟩
  obtain ⟨nm, hnm⟩ : ∃ nm, nm = A3.1 := ⟨_, rfl⟩
  rw [← hi1, ← hi2, ← hnm]
  have HI : Hid (i1 = (A1.1 : Int) ∧ i2 = (A2.1 : Int) ∧ nm = A3.1) := ⟨hi1, hi2, hnm⟩
  clear t1 t2 t3 h1 h2 hi1 hi2 hnm
  obtain ⟨w4, hw4⟩ : ∃ w4, w4 = w3.alloc (.cells #[.int .i64 i1, .int .i64 i2, .string nm, .slice none 0 0, .int .i64 0] 24) := ⟨_, rfl⟩
  have t4 : Tch (fun _ => False) w3 w4 := by rw [hw4]; exact Tch.alloc _ _ _
  have b4 : w4.heap[w3.heap.size]? = some (.cells #[.int .i64 i1, .int .i64 i2, .string nm, .slice none 0 0, .int .i64 0] 24 (0, 0)) := by rw [hw4]; exact heap_new w3 _
  have q4 := rbyte_any b S A3.2.1 A3.2.2 w4 (RD.no h3 t4) hS
  rw [← HA.out.2.2.1, hw4] at q4
  have HW4 : Hid (w4 = w3.alloc (.cells #[.int .i64 i1, .int .i64 i2, .string nm, .slice none 0 0, .int .i64 0] 24)) := hw4
  have HT4 : Hid (Tch (fun i => i = b) w0 w4) := T3.trans t4 (fun _ _ h => h.elim)
  clear hw4 t4 T3 h3
  go_wp2_with fail
  refine q4.mono ?_
  rintro x w5 ⟨rfl, h5, t5⟩
  rw [← HW4.out] at t5
  have b5 : w5.heap[w3.heap.size]? = some (.cells #[.int .i64 i1, .int .i64 i2, .string nm, .slice none 0 0, .int .i64 0] 24 (0, 0)) := by
    rw [t5.block _ (blk_lt b4) (by omega)]; exact b4
  have T5 : Tch (fun i => i = b ∨ w3.heap.size ≤ i) w0 w5 := (HT4.out.trans' t5).mono (fun _ _ h => Or.inl h)
  clear q4 b4 t5 HW4 HT4
  obtain ⟨n, hnn⟩ : ∃ n, n = A4.1 := ⟨_, rfl⟩
  have HNN : Hid (n = A4.1) := hnn
  rw [← hnn] at hn ⊢
  clear hnn
  go_wp2_with fail
  go_loopw [13] (fun i wr => ∃ (k : Nat) (p : Nat × Int) (l : List Col) (vo : Option Addr) (vc : Nat), i = .int .i64 k ∧ k ≤ n ∧ l.length = k ∧ Hid (A5 = tkCols S (n - k) p l) ∧ RD wr b S p.1 p.2 ∧ wr.heap[w3.heap.size]? = some (.cells #[.int .i64 i1, .int .i64 i2, .string nm, .slice vo k vc, .int .i64 0] 24 (0, 0)) ∧ wr.ownsRow (w3.heap.size + 1) 54 3 (.slice vo k vc) k (ccl l) ∧ Tch (fun i => i = b ∨ w3.heap.size ≤ i) w0 wr) (fun i _ => n - (intOf i).toNat)
  case atStart => exact ⟨0, A4.2, [], none, 0, rfl, Nat.zero_le _, rfl, (by show _ = _; rw [HA5.out, HNN.out]; rfl), h5, b5, ⟨rfl, Or.inl ⟨rfl, rfl⟩⟩, T5⟩
  case round =>
    obtain ⟨k, p, l, vo, vc, rfl, hk, hlk, HX, hR, hM, hO, hT⟩ := hrel
    clear h5 b5 T5
    have hMb := blk_lt hM
    by_cases hkn : k < n
    · have hkn' : (k : Int) < n := by omega
      obtain ⟨m0, m1, m2, m3, m4⟩ := blk5 hM
      have f3 := blk_frozen hM 3
      obtain ⟨c, hc⟩ : ∃ c, c = (tkCol S p).1 := ⟨_, rfl⟩
      obtain ⟨p', hp'⟩ : ∃ p', p' = (tkCol S p).2 := ⟨_, rfl⟩
      have HX' : Hid (A5 = tkCols S (n - (k + 1)) p' (l ++ [c])) := by
        show _ = _
        rw [HX.out, show n - k = n - (k + 1) + 1 by omega, tkCols_succ, hc, hp']
      obtain ⟨Ac, hAc⟩ : ∃ A, A = textR 16 S p.1 p.2 := ⟨_, rfl⟩
      obtain ⟨Bc, hBc⟩ : ∃ B, B = byteR S Ac.2.1 Ac.2.2 := ⟨_, rfl⟩
      obtain ⟨Dc, hDc⟩ : ∃ D, D = byteR S Bc.2.1 Bc.2.2 := ⟨_, rfl⟩
      have hB1 := byteR_int S Ac.2.1 Ac.2.2
      rw [← hBc] at hB1
      have hD1 := byteR_int S Bc.2.1 Bc.2.2
      rw [← hDc] at hD1
      have ec : c = ⟨Ac.1, Bc.1, decide (Dc.1 = 1)⟩ := by rw [hc]; unfold tkCol; simp only; rw [← hAc, ← hBc, ← hDc]
      have ep : p' = Dc.2 := by rw [hp']; unfold tkCol; simp only; rw [← hAc, ← hBc, ← hDc]
      have hdn : ((Dc.1 : Int) == nb true) = c.nl := by
        rw [ec]
        show _ = decide (Dc.1 = 1)
        have e : nb true = 1 := rfl
        rw [e]
        apply bd
        simp
        omega
      obtain ⟨cn, hcn⟩ : ∃ cn, cn = c.nm := ⟨_, rfl⟩
      have e1 : Ac.1 = c.nm := by rw [ec]
      have e2 : (Bc.1 : Int) = c.k := by rw [ec]
      have HQ1 : Hid (∀ W, Tch (fun _ => False) wr W → Calls Tryz.prog 129 #[.pointer (some ⟨b, 0, none⟩)] W fun x w' => x = .returned (.string c.nm) ∧ RD w' b S Ac.2.1 Ac.2.2 ∧ Tch (fun i => i = b) W w') := fun W t => by
        have q := rname_any b S p.1 p.2 W (RD.no hR t) hS
        rw [← hAc, e1] at q
        exact q
      have HQ2 : Hid (∀ W, RD W b S Ac.2.1 Ac.2.2 → Calls Tryz.prog 27 #[.pointer (some ⟨b, 0, none⟩)] W fun x w' => x = .returned (.int .i64 c.k) ∧ RD w' b S Bc.2.1 Bc.2.2 ∧ Tch (fun i => i = b) W w') := fun W h => by
        have q := rbyte_any b S Ac.2.1 Ac.2.2 W h hS
        rw [← hBc, e2] at q
        exact q
      have HQ3 : Hid (∀ W, RD W b S Bc.2.1 Bc.2.2 → Calls Tryz.prog 27 #[.pointer (some ⟨b, 0, none⟩)] W fun x w' => x = .returned (.int .i64 Dc.1) ∧ RD w' b S p'.1 p'.2 ∧ Tch (fun i => i = b) W w') := fun W h => by
        have q := rbyte_any b S Bc.2.1 Bc.2.2 W h hS
        rw [← hDc] at q
        rw [ep]
        exact q
      clear hAc hBc hDc ec ep e1 e2 hcn cn hB1
      have hbk : ∀ g, (Value.slice vo k vc).ownBlock = some g → g ≠ b ∧ w3.heap.size < g := fun g hg => by have := row_ge hO hg; omega
      have HBK : Hid _ := hbk
      clear hc hp' HX hbk
      obtain ⟨C, hC⟩ : ∃ C : List Value → World → Prop, C = fun st W => match st with
        | [] => Tch (fun _ => False) wr W
        | [y] => y = .string c.nm ∧ RD W b S Ac.2.1 Ac.2.2 ∧ Tch (fun i => i = b) wr W
        | [_, y] => y = .int .i64 c.k ∧ RD W b S Bc.2.1 Bc.2.2 ∧ Tch (fun i => i = b) wr W
        | [_, _, y] => y = .int .i64 Dc.1 ∧ RD W b S p'.1 p'.2 ∧ Tch (fun i => i = b) wr W
        | [_, _, _, z] => (∃ g, z = .slice (some ⟨g, 0, none⟩) 1 1 ∧ At W g 0 [.string c.nm, .int .i64 c.k, .bool c.nl]) ∧ RD W b S p'.1 p'.2 ∧ Tch (fun i => i = b) wr W
        | [_, _, _, _, u] => (∃ vo' vc', u = .slice vo' (k + 1) vc' ∧ W.ownsRow (w3.heap.size + 1) 54 3 (.slice vo' (k + 1) vc') (k + 1) (ccl (l ++ [c]))) ∧ RD W b S p'.1 p'.2 ∧ Tch (fun i => i = b ∨ (Value.slice vo k vc).ownBlock = some i) wr W
        | _ => False := ⟨_, rfl⟩
      have h0' : C [] wr.drew := by rw [hC]; exact (Tch.refl _ _).drew
      have hKT : ∀ s W, C s W → Tch (fun i => i = b ∨ (Value.slice vo k vc).ownBlock = some i) wr W := fun s W h => by
        rw [hC] at h
        match s, h with
        | [], h => exact Tch.mono h (fun _ _ h => h.elim)
        | [y], h => exact h.2.2.mono (fun _ _ h => Or.inl h)
        | [_, y], h => exact h.2.2.mono (fun _ _ h => Or.inl h)
        | [_, _, y], h => exact h.2.2.mono (fun _ _ h => Or.inl h)
        | [_, _, _, z], h => exact h.2.2.mono (fun _ _ h => Or.inl h)
        | [_, _, _, _, u], h => exact h.2.2
      have hKM : ∀ s W, C s W → W.heap[w3.heap.size]? = some (.cells #[.int .i64 i1, .int .i64 i2, .string nm, .slice vo k vc, .int .i64 0] 24 (0, 0)) := fun s W h => by
        rw [(hKT s W h).block _ hMb (fun h => by
          rcases h with h | h
          · omega
          · have := (HBK.out _ h).2; omega)]
        exact hM
      have hK : ∀ s W, C s W → W.cell? ⟨w3.heap.size, 3, none⟩ = some (.slice vo k vc) := fun s W h => (blk5 (hKM s W h)).2.2.2.1
      have h1' : ∀ W, C [] W → Calls Tryz.prog 129 #[.pointer (some ⟨b, 0, none⟩)] W fun x w' => x = .returned (.string c.nm) ∧ C [.string c.nm] w' := fun W h => by
        rw [hC] at h ⊢
        have h : Tch (fun _ => False) wr W := h
        refine (HQ1.out W h).mono ?_
        rintro x w' ⟨rfl, h1, h2⟩
        exact ⟨rfl, rfl, h1, (h.mono (fun _ _ h => h.elim)).trans' h2⟩
      have h2' : ∀ y W, C [y] W → Calls Tryz.prog 27 #[.pointer (some ⟨b, 0, none⟩)] W fun x w' => x = .returned (.int .i64 c.k) ∧ C [y, .int .i64 c.k] w' := fun y W h => by
        rw [hC] at h ⊢
        refine (HQ2.out W h.2.1).mono ?_
        rintro x w' ⟨rfl, h1, h2⟩
        exact ⟨rfl, rfl, h1, h.2.2.trans' h2⟩
      have h3' : ∀ y z W, C [y, z] W → Calls Tryz.prog 27 #[.pointer (some ⟨b, 0, none⟩)] W fun x w' => x = .returned (.int .i64 Dc.1) ∧ C [y, z, .int .i64 Dc.1] w' := fun y z W h => by
        rw [hC] at h ⊢
        refine (HQ3.out W h.2.1).mono ?_
        rintro x w' ⟨rfl, h1, h2⟩
        exact ⟨rfl, rfl, h1, h.2.2.trans' h2⟩
      have h4' : ∀ x y z W, C [x, y, z] W → C [x, y, z, .slice (some ⟨W.heap.size, 0, none⟩) 1 1] (W.alloc (.cells #[.string c.nm, .int .i64 c.k, .bool c.nl] 54)) := fun x y z W h => by
        rw [hC] at h ⊢
        exact ⟨⟨W.heap.size, rfl, blk_at (alloc_new W (.cells ([.string c.nm, .int .i64 c.k, .bool c.nl] : List Value).toArray 54))⟩, RD.no h.2.1 (Tch.alloc _ _ _), h.2.2.allocR _⟩
      have h5' : ∀ x y z g W, C [x, y, z, .slice (some ⟨g, 0, none⟩) 1 1] W → ∃ vo' vc' w', (Builtin.append_ #[22, 22] 22 #[.slice vo k vc, .slice (some ⟨g, 0, none⟩) 1 1]).run Tryz.prog W = .ok (.slice vo' (k + 1) vc') w' ∧ C [x, y, z, .slice (some ⟨g, 0, none⟩) 1 1, .slice vo' (k + 1) vc'] w' := fun x y z g W h => by
        rw [hC] at h
        obtain ⟨⟨g', e, hg⟩, hRW, tW⟩ := h
        have e' : g = g' := by simpa using e
        subst e'
        have hown := own_tch hO tW (fun g hg => (HBK.out g hg).1)
        obtain ⟨v', w', hr, hown', hgr, hat, _⟩ := run_append_keeps (P := Tryz.prog) W (w3.heap.size + 1) 22 22 54 j0 (.agg #[.string ⟨#[]⟩, .int .i64 0, .bool false]) 3 32 Tryz.underlying22 HI0.out HZ0.out HZ1.out HZ2.out rfl (by decide) (.slice vo k vc) k (ccl l) hown ⟨g, 0, none⟩ 1 1 [.string c.nm, .int .i64 c.k, .bool c.nl] rfl (fun j u hu => by rw [add_plain]; exact hg j u hu) (fun u hu => by
          simp only [List.mem_cons, List.not_mem_nil, or_false] at hu
          rcases hu with rfl | rfl | rfl <;> rfl) (by have : maxLen = 9223372036854775807 := rfl; omega) (by omega) (by have := tW.size; omega)
        obtain ⟨vo', vc', rfl⟩ := row_slice hown'
        refine ⟨vo', vc', w', hr, ?_⟩
        rw [hC]
        have tG := grown_at (Tch.refl (fun _ => False) W) hgr
        refine ⟨⟨vo', vc', rfl, by rw [ccl_snoc]; exact hown'⟩, Go.Proofs.YteaagnlhkopgdaaGreatDoor.RD.tch hRW tG (fun h => (HBK.out _ h).1 rfl), (tW.mono (fun _ _ h => Or.inl h)).trans' (tG.mono (fun _ _ h => Or.inr h))⟩
      have hs1 : ∀ y W, C [y] W → y = .string c.nm := fun y W h => by rw [hC] at h; exact h.1
      have hs2 : ∀ x y W, C [x, y] W → y = .int .i64 c.k := fun x y W h => by rw [hC] at h; exact h.1
      have hs3 : ∀ x y z W, C [x, y, z] W → z = .int .i64 Dc.1 := fun x y z W h => by rw [hC] at h; exact h.1
      have hs4 : ∀ x y z u W, C [x, y, z, u] W → ∃ g, u = .slice (some ⟨g, 0, none⟩) 1 1 := fun x y z u W h => by rw [hC] at h; obtain ⟨⟨g, e, _⟩, _⟩ := h; exact ⟨g, e⟩
      have hfin : ∀ x y z u v W, C [x, y, z, u, v] W → (∃ vo' vc', v = .slice vo' (k + 1) vc' ∧ W.ownsRow (w3.heap.size + 1) 54 3 (.slice vo' (k + 1) vc') (k + 1) (ccl (l ++ [c]))) ∧ RD W b S p'.1 p'.2 := fun x y z u v W h => by rw [hC] at h; exact ⟨h.1, h.2.1⟩
      have qn := nullByte_any true
      have HS1 : Hid _ := hs1
      have HS2 : Hid _ := hs2
      have HS3 : Hid _ := hs3
      have HS4 : Hid _ := hs4
      clear hs1 hs2 hs3 hs4
      have HKM : Hid _ := hKM
      have HKT : Hid _ := hKT
      have HFIN : Hid _ := hfin
      clear hC hKM hKT hfin m0 m1 m2 m3 m4 f3
      go_wp2_with fail
      refine wp_region_ordv [3, 5, 7, 11, 12] C 13 [0, 1, 2, 4, 6, 3, 5, 7, 8, 9, 10, 11, 12] (by kernel_rfl) (by kernel_rfl) h0' ?_
      clear h0'
      refine ordv_read rfl (by go_simp) (by rfl) ?_
      apply Exists.intro
      refine ⟨fun s' W hW b K Q hK' => ?_, fun K hK' => ?_⟩
      · have m3 := hK _ W hW
        go_simp
        exact hK' W hW
      go_simp
      refine hK' _ ?_
      clear hK' K
      refine ordv_read rfl (by go_simp) (by rfl) ?_
      apply Exists.intro
      refine ⟨fun s' W hW b K Q hK' => ?_, fun K hK' => ?_⟩
      · have m3 := hK _ W hW
        go_simp
        exact hK' W hW
      go_simp
      refine hK' _ ?_
      clear hK' K
      refine ordv_read rfl (by go_simp) (by rfl) ?_
      apply Exists.intro
      refine ⟨fun s' W hW b K Q hK' => ?_, fun K hK' => ?_⟩
      · have m3 := hK _ W hW
        go_simp
        exact hK' W hW
      go_simp
      refine hK' _ ?_
      clear hK' K
      refine ordv_read rfl (by go_simp) (by rfl) ?_
      apply Exists.intro
      refine ⟨fun s' W hW b K Q hK' => ?_, fun K hK' => ?_⟩
      · have m3 := hK _ W hW
        go_simp
        exact hK' W hW
      go_simp
      refine hK' _ ?_
      clear hK' K
      refine ordv_read rfl (by go_simp) (by rfl) ?_
      apply Exists.intro
      refine ⟨fun s' W hW b K Q hK' => ?_, fun K hK' => ?_⟩
      · have m3 := hK _ W hW
        go_simp
        exact hK' W hW
      go_simp
      refine hK' _ ?_
      clear hK' K
      refine ordv_turn rfl (by go_simp) (by rfl) (fun W hW b K Q hK' => ?_) (fun u hu K hK' => ?_)
      · go_simp
        refine (h1' W hW).mono ?_
        rintro x w' ⟨rfl, h1⟩
        exact hK' _ _ h1
      obtain ⟨W', hW'⟩ := hu
      have hu := HS1.out u W' hW'
      subst hu
      clear hW' W'
      go_simp
      refine hK' _ ?_
      clear hK' K
      refine ordv_turn rfl (by go_simp) (by rfl) (fun W hW b K Q hK' => ?_) (fun u hu K hK' => ?_)
      · go_simp
        refine (h2' _ W hW).mono ?_
        rintro x w' ⟨rfl, h1⟩
        exact hK' _ _ h1
      obtain ⟨W', hW'⟩ := hu
      have hu := HS2.out _ u W' hW'
      subst hu
      clear hW' W'
      go_simp
      refine hK' _ ?_
      clear hK' K
      refine ordv_turn rfl (by go_simp) (by rfl) (fun W hW b K Q hK' => ?_) (fun u hu K hK' => ?_)
      · go_simp
        refine (h3' _ _ W hW).mono ?_
        rintro x w' ⟨rfl, h1⟩
        exact hK' _ _ h1
      obtain ⟨W', hW'⟩ := hu
      have hu := HS3.out _ _ u W' hW'
      subst hu
      clear hW' W'
      go_simp
      refine hK' _ ?_
      clear hK' K
      refine ordv_read rfl (by go_simp) (by rfl) ?_
      apply Exists.intro
      refine ⟨fun s' W hW b K Q hK' => ?_, fun K hK' => ?_⟩
      · have m3 := hK _ W hW
        go_simp
        go_at_call 128
        refine (qn W).mono ?_
        rintro x w6 ⟨rfl, rfl⟩
        exact hK' _ hW
      go_simp
      refine hK' _ ?_
      clear hK' K
      refine ordv_read rfl (by go_simp) (by rfl) ?_
      apply Exists.intro
      refine ⟨fun s' W hW b K Q hK' => ?_, fun K hK' => ?_⟩
      · have m3 := hK _ W hW
        go_simp
        exact hK' W hW
      go_simp
      refine hK' _ ?_
      clear hK' K
      refine ordv_read rfl (by go_simp) (by rfl) ?_
      apply Exists.intro
      refine ⟨fun s' W hW b K Q hK' => ?_, fun K hK' => ?_⟩
      · have m3 := hK _ W hW
        go_simp
        exact hK' W hW
      go_simp
      refine hK' _ ?_
      clear hK' K
      refine ordv_turn rfl (by go_simp) (by rfl) (fun W hW b K Q hK' => ?_) (fun u hu K hK' => ?_)
      · go_simp
        exact hK' _ _ (h4' _ _ _ W hW)
      obtain ⟨g, rfl⟩ : ∃ g, u = .slice (some ⟨g, 0, none⟩) 1 1 := by
        obtain ⟨W', hW'⟩ := hu
        exact HS4.out _ _ _ u W' hW'
      clear hu
      go_simp
      refine hK' _ ?_
      clear hK' K
      refine ordv_turn rfl (by go_simp) (by rfl) (fun W hW => ?_) (fun u hu K hK' => ?_)
      · obtain ⟨vo', vc', w', hr, h1⟩ := h5' _ _ _ g W hW
        exact yv_append (.tmp 16) (.tmp 26) 22 rfl (.slice vo k vc) (.slice (some ⟨g, 0, none⟩) 1 1) rfl rfl hr h1
      obtain ⟨vo', vc', rfl⟩ : ∃ vo' vc', u = .slice vo' (k + 1) vc' := by
        obtain ⟨W', hW'⟩ := hu
        obtain ⟨⟨vo', vc', e, _⟩, _⟩ := HFIN.out _ _ _ _ u W' hW'
        exact ⟨vo', vc', e⟩
      clear hu
      go_simp
      refine hK' _ ?_
      clear hK' K
      refine ordv_nil ?_
      intro w6 hw6
      have hM6 := HKM.out _ _ hw6
      have hT6 := HKT.out _ _ hw6
      obtain ⟨⟨vo2, vc2, e1, hO6⟩, hR6⟩ := HFIN.out _ _ _ _ _ _ hw6
      injection e1 with e1 e2 e3
      subst e1 e3
      clear e2 hw6 h1' h2' h3' h4' h5' HS1 HS2 HS3 HS4 hK HKM HKT HFIN HQ1 HQ2 HQ3 qn
      obtain ⟨m0, m1, m2, m3, m4⟩ := blk5 hM6
      have f3 := blk_frozen hM6 3
      obtain ⟨w7, hw7⟩ : ∃ w7, w7 = w6.setCell ⟨w3.heap.size, 3, none⟩ (.slice vo' (k + 1) vc') := ⟨_, rfl⟩
      have t7 : Tch (fun i => i = w3.heap.size) w6 w7 := by rw [hw7]; exact Tch.setCell _ _ _ _ rfl
      have hM7 : w7.heap[w3.heap.size]? = some (.cells #[.int .i64 i1, .int .i64 i2, .string nm, .slice vo' (k + 1) vc', .int .i64 0] 24 (0, 0)) := by rw [hw7]; exact blk_set hM6 _
      have hO7 := own_tch hO6 t7 (fun g hg h => by have := row_ge hO6 hg; omega)
      have hR7 := Go.Proofs.YteaagnlhkopgdaaGreatDoor.RD.tch hR6 t7 (by omega)
      have hT7 : Tch (fun i => i = b ∨ w3.heap.size ≤ i) w0 w7 := (hT.trans' (hT6.mono (fun i _ h => by
        rcases h with h | h
        · exact Or.inl h
        · exact Or.inr (by have := (HBK.out _ h).2; omega)))).trans' (t7.mono (fun i _ h => Or.inr (by omega)))
      have HW7 : Hid (w7 = w6.setCell ⟨w3.heap.size, 3, none⟩ (.slice vo' (k + 1) vc')) := hw7
      have HM7 : Hid _ := hM7
      have HO7 : Hid _ := hO7
      clear hw7 t7 hM7 hO7 hM6 hO6 hR6 hT6 hT hM hO hR
      go_wp2_with fail
      rw [← HW7.out]
      go_roundw
      case rel => exact ⟨k + 1, p', l ++ [c], vo', vc', by go_num, by omega, by rw [List.length_append, List.length_singleton, hlk], HX', hR7, HM7.out, HO7.out, hT7⟩
      case measure => simp [intOf]; omega
    · have hkn' : ¬ (k : Int) < n := by omega
      have hke : k = n := by omega
      subst hke
      have HX2 : Hid (A5 = (l, p)) := by
        show _ = _
        rw [HX.out, Nat.sub_self]; rfl
      have q6 := rbyte_any b S p.1 p.2 wr hR hS
      have e6 : byteR S p.1 p.2 = A6 := by rw [HA.out.2.2.2, HX2.out]
      rw [e6] at q6
      have HM : Hid _ := hM
      clear e6 HX hM
      go_wp2_with fail
      refine q6.mono ?_
      rintro x w6 ⟨rfl, h6, t6⟩
      clear q6
      have hM6 : w6.heap[w3.heap.size]? = some (.cells #[.int .i64 i1, .int .i64 i2, .string nm, .slice vo k vc, .int .i64 0] 24 (0, 0)) := by rw [t6.block _ hMb (by omega)]; exact HM.out
      have hT6 : Tch (fun i => i = b ∨ w3.heap.size ≤ i) w0 w6 := hT.trans' (t6.mono (fun _ _ h => Or.inl h))
      have hN6 : w6.heap[w.heap.size]? = some (.cells #[.int .i64 0, .int .i64 0, .string ⟨#[]⟩, .slice none 0 0, .int .i64 0] 24 (0, 0)) := by rw [hT6.block _ (blk_lt HB0.out) (by omega)]; exact HB0.out
      have hO6 := own_tch hO t6 (fun g hg h => by have := row_ge hO hg; omega)
      obtain ⟨m0, m1, m2, m3, m4⟩ := blk5 hM6
      have f4 := blk_frozen hM6 4
      obtain ⟨y0, y1, y2, y3, y4⟩ := blk5 hN6
      have g0 := blk_frozen hN6 0; have g1 := blk_frozen hN6 1; have g2 := blk_frozen hN6 2; have g3 := blk_frozen hN6 3; have g4 := blk_frozen hN6 4
      have HV : Hid (∀ W, Tch (fun i => i = w3.heap.size ∨ i = w.heap.size) w6 W → W.ownsRow w.heap.size 54 3 (.slice vo k vc) l.length (ccl l) ∧ RD W b S A6.2.1 A6.2.2 ∧ Tch (fun i => i = b) w W) := fun W tW => by
        refine ⟨?_, Go.Proofs.YteaagnlhkopgdaaGreatDoor.RD.tch h6 tW (by omega), ?_⟩
        · rw [hlk]
          exact own_low (own_tch hO6 tW (fun g hg h => by have := row_ge hO6 hg; omega)) (by omega)
        · refine ((HT0.out.mono (fun _ _ h => h.elim)).trans hT6 (fun i hi h => ?_)).trans tW (fun i hi h => ?_)
          · rcases h with h | h
            · exact h
            · omega
          · omega
      have hne : w3.heap.size ≠ w.heap.size := by omega
      have HLK : Hid (l.length = k) := hlk
      clear hM6 hN6 hO6 hO hT hT6 t6 h6 hR hlk HM
      go_wp2_with fail
      rw [HX2.out, ← HI.out.1, ← HI.out.2.1, ← HI.out.2.2]
      have hrs : Tryz.f122.results = #[.cell 2 24] := by kernel_rfl
      refine bodyPost_ret (v := tA i1 i2 nm (.slice vo k vc) A6.1) (by simp only [results, hrs]; go_simp) rfl ⟨⟨.slice vo k vc, rfl, (HV.out _ ?_).1⟩, (HV.out _ ?_).2⟩
      all_goals exact (((((Tch.setCell (fun i => i = w3.heap.size ∨ i = w.heap.size) w6 ⟨w3.heap.size, 4, none⟩ _ (Or.inl rfl)).setCellR ⟨w.heap.size, 0, none⟩ _ (Or.inr rfl)).setCellR ⟨w.heap.size, 1, none⟩ _ (Or.inr rfl)).setCellR ⟨w.heap.size, 2, none⟩ _ (Or.inr rfl)).setCellR ⟨w.heap.size, 3, none⟩ _ (Or.inr rfl)).setCellR ⟨w.heap.size, 4, none⟩ _ (Or.inr rfl)
end Go.Proofs.YteaagnlhkopgdaaGreatDoor.C
namespace Go.Proofs.YteaagnlhkopgdaaGreatDoor.C
open Go.RowKit
structure RN (W : World) (base : Nat) (r : Rc) (s : Sk) : Prop where
  o : W.ownsRow base 52 3 (.slice s.oo r.o.length s.oc) r.o.length (vcl r.o)
  n : W.ownsRow base 52 3 (.slice s.no r.n.length s.nc) r.n.length (vcl r.n)
  tb : W.ownsRow base 54 3 (.slice s.co r.tb.cols.length s.cc) r.tb.cols.length (ccl r.tb.cols)
  on : ∀ g, (Value.slice s.oo r.o.length s.oc).ownBlock = some g → (Value.slice s.no r.n.length s.nc).ownBlock ≠ some g
theorem own_tchb {W W' : World} {b base sz n : Nat} {t : TypeId} {v : Value} {xs : List Value} (h : W.ownsRow base t sz v n xs) (tc : Tch (fun i => i = b) W W') (hb : b < base) : W'.ownsRow base t sz v n xs := own_tch h tc (fun g hg e => by have := row_ge h hg; omega)
def TkOut (S : ByteArray) (k : Int) (c : Nat) (p : Nat × Int) (b : Nat) (w : World) (x : Ending) (w' : World) : Prop :=
  (∃ s, x = .returned (bV c (tkC S k c p).1 s) ∧ RN w' w.heap.size (tkC S k c p).1 s) ∧ RD w' b S (tkC S k c p).2.1 (tkC S k c p).2.2 ∧ Tch (fun i => i = b) w w'
theorem take_1 (b : Nat) (S : ByteArray) (k : Int) (a : Nat) (e : Int) (w : World) (h : RD w b S a e) (hg : HE w) (hgb : 0 ≠ b) (hS : S.size ≤ 281474976710656) :
    Calls Tryz.prog 108 #[.agg #[.int .i64 0, .int .i64 0], .pointer (some ⟨b, 0, none⟩)] w fun x w' => TkOut S k 1 (a, e) b w x w' := by
  have hb := cell_lt h.st.c0
  obtain ⟨w0, hw0⟩ : ∃ w0, w0 = w.alloc (.cells #[.int .i64 0, .int .i64 0] 71) := ⟨_, rfl⟩
  have t0 : Tch (fun _ => False) w w0 := by rw [hw0]; exact Tch.alloc _ _ _
  have h0 := RD.no h t0
  have HG : Hid (∀ W, Tch (fun i => i = b) w W → HE W) := fun W t => hg.tch t hgb
  have T0 : Tch (fun i => i = b) w w0 := t0.mono (fun _ _ h => h.elim)
  have HW0 : Hid (w0 = w.alloc (.cells #[.int .i64 0, .int .i64 0] 71)) := hw0
  have b0 : w0.heap[w.heap.size]? = some (.cells #[.int .i64 0, .int .i64 0] 71 (0, 0)) := by rw [hw0]; exact heap_new w _
  have z0 := T0.size
  obtain ⟨A1, hA1⟩ : ∃ A, A = numR 9 127 S (a, e).1 (a, e).2 := ⟨_, rfl⟩
  have HA1 : Hid (A1 = numR 9 127 S (a, e).1 (a, e).2) := hA1
  obtain ⟨A2, hA2⟩ : ∃ A, A = numR 9 127 S A1.2.1 A1.2.2 := ⟨_, rfl⟩
  have HA2 : Hid (A2 = numR 9 127 S A1.2.1 A1.2.2) := hA2
  have HT : Hid (tkC S k 1 (a, e) = ({ rc0 k with x := A1.1, l := A2.1 }, A2.2)) := by
    show _ = _
    rw [hA2, hA1]
    rfl
  clear hA1 hA2 h hg t0 hw0
  clear b0
  go_enter Tryz.func108, Tryz.ntmps108
  have q1 := rvar_any b S (a, e).1 (a, e).2 w0 h0 hS
  rw [← HA1.out] at q1
  rw [HW0.out] at q1
  go_wp2_with fail
  refine q1.mono ?_
  rintro x w1 ⟨rfl, h1, t1⟩
  rw [← HW0.out] at t1
  have T1 := T0.trans' t1
  have z1 := T1.size
  clear q1
  have q2 := rvar_any b S A1.2.1 A1.2.2 w1 h1 hS
  rw [← HA2.out] at q2
  go_wp2_with fail
  refine q2.mono ?_
  rintro x w2 ⟨rfl, h2, t2⟩
  have T2 := T1.trans' t2
  have z2 := T2.size
  clear q2
  go_wp2_with fail
  go_ret
  unfold TkOut
  rw [HT.out]
  refine ⟨⟨sk0, rfl, World.ownsRow_nil _ _ _ _, World.ownsRow_nil _ _ _ _, World.ownsRow_nil _ _ _ _, ?_⟩, h2, T2⟩
  exact fun g e1 e2 => by cases e1
theorem take_2 (b : Nat) (S : ByteArray) (k : Int) (a : Nat) (e : Int) (w : World) (h : RD w b S a e) (hg : HE w) (hgb : 0 ≠ b) (hS : S.size ≤ 281474976710656) :
    Calls Tryz.prog 119 #[.agg #[.int .i64 0, .int .i64 0, .string ⟨#[]⟩, .slice none 0 0, .int .i64 0], .pointer (some ⟨b, 0, none⟩)] w fun x w' => TkOut S k 2 (a, e) b w x w' := by
  have hb := cell_lt h.st.c0
  obtain ⟨w0, hw0⟩ : ∃ w0, w0 = w.alloc (.cells #[.int .i64 0, .int .i64 0, .string ⟨#[]⟩, .slice none 0 0, .int .i64 0] 73) := ⟨_, rfl⟩
  have t0 : Tch (fun _ => False) w w0 := by rw [hw0]; exact Tch.alloc _ _ _
  have h0 := RD.no h t0
  have HG : Hid (∀ W, Tch (fun i => i = b) w W → HE W) := fun W t => hg.tch t hgb
  have T0 : Tch (fun i => i = b) w w0 := t0.mono (fun _ _ h => h.elim)
  have HW0 : Hid (w0 = w.alloc (.cells #[.int .i64 0, .int .i64 0, .string ⟨#[]⟩, .slice none 0 0, .int .i64 0] 73)) := hw0
  have b0 : w0.heap[w.heap.size]? = some (.cells #[.int .i64 0, .int .i64 0, .string ⟨#[]⟩, .slice none 0 0, .int .i64 0] 73 (0, 0)) := by rw [hw0]; exact heap_new w _
  have z0 := T0.size
  obtain ⟨A1, hA1⟩ : ∃ A, A = tkTab S (a, e) := ⟨_, rfl⟩
  have HA1 : Hid (A1 = tkTab S (a, e)) := hA1
  have HT : Hid (tkC S k 2 (a, e) = ({ rc0 k with tb := A1.1 }, A1.2)) := by
    show _ = _
    rw [hA1]
    rfl
  clear hA1 h hg t0 hw0
  clear b0
  go_enter Tryz.func119, Tryz.ntmps119
  have q1 := takeTable_any b S (a, e).1 (a, e).2 w0 h0 hS
  rw [show ((a, e).1, (a, e).2) = (a, e) from rfl, ← HA1.out] at q1
  rw [HW0.out] at q1
  go_wp2_with fail
  refine q1.mono ?_
  rintro x w1 ⟨⟨v1, rfl, hv1⟩, h1, t1⟩
  obtain ⟨vo1, vc1, e1⟩ := row_slice hv1
  subst e1
  rw [← HW0.out] at t1 hv1
  have T1 := T0.trans' t1
  have z1 := T1.size
  clear q1
  have HV1 : Hid _ := hv1
  clear hv1
  go_wp2_with fail
  go_ret
  unfold TkOut
  rw [HT.out]
  refine ⟨⟨{ sk0 with co := vo1, cc := vc1 }, rfl, World.ownsRow_nil _ _ _ _, World.ownsRow_nil _ _ _ _, own_low HV1.out (by omega), ?_⟩, h1, T1⟩
  exact fun g e1 e2 => by cases e1
theorem take_3 (b : Nat) (S : ByteArray) (k : Int) (a : Nat) (e : Int) (w : World) (h : RD w b S a e) (hg : HE w) (hgb : 0 ≠ b) (hS : S.size ≤ 281474976710656) :
    Calls Tryz.prog 143 #[.agg #[.int .i64 0, .slice none 0 0], .pointer (some ⟨b, 0, none⟩)] w fun x w' => TkOut S k 3 (a, e) b w x w' := by
  have hb := cell_lt h.st.c0
  obtain ⟨w0, hw0⟩ : ∃ w0, w0 = w.alloc (.cells #[.int .i64 0, .slice none 0 0] 75) := ⟨_, rfl⟩
  have t0 : Tch (fun _ => False) w w0 := by rw [hw0]; exact Tch.alloc _ _ _
  have h0 := RD.no h t0
  have HG : Hid (∀ W, Tch (fun i => i = b) w W → HE W) := fun W t => hg.tch t hgb
  have T0 : Tch (fun i => i = b) w w0 := t0.mono (fun _ _ h => h.elim)
  have HW0 : Hid (w0 = w.alloc (.cells #[.int .i64 0, .slice none 0 0] 75)) := hw0
  have b0 : w0.heap[w.heap.size]? = some (.cells #[.int .i64 0, .slice none 0 0] 75 (0, 0)) := by rw [hw0]; exact heap_new w _
  have z0 := T0.size
  obtain ⟨A1, hA1⟩ : ∃ A, A = numR 9 127 S (a, e).1 (a, e).2 := ⟨_, rfl⟩
  have HA1 : Hid (A1 = numR 9 127 S (a, e).1 (a, e).2) := hA1
  obtain ⟨A2, hA2⟩ : ∃ A, A = tkRow S A1.2 := ⟨_, rfl⟩
  have HA2 : Hid (A2 = tkRow S A1.2) := hA2
  have HT : Hid (tkC S k 3 (a, e) = ({ rc0 k with t := A1.1, n := A2.1 }, A2.2)) := by
    show _ = _
    rw [hA2, hA1]
    rfl
  clear hA1 hA2 h hg t0 hw0
  clear b0
  go_enter Tryz.func143, Tryz.ntmps143
  have q1 := rvar_any b S (a, e).1 (a, e).2 w0 h0 hS
  rw [← HA1.out] at q1
  rw [HW0.out] at q1
  go_wp2_with fail
  refine q1.mono ?_
  rintro x w1 ⟨rfl, h1, t1⟩
  rw [← HW0.out] at t1
  have T1 := T0.trans' t1
  have z1 := T1.size
  clear q1
  have q2 := takeRow_any b S A1.2.1 A1.2.2 w1 h1 (HG.out w1 T1) hgb hS
  rw [show (A1.2.1, A1.2.2) = A1.2 from rfl, ← HA2.out] at q2
  go_wp2_with fail
  refine q2.mono ?_
  rintro x w2 ⟨⟨v2, rfl, hv2⟩, h2, t2⟩
  obtain ⟨vo2, vc2, e2⟩ := row_slice hv2
  subst e2
  have T2 := T1.trans' t2
  have z2 := T2.size
  clear q2
  have HV2 : Hid _ := hv2
  clear hv2
  go_wp2_with fail
  go_ret
  unfold TkOut
  rw [HT.out]
  refine ⟨⟨{ sk0 with no := vo2, nc := vc2 }, rfl, World.ownsRow_nil _ _ _ _, own_low HV2.out (by omega), World.ownsRow_nil _ _ _ _, ?_⟩, h2, T2⟩
  exact fun g e1 e2 => by cases e1
theorem take_4 (b : Nat) (S : ByteArray) (k : Int) (a : Nat) (e : Int) (w : World) (h : RD w b S a e) (hg : HE w) (hgb : 0 ≠ b) (hS : S.size ≤ 281474976710656) :
    Calls Tryz.prog 161 #[.agg #[.int .i64 0, .slice none 0 0, .slice none 0 0], .pointer (some ⟨b, 0, none⟩)] w fun x w' => TkOut S k 4 (a, e) b w x w' := by
  have hb := cell_lt h.st.c0
  obtain ⟨w0, hw0⟩ : ∃ w0, w0 = w.alloc (.cells #[.int .i64 0, .slice none 0 0, .slice none 0 0] 77) := ⟨_, rfl⟩
  have t0 : Tch (fun _ => False) w w0 := by rw [hw0]; exact Tch.alloc _ _ _
  have h0 := RD.no h t0
  have HG : Hid (∀ W, Tch (fun i => i = b) w W → HE W) := fun W t => hg.tch t hgb
  have T0 : Tch (fun i => i = b) w w0 := t0.mono (fun _ _ h => h.elim)
  have HW0 : Hid (w0 = w.alloc (.cells #[.int .i64 0, .slice none 0 0, .slice none 0 0] 77)) := hw0
  have b0 : w0.heap[w.heap.size]? = some (.cells #[.int .i64 0, .slice none 0 0, .slice none 0 0] 77 (0, 0)) := by rw [hw0]; exact heap_new w _
  have z0 := T0.size
  obtain ⟨A1, hA1⟩ : ∃ A, A = numR 9 127 S (a, e).1 (a, e).2 := ⟨_, rfl⟩
  have HA1 : Hid (A1 = numR 9 127 S (a, e).1 (a, e).2) := hA1
  obtain ⟨A2, hA2⟩ : ∃ A, A = tkRow S A1.2 := ⟨_, rfl⟩
  have HA2 : Hid (A2 = tkRow S A1.2) := hA2
  obtain ⟨A3, hA3⟩ : ∃ A, A = tkRow S A2.2 := ⟨_, rfl⟩
  have HA3 : Hid (A3 = tkRow S A2.2) := hA3
  have HT : Hid (tkC S k 4 (a, e) = ({ rc0 k with t := A1.1, o := A2.1, n := A3.1 }, A3.2)) := by
    show _ = _
    rw [hA3, hA2, hA1]
    rfl
  clear hA1 hA2 hA3 h hg t0 hw0
  clear b0
  go_enter Tryz.func161, Tryz.ntmps161
  have q1 := rvar_any b S (a, e).1 (a, e).2 w0 h0 hS
  rw [← HA1.out] at q1
  rw [HW0.out] at q1
  go_wp2_with fail
  refine q1.mono ?_
  rintro x w1 ⟨rfl, h1, t1⟩
  rw [← HW0.out] at t1
  have T1 := T0.trans' t1
  have z1 := T1.size
  clear q1
  have q2 := takeRow_any b S A1.2.1 A1.2.2 w1 h1 (HG.out w1 T1) hgb hS
  rw [show (A1.2.1, A1.2.2) = A1.2 from rfl, ← HA2.out] at q2
  go_wp2_with fail
  refine q2.mono ?_
  rintro x w2 ⟨⟨v2, rfl, hv2⟩, h2, t2⟩
  obtain ⟨vo2, vc2, e2⟩ := row_slice hv2
  subst e2
  have T2 := T1.trans' t2
  have z2 := T2.size
  clear q2
  have q3 := takeRow_any b S A2.2.1 A2.2.2 w2 h2 (HG.out w2 T2) hgb hS
  rw [show (A2.2.1, A2.2.2) = A2.2 from rfl, ← HA3.out] at q3
  go_wp2_with fail
  refine q3.mono ?_
  rintro x w3 ⟨⟨v3, rfl, hv3⟩, h3, t3⟩
  obtain ⟨vo3, vc3, e3⟩ := row_slice hv3
  subst e3
  have T3 := T2.trans' t3
  have z3 := T3.size
  clear q3
  have HV2 : Hid (w3.ownsRow w1.heap.size 52 3 (.slice vo2 A2.1.length vc2) A2.1.length (vcl A2.1)) := own_tchb hv2 t3 (by omega)
  have HV3 : Hid _ := hv3
  have HLT : Hid (∀ g, (Value.slice vo2 A2.1.length vc2).ownBlock = some g → g < w2.heap.size) := fun g hg => (hv2.lt g hg).2
  clear hv2 hv3
  go_wp2_with fail
  go_ret
  unfold TkOut
  rw [HT.out]
  refine ⟨⟨{ sk0 with oo := vo2, oc := vc2, no := vo3, nc := vc3 }, rfl, own_low HV2.out (by omega), own_low HV3.out (by omega), World.ownsRow_nil _ _ _ _, ?_⟩, h3, T3⟩
  exact fun g e1 e2 => by have := HLT.out g e1; have := row_ge HV3.out e2; omega
theorem take_5 (b : Nat) (S : ByteArray) (k : Int) (a : Nat) (e : Int) (w : World) (h : RD w b S a e) (hg : HE w) (hgb : 0 ≠ b) (hS : S.size ≤ 281474976710656) :
    Calls Tryz.prog 165 #[.agg #[.int .i64 0, .slice none 0 0], .pointer (some ⟨b, 0, none⟩)] w fun x w' => TkOut S k 5 (a, e) b w x w' := by
  have hb := cell_lt h.st.c0
  obtain ⟨w0, hw0⟩ : ∃ w0, w0 = w.alloc (.cells #[.int .i64 0, .slice none 0 0] 78) := ⟨_, rfl⟩
  have t0 : Tch (fun _ => False) w w0 := by rw [hw0]; exact Tch.alloc _ _ _
  have h0 := RD.no h t0
  have HG : Hid (∀ W, Tch (fun i => i = b) w W → HE W) := fun W t => hg.tch t hgb
  have T0 : Tch (fun i => i = b) w w0 := t0.mono (fun _ _ h => h.elim)
  have HW0 : Hid (w0 = w.alloc (.cells #[.int .i64 0, .slice none 0 0] 78)) := hw0
  have b0 : w0.heap[w.heap.size]? = some (.cells #[.int .i64 0, .slice none 0 0] 78 (0, 0)) := by rw [hw0]; exact heap_new w _
  have z0 := T0.size
  obtain ⟨A1, hA1⟩ : ∃ A, A = numR 9 127 S (a, e).1 (a, e).2 := ⟨_, rfl⟩
  have HA1 : Hid (A1 = numR 9 127 S (a, e).1 (a, e).2) := hA1
  obtain ⟨A2, hA2⟩ : ∃ A, A = tkRow S A1.2 := ⟨_, rfl⟩
  have HA2 : Hid (A2 = tkRow S A1.2) := hA2
  have HT : Hid (tkC S k 5 (a, e) = ({ rc0 k with t := A1.1, o := A2.1 }, A2.2)) := by
    show _ = _
    rw [hA2, hA1]
    rfl
  clear hA1 hA2 h hg t0 hw0
  clear b0
  go_enter Tryz.func165, Tryz.ntmps165
  have q1 := rvar_any b S (a, e).1 (a, e).2 w0 h0 hS
  rw [← HA1.out] at q1
  rw [HW0.out] at q1
  go_wp2_with fail
  refine q1.mono ?_
  rintro x w1 ⟨rfl, h1, t1⟩
  rw [← HW0.out] at t1
  have T1 := T0.trans' t1
  have z1 := T1.size
  clear q1
  have q2 := takeRow_any b S A1.2.1 A1.2.2 w1 h1 (HG.out w1 T1) hgb hS
  rw [show (A1.2.1, A1.2.2) = A1.2 from rfl, ← HA2.out] at q2
  go_wp2_with fail
  refine q2.mono ?_
  rintro x w2 ⟨⟨v2, rfl, hv2⟩, h2, t2⟩
  obtain ⟨vo2, vc2, e2⟩ := row_slice hv2
  subst e2
  have T2 := T1.trans' t2
  have z2 := T2.size
  clear q2
  have HV2 : Hid _ := hv2
  clear hv2
  go_wp2_with fail
  go_ret
  unfold TkOut
  rw [HT.out]
  refine ⟨⟨{ sk0 with oo := vo2, oc := vc2 }, rfl, own_low HV2.out (by omega), World.ownsRow_nil _ _ _ _, World.ownsRow_nil _ _ _ _, ?_⟩, h2, T2⟩
  exact fun g e1 e2 => by cases e2
theorem take_6 (b : Nat) (S : ByteArray) (k : Int) (a : Nat) (e : Int) (w : World) (h : RD w b S a e) (hg : HE w) (hgb : 0 ≠ b) (hS : S.size ≤ 281474976710656) :
    Calls Tryz.prog 169 #[.agg #[.int .i64 0], .pointer (some ⟨b, 0, none⟩)] w fun x w' => TkOut S k 6 (a, e) b w x w' := by
  have hb := cell_lt h.st.c0
  obtain ⟨w0, hw0⟩ : ∃ w0, w0 = w.alloc (.cells #[.int .i64 0] 80) := ⟨_, rfl⟩
  have t0 : Tch (fun _ => False) w w0 := by rw [hw0]; exact Tch.alloc _ _ _
  have h0 := RD.no h t0
  have HG : Hid (∀ W, Tch (fun i => i = b) w W → HE W) := fun W t => hg.tch t hgb
  have T0 : Tch (fun i => i = b) w w0 := t0.mono (fun _ _ h => h.elim)
  have HW0 : Hid (w0 = w.alloc (.cells #[.int .i64 0] 80)) := hw0
  have b0 : w0.heap[w.heap.size]? = some (.cells #[.int .i64 0] 80 (0, 0)) := by rw [hw0]; exact heap_new w _
  have z0 := T0.size
  obtain ⟨A1, hA1⟩ : ∃ A, A = numR 9 127 S (a, e).1 (a, e).2 := ⟨_, rfl⟩
  have HA1 : Hid (A1 = numR 9 127 S (a, e).1 (a, e).2) := hA1
  have HT : Hid (tkC S k 6 (a, e) = ({ rc0 k with t := A1.1 }, A1.2)) := by
    show _ = _
    rw [hA1]
    rfl
  clear hA1 h hg t0 hw0
  clear b0
  go_enter Tryz.func169, Tryz.ntmps169
  have q1 := rvar_any b S (a, e).1 (a, e).2 w0 h0 hS
  rw [← HA1.out] at q1
  rw [HW0.out] at q1
  go_wp2_with fail
  refine q1.mono ?_
  rintro x w1 ⟨rfl, h1, t1⟩
  rw [← HW0.out] at t1
  have T1 := T0.trans' t1
  have z1 := T1.size
  clear q1
  go_wp2_with fail
  go_ret
  unfold TkOut
  rw [HT.out]
  refine ⟨⟨sk0, rfl, World.ownsRow_nil _ _ _ _, World.ownsRow_nil _ _ _ _, World.ownsRow_nil _ _ _ _, ?_⟩, h1, T1⟩
  exact fun g e1 e2 => by cases e1
theorem take_7 (b : Nat) (S : ByteArray) (k : Int) (a : Nat) (e : Int) (w : World) (h : RD w b S a e) (hg : HE w) (hgb : 0 ≠ b) (hS : S.size ≤ 281474976710656) :
    Calls Tryz.prog 173 #[.agg #[.int .i64 0, .int .i64 0, .int .i64 0], .pointer (some ⟨b, 0, none⟩)] w fun x w' => TkOut S k 7 (a, e) b w x w' := by
  have hb := cell_lt h.st.c0
  obtain ⟨w0, hw0⟩ : ∃ w0, w0 = w.alloc (.cells #[.int .i64 0, .int .i64 0, .int .i64 0] 82) := ⟨_, rfl⟩
  have t0 : Tch (fun _ => False) w w0 := by rw [hw0]; exact Tch.alloc _ _ _
  have h0 := RD.no h t0
  have HG : Hid (∀ W, Tch (fun i => i = b) w W → HE W) := fun W t => hg.tch t hgb
  have T0 : Tch (fun i => i = b) w w0 := t0.mono (fun _ _ h => h.elim)
  have HW0 : Hid (w0 = w.alloc (.cells #[.int .i64 0, .int .i64 0, .int .i64 0] 82)) := hw0
  have b0 : w0.heap[w.heap.size]? = some (.cells #[.int .i64 0, .int .i64 0, .int .i64 0] 82 (0, 0)) := by rw [hw0]; exact heap_new w _
  have z0 := T0.size
  obtain ⟨A1, hA1⟩ : ∃ A, A = numR 9 127 S (a, e).1 (a, e).2 := ⟨_, rfl⟩
  have HA1 : Hid (A1 = numR 9 127 S (a, e).1 (a, e).2) := hA1
  obtain ⟨A2, hA2⟩ : ∃ A, A = numR 9 127 S A1.2.1 A1.2.2 := ⟨_, rfl⟩
  have HA2 : Hid (A2 = numR 9 127 S A1.2.1 A1.2.2) := hA2
  obtain ⟨A3, hA3⟩ : ∃ A, A = numR 9 127 S A2.2.1 A2.2.2 := ⟨_, rfl⟩
  have HA3 : Hid (A3 = numR 9 127 S A2.2.1 A2.2.2) := hA3
  have HT : Hid (tkC S k 7 (a, e) = ({ rc0 k with x := A1.1, l := A2.1, e := A3.1 }, A3.2)) := by
    show _ = _
    rw [hA3, hA2, hA1]
    rfl
  clear hA1 hA2 hA3 h hg t0 hw0
  clear b0
  go_enter Tryz.func173, Tryz.ntmps173
  have q1 := rvar_any b S (a, e).1 (a, e).2 w0 h0 hS
  rw [← HA1.out] at q1
  rw [HW0.out] at q1
  go_wp2_with fail
  refine q1.mono ?_
  rintro x w1 ⟨rfl, h1, t1⟩
  rw [← HW0.out] at t1
  have T1 := T0.trans' t1
  have z1 := T1.size
  clear q1
  have q2 := rvar_any b S A1.2.1 A1.2.2 w1 h1 hS
  rw [← HA2.out] at q2
  go_wp2_with fail
  refine q2.mono ?_
  rintro x w2 ⟨rfl, h2, t2⟩
  have T2 := T1.trans' t2
  have z2 := T2.size
  clear q2
  have q3 := rvar_any b S A2.2.1 A2.2.2 w2 h2 hS
  rw [← HA3.out] at q3
  go_wp2_with fail
  refine q3.mono ?_
  rintro x w3 ⟨rfl, h3, t3⟩
  have T3 := T2.trans' t3
  have z3 := T3.size
  clear q3
  go_wp2_with fail
  go_ret
  unfold TkOut
  rw [HT.out]
  refine ⟨⟨sk0, rfl, World.ownsRow_nil _ _ _ _, World.ownsRow_nil _ _ _ _, World.ownsRow_nil _ _ _ _, ?_⟩, h3, T3⟩
  exact fun g e1 e2 => by cases e1
theorem take_8 (b : Nat) (S : ByteArray) (k : Int) (a : Nat) (e : Int) (w : World) (h : RD w b S a e) (hg : HE w) (hgb : 0 ≠ b) (hS : S.size ≤ 281474976710656) :
    Calls Tryz.prog 177 #[.agg #[.int .i64 k, .int .i64 0], .pointer (some ⟨b, 0, none⟩)] w fun x w' => TkOut S k 8 (a, e) b w x w' := by
  have hb := cell_lt h.st.c0
  obtain ⟨w0, hw0⟩ : ∃ w0, w0 = w.alloc (.cells #[.int .i64 k, .int .i64 0] 84) := ⟨_, rfl⟩
  have t0 : Tch (fun _ => False) w w0 := by rw [hw0]; exact Tch.alloc _ _ _
  have h0 := RD.no h t0
  have HG : Hid (∀ W, Tch (fun i => i = b) w W → HE W) := fun W t => hg.tch t hgb
  have T0 : Tch (fun i => i = b) w w0 := t0.mono (fun _ _ h => h.elim)
  have HW0 : Hid (w0 = w.alloc (.cells #[.int .i64 k, .int .i64 0] 84)) := hw0
  have b0 : w0.heap[w.heap.size]? = some (.cells #[.int .i64 k, .int .i64 0] 84 (0, 0)) := by rw [hw0]; exact heap_new w _
  have z0 := T0.size
  obtain ⟨A1, hA1⟩ : ∃ A, A = numR 9 127 S (a, e).1 (a, e).2 := ⟨_, rfl⟩
  have HA1 : Hid (A1 = numR 9 127 S (a, e).1 (a, e).2) := hA1
  have HT : Hid (tkC S k 8 (a, e) = ({ rc0 k with l := A1.1 }, A1.2)) := by
    show _ = _
    rw [hA1]
    rfl
  clear hA1 h hg t0 hw0
  go_enter Tryz.func177, Tryz.ntmps177
  have HQ : Hid (∀ W, RD W b S a e → Calls Tryz.prog 112 #[.pointer (some ⟨b, 0, none⟩)] W fun x w' => x = .returned (.int .i64 A1.1) ∧ RD w' b S A1.2.1 A1.2.2 ∧ Tch (fun i => i = b) W w') := fun W h => by
    have q := rvar_any b S a e W h hS
    rw [← HA1.out] at q
    exact q
  obtain ⟨C, hC⟩ : ∃ C : List Value → World → Prop, C = fun st W => match st with
    | [] => Tch (fun _ => False) w0 W
    | [y] => y = .int .i64 A1.1 ∧ RD W b S A1.2.1 A1.2.2 ∧ Tch (fun i => i = b) w0 W
    | _ => False := ⟨_, rfl⟩
  have hb' : b < w.heap.size := hb
  have h0' : C [] w0.drew := by rw [hC]; exact (Tch.refl _ _).drew
  have hK : ∀ s W, C s W → W.cell? ⟨w.heap.size, 0, none⟩ = some (.int .i64 k) := fun s W h => by
    have t : Tch (fun i => i = b) w0 W := by
      rw [hC] at h
      match s, h with
      | [], h => exact Tch.mono h (fun _ _ h => h.elim)
      | [y], h => exact h.2.2
    exact blk_cell ((t.block _ (blk_lt b0) (by omega)).trans b0) 0
  have h1' : ∀ W, C [] W → Calls Tryz.prog 112 #[.pointer (some ⟨b, 0, none⟩)] W fun x w' => x = .returned (.int .i64 A1.1) ∧ C [.int .i64 A1.1] w' := fun W h => by
    rw [hC] at h ⊢
    have h : Tch (fun _ => False) w0 W := h
    refine (HQ.out W (RD.no h0 h)).mono ?_
    rintro x w' ⟨rfl, h1, h2⟩
    exact ⟨rfl, rfl, h1, (h.mono (fun _ _ h => h.elim)).trans' h2⟩
  have hs1 : ∀ y W, C [y] W → y = .int .i64 A1.1 := fun y W h => by rw [hC] at h; exact h.1
  have HS1 : Hid _ := hs1
  have HFIN : Hid (∀ y W, C [y] W → RD W b S A1.2.1 A1.2.2 ∧ Tch (fun i => i = b) w0 W) := fun y W h => by rw [hC] at h; exact h.2
  clear hC hs1 HQ
  go_wp2_with fail
  rw [← HW0.out]
  refine wp_region_ordv [3] C 6 [0, 1, 2, 3, 4, 5] (by kernel_rfl) (by kernel_rfl) h0' ?_
  clear h0'
  refine ordv_read rfl (by go_simp) (by rfl) ?_
  apply Exists.intro
  refine ⟨fun s' W hW b K Q hK' => ?_, fun K hK' => ?_⟩
  · have m3 := hK _ W hW
    go_simp
    exact hK' W hW
  go_simp
  refine hK' _ ?_
  clear hK' K
  refine ordv_read rfl (by go_simp) (by rfl) ?_
  apply Exists.intro
  refine ⟨fun s' W hW b K Q hK' => ?_, fun K hK' => ?_⟩
  · have m3 := hK _ W hW
    go_simp
    exact hK' W hW
  go_simp
  refine hK' _ ?_
  clear hK' K
  refine ordv_read rfl (by go_simp) (by rfl) ?_
  apply Exists.intro
  refine ⟨fun s' W hW b K Q hK' => ?_, fun K hK' => ?_⟩
  · have m3 := hK _ W hW
    go_simp
    exact hK' W hW
  go_simp
  refine hK' _ ?_
  clear hK' K
  refine ordv_turn rfl (by go_simp) (by rfl) (fun W hW b K Q hK' => ?_) (fun u hu K hK' => ?_)
  · go_simp
    refine (h1' W hW).mono ?_
    rintro x w' ⟨rfl, h1⟩
    exact hK' _ _ h1
  obtain ⟨W', hW'⟩ := hu
  have hu := HS1.out u W' hW'
  subst hu
  clear hW' W'
  go_simp
  refine hK' _ ?_
  clear hK' K
  refine ordv_read rfl (by go_simp) (by rfl) ?_
  apply Exists.intro
  refine ⟨fun s' W hW b K Q hK' => ?_, fun K hK' => ?_⟩
  · have m3 := hK _ W hW
    go_simp
    exact hK' W hW
  go_simp
  refine hK' _ ?_
  clear hK' K
  refine ordv_read rfl (by go_simp) (by rfl) ?_
  apply Exists.intro
  refine ⟨fun s' W hW b K Q hK' => ?_, fun K hK' => ?_⟩
  · have m3 := hK _ W hW
    go_simp
    exact hK' W hW
  go_simp
  refine hK' _ ?_
  clear hK' K
  refine ordv_nil ?_
  intro w1 hw1
  obtain ⟨h1, t1⟩ := HFIN.out _ _ hw1
  have T1 := T0.trans' t1
  clear hw1 hK h1' HS1 HFIN
  go_wp2_with fail
  go_ret
  unfold TkOut
  rw [HT.out]
  refine ⟨⟨sk0, rfl, World.ownsRow_nil _ _ _ _, World.ownsRow_nil _ _ _ _, World.ownsRow_nil _ _ _ _, ?_⟩, h1, T1⟩
  exact fun g e1 e2 => by cases e1
end Go.Proofs.YteaagnlhkopgdaaGreatDoor.C
