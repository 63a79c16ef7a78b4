import Derived.Test.YtolamjipigfocaaCRPutB
/- The document's Load: any tables. -/
namespace Go.Proofs.Ytolamjipigfocaa
open Go.RowKit Go

def RLoadAny (L : List Tbl) (base : Nat) (next : Int) (x : Ending) (w' : World) : Prop := (ldE L next = 0 → ∃ d P tv, x = .returned (.tuple #[.pointer (some ⟨d, 0, none⟩), .int .i64 0]) ∧ RO w' 0 d L next P tv ∧ base ≤ d ∧ ∀ g, BL tv P g → base ≤ g) ∧ (ldE L next ≠ 0 → x = .returned (.tuple #[.pointer none, .int .i64 (ldE L next)]))

set_option maxHeartbeats 4000000 in
set_option maxRecDepth 100000 in
theorem rload_any (l : List (Tbl × Value)) (lo : Option Addr) (lc : Nat) (F : Nat → Prop) (next : Int) (w : World) (hT : TL w F lo l) :
    Calls Try.prog 30 #[.slice lo l.length lc, .int .i64 next] w fun x w' => RLoadAny (l.map Prod.fst) w.heap.size next x w' ∧ Tch (fun _ => False) w w' := by
  obtain ⟨i0, hi0, hz0, hz1, hz2⟩ := info_parts info_tbl
  by_cases hx1 : next < 1 ∨ 2147483648 < next
  · have HE : Hid (ldE (l.map Prod.fst) next = 1) := if_pos hx1
    have HF : Hid (RLoadAny (l.map Prod.fst) w.heap.size next (.returned (.tuple #[.pointer none, .int .i64 1])) w) := ⟨fun e => by rw [HE.out] at e; simp at e, fun _ => by rw [HE.out]⟩
    clear HE hT hi0 hz0 hz1 hz2
    rcases hx1 with h | h
    · go_enter Try.func30, Try.ntmps30
      go_wp2_with fail
      go_ret2
      exact ⟨HF.out, Tch.refl _ _⟩
    · have h' : ¬ next < 1 := by omega
      go_enter Try.func30, Try.ntmps30
      go_wp2_with fail
      go_ret2
      exact ⟨HF.out, Tch.refl _ _⟩
  have h1 : 1 ≤ next := by omega
  have h2 : next ≤ 2147483648 := by omega
  by_cases hx3 : 16 < l.length
  · have HE : Hid (ldE (l.map Prod.fst) next = 53) := by
      show _ = _
      unfold ldE
      rw [if_neg hx1, if_pos (by simpa using hx3)]
    have HF : Hid (RLoadAny (l.map Prod.fst) w.heap.size next (.returned (.tuple #[.pointer none, .int .i64 53])) w) := ⟨fun e => by rw [HE.out] at e; simp at e, fun _ => by rw [HE.out]⟩
    have hx4 : ¬ next < 1 := by omega
    have hx5 : ¬ (2147483648 : Int) < next := by omega
    have hx6 : (16 : Int) < l.length := by omega
    clear HE hT hx1 h1 h2 hx3 hi0 hz0 hz1 hz2
    go_enter Try.func30, Try.ntmps30
    go_wp2_with fail
    go_ret2
    exact ⟨HF.out, Tch.refl _ _⟩
  clear hx1
  obtain ⟨n, hn⟩ : ∃ n, n = l.length := ⟨_, rfl⟩
  obtain ⟨N, hN⟩ : ∃ N, N = w.heap.size := ⟨_, rfl⟩
  obtain ⟨w1, hw1⟩ : ∃ w1, w1 = w.alloc (.cells #[.slice none 0 0, .int .i64 next] 57) := ⟨_, rfl⟩
  have t1 : Tch (fun _ => False) w w1 := by rw [hw1]; exact Tch.alloc _ _ _
  have hb1 : w1.heap[N]? = some (.cells #[.slice none 0 0, .int .i64 next] 57 (0, 0)) := by rw [hw1, hN]; exact alloc_new _ _
  have HRO1 : Hid (RO w1 0 N [] next [] (.slice none 0 0)) := ⟨hb1, Nat.zero_le _, rfl, ⟨World.ownsRow_nil _ _ _ _, fun i hi => by simp at hi, fun i hi => by simp at hi, fun i j hi => by simp at hi⟩, by simp [Value.ownBlock], fun i hi => by simp at hi⟩
  have Ht1 : Hid (Tch (fun _ => False) w w1) := t1
  have HN : Hid (N = w.heap.size) := hN
  have Hn : Hid (n = l.length) := hn
  have Hgo : Hid (ldE (l.map Prod.fst) next = ldGo next ((l.map Prod.fst).take 0) ((l.map Prod.fst).drop 0)) := by
    show _ = _
    unfold ldE
    rw [if_neg (by omega), if_neg (by simpa using hx3)]
    rfl
  have HT : Hid (TL w F lo l) := hT
  have hn16 : ¬ (16 : Int) < n := by omega
  have hx1 : ¬ next < 1 := by omega
  have hx2 : ¬ (2147483648 : Int) < next := by omega
  have hnI : n ≤ 16 := by omega
  have Hw1 : Hid _ := hw1
  rw [← hn]
  clear hT hN hn t1 hb1 hw1 hx3
  go_enter Try.func30, Try.ntmps30
  go_wp2_with fail
  have hw1 := Hw1.out
  rw [← hw1]
  rw [← HN.out]
  clear hw1
  go_loopw [7] (fun iv wr => ∃ (k : Nat) (P : List (Tbl × Value)) (tv : Value), iv = .int .i64 k ∧ k ≤ n ∧ Hid (RO wr 0 N ((l.take k).map Prod.fst) next P tv ∧ (∀ g, BL tv P g → N ≤ g) ∧ LG0 ((l.map Prod.fst).take k) next ∧ ldE (l.map Prod.fst) next = ldGo next ((l.map Prod.fst).take k) ((l.map Prod.fst).drop k)) ∧ Hid (Tch (fun i => N ≤ i) w1 wr)) (fun iv _ => n - (intOf iv).toNat)
  case atStart => exact ⟨0, [], _, rfl, by omega, ⟨HRO1.out, fun g hg => hg.elim (fun e => by cases e) (fun ⟨i, hi, _⟩ => absurd hi (Nat.not_lt_zero _)), LG0.nil next, Hgo.out⟩, Tch.refl _ _⟩
  case round =>
    clear HRO1 Hgo
    obtain ⟨k, P, tv, rfl, hk, HC, HTr⟩ := hrel
    obtain ⟨wV, hwV⟩ : ∃ wV, wV = wr := ⟨_, rfl⟩
    subst hwV
    by_cases hlt : (k : Int) < n
    · have hkl : k < l.length := by have := Hn.out; omega
      have hTw : Tch (fun i => N ≤ i) w wV := (Ht1.out.mono (fun _ _ h => h.elim)).trans' HTr.out
      have HTw : Hid (Tch (fun _ => False) w wV) := hTw.mono (T := fun _ => False) (fun i hi h => by have h3 : N ≤ i := h; have := HN.out; omega)
      have hTV : TL wV F lo l := HT.out.tch HTw.out (fun _ _ h => h.elim)
      obtain ⟨g0, o0, hlo, c0, c1, c2, c3, c4⟩ := hTV.at k hkl
      subst hlo
      have Hg0 : Hid (g0 < N) := by
        obtain ⟨g1, o1, e1, d0, _⟩ := HT.out.at k hkl
        have e2 : g0 = g1 := by simpa using congrArg (fun z : Option Addr => (z.map (·.block)).getD 0) e1
        have := cell_lt d0
        show g0 < N
        rw [HN.out, e2]; exact this
      obtain ⟨ao, c, hck⟩ := hTV.col k hkl
      obtain ⟨t, ht⟩ : ∃ t, t = l[k].1 := ⟨_, rfl⟩
      have hck2 : l[k].2 = .slice ao t.cols.length c := by rw [ht]; exact hck.eq
      rw [hck2] at c3
      rw [← ht] at c0 c1 c2 c4
      obtain ⟨to, tc, rfl⟩ := row_slice HC.out.1.to.own
      have hPl : P.length = k := by
        have h3 := congrArg List.length HC.out.1.eq
        rw [List.length_map, List.length_map, List.length_take] at h3
        omega
      have HPl : Hid (P.length = k) := hPl
      have hP16 : P.length ≤ 16 := by omega
      clear hPl
      have Hcell : Hid (∀ W, Tch (fun _ => False) wV W → W.cell? ⟨g0, o0 + k * 5, none⟩ = some (.int .i64 t.id) ∧ W.cell? ⟨g0, o0 + k * 5 + 1, none⟩ = some (.int .i64 t.ver) ∧ W.cell? ⟨g0, o0 + k * 5 + 2, none⟩ = some (.string t.nm) ∧ W.cell? ⟨g0, o0 + k * 5 + 3, none⟩ = some (.slice ao t.cols.length c) ∧ W.cell? ⟨g0, o0 + k * 5 + 4, none⟩ = some (.int .i64 t.key)) := fun W tW => by
        have key : ∀ (a : Addr) u, wV.cell? a = some u → W.cell? a = some u := fun a u h => by rw [tW.cell (p := a) (cell_lt h) (fun h => h)]; exact h
        exact ⟨key _ _ c0, key _ _ c1, key _ _ c2, key _ _ c3, key _ _ c4⟩
      have HRq : Hid (∀ W, Tch (fun _ => False) wV W → RO W 0 N ((l.take k).map Prod.fst) next P (.slice to P.length tc)) := fun W tW => HC.out.1.tch tW (fun _ _ _ h => h)
      have Hbl : Hid (∀ g, BL (.slice to P.length tc) P g → N ≤ g) := HC.out.2.1
      have Hsl : Hid (SL wV ao (ccl t.cols) ∧ (ao = none → t.cols = [] ∧ c = 0)) := by rw [ht]; exact ⟨hck.sl, hck.no⟩
      have hkL : k < (l.map Prod.fst).length := by simpa using hkl
      have htk : (l.map Prod.fst)[k] = t := by rw [ht]; simp
      have Hkl : Hid (k < l.length) := hkl
      have Ht : Hid ([l[k]'hkl].map Prod.fst = [t]) := by rw [ht]; rfl
      have q1 := rright_any t ao c wV Hsl.out.1
      obtain ⟨R, hR⟩ : ∃ R, R = rightE t := ⟨_, rfl⟩
      rw [← hR] at q1
      obtain ⟨r, hr⟩ : ∃ r, r = posP (fun u => decide (u.nm = t.nm)) P := ⟨_, rfl⟩
      have hpa : (0 ≤ r) ↔ ((l.map Prod.fst).take k).any (isNm t) = true := by
        have h3 := posP_any (fun u => decide (u.nm = t.nm)) P
        rw [HC.out.1.eq, List.map_take, ← hr] at h3
        rw [show isNm t = fun u => decide (u.nm = t.nm) from rfl, ← h3]
        simp
      have hgo := HC.out.2.2.2
      rw [ldGo_step next _ k hkL, htk] at hgo
      obtain ⟨la, hla⟩ : ∃ la, la = lastI ((l.map Prod.fst).take k) := ⟨_, rfl⟩
      have hSd : ldS next ((l.map Prod.fst).take k) t = if R ≠ 0 then R else if t.id ≤ la ∨ next ≤ t.id then 1 else if 0 ≤ r then 51 else 0 := by
        unfold ldS
        rw [hR, hla]
        exact ite_congr rfl (fun _ => rfl) (fun _ => ite_congr rfl (fun _ => rfl) (fun _ => ite_congr (propext hpa).symm (fun _ => rfl) (fun _ => rfl)))
      have Herr : Hid (∀ W E, ldS next ((l.map Prod.fst).take k) t = E → E ≠ 0 → Tch (fun _ => False) wV W → RLoadAny (l.map Prod.fst) w.heap.size next (.returned (.tuple #[.pointer none, .int .i64 E])) W ∧ Tch (fun _ => False) w W) := fun W E e hE tW => by
        have hz : ldE (l.map Prod.fst) next = E := by rw [hgo, if_pos (by rw [e]; exact hE), e]
        exact ⟨⟨fun e2 => absurd (hz.symm.trans e2) hE, fun _ => by rw [hz]⟩, HTw.out.trans' tW⟩
      have HEr : Hid (R ≠ 0 → ldS next ((l.map Prod.fst).take k) t = R) := fun e => by rw [hSd, if_pos e]
      have HE1 : Hid (R = 0 → (t.id ≤ la ∨ next ≤ t.id) → ldS next ((l.map Prod.fst).take k) t = 1) := fun e e2 => by rw [hSd, if_neg (by simp [e]), if_pos e2]
      have HE51' : Hid (R = 0 → ¬ (t.id ≤ la ∨ next ≤ t.id) → 0 ≤ r → ldS next ((l.map Prod.fst).take k) t = 51) := fun e e2 e3 => by rw [hSd, if_neg (by simp [e]), if_neg e2, if_pos e3]
      have HEok' : Hid (R = 0 → ¬ (t.id ≤ la ∨ next ≤ t.id) → r < 0 → LG0 ((l.map Prod.fst).take (k + 1)) next ∧ ldE (l.map Prod.fst) next = ldGo next ((l.map Prod.fst).take (k + 1)) ((l.map Prod.fst).drop (k + 1))) := fun e e2 e3 => by
        have hz : ldS next ((l.map Prod.fst).take k) t = 0 := by rw [hSd, if_neg (by simp [e]), if_neg e2, if_neg (by omega)]
        have h3 := HC.out.2.2.1.snoc (t := t) hz
        rw [hz, if_neg (by simp)] at hgo
        refine ⟨?_, hgo⟩
        rw [List.take_succ_eq_append_getElem hkL, htk]
        exact h3
      have HR0' : Hid (R = 0 → rightE t = 0) := fun e => hR.symm.trans e
      have Hla : Hid ((k = 0 → la = 0) ∧ ∀ j, k = j + 1 → ∀ W, Tch (fun _ => False) wV W → W.cell? ⟨g0, o0 + j * 5, none⟩ = some (.int .i64 la)) := by
        refine ⟨fun e => by rw [hla, e]; rfl, fun j e W tW => ?_⟩
        obtain ⟨g1, o1, e1, d0, _⟩ := (hTV.tch tW (fun _ _ h => h.elim)).at j (by omega)
        obtain ⟨rfl, rfl⟩ : g0 = g1 ∧ o0 = o1 := by simpa using e1
        rw [d0]
        have h3 : lastI ((l.map Prod.fst).take k) = (l[j]'(by omega)).1.id := by
          subst e
          rw [List.take_succ_eq_append_getElem (by omega), lastI_snoc]
          simp
        rw [hla, h3]
      clear hTV hck hck2 ht htk hkL hpa hgo hSd hla hTw hR
      go_wp2_with fail
      refine q1.mono ?_
      rintro y w2 ⟨rfl, t2⟩
      clear q1 c0 c1 c2 c3 c4
      by_cases hR0 : R = 0
      · subst hR0
        have HR0 : Hid (rightE t = 0) := HR0'.out (by simp)
        have HE51 : Hid (¬ (t.id ≤ la ∨ next ≤ t.id) → 0 ≤ r → ldS next ((l.map Prod.fst).take k) t = 51) := HE51'.out (by simp)
        have HEok : Hid (¬ (t.id ≤ la ∨ next ≤ t.id) → r < 0 → LG0 ((l.map Prod.fst).take (k + 1)) next ∧ ldE (l.map Prod.fst) next = ldGo next ((l.map Prod.fst).take (k + 1)) ((l.map Prod.fst).drop (k + 1))) := HEok'.out (by simp)
        have HE1' : Hid ((t.id ≤ la ∨ next ≤ t.id) → ldS next ((l.map Prod.fst).take k) t = 1) := HE1.out (by simp)
        have hid0 : 1 ≤ t.id := (num_of (right_parts HR0.out).1).1
        clear HE1 HE51' HEok' HR0' HEr
        obtain ⟨c0, c1, c2, c3, c4⟩ := Hcell.out w2 t2
        by_cases hnx : next ≤ t.id
        · have hE := HE1'.out (Or.inr hnx)
          have HE : Hid _ := hE
          clear hE
          go_wp2_with fail
          have hnx' : next ≤ t.id := by omega
          go_quiet (fail)
          have HF : Hid _ := Herr.out (w2.drewN nq) 1 HE.out (by decide) (t2.drewN _)
          go_wp2_with fail
          go_ret2
          exact HF.out
        · rcases Nat.eq_zero_or_pos k with hk0 | hk0
          · have hla0 := Hla.out.1 hk0
            have hbad : ¬ (t.id ≤ la ∨ next ≤ t.id) := by omega
            have Hbad : Hid _ := hbad
            have Hk0 : Hid (k = 0) := hk0
            clear hla0 hbad hk0
            go_wp2_with fail
            have hnx' : ¬ next ≤ t.id := by omega
            have hk0' : ¬ (0 : Int) < k := by have := Hk0.out; omega
            have hk0'' : ¬ 0 < k := by have := Hk0.out; omega
            go_quiet (fail)
            obtain ⟨WQ, hWQ⟩ : ∃ WQ, WQ = w2.drewN nq := ⟨_, rfl⟩
            have HTWQ : Hid (Tch (fun _ => False) wV WQ) := by rw [hWQ]; exact t2.drewN _
            have hbad := Hbad.out
            rw [← hWQ]
            clear hWQ c0 c1 c2 c3 c4 t2 hnx' hk0' hk0'' hnx
            have q2 := rplace_any N to tc P _ t.nm WQ (by rw [blk_cell (HRq.out WQ HTWQ.out).blk]; rfl) (HRq.out WQ HTWQ.out).tl (by omega)
            rw [← hr] at q2
            obtain ⟨c0, c1, c2, c3, c4⟩ := (Hcell.out WQ HTWQ.out)
            go_wp2_with fail
            refine q2.mono ?_
            rintro y wy ⟨rfl, hwy⟩
            obtain rfl := hwy.symm
            clear hwy q2
            by_cases hr0 : 0 ≤ r
            · have HF : Hid _ := Herr.out WQ 51 (HE51.out (by assumption) hr0) (by decide) HTWQ.out
              clear c0 c1 c2 c3 c4
              go_wp2_with fail
              go_ret2
              exact HF.out
            · have HS0 : Hid _ := HEok.out (by assumption) (by omega)
              have H8 : Hid (t.cols.length ≤ 8) := (right_len HR0.out).2
              obtain ⟨w3, hw3⟩ : ∃ w3, w3 = WQ := ⟨_, rfl⟩
              have HTW3 : Hid (Tch (fun _ => False) wV w3) := by rw [hw3]; exact HTWQ.out
              rw [← hw3]
              clear c0 c1 c2 c3 c4 hw3
              have HR3 : Hid (RO w3 0 N ((l.take k).map Prod.fst) next P (.slice to P.length tc)) := HRq.out w3 HTW3.out
              have Hcel3 : Hid (∀ W, Tch (fun i => (Value.slice to P.length tc).ownBlock = some i) w3 W → (W.cell? ⟨g0, o0 + k * 5, none⟩ = some (.int .i64 t.id) ∧ W.cell? ⟨g0, o0 + k * 5 + 1, none⟩ = some (.int .i64 t.ver) ∧ W.cell? ⟨g0, o0 + k * 5 + 2, none⟩ = some (.string t.nm) ∧ W.cell? ⟨g0, o0 + k * 5 + 3, none⟩ = some (.slice ao t.cols.length c) ∧ W.cell? ⟨g0, o0 + k * 5 + 4, none⟩ = some (.int .i64 t.key)) ∧ W.cell? ⟨N, 0, none⟩ = some (.slice to P.length tc)) := fun W tW => by
                obtain ⟨c0, c1, c2, c3, c4⟩ := Hcell.out w3 HTW3.out
                have key : ∀ (a : Addr) u, a.block = g0 → w3.cell? a = some u → W.cell? a = some u := fun a u ha h => by
                  rw [tW.cell (p := a) (cell_lt h) (fun e => by rw [ha] at e; have h5 := Hbl.out g0 (Or.inl e); have h6 := Hg0.out; omega)]; exact h
                have a2 : W.heap[N]? = some (.cells #[.slice to P.length tc, .int .i64 next] 57 (0, 0)) := by rw [tW.block N (blk_lt HR3.out.blk) HR3.out.nb.1]; exact HR3.out.blk
                exact ⟨⟨key _ _ rfl c0, key _ _ rfl c1, key _ _ rfl c2, key _ _ rfl c3, key _ _ rfl c4⟩, by rw [blk_cell a2]; rfl⟩
              have Hcp3 : Hid (∀ W, Tch (fun _ => False) w3 W → Calls Try.prog 28 #[tA t.id t.ver t.nm (.slice ao t.cols.length c) t.key] W fun x w' => (∃ v, x = .returned (tA t.id t.ver t.nm v t.key) ∧ w'.ownsRow W.heap.size 43 3 v t.cols.length (ccl t.cols)) ∧ Tch (fun _ => False) W w') := fun W tW => rcopied_any t ao c W (Hsl.out.1.no (HTW3.out.trans' tW)) Hsl.out.2 (by have := H8.out; omega)
              have Hnext : Hid (∀ W v z W', Tch (fun i => (Value.slice to P.length tc).ownBlock = some i) w3 W → TO W 0 z (P ++ [(t, v)]) → (z.ownBlock = (Value.slice to P.length tc).ownBlock ∨ ∃ g, z.ownBlock = some g ∧ w3.heap.size ≤ g) → (∀ g, v.ownBlock = some g → w3.heap.size ≤ g) → W' = W.setCell ⟨N, 0, none⟩ z → (RO W' 0 N ((l.take (k + 1)).map Prod.fst) next (P ++ [(t, v)]) z ∧ (∀ g, BL z (P ++ [(t, v)]) g → N ≤ g) ∧ LG0 ((l.map Prod.fst).take (k + 1)) next ∧ ldE (l.map Prod.fst) next = ldGo next ((l.map Prod.fst).take (k + 1)) ((l.map Prod.fst).drop (k + 1))) ∧ Tch (fun i => N ≤ i) w1 W') := fun W v z W' tW hTO hat hv hW' => by
                have hB5 : W.heap[N]? = some (.cells #[.slice to P.length tc, .int .i64 next] 57 (0, 0)) := by rw [tW.block N (blk_lt HR3.out.blk) HR3.out.nb.1]; exact HR3.out.blk
                have tE : Tch (fun i => i = N) W W' := by rw [hW']; exact Tch.setCell (fun i => i = N) W ⟨N, 0, none⟩ _ rfl
                have hb' : W'.heap[N]? = some (.cells #[z, .int .i64 next] 57 (0, 0)) := by rw [hW', blk_set hB5 _]; rfl
                obtain ⟨g1, g2, g3⟩ := HR3.out.app tW hTO hat hv hb' tE
                have hN3 : N < w3.heap.size := blk_lt HR3.out.blk
                refine ⟨⟨?_, fun g hg => ?_, HS0.out.1, HS0.out.2⟩, ?_⟩
                · have e : (l.take (k + 1)).map Prod.fst = (l.take k).map Prod.fst ++ [t] := by
                    rw [List.take_succ_eq_append_getElem Hkl.out, List.map_append, Ht.out]
                  rw [e]; exact g1
                · rcases g2 g hg with h | h
                  · exact Hbl.out g h
                  · omega
                · refine (HTr.out.trans' (HTW3.out.mono (fun _ _ h => h.elim))).trans' (g3.mono (fun i _ h => ?_))
                  rcases h with h | h
                  · show N ≤ i; omega
                  · exact Hbl.out i h
              go_wp2_with fail
              obtain ⟨C, hC⟩ : ∃ C : List Value → World → Prop, C = fun s W => match s with
                | [] => Tch (fun _ => False) w3 W
                | [y] => Tch (fun _ => False) w3 W ∧ ∃ vo vc, y = tA t.id t.ver t.nm (.slice vo t.cols.length vc) t.key ∧ W.ownsRow w3.heap.size 43 3 (.slice vo t.cols.length vc) t.cols.length (ccl t.cols)
                | [y, y2] => Tch (fun _ => False) w3 W ∧ ∃ vo vc g, y = tA t.id t.ver t.nm (.slice vo t.cols.length vc) t.key ∧ y2 = .slice (some ⟨g, 0, none⟩) 1 1 ∧ W.ownsRow w3.heap.size 43 3 (.slice vo t.cols.length vc) t.cols.length (ccl t.cols) ∧ At W g 0 (tcs (t, .slice vo t.cols.length vc))
                | [y, _, z] => Tch (fun i => (Value.slice to P.length tc).ownBlock = some i) w3 W ∧ ∃ vo vc o5 c5, y = tA t.id t.ver t.nm (.slice vo t.cols.length vc) t.key ∧ z = .slice o5 (P.length + 1) c5 ∧ TO W 0 z (P ++ [(t, .slice vo t.cols.length vc)]) ∧ (z.ownBlock = (Value.slice to P.length tc).ownBlock ∨ ∃ g, z.ownBlock = some g ∧ w3.heap.size ≤ g) ∧ ∀ g, (Value.slice vo t.cols.length vc).ownBlock = some g → w3.heap.size ≤ g
                | _ => False := ⟨_, rfl⟩
              have hK : ∀ s W, C s W → (W.cell? ⟨g0, o0 + k * 5, none⟩ = some (.int .i64 t.id) ∧ W.cell? ⟨g0, o0 + k * 5 + 1, none⟩ = some (.int .i64 t.ver) ∧ W.cell? ⟨g0, o0 + k * 5 + 2, none⟩ = some (.string t.nm) ∧ W.cell? ⟨g0, o0 + k * 5 + 3, none⟩ = some (.slice ao t.cols.length c) ∧ W.cell? ⟨g0, o0 + k * 5 + 4, none⟩ = some (.int .i64 t.key)) ∧ W.cell? ⟨N, 0, none⟩ = some (.slice to P.length tc) := fun s W h => by
                refine Hcel3.out W ?_
                rw [hC] at h
                match s, h with
                | [], h => exact Tch.mono h (fun _ _ h => h.elim)
                | [_], h => exact h.1.mono (fun _ _ h => h.elim)
                | [_, _], h => exact h.1.mono (fun _ _ h => h.elim)
                | [_, _, _], h => exact h.1
              have h6 : ∀ W, C [] W → Calls Try.prog 28 #[tA t.id t.ver t.nm (.slice ao t.cols.length c) t.key] W fun x w' => ∃ vo vc, x = .returned (tA t.id t.ver t.nm (.slice vo t.cols.length vc) t.key) ∧ C [tA t.id t.ver t.nm (.slice vo t.cols.length vc) t.key] w' := fun W h => by
                rw [hC] at h ⊢
                refine (Hcp3.out W h).mono ?_
                rintro x w' ⟨⟨v, rfl, hv⟩, t'⟩
                obtain ⟨vo, vc, rfl⟩ := row_slice hv
                exact ⟨vo, vc, rfl, Tch.trans' h t', vo, vc, rfl, own_low hv (Tch.size h)⟩
              have h7 : ∀ vo vc W, C [tA t.id t.ver t.nm (.slice vo t.cols.length vc) t.key] W → C [tA t.id t.ver t.nm (.slice vo t.cols.length vc) t.key, .slice (some ⟨W.heap.size, 0, none⟩) 1 1] (W.alloc (.cells #[.int .i64 t.id, .int .i64 t.ver, .string t.nm, .slice vo t.cols.length vc, .int .i64 t.key] 36)) := fun vo vc W h => by
                rw [hC] at h ⊢
                obtain ⟨tW, vo', vc', e, hv⟩ := h
                have e' : vo = vo' ∧ vc = vc' := by simpa using e
                obtain ⟨rfl, rfl⟩ := e'
                exact ⟨tW.allocR _, vo, vc, W.heap.size, rfl, rfl, own_tch hv (Tch.alloc (fun _ => False) _ _) (fun _ _ h => h), blk_at (alloc_new W (.cells (tcs (t, .slice vo t.cols.length vc)).toArray 36))⟩
              have h8' : ∀ vo vc g W, C [tA t.id t.ver t.nm (.slice vo t.cols.length vc) t.key, .slice (some ⟨g, 0, none⟩) 1 1] W → ∃ o5 c5 w', (Builtin.append_ #[37, 37] 37 #[.slice to P.length tc, .slice (some ⟨g, 0, none⟩) 1 1]).run Try.prog W = .ok (.slice o5 (P.length + 1) c5) w' ∧ C [tA t.id t.ver t.nm (.slice vo t.cols.length vc) t.key, .slice (some ⟨g, 0, none⟩) 1 1, .slice o5 (P.length + 1) c5] w' := fun vo vc g W h => by
                rw [hC] at h
                obtain ⟨tW, vo', vc', g', e, e2, hv, hg⟩ := h
                have e' : vo = vo' ∧ vc = vc' := by simpa using e
                obtain ⟨rfl, rfl⟩ := e'
                have e2' : g = g' := by simpa using e2
                subst e2'
                have hTO := HR3.out.to.tch tW (fun _ _ _ h => h)
                obtain ⟨v', w', hr, hown, hgr, hat, _⟩ := run_append_keeps (P := Try.prog) W 0 37 37 36 i0 (.agg #[.int .i64 0, .int .i64 0, .string ⟨#[]⟩, .slice none 0 0, .int .i64 0]) 5 64 Try.underlying37 hi0 hz0 hz1 hz2 rfl (by decide) (.slice to P.length tc) P.length (tcl P) hTO.own ⟨g, 0, none⟩ 1 1 (tcs (t, .slice vo t.cols.length vc)) rfl (fun j u hu => by rw [add_plain]; exact hg j u hu) (by simp [tcs, Value.oneCell']) (by unfold maxLen; omega) (by omega) (Nat.zero_le _)
                obtain ⟨o5, c5, rfl⟩ := row_slice hown
                refine ⟨o5, c5, w', hr, ?_⟩
                rw [hC]
                refine ⟨(tW.mono (fun _ _ h => h.elim)).trans' (grown_at (Tch.refl (fun _ => False) W) hgr), vo, vc, o5, c5, rfl, rfl, ?_, hat.imp id (fun e => ⟨_, e, tW.size⟩), fun g e => (hv.lt g e).1⟩
                exact hTO.snoc (M := w3.heap.size) hv (Nat.zero_le _) (fun g hg => (HR3.out.bl_lt hg).1) hgr (by rw [tcl_append]; exact hown) hat
              have h0' : C [] w3.drew := by rw [hC]; exact (Tch.refl _ _).drew
              have hsh1 : ∀ y W, C [y] W → ∃ vo vc, y = tA t.id t.ver t.nm (.slice vo t.cols.length vc) t.key := fun y W h => by
                rw [hC] at h
                obtain ⟨_, vo, vc, e, _⟩ := h
                exact ⟨vo, vc, e⟩
              have hsh2 : ∀ x y W, C [x, y] W → ∃ g, y = .slice (some ⟨g, 0, none⟩) 1 1 := fun x y W h => by
                rw [hC] at h
                obtain ⟨_, vo, vc, g, _, e, _⟩ := h
                exact ⟨g, e⟩
              have hsh3 : ∀ x y z W, C [x, y, z] W → ∃ o5 c5, z = .slice o5 (P.length + 1) c5 := fun x y z W h => by
                rw [hC] at h
                obtain ⟨_, vo, vc, o5, c5, _, e, _⟩ := h
                exact ⟨o5, c5, e⟩
              have Hfin : Hid (∀ x y z W, C [x, y, z] W → Tch (fun i => (Value.slice to P.length tc).ownBlock = some i) w3 W ∧ ∃ v, TO W 0 z (P ++ [(t, v)]) ∧ (z.ownBlock = (Value.slice to P.length tc).ownBlock ∨ ∃ g, z.ownBlock = some g ∧ w3.heap.size ≤ g) ∧ ∀ g, v.ownBlock = some g → w3.heap.size ≤ g) := fun x y z W h => by
                rw [hC] at h
                obtain ⟨h1, vo, vc, o5, c5, _, _, h2, h3, h4⟩ := h
                exact ⟨h1, _, h2, h3, h4⟩
              clear hC
              refine wp_region_ordv [9, 10, 11] C 12 [0, 1, 2, 3, 4, 5, 6, 7, 8, 9, 10, 11] (by kernel_rfl) (by kernel_rfl) h0' ?_
              clear h0'
              refine ordv_read rfl (by go_simp) (by rfl) ?_
              apply Exists.intro
              refine ⟨fun s' W hW b K Q hK' => ?_, fun K hK' => ?_⟩
              · obtain ⟨⟨x0, x1, x2, x3, x4⟩, d0⟩ := hK _ W hW
                go_simp
                exact hK' W hW
              go_simp
              refine hK' _ ?_
              clear hK' K
              refine ordv_read rfl (by go_simp) (by rfl) ?_
              apply Exists.intro
              refine ⟨fun s' W hW b K Q hK' => ?_, fun K hK' => ?_⟩
              · obtain ⟨⟨x0, x1, x2, x3, x4⟩, d0⟩ := hK _ W hW
                go_simp
                exact hK' W hW
              go_simp
              refine hK' _ ?_
              clear hK' K
              refine ordv_read rfl (by go_simp) (by rfl) ?_
              apply Exists.intro
              refine ⟨fun s' W hW b K Q hK' => ?_, fun K hK' => ?_⟩
              · obtain ⟨⟨x0, x1, x2, x3, x4⟩, d0⟩ := hK _ W hW
                go_simp
                exact hK' W hW
              go_simp
              refine hK' _ ?_
              clear hK' K
              refine ordv_read rfl (by go_simp) (by rfl) ?_
              apply Exists.intro
              refine ⟨fun s' W hW b K Q hK' => ?_, fun K hK' => ?_⟩
              · obtain ⟨⟨x0, x1, x2, x3, x4⟩, d0⟩ := hK _ W hW
                go_simp
                exact hK' W hW
              go_simp
              refine hK' _ ?_
              clear hK' K
              refine ordv_read rfl (by go_simp) (by rfl) ?_
              apply Exists.intro
              refine ⟨fun s' W hW b K Q hK' => ?_, fun K hK' => ?_⟩
              · obtain ⟨⟨x0, x1, x2, x3, x4⟩, d0⟩ := hK _ W hW
                go_simp
                exact hK' W hW
              go_simp
              refine hK' _ ?_
              clear hK' K
              refine ordv_read rfl (by go_simp) (by rfl) ?_
              apply Exists.intro
              refine ⟨fun s' W hW b K Q hK' => ?_, fun K hK' => ?_⟩
              · obtain ⟨⟨x0, x1, x2, x3, x4⟩, d0⟩ := hK _ W hW
                go_simp
                exact hK' W hW
              go_simp
              refine hK' _ ?_
              clear hK' K
              refine ordv_read rfl (by go_simp) (by rfl) ?_
              apply Exists.intro
              refine ⟨fun s' W hW b K Q hK' => ?_, fun K hK' => ?_⟩
              · obtain ⟨⟨x0, x1, x2, x3, x4⟩, d0⟩ := hK _ W hW
                go_simp
                exact hK' W hW
              go_simp
              refine hK' _ ?_
              clear hK' K
              refine ordv_read rfl (by go_simp) (by rfl) ?_
              apply Exists.intro
              refine ⟨fun s' W hW b K Q hK' => ?_, fun K hK' => ?_⟩
              · obtain ⟨⟨x0, x1, x2, x3, x4⟩, d0⟩ := hK _ W hW
                go_simp
                exact hK' W hW
              go_simp
              refine hK' _ ?_
              clear hK' K
              refine ordv_read rfl (by go_simp) (by rfl) ?_
              apply Exists.intro
              refine ⟨fun s' W hW b K Q hK' => ?_, fun K hK' => ?_⟩
              · obtain ⟨⟨x0, x1, x2, x3, x4⟩, d0⟩ := hK _ W hW
                go_simp
                exact hK' W hW
              go_simp
              refine hK' _ ?_
              clear hK' K
              refine ordv_turn rfl (by go_simp) (by rfl) (fun W hW b K Q hK' => ?_) (fun u hu K hK' => ?_)
              · go_simp
                go_at_call 28
                refine (h6 W hW).mono ?_
                rintro x w' ⟨vo, vc, rfl, h1⟩
                exact hK' _ w' h1
              obtain ⟨vo, vc, rfl⟩ : ∃ vo vc, u = tA t.id t.ver t.nm (.slice vo t.cols.length vc) t.key := by
                obtain ⟨W', hW'⟩ := hu
                exact hsh1 u W' hW'
              clear hu h6
              go_simp
              refine hK' _ ?_
              clear hK' K
              refine ordv_turn rfl (by go_simp) (by rfl) (fun W hW b K Q hK' => ?_) (fun u hu K hK' => ?_)
              · go_simp
                exact hK' _ _ (h7 vo vc W hW)
              obtain ⟨g, rfl⟩ : ∃ g, u = .slice (some ⟨g, 0, none⟩) 1 1 := by
                obtain ⟨W', hW'⟩ := hu
                exact hsh2 _ u W' hW'
              clear hu h7
              go_simp
              refine hK' _ ?_
              clear hK' K
              refine ordv_turn rfl (by go_simp) (by rfl) (fun W hW => ?_) (fun u hu K hK' => ?_)
              · obtain ⟨to', tc', w', hr, h1⟩ := h8' vo vc g W hW
                exact yv_append (.tmp 72) (.tmp 78) 37 rfl (.slice to P.length tc) (.slice (some ⟨g, 0, none⟩) 1 1) rfl rfl hr h1
              obtain ⟨o5, c5, rfl⟩ : ∃ o5 c5, u = .slice o5 (P.length + 1) c5 := by
                obtain ⟨W', hW'⟩ := hu
                exact hsh3 _ _ u W' hW'
              clear hu h8' hsh1 hsh2 hsh3
              go_simp
              refine hK' _ ?_
              clear hK' K
              refine ordv_nil ?_
              intro w5 hw5
              obtain ⟨T5, v5, hTO5, hat5, hv5⟩ := Hfin.out _ _ _ w5 hw5
              clear hK hw5 Hfin
              have hB5 : w5.heap[N]? = some (.cells #[.slice to P.length tc, .int .i64 next] 57 (0, 0)) := by rw [T5.block N (blk_lt HR3.out.blk) HR3.out.nb.1]; exact HR3.out.blk
              have u0 : w5.cell? ⟨N, 0, none⟩ = some (.slice to P.length tc) := by rw [blk_cell hB5]; rfl
              have f0 := blk_frozen hB5 0
              obtain ⟨s1, s2⟩ := Hnext.out w5 v5 _ _ T5 hTO5 hat5 hv5 rfl
              have S1 : Hid _ := s1
              have S2 : Hid _ := s2
              clear hB5 T5 hTO5 hat5 hv5 s1 s2
              go_wp2_with fail
              go_roundw
              case rel => exact ⟨k + 1, P ++ [(t, v5)], .slice o5 (P.length + 1) c5, by go_num, by omega, S1, S2⟩
              case measure => simp [intOf]; omega
          · obtain ⟨j, hj⟩ : ∃ j, k = j + 1 := ⟨k - 1, by omega⟩
            have p0 := Hla.out.2 j hj w2 t2
            have hjI : ((k : Int) - 1) = (j : Int) := by omega
            have hjn : (j : Int) < n := by omega
            have Hj : Hid (k = j + 1) := hj
            clear hj
            by_cases hle : t.id ≤ la
            · have hE := HE1'.out (Or.inl hle)
              have HE : Hid _ := hE
              clear hE
              go_wp2_with fail
              have hnx' : ¬ next ≤ t.id := by omega
              have hk0' : (0 : Int) < k := by omega
              have hle' : t.id ≤ la := by omega
              go_quiet (fail)
              have HF : Hid _ := Herr.out (w2.drewN nq) 1 HE.out (by decide) (t2.drewN _)
              go_wp2_with fail
              go_ret2
              exact HF.out
            · have hbad : ¬ (t.id ≤ la ∨ next ≤ t.id) := by omega
              have Hbad : Hid _ := hbad
              clear hbad
              go_wp2_with fail
              have hnx' : ¬ next ≤ t.id := by omega
              have hk0' : (0 : Int) < k := by omega
              have hle' : ¬ t.id ≤ la := by omega
              go_quiet (fail)
              obtain ⟨WQ, hWQ⟩ : ∃ WQ, WQ = w2.drewN nq := ⟨_, rfl⟩
              have HTWQ : Hid (Tch (fun _ => False) wV WQ) := by rw [hWQ]; exact t2.drewN _
              have hbad := Hbad.out
              rw [← hWQ]
              clear hWQ c0 c1 c2 c3 c4 t2 hnx' hk0' hnx hle' hle p0 hjI hjn
              have q2 := rplace_any N to tc P _ t.nm WQ (by rw [blk_cell (HRq.out WQ HTWQ.out).blk]; rfl) (HRq.out WQ HTWQ.out).tl (by omega)
              rw [← hr] at q2
              obtain ⟨c0, c1, c2, c3, c4⟩ := (Hcell.out WQ HTWQ.out)
              go_wp2_with fail
              refine q2.mono ?_
              rintro y wy ⟨rfl, hwy⟩
              obtain rfl := hwy.symm
              clear hwy q2
              by_cases hr0 : 0 ≤ r
              · have HF : Hid _ := Herr.out WQ 51 (HE51.out (by assumption) hr0) (by decide) HTWQ.out
                clear c0 c1 c2 c3 c4
                go_wp2_with fail
                go_ret2
                exact HF.out
              · have HS0 : Hid _ := HEok.out (by assumption) (by omega)
                have H8 : Hid (t.cols.length ≤ 8) := (right_len HR0.out).2
                obtain ⟨w3, hw3⟩ : ∃ w3, w3 = WQ := ⟨_, rfl⟩
                have HTW3 : Hid (Tch (fun _ => False) wV w3) := by rw [hw3]; exact HTWQ.out
                rw [← hw3]
                clear c0 c1 c2 c3 c4 hw3
                have HR3 : Hid (RO w3 0 N ((l.take k).map Prod.fst) next P (.slice to P.length tc)) := HRq.out w3 HTW3.out
                have Hcel3 : Hid (∀ W, Tch (fun i => (Value.slice to P.length tc).ownBlock = some i) w3 W → (W.cell? ⟨g0, o0 + k * 5, none⟩ = some (.int .i64 t.id) ∧ W.cell? ⟨g0, o0 + k * 5 + 1, none⟩ = some (.int .i64 t.ver) ∧ W.cell? ⟨g0, o0 + k * 5 + 2, none⟩ = some (.string t.nm) ∧ W.cell? ⟨g0, o0 + k * 5 + 3, none⟩ = some (.slice ao t.cols.length c) ∧ W.cell? ⟨g0, o0 + k * 5 + 4, none⟩ = some (.int .i64 t.key)) ∧ W.cell? ⟨N, 0, none⟩ = some (.slice to P.length tc)) := fun W tW => by
                  obtain ⟨c0, c1, c2, c3, c4⟩ := Hcell.out w3 HTW3.out
                  have key : ∀ (a : Addr) u, a.block = g0 → w3.cell? a = some u → W.cell? a = some u := fun a u ha h => by
                    rw [tW.cell (p := a) (cell_lt h) (fun e => by rw [ha] at e; have h5 := Hbl.out g0 (Or.inl e); have h6 := Hg0.out; omega)]; exact h
                  have a2 : W.heap[N]? = some (.cells #[.slice to P.length tc, .int .i64 next] 57 (0, 0)) := by rw [tW.block N (blk_lt HR3.out.blk) HR3.out.nb.1]; exact HR3.out.blk
                  exact ⟨⟨key _ _ rfl c0, key _ _ rfl c1, key _ _ rfl c2, key _ _ rfl c3, key _ _ rfl c4⟩, by rw [blk_cell a2]; rfl⟩
                have Hcp3 : Hid (∀ W, Tch (fun _ => False) w3 W → Calls Try.prog 28 #[tA t.id t.ver t.nm (.slice ao t.cols.length c) t.key] W fun x w' => (∃ v, x = .returned (tA t.id t.ver t.nm v t.key) ∧ w'.ownsRow W.heap.size 43 3 v t.cols.length (ccl t.cols)) ∧ Tch (fun _ => False) W w') := fun W tW => rcopied_any t ao c W (Hsl.out.1.no (HTW3.out.trans' tW)) Hsl.out.2 (by have := H8.out; omega)
                have Hnext : Hid (∀ W v z W', Tch (fun i => (Value.slice to P.length tc).ownBlock = some i) w3 W → TO W 0 z (P ++ [(t, v)]) → (z.ownBlock = (Value.slice to P.length tc).ownBlock ∨ ∃ g, z.ownBlock = some g ∧ w3.heap.size ≤ g) → (∀ g, v.ownBlock = some g → w3.heap.size ≤ g) → W' = W.setCell ⟨N, 0, none⟩ z → (RO W' 0 N ((l.take (k + 1)).map Prod.fst) next (P ++ [(t, v)]) z ∧ (∀ g, BL z (P ++ [(t, v)]) g → N ≤ g) ∧ LG0 ((l.map Prod.fst).take (k + 1)) next ∧ ldE (l.map Prod.fst) next = ldGo next ((l.map Prod.fst).take (k + 1)) ((l.map Prod.fst).drop (k + 1))) ∧ Tch (fun i => N ≤ i) w1 W') := fun W v z W' tW hTO hat hv hW' => by
                  have hB5 : W.heap[N]? = some (.cells #[.slice to P.length tc, .int .i64 next] 57 (0, 0)) := by rw [tW.block N (blk_lt HR3.out.blk) HR3.out.nb.1]; exact HR3.out.blk
                  have tE : Tch (fun i => i = N) W W' := by rw [hW']; exact Tch.setCell (fun i => i = N) W ⟨N, 0, none⟩ _ rfl
                  have hb' : W'.heap[N]? = some (.cells #[z, .int .i64 next] 57 (0, 0)) := by rw [hW', blk_set hB5 _]; rfl
                  obtain ⟨g1, g2, g3⟩ := HR3.out.app tW hTO hat hv hb' tE
                  have hN3 : N < w3.heap.size := blk_lt HR3.out.blk
                  refine ⟨⟨?_, fun g hg => ?_, HS0.out.1, HS0.out.2⟩, ?_⟩
                  · have e : (l.take (k + 1)).map Prod.fst = (l.take k).map Prod.fst ++ [t] := by
                      rw [List.take_succ_eq_append_getElem Hkl.out, List.map_append, Ht.out]
                    rw [e]; exact g1
                  · rcases g2 g hg with h | h
                    · exact Hbl.out g h
                    · omega
                  · refine (HTr.out.trans' (HTW3.out.mono (fun _ _ h => h.elim))).trans' (g3.mono (fun i _ h => ?_))
                    rcases h with h | h
                    · show N ≤ i; omega
                    · exact Hbl.out i h
                go_wp2_with fail
                obtain ⟨C, hC⟩ : ∃ C : List Value → World → Prop, C = fun s W => match s with
                  | [] => Tch (fun _ => False) w3 W
                  | [y] => Tch (fun _ => False) w3 W ∧ ∃ vo vc, y = tA t.id t.ver t.nm (.slice vo t.cols.length vc) t.key ∧ W.ownsRow w3.heap.size 43 3 (.slice vo t.cols.length vc) t.cols.length (ccl t.cols)
                  | [y, y2] => Tch (fun _ => False) w3 W ∧ ∃ vo vc g, y = tA t.id t.ver t.nm (.slice vo t.cols.length vc) t.key ∧ y2 = .slice (some ⟨g, 0, none⟩) 1 1 ∧ W.ownsRow w3.heap.size 43 3 (.slice vo t.cols.length vc) t.cols.length (ccl t.cols) ∧ At W g 0 (tcs (t, .slice vo t.cols.length vc))
                  | [y, _, z] => Tch (fun i => (Value.slice to P.length tc).ownBlock = some i) w3 W ∧ ∃ vo vc o5 c5, y = tA t.id t.ver t.nm (.slice vo t.cols.length vc) t.key ∧ z = .slice o5 (P.length + 1) c5 ∧ TO W 0 z (P ++ [(t, .slice vo t.cols.length vc)]) ∧ (z.ownBlock = (Value.slice to P.length tc).ownBlock ∨ ∃ g, z.ownBlock = some g ∧ w3.heap.size ≤ g) ∧ ∀ g, (Value.slice vo t.cols.length vc).ownBlock = some g → w3.heap.size ≤ g
                  | _ => False := ⟨_, rfl⟩
                have hK : ∀ s W, C s W → (W.cell? ⟨g0, o0 + k * 5, none⟩ = some (.int .i64 t.id) ∧ W.cell? ⟨g0, o0 + k * 5 + 1, none⟩ = some (.int .i64 t.ver) ∧ W.cell? ⟨g0, o0 + k * 5 + 2, none⟩ = some (.string t.nm) ∧ W.cell? ⟨g0, o0 + k * 5 + 3, none⟩ = some (.slice ao t.cols.length c) ∧ W.cell? ⟨g0, o0 + k * 5 + 4, none⟩ = some (.int .i64 t.key)) ∧ W.cell? ⟨N, 0, none⟩ = some (.slice to P.length tc) := fun s W h => by
                  refine Hcel3.out W ?_
                  rw [hC] at h
                  match s, h with
                  | [], h => exact Tch.mono h (fun _ _ h => h.elim)
                  | [_], h => exact h.1.mono (fun _ _ h => h.elim)
                  | [_, _], h => exact h.1.mono (fun _ _ h => h.elim)
                  | [_, _, _], h => exact h.1
                have h6 : ∀ W, C [] W → Calls Try.prog 28 #[tA t.id t.ver t.nm (.slice ao t.cols.length c) t.key] W fun x w' => ∃ vo vc, x = .returned (tA t.id t.ver t.nm (.slice vo t.cols.length vc) t.key) ∧ C [tA t.id t.ver t.nm (.slice vo t.cols.length vc) t.key] w' := fun W h => by
                  rw [hC] at h ⊢
                  refine (Hcp3.out W h).mono ?_
                  rintro x w' ⟨⟨v, rfl, hv⟩, t'⟩
                  obtain ⟨vo, vc, rfl⟩ := row_slice hv
                  exact ⟨vo, vc, rfl, Tch.trans' h t', vo, vc, rfl, own_low hv (Tch.size h)⟩
                have h7 : ∀ vo vc W, C [tA t.id t.ver t.nm (.slice vo t.cols.length vc) t.key] W → C [tA t.id t.ver t.nm (.slice vo t.cols.length vc) t.key, .slice (some ⟨W.heap.size, 0, none⟩) 1 1] (W.alloc (.cells #[.int .i64 t.id, .int .i64 t.ver, .string t.nm, .slice vo t.cols.length vc, .int .i64 t.key] 36)) := fun vo vc W h => by
                  rw [hC] at h ⊢
                  obtain ⟨tW, vo', vc', e, hv⟩ := h
                  have e' : vo = vo' ∧ vc = vc' := by simpa using e
                  obtain ⟨rfl, rfl⟩ := e'
                  exact ⟨tW.allocR _, vo, vc, W.heap.size, rfl, rfl, own_tch hv (Tch.alloc (fun _ => False) _ _) (fun _ _ h => h), blk_at (alloc_new W (.cells (tcs (t, .slice vo t.cols.length vc)).toArray 36))⟩
                have h8' : ∀ vo vc g W, C [tA t.id t.ver t.nm (.slice vo t.cols.length vc) t.key, .slice (some ⟨g, 0, none⟩) 1 1] W → ∃ o5 c5 w', (Builtin.append_ #[37, 37] 37 #[.slice to P.length tc, .slice (some ⟨g, 0, none⟩) 1 1]).run Try.prog W = .ok (.slice o5 (P.length + 1) c5) w' ∧ C [tA t.id t.ver t.nm (.slice vo t.cols.length vc) t.key, .slice (some ⟨g, 0, none⟩) 1 1, .slice o5 (P.length + 1) c5] w' := fun vo vc g W h => by
                  rw [hC] at h
                  obtain ⟨tW, vo', vc', g', e, e2, hv, hg⟩ := h
                  have e' : vo = vo' ∧ vc = vc' := by simpa using e
                  obtain ⟨rfl, rfl⟩ := e'
                  have e2' : g = g' := by simpa using e2
                  subst e2'
                  have hTO := HR3.out.to.tch tW (fun _ _ _ h => h)
                  obtain ⟨v', w', hr, hown, hgr, hat, _⟩ := run_append_keeps (P := Try.prog) W 0 37 37 36 i0 (.agg #[.int .i64 0, .int .i64 0, .string ⟨#[]⟩, .slice none 0 0, .int .i64 0]) 5 64 Try.underlying37 hi0 hz0 hz1 hz2 rfl (by decide) (.slice to P.length tc) P.length (tcl P) hTO.own ⟨g, 0, none⟩ 1 1 (tcs (t, .slice vo t.cols.length vc)) rfl (fun j u hu => by rw [add_plain]; exact hg j u hu) (by simp [tcs, Value.oneCell']) (by unfold maxLen; omega) (by omega) (Nat.zero_le _)
                  obtain ⟨o5, c5, rfl⟩ := row_slice hown
                  refine ⟨o5, c5, w', hr, ?_⟩
                  rw [hC]
                  refine ⟨(tW.mono (fun _ _ h => h.elim)).trans' (grown_at (Tch.refl (fun _ => False) W) hgr), vo, vc, o5, c5, rfl, rfl, ?_, hat.imp id (fun e => ⟨_, e, tW.size⟩), fun g e => (hv.lt g e).1⟩
                  exact hTO.snoc (M := w3.heap.size) hv (Nat.zero_le _) (fun g hg => (HR3.out.bl_lt hg).1) hgr (by rw [tcl_append]; exact hown) hat
                have h0' : C [] w3.drew := by rw [hC]; exact (Tch.refl _ _).drew
                have hsh1 : ∀ y W, C [y] W → ∃ vo vc, y = tA t.id t.ver t.nm (.slice vo t.cols.length vc) t.key := fun y W h => by
                  rw [hC] at h
                  obtain ⟨_, vo, vc, e, _⟩ := h
                  exact ⟨vo, vc, e⟩
                have hsh2 : ∀ x y W, C [x, y] W → ∃ g, y = .slice (some ⟨g, 0, none⟩) 1 1 := fun x y W h => by
                  rw [hC] at h
                  obtain ⟨_, vo, vc, g, _, e, _⟩ := h
                  exact ⟨g, e⟩
                have hsh3 : ∀ x y z W, C [x, y, z] W → ∃ o5 c5, z = .slice o5 (P.length + 1) c5 := fun x y z W h => by
                  rw [hC] at h
                  obtain ⟨_, vo, vc, o5, c5, _, e, _⟩ := h
                  exact ⟨o5, c5, e⟩
                have Hfin : Hid (∀ x y z W, C [x, y, z] W → Tch (fun i => (Value.slice to P.length tc).ownBlock = some i) w3 W ∧ ∃ v, TO W 0 z (P ++ [(t, v)]) ∧ (z.ownBlock = (Value.slice to P.length tc).ownBlock ∨ ∃ g, z.ownBlock = some g ∧ w3.heap.size ≤ g) ∧ ∀ g, v.ownBlock = some g → w3.heap.size ≤ g) := fun x y z W h => by
                  rw [hC] at h
                  obtain ⟨h1, vo, vc, o5, c5, _, _, h2, h3, h4⟩ := h
                  exact ⟨h1, _, h2, h3, h4⟩
                clear hC
                refine wp_region_ordv [9, 10, 11] C 12 [0, 1, 2, 3, 4, 5, 6, 7, 8, 9, 10, 11] (by kernel_rfl) (by kernel_rfl) h0' ?_
                clear h0'
                refine ordv_read rfl (by go_simp) (by rfl) ?_
                apply Exists.intro
                refine ⟨fun s' W hW b K Q hK' => ?_, fun K hK' => ?_⟩
                · obtain ⟨⟨x0, x1, x2, x3, x4⟩, d0⟩ := hK _ W hW
                  go_simp
                  exact hK' W hW
                go_simp
                refine hK' _ ?_
                clear hK' K
                refine ordv_read rfl (by go_simp) (by rfl) ?_
                apply Exists.intro
                refine ⟨fun s' W hW b K Q hK' => ?_, fun K hK' => ?_⟩
                · obtain ⟨⟨x0, x1, x2, x3, x4⟩, d0⟩ := hK _ W hW
                  go_simp
                  exact hK' W hW
                go_simp
                refine hK' _ ?_
                clear hK' K
                refine ordv_read rfl (by go_simp) (by rfl) ?_
                apply Exists.intro
                refine ⟨fun s' W hW b K Q hK' => ?_, fun K hK' => ?_⟩
                · obtain ⟨⟨x0, x1, x2, x3, x4⟩, d0⟩ := hK _ W hW
                  go_simp
                  exact hK' W hW
                go_simp
                refine hK' _ ?_
                clear hK' K
                refine ordv_read rfl (by go_simp) (by rfl) ?_
                apply Exists.intro
                refine ⟨fun s' W hW b K Q hK' => ?_, fun K hK' => ?_⟩
                · obtain ⟨⟨x0, x1, x2, x3, x4⟩, d0⟩ := hK _ W hW
                  go_simp
                  exact hK' W hW
                go_simp
                refine hK' _ ?_
                clear hK' K
                refine ordv_read rfl (by go_simp) (by rfl) ?_
                apply Exists.intro
                refine ⟨fun s' W hW b K Q hK' => ?_, fun K hK' => ?_⟩
                · obtain ⟨⟨x0, x1, x2, x3, x4⟩, d0⟩ := hK _ W hW
                  go_simp
                  exact hK' W hW
                go_simp
                refine hK' _ ?_
                clear hK' K
                refine ordv_read rfl (by go_simp) (by rfl) ?_
                apply Exists.intro
                refine ⟨fun s' W hW b K Q hK' => ?_, fun K hK' => ?_⟩
                · obtain ⟨⟨x0, x1, x2, x3, x4⟩, d0⟩ := hK _ W hW
                  go_simp
                  exact hK' W hW
                go_simp
                refine hK' _ ?_
                clear hK' K
                refine ordv_read rfl (by go_simp) (by rfl) ?_
                apply Exists.intro
                refine ⟨fun s' W hW b K Q hK' => ?_, fun K hK' => ?_⟩
                · obtain ⟨⟨x0, x1, x2, x3, x4⟩, d0⟩ := hK _ W hW
                  go_simp
                  exact hK' W hW
                go_simp
                refine hK' _ ?_
                clear hK' K
                refine ordv_read rfl (by go_simp) (by rfl) ?_
                apply Exists.intro
                refine ⟨fun s' W hW b K Q hK' => ?_, fun K hK' => ?_⟩
                · obtain ⟨⟨x0, x1, x2, x3, x4⟩, d0⟩ := hK _ W hW
                  go_simp
                  exact hK' W hW
                go_simp
                refine hK' _ ?_
                clear hK' K
                refine ordv_read rfl (by go_simp) (by rfl) ?_
                apply Exists.intro
                refine ⟨fun s' W hW b K Q hK' => ?_, fun K hK' => ?_⟩
                · obtain ⟨⟨x0, x1, x2, x3, x4⟩, d0⟩ := hK _ W hW
                  go_simp
                  exact hK' W hW
                go_simp
                refine hK' _ ?_
                clear hK' K
                refine ordv_turn rfl (by go_simp) (by rfl) (fun W hW b K Q hK' => ?_) (fun u hu K hK' => ?_)
                · go_simp
                  go_at_call 28
                  refine (h6 W hW).mono ?_
                  rintro x w' ⟨vo, vc, rfl, h1⟩
                  exact hK' _ w' h1
                obtain ⟨vo, vc, rfl⟩ : ∃ vo vc, u = tA t.id t.ver t.nm (.slice vo t.cols.length vc) t.key := by
                  obtain ⟨W', hW'⟩ := hu
                  exact hsh1 u W' hW'
                clear hu h6
                go_simp
                refine hK' _ ?_
                clear hK' K
                refine ordv_turn rfl (by go_simp) (by rfl) (fun W hW b K Q hK' => ?_) (fun u hu K hK' => ?_)
                · go_simp
                  exact hK' _ _ (h7 vo vc W hW)
                obtain ⟨g, rfl⟩ : ∃ g, u = .slice (some ⟨g, 0, none⟩) 1 1 := by
                  obtain ⟨W', hW'⟩ := hu
                  exact hsh2 _ u W' hW'
                clear hu h7
                go_simp
                refine hK' _ ?_
                clear hK' K
                refine ordv_turn rfl (by go_simp) (by rfl) (fun W hW => ?_) (fun u hu K hK' => ?_)
                · obtain ⟨to', tc', w', hr, h1⟩ := h8' vo vc g W hW
                  exact yv_append (.tmp 72) (.tmp 78) 37 rfl (.slice to P.length tc) (.slice (some ⟨g, 0, none⟩) 1 1) rfl rfl hr h1
                obtain ⟨o5, c5, rfl⟩ : ∃ o5 c5, u = .slice o5 (P.length + 1) c5 := by
                  obtain ⟨W', hW'⟩ := hu
                  exact hsh3 _ _ u W' hW'
                clear hu h8' hsh1 hsh2 hsh3
                go_simp
                refine hK' _ ?_
                clear hK' K
                refine ordv_nil ?_
                intro w5 hw5
                obtain ⟨T5, v5, hTO5, hat5, hv5⟩ := Hfin.out _ _ _ w5 hw5
                clear hK hw5 Hfin
                have hB5 : w5.heap[N]? = some (.cells #[.slice to P.length tc, .int .i64 next] 57 (0, 0)) := by rw [T5.block N (blk_lt HR3.out.blk) HR3.out.nb.1]; exact HR3.out.blk
                have u0 : w5.cell? ⟨N, 0, none⟩ = some (.slice to P.length tc) := by rw [blk_cell hB5]; rfl
                have f0 := blk_frozen hB5 0
                obtain ⟨s1, s2⟩ := Hnext.out w5 v5 _ _ T5 hTO5 hat5 hv5 rfl
                have S1 : Hid _ := s1
                have S2 : Hid _ := s2
                clear hB5 T5 hTO5 hat5 hv5 s1 s2
                go_wp2_with fail
                go_roundw
                case rel => exact ⟨k + 1, P ++ [(t, v5)], .slice o5 (P.length + 1) c5, by go_num, by omega, S1, S2⟩
                case measure => simp [intOf]; omega
      · have HF : Hid _ := Herr.out w2 R (HEr.out hR0) hR0 t2
        have hb4 : (R != 0) = true := by simpa using hR0
        clear hR0
        go_wp2_with fail
        go_ret2
        exact HF.out
    · obtain rfl : k = n := by omega
      have HF : Hid (RLoadAny (l.map Prod.fst) w.heap.size next (.returned (.tuple #[.pointer (some ⟨N, 0, none⟩), .int .i64 0])) wV ∧ Tch (fun _ => False) w wV) := by
        have h3 := HC.out.1
        rw [List.take_of_length_le (by have := Hn.out; omega)] at h3
        have hz : ldE (l.map Prod.fst) next = 0 := by rw [HC.out.2.2.2, show k = (l.map Prod.fst).length by have := Hn.out; simp; omega]; exact ldGo_end _ _
        refine ⟨⟨fun _ => ⟨N, P, tv, rfl, h3, by have := HN.out; omega, fun g hg => by rw [← HN.out]; exact HC.out.2.1 g hg⟩, fun e => absurd hz e⟩, Ht1.out.trans HTr.out (fun i hi h => ?_)⟩
        have h4 : N ≤ i := h
        have := HN.out; omega
      clear HC HTr
      go_wp2_with fail
      go_ret2
      exact HF.out
end Go.Proofs.Ytolamjipigfocaa
