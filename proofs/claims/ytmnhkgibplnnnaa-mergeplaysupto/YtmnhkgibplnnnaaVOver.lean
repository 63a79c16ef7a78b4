import Derived.Test.YtmnhkgibplnnnaaUMer
import Derived.Test.YtmnhkgibplnnnaaURow
/- MergePlays: a row's owner writes over what it told. -/
namespace Go.Proofs.Ytmnhkgibplnnnaa
open Go.RowKit Go

theorem own_set3 {base n : Nat} {w : World} {g cp : Nat} {xs : List Value} (h : w.ownsRow base 76 3 (.slice (some ⟨g, 0, none⟩) n cp) n xs) {q : Nat} (hq : q < n) (a b c : Value) :
    (∃ y, w.cell? ⟨g, q * 3, none⟩ = some y) ∧ (∃ y, w.cell? ⟨g, q * 3 + 1, none⟩ = some y) ∧ (∃ y, w.cell? ⟨g, q * 3 + 2, none⟩ = some y) ∧ (∀ j, w.frozen? ⟨g, j, none⟩ = false) ∧ ∃ xs', (((w.setCell ⟨g, q * 3, none⟩ a).setCell ⟨g, q * 3 + 1, none⟩ b).setCell ⟨g, q * 3 + 2, none⟩ c).ownsRow base 76 3 (.slice (some ⟨g, 0, none⟩) n cp) n xs' := by
  rcases id h.2 with ⟨e, _⟩ | ⟨g', cap, cur, e, hb, hg, h1, h2, h3, h4⟩
  · simp at e
  · simp only [Value.slice.injEq] at e
    obtain ⟨e, _, rfl⟩ := e
    have eg : g = g' := by simpa using e
    subst eg
    have hc : ∀ j, j < cur.size → ∃ y, w.cell? ⟨g, j, none⟩ = some y := fun j hj => ⟨_, (blk_cell hg j).trans (Array.getElem?_eq_getElem hj)⟩
    refine ⟨hc _ (by omega), hc _ (by omega), hc _ (by omega), blk_frozen hg, _, ?_, .inr ⟨g, cp, _, rfl, hb, blk_set (blk_set (blk_set hg _) _) _, h1, h2, by simpa using h3, rfl⟩⟩
    simp
    omega
theorem box6 (w : World) (c : Rc) : (w.alloc (.cells (kc6 c).toArray 27)).heap[w.heap.size]? = some (.cells (kc6 c).toArray 27 (0, 0)) := alloc_new _ _
set_option maxHeartbeats 4000000 in
set_option maxRecDepth 1000000 in
theorem lover_any (c : Rc) (base : Nat) (xs ys : List Value) (w : World) (h : OwnC base w c xs ys) (ho : c.ol ≤ 2000000) (hn : c.nl ≤ 2000000) :
    Calls Try.prog 26 #[rcV c] w fun e w' => e = .returned (.tuple #[]) ∧ Tch (fun g => Bk c g) w w' := by
  obtain ⟨w0, hw0⟩ : ∃ w0, w0 = w.alloc (.cells #[.int .i64 c.l, .int .i64 c.x, .int .i64 c.k, .int .i64 c.t, .slice c.oa c.ol c.oc, .slice c.na c.nl c.nc] 27) := ⟨_, rfl⟩
  have t0 : Tch (fun _ => False) w w0 := by rw [hw0]; exact Tch.alloc _ _ _
  obtain ⟨N, hN⟩ : ∃ N, N = w.heap.size := ⟨_, rfl⟩
  have b0 : w0.heap[N]? = some (.cells #[.int .i64 c.l, .int .i64 c.x, .int .i64 c.k, .int .i64 c.t, .slice c.oa c.ol c.oc, .slice c.na c.nl c.nc] 27 (0, 0)) := by rw [hw0, hN]; exact alloc_new _ _
  have hlt : ∀ g, Bk c g → g < N := fun g hg => by rw [hN]; exact (h.lt hg).2
  have h0 : OwnC base w0 c xs ys := h.tch t0 (fun _ _ _ h => h)
  obtain ⟨v, hv⟩ : ∃ v : Rc, v = c := ⟨_, rfl⟩
  obtain ⟨l, x, k, t, oa, ol, oc, na, nl, nc⟩ := c
  simp only at ho hn b0 hw0
  have HS : Hid ((∃ xs ys, OwnC base w0 ⟨l, x, k, t, oa, ol, oc, na, nl, nc⟩ xs ys) ∧ Tch (fun g => Bk ⟨l, x, k, t, oa, ol, oc, na, nl, nc⟩ g) w0 w0) := ⟨⟨xs, ys, h0⟩, Tch.refl _ _⟩
  have HB : Hid (∀ W, Tch (fun g => Bk ⟨l, x, k, t, oa, ol, oc, na, nl, nc⟩ g) w0 W → W.cell? ⟨N, 4, none⟩ = some (.slice oa ol oc) ∧ W.cell? ⟨N, 5, none⟩ = some (.slice na nl nc)) := fun W tW => by
    have b := (tW.block N (blk_lt b0) (fun e => by have := hlt N e; omega)).trans b0
    exact ⟨blk_cell b 4, blk_cell b 5⟩
  have HT0 : Hid (Tch (fun _ => False) w w0) := t0
  have HW : Hid (w0 = _) := hw0
  have HN : Hid (N = w.heap.size) := hN
  have HL : Hid _ := hlt
  have hNw : w.heap.size = N := hN.symm
  clear h h0 t0 b0 hw0 hN hlt hv v
  unfold rcV
  simp only
  go_enter Try.func26, Try.ntmps26
  go_upto_region 1 with (fail)
  rw [← HW.out]
  clear hNw
  go_wp2_with fail
  go_loopg [2] ol (fun kx s2 wr => ∃ i : Nat, s2 = .int .i64 i ∧ ol - i ≤ kx ∧ i ≤ ol ∧ Hid ((∃ xs ys, OwnC base wr ⟨l, x, k, t, oa, ol, oc, na, nl, nc⟩ xs ys) ∧ Tch (fun g => Bk ⟨l, x, k, t, oa, ol, oc, na, nl, nc⟩ g) w0 wr))
  case atStart => exact ⟨0, rfl, by omega, by omega, HS⟩
  case round =>
    obtain ⟨i, rfl, hk, hin, I⟩ := hrel
    obtain ⟨c4, c5⟩ := HB.out wr I.out.2
    by_cases hi : i < ol
    · have hi' : (i : Int) < (ol : Int) := by omega
      obtain ⟨⟨xs1, ys1, hO⟩, tI⟩ := I.out
      obtain ⟨g, oc', cur, e, -⟩ := own_open hO.o (by show 0 < ol; omega)
      simp only [Value.slice.injEq] at e
      obtain ⟨rfl, _, rfl⟩ := e
      obtain ⟨⟨y0, x0⟩, ⟨y1, x1⟩, ⟨y2, x2⟩, ff, xs2, ho2⟩ := own_set3 hO.o hi (.int .i64 9) (.int .i64 0) (.string ⟨#[]⟩)
      have f0 := ff (i * 3); have f1 := ff (i * 3 + 1); have f2 := ff (i * 3 + 2)
      obtain ⟨w2, hw2⟩ : ∃ w2, w2 = ((wr.setCell ⟨g, i * 3, none⟩ (.int .i64 9)).setCell ⟨g, i * 3 + 1, none⟩ (.int .i64 0)).setCell ⟨g, i * 3 + 2, none⟩ (.string ⟨#[]⟩) := ⟨_, rfl⟩
      have t2 : Tch (fun j => j = g) wr w2 := by rw [hw2]; exact ((Tch.setCell (fun j => j = g) _ _ _ rfl).setCellR _ _ rfl).setCellR _ _ rfl
      have J : Hid ((∃ xs ys, OwnC base w2 ⟨l, x, k, t, some ⟨g, 0, none⟩, ol, oc, na, nl, nc⟩ xs ys) ∧ Tch (fun j => Bk ⟨l, x, k, t, some ⟨g, 0, none⟩, ol, oc, na, nl, nc⟩ j) w0 w2) := by
        refine ⟨⟨xs2, ys1, ⟨by rw [hw2]; exact ho2, own_tch hO.n t2 (fun j e e2 => hO.ne g rfl (by rw [← e2]; exact e)), hO.ne⟩⟩, tI.trans t2 (fun j _ e => .inl (by rw [e]; rfl))⟩
      have HW2 : Hid (w2 = _) := hw2
      clear hO tI ff ho2 hw2 t2
      go_wp2_with fail
      rw [← HW2.out]
      go_roundg (ol - (i + 1))
      case measure => omega
      case rel => exact ⟨i + 1, rfl, by omega, by omega, J⟩
    · have hi' : ¬ (i : Int) < (ol : Int) := by omega
      obtain rfl : ol = i := by omega
      rename World => w1
      go_wp2_with fail
      clear c4 c5
      go_loopg [3] nl (fun kx s3 wr => ∃ i : Nat, s3 = .int .i64 i ∧ nl - i ≤ kx ∧ i ≤ nl ∧ Hid ((∃ xs ys, OwnC base wr ⟨l, x, k, t, oa, ol, oc, na, nl, nc⟩ xs ys) ∧ Tch (fun g => Bk ⟨l, x, k, t, oa, ol, oc, na, nl, nc⟩ g) w0 wr))
      case atStart => exact ⟨0, rfl, by omega, by omega, I⟩
      case round =>
        obtain ⟨i, rfl, hk2, hin2, I2⟩ := hrel
        obtain ⟨c4, c5⟩ := HB.out wr I2.out.2
        by_cases hi2 : i < nl
        · have hi2' : (i : Int) < (nl : Int) := by omega
          obtain ⟨⟨xs1, ys1, hO⟩, tI⟩ := I2.out
          obtain ⟨g, nc', cur, e, -⟩ := own_open hO.n (by show 0 < nl; omega)
          simp only [Value.slice.injEq] at e
          obtain ⟨rfl, _, rfl⟩ := e
          obtain ⟨⟨y0, x0⟩, ⟨y1, x1⟩, ⟨y2, x2⟩, ff, xs2, ho2⟩ := own_set3 hO.n hi2 (.int .i64 8) (.int .i64 0) (.string ⟨#[]⟩)
          have f0 := ff (i * 3); have f1 := ff (i * 3 + 1); have f2 := ff (i * 3 + 2)
          obtain ⟨w2, hw2⟩ : ∃ w2, w2 = ((wr.setCell ⟨g, i * 3, none⟩ (.int .i64 8)).setCell ⟨g, i * 3 + 1, none⟩ (.int .i64 0)).setCell ⟨g, i * 3 + 2, none⟩ (.string ⟨#[]⟩) := ⟨_, rfl⟩
          have t2 : Tch (fun j => j = g) wr w2 := by rw [hw2]; exact ((Tch.setCell (fun j => j = g) _ _ _ rfl).setCellR _ _ rfl).setCellR _ _ rfl
          have J : Hid ((∃ xs ys, OwnC base w2 ⟨l, x, k, t, oa, ol, oc, some ⟨g, 0, none⟩, nl, nc⟩ xs ys) ∧ Tch (fun j => Bk ⟨l, x, k, t, oa, ol, oc, some ⟨g, 0, none⟩, nl, nc⟩ j) w0 w2) := by
            refine ⟨⟨xs1, xs2, ⟨own_tch hO.o t2 (fun j e e2 => hO.ne j e (by rw [e2]; rfl)), by rw [hw2]; exact ho2, hO.ne⟩⟩, tI.trans t2 (fun j _ e => .inr (by rw [e]; rfl))⟩
          have HW2 : Hid (w2 = _) := hw2
          clear hO tI ff ho2 hw2 t2
          go_wp2_with fail
          rw [← HW2.out]
          go_roundg (nl - (i + 1))
          case measure => omega
          case rel => exact ⟨i + 1, rfl, by omega, by omega, J⟩
        · have hi2' : ¬ (i : Int) < (nl : Int) := by omega
          obtain rfl : nl = i := by omega
          rename World => w2
          obtain ⟨⟨xs1, ys1, hO⟩, tI⟩ := I2.out
          have HT2 : Hid (Tch (fun g => Bk ⟨l, x, k, t, oa, ol, oc, na, nl, nc⟩ g) w w2) := (HT0.out.mono (fun _ _ h => h.elim)).trans' tI
          have HA0 : Hid (w2.ownsRow 0 76 3 (.slice oa (ol + 0) oc) (ol + 0) xs1 ∧ w2.ownsRow 0 76 3 (.slice na (nl + 0) nc) (nl + 0) ys1 ∧ (∀ g, (Value.slice oa (ol + 0) oc).ownBlock = some g → (Value.slice na (nl + 0) nc).ownBlock ≠ some g) ∧ (∀ g, (Value.slice oa (ol + 0) oc).ownBlock = some g ∨ (Value.slice na (nl + 0) nc).ownBlock = some g → Bk ⟨l, x, k, t, oa, ol, oc, na, nl, nc⟩ g ∨ w.heap.size ≤ g) ∧ Tch (fun g => Bk ⟨l, x, k, t, oa, ol, oc, na, nl, nc⟩ g) w w2) := ⟨own_low hO.o (Nat.zero_le _), own_low hO.n (Nat.zero_le _), hO.ne, fun g e => .inl e, HT2.out⟩
          clear hO tI
          go_wp2_with fail
          clear c4 c5
          go_loopg [4, 5, 6] 10 (fun kx s4 s5 s6 wq => ∃ (i : Nat) (ao bo : Option Addr) (ac bc : Nat) (xa xb : List Value), s4 = .slice ao (ol + i) ac ∧ s5 = .slice bo (nl + i) bc ∧ s6 = .int .i64 i ∧ 10 - i ≤ kx ∧ i ≤ 10 ∧ Hid (wq.ownsRow 0 76 3 (.slice ao (ol + i) ac) (ol + i) xa ∧ wq.ownsRow 0 76 3 (.slice bo (nl + i) bc) (nl + i) xb ∧ (∀ g, (Value.slice ao (ol + i) ac).ownBlock = some g → (Value.slice bo (nl + i) bc).ownBlock ≠ some g) ∧ (∀ g, (Value.slice ao (ol + i) ac).ownBlock = some g ∨ (Value.slice bo (nl + i) bc).ownBlock = some g → Bk ⟨l, x, k, t, oa, ol, oc, na, nl, nc⟩ g ∨ w.heap.size ≤ g) ∧ Tch (fun g => Bk ⟨l, x, k, t, oa, ol, oc, na, nl, nc⟩ g) w wq))
          case atStart => exact ⟨0, oa, na, oc, nc, xs1, ys1, rfl, rfl, rfl, by omega, by omega, HA0⟩
          case round =>
            obtain ⟨i, ao, bo, ac, bc, xa, xb, rfl, rfl, rfl, hk3, hi10, Y⟩ := hrel
            rename World => wq
            by_cases hi3 : i < 10
            · have hi3' : (i : Int) < 10 := by omega
              obtain ⟨i0, hi0, hz0, hz1, hz2⟩ := info_parts info_val
              obtain ⟨hA, hB, hne, hbk, hT⟩ := Y.out
              obtain ⟨wa, hwa⟩ : ∃ wa, wa = wq.alloc (.cells #[.int .i64 7, .int .i64 0, .string ⟨#[]⟩] 76) := ⟨_, rfl⟩
              have ta : Tch (fun _ => False) wq wa := by rw [hwa]; exact Tch.alloc _ _ _
              have ba : wa.heap[wq.heap.size]? = some (.cells #[.int .i64 7, .int .i64 0, .string ⟨#[]⟩] 76 (0, 0)) := by rw [hwa]; exact alloc_new _ _
              have hoa := own_tch hA ta (fun _ _ h => h)
              obtain ⟨v1, w5, hr5, hown5, hgr5, _, hat5⟩ := run_append_own_at (P := Try.prog) wa 0 25 25 76 i0 _ 3 32 Try.underlying25 hi0 hz0 hz1 hz2 rfl (by decide) _ _ _ hoa ⟨wq.heap.size, 0, none⟩ 1 1 [.int .i64 7, .int .i64 0, .string ⟨#[]⟩] rfl (fun j u hu => by rw [add_plain, Nat.zero_add, blk_cell ba, List.getElem?_toArray]; exact hu) (fun u hu => by simp only [List.mem_cons, List.not_mem_nil, or_false] at hu; rcases hu with rfl | rfl | rfl <;> rfl) (by unfold maxLen; omega) (by omega) (Nat.zero_le _)
              have t5 : Tch (fun j => (Value.slice ao (ol + i) ac).ownBlock = some j) wa w5 := Tch.of_grown hgr5 (fun g e => e)
              obtain ⟨o1, c1, rfl⟩ := row_slice hown5
              have hB5 := own_tch (own_tch hB ta (fun _ _ h => h)) t5 (fun g e e2 => hne g e2 e)
              obtain ⟨wb, hwb⟩ : ∃ wb, wb = w5.alloc (.cells #[.int .i64 6, .int .i64 0, .string ⟨#[]⟩] 76) := ⟨_, rfl⟩
              have tb : Tch (fun _ => False) w5 wb := by rw [hwb]; exact Tch.alloc _ _ _
              have bb : wb.heap[w5.heap.size]? = some (.cells #[.int .i64 6, .int .i64 0, .string ⟨#[]⟩] 76 (0, 0)) := by rw [hwb]; exact alloc_new _ _
              have hob := own_tch hB5 tb (fun _ _ h => h)
              obtain ⟨v2, w6, hr6, hown6, hgr6, _, hat6⟩ := run_append_own_at (P := Try.prog) wb 0 25 25 76 i0 _ 3 32 Try.underlying25 hi0 hz0 hz1 hz2 rfl (by decide) _ _ _ hob ⟨w5.heap.size, 0, none⟩ 1 1 [.int .i64 6, .int .i64 0, .string ⟨#[]⟩] rfl (fun j u hu => by rw [add_plain, Nat.zero_add, blk_cell bb, List.getElem?_toArray]; exact hu) (fun u hu => by simp only [List.mem_cons, List.not_mem_nil, or_false] at hu; rcases hu with rfl | rfl | rfl <;> rfl) (by unfold maxLen; omega) (by omega) (Nat.zero_le _)
              have t6 : Tch (fun j => (Value.slice bo (nl + i) bc).ownBlock = some j) wb w6 := Tch.of_grown hgr6 (fun g e => e)
              obtain ⟨o2, c2, rfl⟩ := row_slice hown6
              have sz1 := ta.size
              have sz2 := t5.size
              have sz3 := tb.size
              have szT := hT.size
              have hne5 : ∀ g, (Value.slice o1 (ol + i + 1) c1).ownBlock = some g → (Value.slice bo (nl + i) bc).ownBlock ≠ some g := fun g e e2 => by
                rcases hat5 with h5 | h5
                · rw [h5] at e; exact hne g e e2
                · rw [h5] at e; injection e with e; have := (hB.lt g e2).2; omega
              have J : Hid (w6.ownsRow 0 76 3 (.slice o1 (ol + (i + 1)) c1) (ol + (i + 1)) (xa ++ [.int .i64 7, .int .i64 0, .string ⟨#[]⟩]) ∧ w6.ownsRow 0 76 3 (.slice o2 (nl + (i + 1)) c2) (nl + (i + 1)) (xb ++ [.int .i64 6, .int .i64 0, .string ⟨#[]⟩]) ∧ (∀ g, (Value.slice o1 (ol + (i + 1)) c1).ownBlock = some g → (Value.slice o2 (nl + (i + 1)) c2).ownBlock ≠ some g) ∧ (∀ g, (Value.slice o1 (ol + (i + 1)) c1).ownBlock = some g ∨ (Value.slice o2 (nl + (i + 1)) c2).ownBlock = some g → Bk ⟨l, x, k, t, oa, ol, oc, na, nl, nc⟩ g ∨ w.heap.size ≤ g) ∧ Tch (fun g => Bk ⟨l, x, k, t, oa, ol, oc, na, nl, nc⟩ g) w w6) := by
                refine ⟨own_tch (own_tch hown5 tb (fun _ _ h => h)) t6 (fun g e e2 => hne5 g e e2), hown6, fun g e e2 => ?_, fun g e => ?_, ?_⟩
                · have e' : (Value.slice o1 (ol + i + 1) c1).ownBlock = some g := e
                  have e2' : (Value.slice o2 (nl + i + 1) c2).ownBlock = some g := e2
                  rcases hat6 with h6 | h6
                  · rw [h6] at e2'; exact hne5 g e' e2'
                  · rw [h6] at e2'; injection e2' with e2'
                    have := (hown5.lt g e').2; omega
                · rcases e with e | e
                  · have e' : (Value.slice o1 (ol + i + 1) c1).ownBlock = some g := e
                    rcases hat5 with h5 | h5
                    · rw [h5] at e'; exact hbk g (.inl e')
                    · rw [h5] at e'; injection e' with e'; exact .inr (by omega)
                  · have e' : (Value.slice o2 (nl + i + 1) c2).ownBlock = some g := e
                    rcases hat6 with h6 | h6
                    · rw [h6] at e'; exact hbk g (.inr e')
                    · rw [h6] at e'; injection e' with e'; exact .inr (by omega)
                · refine (((hT.trans ta (fun _ _ h => h.elim)).trans t5 (fun g hg e => ?_)).trans tb (fun _ _ h => h.elim)).trans t6 (fun g hg e => ?_)
                  · exact (hbk g (.inl e)).elim id (fun h => by omega)
                  · exact (hbk g (.inr e)).elim id (fun h => by omega)
              rw [hwa] at hr5
              rw [hwb] at hr6
              clear hi0 hz0 hz1 hz2 hA hB hne hbk hT hwa ta ba hoa hown5 hgr5 hat5 t5 hB5 hwb tb bb hob hown6 hgr6 hat6 t6 sz1 sz2 sz3 szT hne5
              go_wp2_with (at_builtin; first | (refine wpList_app _ rfl _ _ 25 rfl rfl _ _ rfl rfl hr5 ?_) | (refine wpList_app _ rfl _ _ 25 rfl rfl _ _ rfl rfl hr6 ?_))
              go_roundg (10 - (i + 1))
              case measure => omega
              case rel => exact ⟨i + 1, o1, o2, c1, c2, _, _, rfl, rfl, rfl, by omega, by omega, J⟩
            · have hi3' : ¬ (i : Int) < 10 := by omega
              go_wp2
              go_end0
              exact ⟨rfl, Y.out.2.2.2.2⟩
end Go.Proofs.Ytmnhkgibplnnnaa
