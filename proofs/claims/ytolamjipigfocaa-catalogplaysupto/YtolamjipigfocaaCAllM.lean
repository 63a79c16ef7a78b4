import Derived.Test.YtolamjipigfocaaCMinX
/- A list of tables that came out, in the book. -/
namespace Go.Proofs.Ytolamjipigfocaa
open Go.RowKit Go

theorem info_tabs : (Try.prog.info? 37).map (fun i => (i.zero, i.size, i.bytes)) = some (some (.slice none 0 0), 1, 24) := by kernel_rfl
/-- What allMine leaves. -/
def AllM (b : Nat) (cur : Array Value) (C T : List Value) (n kh kb : Nat) (w : World) (o : Nat → Nat) (w' : World) : Prop :=
  ∃ o' cv' tv' C' T', C'.length = C.length + 14 * n ∧ T'.length = T.length + 14 ∧ w'.heap[b]? = some (.cells ((cur.setIfInBounds 0 cv').setIfInBounds 1 tv') 41 (0, 0)) ∧ LS 34 w' (fun i => o' i ≠ 6) b mkC C' cv' ∧ LS 37 w' (fun i => o' i ≠ 7) b mkT T' tv' ∧ Ev (fun j => j = 6 ∨ j = 7 ∨ j = kh ∨ j = kb) w o w' o' ∧ o' b = kb

set_option maxHeartbeats 4000000 in
set_option maxRecDepth 100000 in
theorem allMine_any (w : World) (o : Nat → Nat) (b : Nat) (cur : Array Value) (C T : List Value) (cv tv v : Value) (P : List (Tbl × Value)) (kh kb : Nat)
    (hb : w.heap[b]? = some (.cells cur 41 (0, 0))) (hs : cur.size = 17) (hc : cur[0]? = some cv) (hc1 : cur[1]? = some tv) (hL : LS 34 w (fun i => o i ≠ 6) b mkC C cv) (hT : LS 37 w (fun i => o i ≠ 7) b mkT T tv) (hv : TabsO w o kh v P) (hP : P.length ≤ 16) (hP8 : ∀ i (hi : i < P.length), P[i].1.cols.length ≤ 8) (hkh : kh ≠ 6 ∧ kh ≠ 7 ∧ kh ≠ kb) (hkb : kb ≠ 6 ∧ kb ≠ 7) (hob : o b = kb) (hA : C.length ≤ 99000000) (h14 : C.length % 14 = 0) (hTA : T.length ≤ 100000000) (hT14 : T.length % 14 = 0) :
    Calls Try.prog 59 #[.pointer (some ⟨b, 0, none⟩), v] w fun x w' => x = .returned (.tuple #[]) ∧ AllM b cur C T P.length kh kb w o w' := by
  obtain ⟨i0, hi0, hz0, hz1, hz2⟩ := info_parts info_tbl
  obtain ⟨i1, hi1, hy0, hy1, hy2⟩ := info_parts info_tabs
  obtain ⟨n, hn⟩ : ∃ n, n = P.length := ⟨_, rfl⟩
  obtain ⟨vo, vc, hvv⟩ := row_slice hv.to.own
  rw [← hn] at hvv
  subst hvv
  obtain ⟨ro, rc, htv⟩ := row_slice hT.all
  obtain ⟨M, hM⟩ : ∃ M : Int, M = -5 - (T.length : Int) := ⟨_, rfl⟩
  obtain ⟨N, hN⟩ : ∃ N, N = w.heap.size := ⟨_, rfl⟩
  obtain ⟨w0, hw0⟩ : ∃ w0, w0 = w.alloc (.cells #[.int .i64 M, .int .i64 0, .string ⟨#[109, 105, 110, 101]⟩, .slice none 0 0, .int .i64 0] 36) := ⟨_, rfl⟩
  obtain ⟨cs, hcs⟩ : ∃ cs : List Value, cs = [.int .i64 M, .int .i64 0, .string ⟨#[109, 105, 110, 101]⟩, .slice none 0 0, .int .i64 0] := ⟨_, rfl⟩
  have t0 : Tch (fun _ => False) w w0 := by rw [hw0]; exact Tch.alloc _ _ _
  have hbx : w0.heap[N]? = some (.cells #[.int .i64 M, .int .i64 0, .string ⟨#[109, 105, 110, 101]⟩, .slice none 0 0, .int .i64 0] 36 (0, 0)) := by rw [hw0, hN]; exact alloc_new _ _
  have hN0 : w0.heap.size = N + 1 := by rw [hw0, hN, World.size_alloc]
  have hbN : b < N := by rw [hN]; exact blk_lt hb
  have hmk : ∀ j, T.length ≤ j → j < T.length + 14 → mkT j = cs := fun j h1 h2 => by
    rw [hcs, hM]; unfold mkT; rw [show j / 14 * 14 = T.length by omega]
  obtain ⟨o0, ho0⟩ : ∃ o0, o0 = ext w o kb := ⟨_, rfl⟩
  have e0 : Ev (fun j => j = kb) w o w0 o0 := by rw [ho0]; exact Ev.quiet kb t0
  have hoN : o0 N = kb := by rw [ho0, hN]; exact if_neg (by omega)
  have hob0 : o0 b = kb := by rw [ho0]; show ext w o kb b = kb; unfold ext; rw [if_pos (by omega)]; exact hob
  have hol : ∀ i, i < N → o0 i = o i := fun i hi => by rw [ho0]; show ext w o kb i = o i; unfold ext; rw [if_pos (by omega)]
  have hL0 := hL.ev e0 (fun e => hkb.1 e.symm)
  have hT0 := hT.ev e0 (fun e => hkb.2 e.symm)
  have hv0 := hv.ev e0 hkh.2.2
  have hok : ∀ i, N ≤ i → o0 i = kb := fun i hi => by rw [ho0]; exact if_neg (by omega)
  have hTl : ∀ g, tv.ownBlock = some g → o0 g = 7 ∧ g < w0.heap.size := fun g e => ⟨Classical.byContradiction fun h => (hT0.ag g e).2 h, hT0.lt g e⟩
  obtain ⟨R1, hR1⟩ : ∃ R1 : World → (Nat → Nat) → Nat → Prop, R1 = fun wr o' q => Tch (fun i => i = b ∨ o0 i = 6 ∨ o0 i = kh) w0 wr ∧ (∀ j (hj : j < P.length), q ≤ j → wr.ownsRow 0 43 3 P[j].2 P[j].1.cols.length (ccl P[j].1.cols) ∧ ∀ g, P[j].2.ownBlock = some g → o' g = kh) ∧ (∀ i, i < w0.heap.size → o0 i ≠ kh → o' i = o0 i) ∧ (∀ i, i < w0.heap.size → o0 i = kh → o' i = 6 ∨ o' i = kh) ∧ (∀ g, (Value.slice vo n vc).ownBlock = some g → o' g = kh) ∧ ∀ i, w0.heap.size ≤ i → i < wr.heap.size → o' i = 6 := ⟨_, rfl⟩
  have H1 : Hid (R1 w0 o0 0) := by
    rw [hR1]
    exact ⟨Tch.refl _ _, fun j hj _ => ⟨hv0.to.col j hj, fun g e => hv0.lab g (Or.inr ⟨j, hj, e⟩)⟩, fun _ _ _ => rfl, fun i _ e => Or.inr e, fun g e => hv0.lab g (Or.inl e), fun i hi hl => by omega⟩
  have HB0 : Hid (∀ wr o' q, R1 wr o' q → (wr.cell? ⟨N, 0, none⟩ = some (.int .i64 M) ∧ wr.cell? ⟨N, 1, none⟩ = some (.int .i64 0) ∧ wr.cell? ⟨N, 2, none⟩ = some (.string ⟨#[109, 105, 110, 101]⟩) ∧ wr.cell? ⟨N, 3, none⟩ = some (.slice none 0 0) ∧ wr.cell? ⟨N, 4, none⟩ = some (.int .i64 0)) ∧ o' b = kb ∧ N < wr.heap.size) := fun wr o' q h => by
    rw [hR1] at h
    have hNl : N < w0.heap.size := by omega
    have hb1 : wr.heap[N]? = some (.cells #[.int .i64 M, .int .i64 0, .string ⟨#[109, 105, 110, 101]⟩, .slice none 0 0, .int .i64 0] 36 (0, 0)) := by
      rw [h.1.block N hNl (fun e => by rcases e with e | e | e <;> omega)]; exact hbx
    exact ⟨⟨by rw [blk_cell hb1]; rfl, by rw [blk_cell hb1]; rfl, by rw [blk_cell hb1]; rfl, by rw [blk_cell hb1]; rfl, by rw [blk_cell hb1]; rfl⟩, by rw [h.2.2.1 b (by omega) (by rw [hob0]; exact fun e => hkh.2.2 e.symm), hob0], Nat.lt_of_lt_of_le hNl h.1.size⟩
  have HOg : Hid (∀ wr o' q, R1 wr o' q → ∀ g, (Value.slice vo n vc).ownBlock = some g → o' g = kh) := fun wr o' q h => by rw [hR1] at h; exact h.2.2.2.2.1
  have HSep : Hid (∀ q (hq : q < P.length) g, P[q].2.ownBlock = some g → (Value.slice vo n vc).ownBlock = some g → False) := fun q hq g e e2 => hv0.to.sep q hq g e e2
  have HBN : Hid (∀ wr o' q, R1 wr o' q → ∀ w4 o4 V, Mn wr o' w4 o4 b V → (∀ i, V i → o' i = kh) → (w4.cell? ⟨N, 0, none⟩ = some (.int .i64 M) ∧ w4.cell? ⟨N, 1, none⟩ = some (.int .i64 0) ∧ w4.cell? ⟨N, 2, none⟩ = some (.string ⟨#[109, 105, 110, 101]⟩) ∧ w4.cell? ⟨N, 3, none⟩ = some (.slice none 0 0) ∧ w4.cell? ⟨N, 4, none⟩ = some (.int .i64 0))) := fun wr o' q h w4 o4 V hm hV => by
    obtain ⟨⟨d0, d1, d2, d3, d4⟩, hbb, hNw⟩ := HB0.out wr o' q h
    rw [hR1] at h
    have hoN' : o' N = kb := by rw [h.2.2.1 N (by omega) (by rw [hoN]; exact fun e => hkh.2.2 e.symm), hoN]
    have hn : ¬ (N = b ∨ o' N = 6 ∨ V N) := fun e => by
      rcases e with e | e | e
      · omega
      · rw [hoN'] at e; exact hkb.1 e
      · have := hV N e; rw [hoN'] at this; exact hkh.2.2 this.symm
    exact ⟨(hm.tch.cell (p := ⟨N, 0, none⟩) hNw hn).trans d0, (hm.tch.cell (p := ⟨N, 1, none⟩) hNw hn).trans d1, (hm.tch.cell (p := ⟨N, 2, none⟩) hNw hn).trans d2, (hm.tch.cell (p := ⟨N, 3, none⟩) hNw hn).trans d3, (hm.tch.cell (p := ⟨N, 4, none⟩) hNw hn).trans d4⟩
  have HKq : Hid (∀ wr o' q, R1 wr o' q → ∀ (hq : q < P.length) i, P[q].2.ownBlock = some i → o' i = kh) := fun wr o' q h hq i e => by
    rw [hR1] at h
    exact (h.2.1 q hq (Nat.le_refl _)).2 i e
  have HStep : Hid (∀ wr o' q (hq : q < P.length) w4 o'' w5 g, R1 wr o' q → Mn wr o' w4 o'' b (fun i => P[q].2.ownBlock = some i) → (Value.slice vo n vc).ownBlock = some g → Tch (fun i => i = g) w4 w5 → w5.heap.size = w4.heap.size → R1 w5 o'' (q + 1) ∧ o'' g = kh) := fun wr o' q hq w4 o'' w5 g h hm hg t5 hs5 => by
    rw [hR1] at h ⊢
    obtain ⟨r1, r2, r3, r4, r5, r6⟩ := h
    have hVw : ∀ i, P[q].2.ownBlock = some i → i < w0.heap.size ∧ o0 i = kh := fun i e => ⟨((hv0.to.col q hq).lt i e).2, hv0.lab i (Or.inr ⟨q, hq, e⟩)⟩
    have hgw : g < w0.heap.size ∧ o0 g = kh := ⟨(hv0.to.own.lt g hg).2, hv0.lab g (Or.inl hg)⟩
    have hgV : ¬ P[q].2.ownBlock = some g := fun e => hv0.to.sep q hq g e hg
    have hsz := r1.size
    have hog : o'' g = kh := by rw [hm.old g (by omega) hgV, r5 g hg]
    have t14 : Tch (fun i => i = b ∨ o0 i = 6 ∨ o0 i = kh) w0 w4 := r1.trans hm.tch (fun i hi e => by
      rcases e with e | e | e
      · exact Or.inl e
      · by_cases hk : o0 i = kh
        · exact Or.inr (Or.inr hk)
        · exact Or.inr (Or.inl (by rw [← r3 i hi hk]; exact e))
      · exact Or.inr (Or.inr (hVw i e).2))
    refine ⟨⟨t14.trans t5 (fun i hi e => by rw [show i = g from e]; exact Or.inr (Or.inr hgw.2)), fun j hj hqj => ?_, fun i hi hk => ?_, fun i hi hk => ?_, fun g' hg' => ?_, fun i hi hl => ?_⟩, hog⟩
    · obtain ⟨c1, c2⟩ := r2 j hj (by omega)
      have hd : ∀ g', P[j].2.ownBlock = some g' → ¬ P[q].2.ownBlock = some g' := fun g' e e2 => hv0.to.dis j q hj hq g' (by omega) e e2
      have hlt : ∀ g', P[j].2.ownBlock = some g' → g' < wr.heap.size := fun g' e => (c1.lt g' e).2
      refine ⟨own_tch (own_tch c1 hm.tch (fun g' e e2 => ?_)) t5 (fun g' e e2 => ?_), fun g' e => ?_⟩
      · rcases e2 with e2 | e2 | e2
        · have h1 := c2 g' e
          have h2 : o' b = kb := by rw [r3 b (by omega) (by rw [hob0]; exact fun e => hkh.2.2 e.symm), hob0]
          rw [e2, h2] at h1
          exact hkh.2.2 h1.symm
        · rw [c2 g' e] at e2; exact hkh.1 e2
        · exact hd g' e e2
      · rw [show g' = g from e2] at e
        exact hv0.to.sep j hj g e hg
      · rw [hm.old g' (hlt g' e) (hd g' e)]; exact c2 g' e
    · rw [hm.old i (by omega) (fun e => hk (hVw i e).2)]; exact r3 i hi hk
    · by_cases hV : P[q].2.ownBlock = some i
      · exact Or.inl (hm.vs i hV)
      · rw [hm.old i (by omega) hV]; exact r4 i hi hk
    · have e1 : g' = g := by rw [hg] at hg'; injection hg' with e; exact e.symm
      rw [e1]; exact hog
    · rcases Nat.lt_or_ge i wr.heap.size with h1 | h1
      · have hV : ¬ P[q].2.ownBlock = some i := fun e => by have := (hVw i e).1; omega
        rw [hm.old i h1 hV]; exact r6 i hi h1
      · exact hm.new i h1
  have HGo : Hid (∀ wr o' q, R1 wr o' q → ∀ (hq : q < P.length), (wr.ownsRow 0 43 3 P[q].2 P[q].1.cols.length (ccl P[q].1.cols) ∧ ∀ g, P[q].2.ownBlock = some g → o' g ≠ 6 ∧ g ≠ b)) := fun wr o' q h hq => by
    have hbb := (HB0.out wr o' q h).2.1
    rw [hR1] at h
    obtain ⟨c1, c2⟩ := h.2.1 q hq (Nat.le_refl _)
    exact ⟨c1, fun g e => ⟨by rw [c2 g e]; exact hkh.1, fun e2 => by rw [← e2, c2 g e] at hbb; exact hkh.2.2 hbb⟩⟩
  have HEnd : Hid (∀ wr o' q C' cv', R1 wr o' q → LS 34 wr (fun i => o' i ≠ 6) b mkC C' cv' → C'.length = C.length + 14 * n → ∃ F : Nat → Prop, (∀ i, F i → i < wr.heap.size) ∧ LS 37 wr (fun i => (F i ∨ i = N) ∨ (Value.slice vo n vc).ownBlock = some i) b mkT T tv ∧ (∀ g, (Value.slice vo n vc).ownBlock = some g → g ≠ b ∧ ¬ (F g ∨ g = N)) ∧ ∀ rv' A' wx, A'.length = T.length + 14 → wx.heap[b]? = some (.cells ((cur.setIfInBounds 0 cv').setIfInBounds 1 rv') 41 (0, 0)) → LS 37 wx F b mkT A' rv' → Tch (fun i => i = b ∨ tv.ownBlock = some i ∨ (Value.slice vo n vc).ownBlock = some i) wr wx → AllM b cur C T P.length kh kb w o wx) := fun wr o' q C' cv' h hLc hCl => by
    obtain ⟨_, hbb, hNw⟩ := HB0.out wr o' q h
    rw [hR1] at h
    obtain ⟨r1, r2, r3, r4, r5, r6⟩ := h
    have hsz := r1.size
    have h7 : ∀ i, i < w0.heap.size → (o' i = 7 ↔ o0 i = 7) := fun i hi => by
      by_cases hk : o0 i = kh
      · rcases r4 i hi hk with e | e
        · rw [e, hk]; constructor <;> (intro e2; omega)
        · rw [e, hk]
      · rw [r3 i hi hk]
    have hvlt : ∀ g, (Value.slice vo n vc).ownBlock = some g → g < w0.heap.size ∧ o0 g = kh := fun g e => ⟨(hv0.to.own.lt g e).2, hv0.lab g (Or.inl e)⟩
    have hLT : LS 37 wr (fun i => o0 i ≠ 7) b mkT T tv := hT0.tch r1 (fun i e => by
      rcases e with e | e | e
      · exact Or.inl e
      · right; omega
      · right; omega)
    refine ⟨fun i => i < wr.heap.size ∧ o' i ≠ 7 ∧ (Value.slice vo n vc).ownBlock ≠ some i, fun i h => h.1, hLT.fresh (fun i hi hf => ?_), fun g e => ⟨fun e2 => ?_, fun hf => ?_⟩, fun rv' A' wx hA' hb' hL' t' => ?_⟩
    · rcases hf with (hf | hf) | hf
      · rcases Nat.lt_or_ge i w0.heap.size with h1 | h1
        · exact fun e => hf.2.1 ((h7 i h1).2 e)
        · rw [hok i (by omega)]; exact hkb.2
      · rw [hf, hoN]; exact hkb.2
      · rw [(hvlt i hf).2]; exact hkh.2.1
    · have h1 := r5 g e
      rw [e2, hbb] at h1
      exact hkh.2.2 h1.symm
    · rcases hf with hf | hf
      · exact hf.2.2 e
      · have h1 := (hvlt g e).2
        rw [hf, hoN] at h1
        exact hkh.2.2 h1.symm
    · let o2 : Nat → Nat := fun i => if (Value.slice vo n vc).ownBlock = some i then 7 else if i < wr.heap.size then o' i else 7
      have e2 : Ev (fun j => j = 7 ∨ j = kh ∨ j = kb) wr o' wx o2 := by
        refine ⟨t'.mono (fun i _ hi => ?_), fun i hi hn => ?_, fun i hi hk => ?_, fun i hi _ => ?_⟩
        · rcases hi with rfl | hi | hi
          · exact Or.inr (Or.inr hbb)
          · exact Or.inl ((h7 i (hTl i hi).2).2 (hTl i hi).1)
          · exact Or.inr (Or.inl (r5 i hi))
        · show (if (Value.slice vo n vc).ownBlock = some i then 7 else if i < wr.heap.size then o' i else 7) = o' i
          rw [if_neg (fun e => hn (Or.inr (Or.inl (r5 i e)))), if_pos hi]
        · show (if (Value.slice vo n vc).ownBlock = some i then 7 else if i < wr.heap.size then o' i else 7) = 7 ∨ (if (Value.slice vo n vc).ownBlock = some i then 7 else if i < wr.heap.size then o' i else 7) = kh ∨ (if (Value.slice vo n vc).ownBlock = some i then 7 else if i < wr.heap.size then o' i else 7) = kb
          split
          · exact Or.inl rfl
          · first | exact hk | (rw [if_pos hi]; exact hk)
        · refine Or.inl ?_
          show (if (Value.slice vo n vc).ownBlock = some i then 7 else if i < wr.heap.size then o' i else 7) = 7
          split
          · rfl
          · rw [if_neg (by omega)]
      have e1 : Ev (fun j => j = 6 ∨ j = kh ∨ j = kb) w0 o0 wr o' := by
        refine ⟨r1.mono (fun i _ hi => ?_), fun i hi hn => r3 i hi (fun e => hn (Or.inr (Or.inl e))), fun i hi hk => ?_, fun i hi hl => Or.inl (r6 i hi hl)⟩
        · rcases hi with rfl | hi | hi
          · exact Or.inr (Or.inr hob0)
          · exact Or.inl hi
          · exact Or.inr (Or.inl hi)
        · by_cases hk2 : o0 i = kh
          · rcases r4 i hi hk2 with e | e
            · exact Or.inl e
            · exact Or.inr (Or.inl e)
          · rw [r3 i hi hk2]; exact hk
      refine ⟨o2, cv', rv', C', A', by rw [hCl, hn], hA', hb', hLc.ev e2 (by omega), hL'.fresh (fun i hi hf => ?_), ((e0.mono (fun j e => Or.inr (Or.inr (Or.inr e)))).trans (e1.mono (fun j e => ?_))).trans (e2.mono (fun j e => ?_)), ?_⟩
      · have hf' : (if (Value.slice vo n vc).ownBlock = some i then 7 else if i < wr.heap.size then o' i else 7) ≠ 7 := hf
        split at hf'
        · exact absurd rfl hf'
        · rename_i h1
          split at hf'
          · rename_i h2; exact ⟨h2, hf', h1⟩
          · exact absurd rfl hf'
      · rcases e with e | e | e
        · exact Or.inl e
        · exact Or.inr (Or.inr (Or.inl e))
        · exact Or.inr (Or.inr (Or.inr e))
      · rcases e with e | e | e
        · exact Or.inr (Or.inl e)
        · exact Or.inr (Or.inr (Or.inl e))
        · exact Or.inr (Or.inr (Or.inr e))
      · show (if (Value.slice vo n vc).ownBlock = some b then 7 else if b < wr.heap.size then o' b else 7) = kb
        rw [if_neg (fun e => by have h1 := r5 b e; rw [hbb] at h1; exact hkh.2.2 h1.symm), if_pos (by omega), hbb]
  have HM0 : Hid (M5 w0 (.slice vo n vc) P M 0) := M5.of M hv0.to
  have HL0 : Hid (LS 34 w0 (fun i => o0 i ≠ 6) b mkC C cv) := hL0
  have Hb0 : Hid (w0.heap[b]? = some (.cells (cur.setIfInBounds 0 cv) 41 (0, 0))) := by
    show _ = _
    have e1 : cur.setIfInBounds 0 cv = cur := by
      apply Array.ext_getElem?
      intro i
      by_cases h : i = 0
      · subst h; rw [Array.getElem?_setIfInBounds_self_of_lt (by omega), hc]
      · rw [Array.getElem?_setIfInBounds_ne (by omega)]
    rw [t0.block b (blk_lt hb) (fun h => h), hb, e1]
  have cb1 : w.cell? ⟨b, 1, none⟩ = some (.slice ro T.length rc) := by rw [blk_cell hb, hc1, htv]
  have Hmk : Hid _ := hmk
  have Hcs : Hid _ := hcs
  have Hw0 : Hid _ := hw0
  have HN : Hid (N = w.heap.size) := hN
  have Hn : Hid (n = P.length) := hn
  have H8 : Hid _ := hP8
  have HCA : Hid (C.length ≤ 99000000 ∧ C.length % 14 = 0) := ⟨hA, h14⟩
  have HcT : Hid (cur[1]? = some tv ∧ cur.size = 17) := ⟨hc1, hs⟩
  have HTT : Hid (T.length % 14 = 0) := hT14
  have hn16 : n ≤ 16 := by omega
  have hTI : (T.length : Int) ≤ 100000000 := by omega
  have hMw : IntKind.i64.wrap (-5 - (T.length : Int)) = M := by rw [hM]; exact wrap_of (by omega) (by omega)
  have hTA' : T.length ≤ 100000000 := hTA
  clear hb hL hT hv hP hP8 hc hc1 hob hw0 hN hn hmk hcs hM ho0 e0 hL0 hT0 hv0 hR1 t0 hbx hN0 hok hTl hoN hob0 hol hA h14 hT14 hTA hs htv
  go_enter Try.func59, Try.ntmps59
  go_wp2_with fail
  rw [← HN.out]
  have hw0 := Hw0.out
  rw [← hw0]
  clear hw0 cb1 hMw
  go_loopw [5] (fun iv wr => ∃ (q : Nat) (o' : Nat → Nat) (C' : List Value) (cv' : Value), iv = .int .i64 q ∧ q ≤ n ∧ Hid (LS 34 wr (fun i => o' i ≠ 6) b mkC C' cv' ∧ C'.length = C.length + 14 * q) ∧ Hid (wr.heap[b]? = some (.cells (cur.setIfInBounds 0 cv') 41 (0, 0))) ∧ Hid (M5 wr (.slice vo n vc) P M q) ∧ Hid (R1 wr o' q)) (fun iv _ => n - (intOf iv).toNat)
  case atStart => exact ⟨0, o0, C, cv, rfl, by omega, ⟨HL0.out, rfl⟩, Hb0, HM0, H1⟩
  case round =>
    clear HL0 Hb0 HM0 H1
    obtain ⟨q, o', C', cv', rfl, hq, HC, Hb, HM, HR⟩ := hrel
    by_cases hqn : (q : Int) < n
    · have hqP : q < P.length := by have := Hn.out; omega
      obtain ⟨g, c, cu, hvv, hh, hsz, hqc, c0, c1, c2, c3, c4⟩ := HM.out.next hqP
      obtain ⟨rfl, rfl⟩ : vo = some ⟨g, 0, none⟩ ∧ vc = c := by injection hvv with e1 _ e3; exact ⟨e1, e3⟩
      obtain ⟨p, hp⟩ : ∃ p, p = P[q] := ⟨_, rfl⟩
      rw [← hp] at c0 c1 c2 c3 c4
      obtain ⟨hro, hro2⟩ := HGo.out wr o' q HR.out hqP
      rw [← hp] at hro hro2
      obtain ⟨po, pc, hpv⟩ := row_slice hro
      have q1 := mine_m wr o' b (cur.setIfInBounds 0 cv') C' cv' p.2 p.1.cols p.1.id p.1.ver p.1.nm p.1.key Hb.out (by have := HcT.out.2; simpa using this) (by rw [Array.getElem?_setIfInBounds_self_of_lt (by have := HcT.out.2; omega)]) HC.out.1 hro (by rw [hp]; exact H8.out q hqP) hro2 (by have := HC.out.2; have := HCA.out; omega) (by have := HC.out.2; have := HCA.out; omega)
      rw [hpv] at q1 c3
      have Hp : Hid (p = P[q]) := hp
      have Hpv : Hid _ := hpv
      have HqP : Hid (q < P.length) := hqP
      clear hro hro2 hpv hp hvv hh hsz
      go_wp2_with fail
      refine q1.mono ?_
      rintro x w4 ⟨rfl, o4, cv4, C4, hC4, hb4, hL4, hm4⟩
      clear q1 c0 c1 c2 c3 c4
      have hm4' : Mn wr o' w4 o4 b (fun i => (P[q]'HqP.out).2.ownBlock = some i) := by have e9 := Hp.out; rw [← Hpv.out, e9] at hm4; exact hm4
      obtain ⟨w5, hw5⟩ : ∃ w5, w5 = ((((w4.setCell ⟨g, q * 5, none⟩ (.int .i64 M)).setCell ⟨g, q * 5 + 1, none⟩ (.int .i64 0)).setCell ⟨g, q * 5 + 2, none⟩ (.string ⟨#[109, 105, 110, 101]⟩)).setCell ⟨g, q * 5 + 3, none⟩ (.slice none 0 0)).setCell ⟨g, q * 5 + 4, none⟩ (.int .i64 0) := ⟨_, rfl⟩
      have t5 : Tch (fun i => i = g) w4 w5 := by rw [hw5]; exact ((((Tch.setCell (fun i => i = g) w4 ⟨g, q * 5, none⟩ _ rfl).setCellR ⟨g, q * 5 + 1, none⟩ _ rfl).setCellR ⟨g, q * 5 + 2, none⟩ _ rfl).setCellR ⟨g, q * 5 + 3, none⟩ _ rfl).setCellR ⟨g, q * 5 + 4, none⟩ _ rfl
      have hs5 : w5.heap.size = w4.heap.size := by rw [hw5]; simp
      obtain ⟨hR5, hog⟩ := HStep.out wr o' q HqP.out w4 o4 w5 g HR.out hm4' rfl t5 hs5
      have hob4 := (HB0.out w5 o4 (q + 1) hR5).2.1
      have hgb : b ≠ g := fun e => by
        rw [e, hog] at hob4; exact hkh.2.2 hob4
      have hM4 : M5 w4 (.slice (some ⟨g, 0, none⟩) n vc) P M q := HM.out.tch hm4'.tch (fun g' e e2 => by
        have e1 : g = g' := by simpa [Value.ownBlock] using e
        subst e1
        rcases e2 with e2 | e2 | e2
        · exact hgb e2.symm
        · have h9 := HOg.out wr o' q HR.out g rfl
          rw [h9] at e2; exact hkh.1 e2
        · exact HSep.out q HqP.out g e2 rfl)
      obtain ⟨g2, c2, cu4, hv2, hh4, hsz4, hqc4, _⟩ := hM4.next HqP.out
      obtain ⟨e1, e2⟩ : g = g2 ∧ vc = c2 := by injection hv2 with e1 _ e3; injection e1 with e1; injection e1 with e1; exact ⟨e1, e3⟩
      subst e1 e2
      obtain ⟨⟨y0, e0⟩, ⟨y1, e1⟩, ⟨y2, e2⟩, ⟨y3, e3⟩, ⟨y4, e4⟩, hf⟩ := set5_cells hh4 hsz4 hqc4 (.int .i64 M) (.int .i64 0) (.string ⟨#[109, 105, 110, 101]⟩) (.slice none 0 0)
      have f0 := hf (q * 5); have f1 := hf (q * 5 + 1); have f2 := hf (q * 5 + 2); have f3 := hf (q * 5 + 3); have f4 := hf (q * 5 + 4)
      have HM5 : Hid (M5 w5 (.slice (some ⟨g, 0, none⟩) n vc) P M (q + 1)) := by
        have hM4' := hM4
        rw [Hn.out] at hM4' ⊢
        exact hM4'.step HqP.out hw5
      have HL5 : Hid (LS 34 w5 (fun i => o4 i ≠ 6) b mkC C4 cv4 ∧ C4.length = C.length + 14 * (q + 1)) := ⟨hL4.tch t5 (fun i e => Or.inr (by rw [show i = g from e, hog]; exact hkh.1)), by rw [hC4, HC.out.2]; omega⟩
      have Hb5 : Hid (w5.heap[b]? = some (.cells (cur.setIfInBounds 0 cv4) 41 (0, 0))) := by
        show _ = _
        rw [t5.block b (blk_lt hb4) hgb, hb4, Array.setIfInBounds_setIfInBounds]
      have HR5 : Hid (R1 w5 o4 (q + 1)) := hR5
      obtain ⟨b0, b1, b2, b3, b4⟩ := HBN.out wr o' q HR.out w4 o4 _ hm4' (HKq.out wr o' q HR.out HqP.out)
      rw [hw5] at HM5 HL5 Hb5 HR5
      clear hw5 t5 hs5 hR5 hog hob4 hgb hM4 hh4 hsz4 hf hL4 hb4 hC4 hm4 hm4' HC Hb HM HR hv2
      go_wp2_with fail
      go_roundw
      case rel => exact ⟨q + 1, o4, C4, cv4, by go_num, by omega, HL5, Hb5, HM5, HR5⟩
      case measure => simp [intOf]; omega
    · obtain rfl : q = n := by omega
      obtain ⟨w2, hw2⟩ : ∃ w2, w2 = wr := ⟨_, rfl⟩
      subst hw2
      obtain ⟨F, hF1, hF2, hF3, hF4⟩ := HEnd.out w2 o' q C' cv' HR.out HC.out.1 HC.out.2
      obtain ⟨hbn, _, hNw⟩ := HB0.out w2 o' q HR.out
      obtain ⟨Z, hZ⟩ : ∃ Z, Z = w2.heap.size := ⟨_, rfl⟩
      have HZ : Hid (Z = w2.heap.size) := hZ
      have hMe : w2.ownsRow 0 36 cs.length (.slice vo q vc) q (rep q cs) := by
        have h1 := HM.out
        have e1 := Hn.out
        have h2 : M5 w2 (.slice vo q vc) P M P.length := by rw [← e1]; exact h1
        have h3 := h2.end
        rw [← e1] at h3
        rw [Hcs.out]; exact h3
      have HLG : Hid (LG 37 36 w2 (fun i => F i ∨ i = N) b mkT T tv (.slice vo q vc) cs q) := hF2.enter hMe hF3
      obtain ⟨cur2, hcur2⟩ : ∃ cur2, cur2 = cur.setIfInBounds 0 cv' := ⟨_, rfl⟩
      have hc2s : cur2.size = 17 := by rw [hcur2]; have := HcT.out.2; simpa using this
      have Htv2 : Hid (cur2.setIfInBounds 1 tv = cur2) := by
        show _ = _
        apply Array.ext_getElem?
        intro i
        by_cases h : i = 1
        · subst h; rw [Array.getElem?_setIfInBounds_self_of_lt (by omega), hcur2, Array.getElem?_setIfInBounds_ne (by omega), HcT.out.1]
        · rw [Array.getElem?_setIfInBounds_ne (by omega)]
      have HbV : Hid (w2.heap[b]? = some (.cells cur2 41 (0, 0))) := by show _ = _; rw [hcur2]; exact Hb.out
      have HTV : Hid (Tch (fun i => i = b ∨ tv.ownBlock = some i ∨ (Value.slice vo q vc).ownBlock = some i) w2 w2) := Tch.refl _ _
      have HBV : Hid (w2.cell? ⟨N, 0, none⟩ = some (.int .i64 M) ∧ w2.cell? ⟨N, 1, none⟩ = some (.int .i64 0) ∧ w2.cell? ⟨N, 2, none⟩ = some (.string ⟨#[109, 105, 110, 101]⟩) ∧ w2.cell? ⟨N, 3, none⟩ = some (.slice none 0 0) ∧ w2.cell? ⟨N, 4, none⟩ = some (.int .i64 0)) := hbn
      have HNV : Hid (N < w2.heap.size) := hNw
      have HFw : Hid _ := hF1
      have HFin : Hid (∀ rv' A' wx, A'.length = T.length + 14 → wx.heap[b]? = some (.cells (cur2.setIfInBounds 1 rv') 41 (0, 0)) → LS 37 wx F b mkT A' rv' → Tch (fun i => i = b ∨ tv.ownBlock = some i ∨ (Value.slice vo q vc).ownBlock = some i) w2 wx → AllM b cur C T P.length kh kb w o wx) := by rw [hcur2]; exact hF4
      clear HC Hb HM HR HEnd HStep HGo HB0 hF1 hF2 hF3 hF4 hbn hNw hZ hMe hcur2 hqn hq HOg HSep HBN HKq
      go_wp2_with fail
      go_loopw [1, 6] (fun x i wr => ∃ (k nx : Nat) (A' : List Value) (rv' : Value), i = .int .i64 k ∧ k ≤ 14 ∧ (A'.length ≤ 100000014 ∧ Hid (A'.length = T.length + k)) ∧ nx ≤ 16 + k ∧ Hid (LG 37 36 wr (fun i => F i ∨ i = N) b mkT A' rv' x cs nx) ∧ Hid (wr.heap[b]? = some (.cells (cur2.setIfInBounds 1 rv') 41 (0, 0))) ∧ Hid (wr.cell? ⟨N, 0, none⟩ = some (.int .i64 M) ∧ wr.cell? ⟨N, 1, none⟩ = some (.int .i64 0) ∧ wr.cell? ⟨N, 2, none⟩ = some (.string ⟨#[109, 105, 110, 101]⟩) ∧ wr.cell? ⟨N, 3, none⟩ = some (.slice none 0 0) ∧ wr.cell? ⟨N, 4, none⟩ = some (.int .i64 0)) ∧ Hid (N < wr.heap.size) ∧ Hid ((∀ g, rv'.ownBlock = some g → tv.ownBlock = some g ∨ Z ≤ g) ∧ ∀ g, x.ownBlock = some g → (Value.slice vo q vc).ownBlock = some g ∨ Z ≤ g) ∧ Hid (Tch (fun i => i = b ∨ tv.ownBlock = some i ∨ (Value.slice vo q vc).ownBlock = some i) w2 wr)) (fun _ i _ => 14 - (intOf i).toNat)
      case atStart => exact ⟨0, q, T, tv, rfl, by omega, ⟨by omega, rfl⟩, by omega, HLG, by show _ = _; rw [Htv2.out]; exact HbV.out, HBV, HNV, ⟨fun g e => Or.inl e, fun g e => Or.inl e⟩, HTV⟩
      case round =>
        clear HLG HbV HBV HNV HTV Htv2
        obtain ⟨k, nx, A', rv', rfl, hk, ⟨hA', HA'⟩, hnx, HG, Hb, HBx, HNs, HO, HT⟩ := hrel
        by_cases hk14 : (k : Int) < 14
        · obtain ⟨ro', rc', hrv'⟩ := row_slice HG.out.all
          subst hrv'
          obtain ⟨xo, xc, hxv⟩ := row_slice HG.out.xr
          subst hxv
          have cb2 : wr.cell? ⟨b, 1, none⟩ = some (.slice ro' A'.length rc') := by rw [blk_cell Hb.out, Array.getElem?_setIfInBounds_self_of_lt (by omega)]
          have fb2 := blk_frozen Hb.out 1
          have HF2 : Hid (∀ i, (F i ∨ i = N) → i < wr.heap.size) := fun i h => by
            rcases h with h | h
            · have := HFw.out i h; have := HT.out.size; omega
            · have := HNs.out; omega
          have Hbl : Hid (b < wr.heap.size) := blk_lt Hb.out
          have Hcs3 : Hid (cs.length = 5) := by show _ = _; rw [Hcs.out]; rfl
          go_wp2_with (first
            | (at_builtin; refine wpList_append_keeps _ rfl _ _ 32 rfl 0 37 i1 (.slice none 0 0) 1 24 Try.underlying32 hi1 hy0 hy1 hy2 rfl (by decide) (.slice ro' A'.length rc') A'.length A' rfl (own_tch HG.out.all (Tch.alloc (fun _ => False) _ _) (fun _ _ h => h)) ⟨wr.heap.size, 0, none⟩ 1 1 [.slice xo nx xc] rfl rfl (World.news_of_block (alloc_new _ _)) (by simp [Value.oneCell']) (by unfold maxLen; omega) (by omega) (Nat.zero_le _) ?_
               intro v1 w1 hown1 hgr1 hat1 _
               have HG1 : Hid _ := HG.out.one (Tch.alloc _ _ _) hgr1 hown1 hat1 (Hmk.out _ (by have := HA'.out; omega) (by have := HA'.out; omega)) (by omega) Hbl.out HF2.out
               have T1 := grown_at (Tch.alloc (fun _ => False) wr _) hgr1
               have Hb1 : Hid (w1.heap[b]? = some (.cells (cur2.setIfInBounds 1 (.slice ro' A'.length rc')) 41 (0, 0))) := (T1.block b Hbl.out (fun e => (HG.out.ag b e).1 rfl)).trans Hb.out
               have hNn : ¬ (Value.slice ro' A'.length rc').ownBlock = some N := fun e => (HG.out.ag N e).2 (Or.inr rfl)
               have HBx1 : Hid (w1.cell? ⟨N, 0, none⟩ = some (.int .i64 M) ∧ w1.cell? ⟨N, 1, none⟩ = some (.int .i64 0) ∧ w1.cell? ⟨N, 2, none⟩ = some (.string ⟨#[109, 105, 110, 101]⟩) ∧ w1.cell? ⟨N, 3, none⟩ = some (.slice none 0 0) ∧ w1.cell? ⟨N, 4, none⟩ = some (.int .i64 0)) := ⟨(T1.cell (p := ⟨N, 0, none⟩) HNs.out hNn).trans HBx.out.1, (T1.cell (p := ⟨N, 1, none⟩) HNs.out hNn).trans HBx.out.2.1, (T1.cell (p := ⟨N, 2, none⟩) HNs.out hNn).trans HBx.out.2.2.1, (T1.cell (p := ⟨N, 3, none⟩) HNs.out hNn).trans HBx.out.2.2.2.1, (T1.cell (p := ⟨N, 4, none⟩) HNs.out hNn).trans HBx.out.2.2.2.2⟩
               obtain ⟨ro1, rc1, hv1⟩ := row_slice hown1
               subst hv1
               have HG2 : Hid (LG 37 36 (w1.setCell ⟨b, 1, none⟩ (.slice ro1 (A'.length + 1) rc1)) (fun i => F i ∨ i = N) b mkT (A' ++ [.slice xo nx xc]) (.slice ro1 (A'.length + 1) rc1) (.slice xo nx xc) cs nx) := HG1.out.tch (Tch.setCell (fun i => i = b) w1 ⟨b, 1, none⟩ _ rfl) (fun i h => Or.inl h)
               have Hb2 : Hid ((w1.setCell ⟨b, 1, none⟩ (.slice ro1 (A'.length + 1) rc1)).heap[b]? = some (.cells (cur2.setIfInBounds 1 (.slice ro1 (A'.length + 1) rc1)) 41 (0, 0))) := by
                 show _ = _
                 rw [blk_set Hb1.out, Array.setIfInBounds_setIfInBounds]
               have b0 : (w1.setCell ⟨b, 1, none⟩ (.slice ro1 (A'.length + 1) rc1)).cell? ⟨N, 0, none⟩ = some (.int .i64 M) := by rw [World.cell?_setCell_other (h := by intro e; injection e; omega)]; exact HBx1.out.1
               have b1 : (w1.setCell ⟨b, 1, none⟩ (.slice ro1 (A'.length + 1) rc1)).cell? ⟨N, 1, none⟩ = some (.int .i64 0) := by rw [World.cell?_setCell_other (h := by intro e; injection e; omega)]; exact HBx1.out.2.1
               have b2 : (w1.setCell ⟨b, 1, none⟩ (.slice ro1 (A'.length + 1) rc1)).cell? ⟨N, 2, none⟩ = some (.string ⟨#[109, 105, 110, 101]⟩) := by rw [World.cell?_setCell_other (h := by intro e; injection e; omega)]; exact HBx1.out.2.2.1
               have b3 : (w1.setCell ⟨b, 1, none⟩ (.slice ro1 (A'.length + 1) rc1)).cell? ⟨N, 3, none⟩ = some (.slice none 0 0) := by rw [World.cell?_setCell_other (h := by intro e; injection e; omega)]; exact HBx1.out.2.2.2.1
               have b4 : (w1.setCell ⟨b, 1, none⟩ (.slice ro1 (A'.length + 1) rc1)).cell? ⟨N, 4, none⟩ = some (.int .i64 0) := by rw [World.cell?_setCell_other (h := by intro e; injection e; omega)]; exact HBx1.out.2.2.2.2
               have T2 : Tch (fun i => i = b ∨ (Value.slice ro' A'.length rc').ownBlock = some i) wr (w1.setCell ⟨b, 1, none⟩ (.slice ro1 (A'.length + 1) rc1)) := (T1.mono (fun _ _ h => Or.inr h)).setCellR ⟨b, 1, none⟩ _ (Or.inl rfl)
               have HO2 : Hid (∀ g, (Value.slice ro1 (A'.length + 1) rc1).ownBlock = some g → tv.ownBlock = some g ∨ Z ≤ g) := fun g e => by
                 rcases hat1 with e1 | e1
                 · exact HO.out.1 g (e1 ▸ e)
                 · rw [e1] at e; injection e with e; rw [World.size_alloc] at e; have := HT.out.size; have := HZ.out; right; omega
               have HF3 : Hid (∀ i, (F i ∨ i = N) → i < (w1.setCell ⟨b, 1, none⟩ (.slice ro1 (A'.length + 1) rc1)).heap.size) := fun i h => Nat.lt_of_lt_of_le (HF2.out i h) T2.size
               have Hbl3 : Hid (b < (w1.setCell ⟨b, 1, none⟩ (.slice ro1 (A'.length + 1) rc1)).heap.size) := blk_lt Hb2.out
               have HNW : Hid (∀ j u, ([.int .i64 M, .int .i64 0, .string ⟨#[109, 105, 110, 101]⟩, .slice none 0 0, .int .i64 0] : List Value)[j]? = some u → ((w1.setCell ⟨b, 1, none⟩ (.slice ro1 (A'.length + 1) rc1)).alloc (.cells #[.int .i64 M, .int .i64 0, .string ⟨#[109, 105, 110, 101]⟩, .slice none 0 0, .int .i64 0] 36)).cell? ((⟨w1.heap.size, 0, none⟩ : Addr).add j) = some u) := fun j u hu => by
                 have h1 := World.news_of_block (alloc_new (w1.setCell ⟨b, 1, none⟩ (.slice ro1 (A'.length + 1) rc1)) (.cells #[.int .i64 M, .int .i64 0, .string ⟨#[109, 105, 110, 101]⟩, .slice none 0 0, .int .i64 0] 36)) j u hu
                 rwa [World.size_setCell] at h1
               have cb3 : w1.cell? ⟨b, 1, none⟩ = some (.slice ro' A'.length rc') := by rw [blk_cell Hb1.out, Array.getElem?_setIfInBounds_self_of_lt (by omega)]
               have fb3 := blk_frozen Hb1.out 1
               clear cb2 fb2)
            | (at_builtin; refine wpList_append_keeps _ rfl _ _ 37 rfl 0 36 i0 (.agg #[.int .i64 0, .int .i64 0, .string ⟨#[]⟩, .slice none 0 0, .int .i64 0]) 5 64 Try.underlying37 hi0 hz0 hz1 hz2 rfl (by decide) (.slice xo nx xc) nx (rep nx cs) rfl (own_tch (by have := HG2.out.xr; rw [Hcs3.out] at this; exact this) (Tch.alloc (fun _ => False) _ _) (fun _ _ h => h)) ⟨w1.heap.size, 0, none⟩ 1 1 [.int .i64 M, .int .i64 0, .string ⟨#[109, 105, 110, 101]⟩, .slice none 0 0, .int .i64 0] rfl rfl HNW.out (by simp [Value.oneCell']) (by unfold maxLen; omega) (by omega) (Nat.zero_le _) ?_
               intro v2 w3 hown2 hgr2 hat2 hk2
               have hown3 : w3.ownsRow 0 36 cs.length v2 (nx + 1) (rep (nx + 1) cs) := by
                 rw [Hcs3.out, rep_succ, Hcs.out]; rw [Hcs.out] at hown2; exact hown2
               have HG3 : Hid _ := HG2.out.two (Tch.alloc _ _ _) hgr2 hown3 hat2 (by rw [Hcs3.out]; exact hk2) Hbl3.out HF3.out (fun j => by rw [Hcs3.out]; rfl)
               have T3 := grown_at (Tch.alloc (fun _ => False) _ _) hgr2
               have Hb3 : Hid (w3.heap[b]? = some (.cells (cur2.setIfInBounds 1 (.slice ro1 (A'.length + 1) rc1)) 41 (0, 0))) := (T3.block b Hbl3.out (fun e => (HG2.out.xg b e).2.1 rfl)).trans Hb2.out
               have hNx : ¬ (Value.slice xo nx xc).ownBlock = some N := fun e => (HG2.out.xg N e).2.2 (Or.inr rfl)
               have hNlt : N < (w1.setCell ⟨b, 1, none⟩ (.slice ro1 (A'.length + 1) rc1)).heap.size := HF3.out N (Or.inr rfl)
               have HBx3 : Hid (w3.cell? ⟨N, 0, none⟩ = some (.int .i64 M) ∧ w3.cell? ⟨N, 1, none⟩ = some (.int .i64 0) ∧ w3.cell? ⟨N, 2, none⟩ = some (.string ⟨#[109, 105, 110, 101]⟩) ∧ w3.cell? ⟨N, 3, none⟩ = some (.slice none 0 0) ∧ w3.cell? ⟨N, 4, none⟩ = some (.int .i64 0)) := ⟨(T3.cell (p := ⟨N, 0, none⟩) hNlt hNx).trans b0, (T3.cell (p := ⟨N, 1, none⟩) hNlt hNx).trans b1, (T3.cell (p := ⟨N, 2, none⟩) hNlt hNx).trans b2, (T3.cell (p := ⟨N, 3, none⟩) hNlt hNx).trans b3, (T3.cell (p := ⟨N, 4, none⟩) hNlt hNx).trans b4⟩
               have HN3 : Hid (N < w3.heap.size) := Nat.lt_of_lt_of_le hNlt T3.size
               have HO3 : Hid (∀ g, v2.ownBlock = some g → (Value.slice vo q vc).ownBlock = some g ∨ Z ≤ g) := fun g e => by
                 rcases hat2 with e1 | e1
                 · exact HO.out.2 g (e1 ▸ e)
                 · rw [e1] at e; injection e with e; rw [World.size_alloc] at e; have := HT.out.size; have := T2.size; have := HZ.out; right; omega
               have HT3 : Hid (Tch (fun i => i = b ∨ tv.ownBlock = some i ∨ (Value.slice vo q vc).ownBlock = some i) w2 w3) := (HT.out.trans T2 (fun i hi h => by
                 rcases h with h | h
                 · exact Or.inl h
                 · rcases HO.out.1 i h with h | h
                   · exact Or.inr (Or.inl h)
                   · have := HZ.out; omega)).trans T3 (fun i hi h => by
                 rcases HO.out.2 i h with h | h
                 · exact Or.inr (Or.inr h)
                 · have := HZ.out; omega)
               obtain ⟨xo2, xc2, hv2⟩ := row_slice hown2
               subst hv2
               clear b0 b1 b2 b3 b4 cb3 fb3))
          exact ⟨⟨k + 1, nx + 1, A' ++ [.slice xo nx xc], .slice ro1 (A'.length + 1) rc1, by go_num, by omega, ⟨by have := HA'.out; simp; omega, by show _ = _; rw [List.length_append, HA'.out]; rfl⟩, by omega, HG3, Hb3, HBx3, HN3, ⟨HO2.out, HO3.out⟩, HT3⟩, by simp [intOf]; omega⟩
        · go_wp2_with fail
          go_end0
          exact ⟨rfl, HFin.out rv' A' wr (by have := HA'.out; omega) Hb.out (HG.out.leave.fresh (fun i _ h => Or.inl h)) HT.out⟩
end Go.Proofs.Ytolamjipigfocaa
