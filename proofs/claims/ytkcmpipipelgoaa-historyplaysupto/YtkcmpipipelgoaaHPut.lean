import Derived.Test.YtkcmpipipelgoaaHNote
/- Put. -/
namespace Go.Proofs.Ytkcmpipipelgoaa
open Go.RowKit Go
set_option maxRecDepth 100000

def putE (h : Hs) (x : Int) (t : Tbl) : Int := if rightE t ≠ 0 then 1 else if x ≤ h.l then 171 else 0
/-- What a Put gives. -/
def PutOut (F : Nat → Prop) (b : Nat) (h : Hs) (x : Int) (t : Tbl) (w' : World) : Prop :=
  ∃ h', HF w' F b h' ∧ (putE h x t ≠ 0 → h' = h) ∧ (putE h x t = 0 → ∃ n : Nt, n.l = x ∧ n.th = true ∧ n.t = t ∧ h' = h.add t.id n)
theorem right_id {t : Tbl} (h : rightE t = 0) : inR t.id ∧ 1 ≤ t.id ∧ t.cols.length ≤ 8 ∧ 1 ≤ t.cols.length := by
  unfold rightE at h
  split at h
  · cases h
  · rename_i h1
    have h2 : numOk t.id = true := by
      cases hn : numOk t.id with
      | true => rfl
      | false => exact absurd (.inl hn) h1
    unfold numOk at h2
    simp only [Bool.and_eq_true, decide_eq_true_eq] at h2
    split at h
    · cases h
    · split at h
      · rename_i h3
        exact absurd h h3
      · rename_i h3
        have h4 : colsE t.cols = 0 := by
          cases Int.decEq (colsE t.cols) 0 with
          | isTrue e => exact e
          | isFalse e => exact absurd e h3
        unfold colsE at h4
        split at h4
        · cases h4
        · rename_i h5
          unfold inR
          omega
/-- A copied table as a note. -/
theorem note_of {F : Nat → Prop} {w' : World} {N b mb sb : Nat} (t : Tbl) (x : Int) {vo : Option Addr} {vc : Nat} (hv : w'.ownsRow N 80 3 (.slice vo t.cols.length vc) t.cols.length (ccl t.cols)) (h8 : t.cols.length ≤ 8) (hN : ∀ g, own3 F b mb sb g → g < N) : NtIn w' (own3 F b mb sb) ⟨x, true, t, vo, vc⟩ :=
  ⟨own_sl hv, fun e => by subst e; obtain ⟨h1, h2, _⟩ := own_none hv; exact ⟨List.eq_nil_of_length_eq_zero h1, h2⟩, h8, fun g o e => by
    have e' : vo = some ⟨g, o, none⟩ := e
    have h1 := hv.lt g (by rw [e']; rfl)
    exact ⟨fun hg => by have := hN g hg; omega, h1.2⟩⟩

set_option maxHeartbeats 2000000 in
theorem put_f {w : World} {F : Nat → Prop} {b : Nat} {h : Hs} (H : HF w F b h) (x : Int) (t : Tbl) (ao : Option Addr) (c : Nat) (hs : SL w ao (ccl t.cols)) (hno : ao = none → t.cols = [] ∧ c = 0) (hc : t.cols.length ≤ c) (hl : t.cols.length * 32 ≤ 140737488351232) (hT : h.T < 70368744177664) (hFl : ∀ g, F g → g < w.heap.size) :
    Calls Try.prog 9 #[.pointer (some ⟨b, 0, none⟩), .int .i64 x, tA t.id t.ver t.nm (.slice ao t.cols.length c) t.key] w fun r w' => r = .returned (.int .i64 (putE h x t)) ∧ PutOut F b h x t w' ∧ Tch (fun g => ¬ F g) w w' := by
  obtain ⟨mb, sb, ns, H⟩ := H
  obtain ⟨N, hN⟩ : ∃ N, N = w.heap.size := ⟨_, rfl⟩
  obtain ⟨w1, hw1⟩ : ∃ w1, w1 = w.alloc (.cells #[.int .i64 t.id, .int .i64 t.ver, .string t.nm, .slice ao t.cols.length c, .int .i64 t.key] 36) := ⟨_, rfl⟩
  have t1 : Tch (fun _ => False) w w1 := by rw [hw1]; exact Tch.alloc _ _ _
  have bN : w1.heap[N]? = some (.cells #[.int .i64 t.id, .int .i64 t.ver, .string t.nm, .slice ao t.cols.length c, .int .i64 t.key] 36 (0, 0)) := by rw [hw1, hN]; exact alloc_new _ _
  have H1 := H.tch t1 (fun _ _ e => e.elim)
  have q1 := right_any t ao c w1 (hs.no t1) hc (by omega)
  have HE : Hid (putE h x t = if rightE t ≠ 0 then 1 else if x ≤ h.l then 171 else 0) := rfl
  have HR : Hid (rightE t = 0 → inR t.id ∧ 1 ≤ t.id ∧ t.cols.length ≤ 8 ∧ 1 ≤ t.cols.length) := right_id
  obtain ⟨rt, hrt⟩ : ∃ rt, rt = rightE t := ⟨_, rfl⟩
  rw [← hrt] at q1 HE HR
  have HH1 : Hid (HW w1 F b mb sb ns h) := H1
  have HB1 : Hid _ := bN
  have HT1 : Hid (Tch (fun _ => False) w w1) := t1
  have HS1 : Hid (SL w1 ao (ccl t.cols)) := hs.no t1
  have HC : Hid (ao = none → t.cols = [] ∧ c = 0) := hno
  have HFl : Hid (∀ g, F g → g < w.heap.size) := hFl
  have HT' : Hid (h.T < 70368744177664) := hT
  have HL : Hid (t.cols.length * 32 ≤ 140737488351232) := hl
  have HW1 : Hid (w1 = _) := hw1
  have HN : Hid (N = w.heap.size) := hN
  have HNF : Hid (∀ (S : Nat → Prop) W, Tch S w W → (∀ g, g < w.heap.size → S g → ¬ F g) → Tch (fun g => ¬ F g) w W) := fun S W tW hS => tW.mono hS
  have x0 : w1.cell? ⟨N, 0, none⟩ = some (.int .i64 t.id) := blk_cell bN 0
  have x1 : w1.cell? ⟨N, 1, none⟩ = some (.int .i64 t.ver) := blk_cell bN 1
  have x2 : w1.cell? ⟨N, 2, none⟩ = some (.string t.nm) := blk_cell bN 2
  have x3 : w1.cell? ⟨N, 3, none⟩ = some (.slice ao t.cols.length c) := blk_cell bN 3
  have x4 : w1.cell? ⟨N, 4, none⟩ = some (.int .i64 t.key) := blk_cell bN 4
  clear hw1 hN hrt t1 bN H H1 hs hno hT hFl hl hc
  go_enter Try.func9, Try.ntmps9
  go_upto_region 1 with (fail)
  rw [← HW1.out, ← HN.out]
  go_wp2_with fail
  refine q1.mono ?_
  rintro e w2 ⟨rfl, t2⟩
  clear q1 x0 x1 x2 x3 x4
  have b2 := (t2.block N (blk_lt HB1.out) (fun e => e)).trans HB1.out
  have H2 := HH1.out.tch t2 (fun _ _ e => e.elim)
  have HH2 : Hid (HW w2 F b mb sb ns h) := H2
  have HB2 : Hid _ := b2
  have HT2 : Hid (Tch (fun _ => False) w w2) := HT1.out.trans' t2
  have HS2 : Hid (SL w2 ao (ccl t.cols)) := HS1.out.no t2
  have c1 := H2.c.2.1
  clear b2 H2 t2
  by_cases hr : rt = 0
  · have hrb : (rt != 0) = false := by simp [hr]
    by_cases hle : x ≤ h.l
    · go_wp2_with fail
      go_ret
      have e0 : putE h x t = 171 := by rw [HE.out, if_neg (by simp [hr]), if_pos hle]
      refine ⟨by rw [e0]; rfl, ⟨h, ⟨mb, sb, ns, HH2.out⟩, fun _ => rfl, fun e => by rw [e0] at e; cases e⟩, HNF.out _ _ HT2.out (fun _ _ e => e.elim)⟩
    · obtain ⟨C, hC⟩ : ∃ C : List Value → World → Prop, C = fun s Wy => match s with
        | [] => Tch (fun _ => False) w2 Wy
        | [y] => ∃ vo vc, y = tA t.id t.ver t.nm (.slice vo t.cols.length vc) t.key ∧ Wy.ownsRow w2.heap.size 80 3 (.slice vo t.cols.length vc) t.cols.length (ccl t.cols) ∧ Tch (fun _ => False) w2 Wy
        | _ => False := ⟨_, rfl⟩
      have HK0 : Hid (∀ Wy, Tch (fun _ => False) w2 Wy → Wy.cell? ⟨N, 0, none⟩ = some (.int .i64 t.id) ∧ Wy.cell? ⟨N, 1, none⟩ = some (.int .i64 t.ver) ∧ Wy.cell? ⟨N, 2, none⟩ = some (.string t.nm) ∧ Wy.cell? ⟨N, 3, none⟩ = some (.slice ao t.cols.length c) ∧ Wy.cell? ⟨N, 4, none⟩ = some (.int .i64 t.key)) := fun Wy ty => by
        have b9 := (ty.block N (blk_lt HB2.out) (fun e => e)).trans HB2.out
        exact ⟨blk_cell b9 0, blk_cell b9 1, blk_cell b9 2, blk_cell b9 3, blk_cell b9 4⟩
      have hK : ∀ s Wy, C s Wy → Wy.cell? ⟨N, 0, none⟩ = some (.int .i64 t.id) ∧ Wy.cell? ⟨N, 1, none⟩ = some (.int .i64 t.ver) ∧ Wy.cell? ⟨N, 2, none⟩ = some (.string t.nm) ∧ Wy.cell? ⟨N, 3, none⟩ = some (.slice ao t.cols.length c) ∧ Wy.cell? ⟨N, 4, none⟩ = some (.int .i64 t.key) := fun s Wy hy => by
        rw [hC] at hy
        match s, hy with
        | [], hy => exact HK0.out Wy hy
        | [_], ⟨_, _, _, _, hy⟩ => exact HK0.out Wy hy
      have h6 : ∀ Wy, C [] Wy → Calls Try.prog 23 #[tA t.id t.ver t.nm (.slice ao t.cols.length c) t.key] Wy fun r w' => ∃ vo vc, r = .returned (tA t.id t.ver t.nm (.slice vo t.cols.length vc) t.key) ∧ C [tA t.id t.ver t.nm (.slice vo t.cols.length vc) t.key] w' := fun Wy hy => by
        rw [hC] at hy
        refine (copied_any t ao c Wy (HS2.out.no hy) HC.out HL.out).mono ?_
        rintro r w' ⟨⟨v, rfl, hv⟩, t'⟩
        obtain ⟨vo, vc, rfl⟩ := row_slice hv
        exact ⟨vo, vc, rfl, by rw [hC]; exact ⟨vo, vc, rfl, own_low hv hy.size, hy.trans' t'⟩⟩
      have h0' : C [] w2.drew := by rw [hC]; exact (Tch.refl _ _).drew
      have hsh : ∀ y Wy, C [y] Wy → ∃ vo vc, y = tA t.id t.ver t.nm (.slice vo t.cols.length vc) t.key := fun y Wy hy => by
        rw [hC] at hy
        obtain ⟨vo, vc, e, _⟩ := hy
        exact ⟨vo, vc, e⟩
      have Hfin : Hid (∀ vo vc Wy, C [tA t.id t.ver t.nm (.slice vo t.cols.length vc) t.key] Wy → Wy.ownsRow w2.heap.size 80 3 (.slice vo t.cols.length vc) t.cols.length (ccl t.cols) ∧ Tch (fun _ => False) w2 Wy) := fun vo vc Wy hy => by
        rw [hC] at hy
        obtain ⟨vo', vc', e, h1, h2⟩ := hy
        have e' : vo = vo' ∧ vc = vc' := by simpa [tA] using e
        obtain ⟨rfl, rfl⟩ := e'
        exact ⟨h1, h2⟩
      clear hC HK0
      go_wp2_with fail
      refine wp_region_ordv [5] C 7 [0, 1, 2, 3, 4, 5, 6] (by kernel_rfl) (by kernel_rfl) h0' ?_
      clear h0'
      refine ordv_read rfl (by go_simp) (by rfl) ?_
      apply Exists.intro
      refine ⟨fun s' Wy hW b K Q hK' => ?_, fun K hK' => ?_⟩
      · obtain ⟨x0, x1, x2, x3, x4⟩ := hK _ Wy hW
        go_simp
        exact hK' Wy hW
      go_simp
      refine hK' _ ?_
      clear hK' K
      refine ordv_read rfl (by go_simp) (by rfl) ?_
      apply Exists.intro
      refine ⟨fun s' Wy hW b K Q hK' => ?_, fun K hK' => ?_⟩
      · obtain ⟨x0, x1, x2, x3, x4⟩ := hK _ Wy hW
        go_simp
        exact hK' Wy hW
      go_simp
      refine hK' _ ?_
      clear hK' K
      refine ordv_read rfl (by go_simp) (by rfl) ?_
      apply Exists.intro
      refine ⟨fun s' Wy hW b K Q hK' => ?_, fun K hK' => ?_⟩
      · obtain ⟨x0, x1, x2, x3, x4⟩ := hK _ Wy hW
        go_simp
        exact hK' Wy hW
      go_simp
      refine hK' _ ?_
      clear hK' K
      refine ordv_read rfl (by go_simp) (by rfl) ?_
      apply Exists.intro
      refine ⟨fun s' Wy hW b K Q hK' => ?_, fun K hK' => ?_⟩
      · obtain ⟨x0, x1, x2, x3, x4⟩ := hK _ Wy hW
        go_simp
        exact hK' Wy hW
      go_simp
      refine hK' _ ?_
      clear hK' K
      refine ordv_read rfl (by go_simp) (by rfl) ?_
      apply Exists.intro
      refine ⟨fun s' Wy hW b K Q hK' => ?_, fun K hK' => ?_⟩
      · obtain ⟨x0, x1, x2, x3, x4⟩ := hK _ Wy hW
        go_simp
        exact hK' Wy hW
      go_simp
      refine hK' _ ?_
      clear hK' K
      refine ordv_turn rfl (by go_simp) (by rfl) (fun Wy hW b K Q hK' => ?_) (fun y hy K hK' => ?_)
      · go_simp
        go_at_call 23
        refine (h6 Wy hW).mono ?_
        rintro r w' ⟨vo, vc, rfl, h1⟩
        exact hK' _ w' h1
      obtain ⟨vo, vc, rfl⟩ : ∃ vo vc, y = tA t.id t.ver t.nm (.slice vo t.cols.length vc) t.key := by
        obtain ⟨W', hW'⟩ := hy
        exact hsh y W' hW'
      clear hy h6 hsh
      go_simp
      refine hK' _ ?_
      clear hK' K
      refine ordv_read rfl (by go_simp) (by rfl) ?_
      apply Exists.intro
      refine ⟨fun s' Wy hW b K Q hK' => ?_, fun K hK' => ?_⟩
      · obtain ⟨x0, x1, x2, x3, x4⟩ := hK _ Wy hW
        go_simp
        exact hK' Wy hW
      go_simp
      refine hK' _ ?_
      clear hK' K
      refine ordv_nil ?_
      intro w3 hw3
      obtain ⟨hv3, t3⟩ := Hfin.out vo vc w3 hw3
      have H3 := HH2.out.tch t3 (fun _ _ e => e.elim)
      obtain ⟨hi, hid1, h8, hc1⟩ := HR.out hr
      have q2 := note_w H3 t.id ⟨x, true, t, vo, vc⟩ hi (note_of (F := F) t x hv3 h8 (fun g hg => by
        rcases hg with hg | hg | hg | hg
        · have := HFl.out g hg; have := HT2.out.size; omega
        · rw [hg]; exact blk_lt HH2.out.blk
        · rw [hg]; exact HH2.out.nm.lt
        · rw [hg]; exact HH2.out.sm.lt)) HT'.out
      unfold Nt.v at q2
      have HT3 : Hid (Tch (fun _ => False) w w3) := HT2.out.trans' t3
      clear hK hw3 Hfin hv3 t3 H3 c1 hi hid1 h8 hc1
      go_wp2_with fail
      refine q2.mono ?_
      rintro e w4 ⟨rfl, ⟨ns', H4⟩, t4⟩
      have HH4 : Hid (HW w4 F b mb sb ns' (h.add t.id ⟨x, true, t, vo, vc⟩)) := H4
      have HT4 : Hid (Tch (fun g => ¬ F g) w w4) := (HNF.out _ _ HT3.out (fun _ _ e => e.elim)).trans t4 (fun g _ e => by
        rcases e with e | e | e
        · rw [e]; exact HH2.out.fb
        · rw [e]; exact HH2.out.fm
        · rw [e]; exact HH2.out.fs)
      clear q2 H4 t4
      go_wp2_with fail
      go_ret
      have e0 : putE h x t = 0 := by rw [HE.out, if_neg (by simp [hr]), if_neg (by omega)]
      exact ⟨by rw [e0]; rfl, ⟨_, ⟨mb, sb, ns', HH4.out⟩, fun e => absurd e0 e, fun _ => ⟨⟨x, true, t, vo, vc⟩, rfl, rfl, rfl, rfl⟩⟩, HT4.out⟩
  · have hrb : (rt != 0) = true := by simp [hr]
    go_wp2_with fail
    go_ret
    have e0 : putE h x t = 1 := by rw [HE.out, if_pos hr]
    refine ⟨by rw [e0]; rfl, ⟨h, ⟨mb, sb, ns, HH2.out⟩, fun _ => rfl, fun e => by rw [e0] at e; cases e⟩, HNF.out _ _ HT2.out (fun _ _ e => e.elim)⟩
end Go.Proofs.Ytkcmpipipelgoaa
