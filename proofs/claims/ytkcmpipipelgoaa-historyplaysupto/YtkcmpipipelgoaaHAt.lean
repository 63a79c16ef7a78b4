import Derived.Test.YtkcmpipipelgoaaHNote
import Derived.Laws.ResultCell
/- Gone, At, Noted. -/
namespace Go.Proofs.Ytkcmpipipelgoaa
open Go.RowKit Go
set_option maxRecDepth 100000

def goneE (h : Hs) (x i : Int) : Int := if x ≤ h.l then 171 else if (wasL (h.K i) h.l).th = true then 0 else 170
/-- A note that says gone. -/
def ntG (x : Int) : Nt := ⟨x, false, ⟨0, 0, ⟨#[]⟩, [], 0⟩, none, 0⟩
def Hs.gone (h : Hs) (x i : Int) : Hs := if goneE h x i = 0 then h.add i (ntG x) else h
theorem ntG_in (w : World) (G : Nat → Prop) (x : Int) : NtIn w G (ntG x) := ⟨SL.nil _ _, fun _ => ⟨rfl, rfl⟩, Nat.zero_le _, fun g o e => by cases e⟩

set_option maxHeartbeats 2000000 in
theorem gone_f {w : World} {F : Nat → Prop} {b : Nat} {h : Hs} (H : HF w F b h) (x i : Int) (hi : inR i) (hT : h.T < 70368744177664) :
    Calls Try.prog 11 #[.pointer (some ⟨b, 0, none⟩), .int .i64 x, .int .i64 i] w fun r w' => r = .returned (.int .i64 (goneE h x i)) ∧ HF w' F b (h.gone x i) ∧ Tch (fun g => ¬ F g) w w' := by
  obtain ⟨mb, sb, ns, H⟩ := H
  have q1 := was_w H h.l i hi (by omega)
  have HE : Hid (goneE h x i = if x ≤ h.l then 171 else if (wasL (h.K i) h.l).th = true then 0 else 170) := rfl
  obtain ⟨n, hn⟩ : ∃ n, n = wasL (h.K i) h.l := ⟨_, rfl⟩
  rw [← hn] at q1 HE
  obtain ⟨nt, hnt⟩ : ∃ nt, nt = n.th := ⟨_, rfl⟩
  unfold Nt.v at q1
  rw [← hnt] at q1 HE
  have hfd := fun W => fld1 (.int .i64 n.l) (.bool nt) (.int .i64 n.t.id) (.int .i64 n.t.ver) (.string n.t.nm) (.slice n.ao n.t.cols.length n.c) (.int .i64 n.t.key) W
  have c1 := H.c.2.1
  have HH : Hid (HW w F b mb sb ns h) := H
  have HT' : Hid (h.T < 70368744177664) := hT
  have HNF : Hid (∀ (S : Nat → Prop) W, Tch S w W → (∀ g, g < w.heap.size → S g → ¬ F g) → Tch (fun g => ¬ F g) w W) := fun S W tW hS => tW.mono hS
  clear H hT hn hnt
  go_enter Try.func11, Try.ntmps11
  by_cases hle : x ≤ h.l
  · go_wp2_with fail
    go_ret
    have e0 : goneE h x i = 171 := by rw [HE.out, if_pos hle]
    refine ⟨by rw [e0]; rfl, ⟨mb, sb, ns, ?_⟩, Tch.refl _ _⟩
    unfold Hs.gone
    rw [e0]
    exact HH.out
  · go_wp2_with fail
    refine q1.mono ?_
    rintro e w2 ⟨rfl, t2⟩
    clear q1 c1
    have H2 := HH.out.tch t2 (fun _ _ e => e.elim)
    cases nt with
    | false =>
      go_wp2_with fail
      go_ret
      have e0 : goneE h x i = 170 := by rw [HE.out, if_neg (by omega)]; rfl
      refine ⟨by rw [e0]; rfl, ⟨mb, sb, ns, ?_⟩, HNF.out _ _ t2 (fun _ _ e => e.elim)⟩
      unfold Hs.gone
      rw [e0]
      exact H2
    | true =>
      have q2 := note_w H2 i (ntG x) hi (ntG_in _ _ _) HT'.out
      unfold Nt.v ntG at q2
      have HT2 : Hid (Tch (fun _ => False) w w2) := t2
      clear H2 t2
      go_wp2_with fail
      refine q2.mono ?_
      rintro e w4 ⟨rfl, ⟨ns', H4⟩, t4⟩
      have HH4 : Hid (HW w4 F b mb sb ns' (h.add i (ntG x))) := H4
      have HT4 : Hid (Tch (fun g => ¬ F g) w w4) := (HNF.out _ _ HT2.out (fun _ _ e => e.elim)).trans t4 (fun g _ e => by
        rcases e with e | e | e
        · rw [e]; exact HH.out.fb
        · rw [e]; exact HH.out.fm
        · rw [e]; exact HH.out.fs)
      clear q2 H4 t4
      go_wp2_with fail
      go_ret
      have e0 : goneE h x i = 0 := by rw [HE.out, if_neg (by omega)]; rfl
      refine ⟨by rw [e0]; rfl, ⟨mb, sb, ns', ?_⟩, HT4.out⟩
      unfold Hs.gone
      rw [if_pos e0]
      exact HH4.out

theorem noted_f {w : World} {F : Nat → Prop} {b : Nat} {h : Hs} (H : HF w F b h) :
    Calls Try.prog 13 #[.pointer (some ⟨b, 0, none⟩)] w fun r w' => r = .returned (.int .i64 h.sz) ∧ w' = w := by
  obtain ⟨mb, sb, ns, H⟩ := H
  have c2 := H.c.2.2.1
  have hl := fun ty => H.nm.len ty
  clear H
  go_enter Try.func13, Try.ntmps13
  go_wp2_with fail
  go_ret
  exact ⟨rfl, rfl⟩
end Go.Proofs.Ytkcmpipipelgoaa
/- At. -/
namespace Go.Proofs.Ytkcmpipipelgoaa
open Go.RowKit Go
set_option maxRecDepth 100000

def tblZ : Tbl := ⟨0, 0, ⟨#[]⟩, [], 0⟩
def atE (h : Hs) (x i : Int) : Int := if x < h.b then 170 else if (wasL (h.K i) x).th = true then 0 else 170
def atT (h : Hs) (x i : Int) : Tbl := if atE h x i = 0 then (wasL (h.K i) x).t else tblZ
theorem res_pair {fn : Func} {tmps : Array Value} {W : World} {B k j : Nat} {E : Int} {a b c d e : Value} (hrs : fn.results = #[.cell k 36, .tmp j]) (hk : tmps[k]?.getD undef = .pointer (some ⟨B, 0, none⟩)) (hj : tmps[j]?.getD undef = .int .i64 E)
    (hb : W.heap[B]? = some (.cells #[a, b, c, d, e] 36 (0, 0))) :
    (results fn tmps).run Try.prog W = .ok (.tuple #[.agg #[a, b, c, d, e], .int .i64 E]) W := by
  have c0 : W.cell? ⟨B, 0, none⟩ = some a := blk_cell hb 0
  have c1 : W.cell? ⟨B, 1, none⟩ = some b := blk_cell hb 1
  have c2 : W.cell? ⟨B, 2, none⟩ = some c := blk_cell hb 2
  have c3 : W.cell? ⟨B, 3, none⟩ = some d := blk_cell hb 3
  have c4 : W.cell? ⟨B, 4, none⟩ = some e := blk_cell hb 4
  clear hb
  simp only [results, hrs]
  go_simp
theorem set5 {w : World} {N : Nat} {t : TypeId} {x0 x1 x2 x3 x4 : Value} (h : w.heap[N]? = some (.cells #[x0, x1, x2, x3, x4] t (0, 0))) (a b c d e : Value) :
    (((((w.setCell ⟨N, 0, none⟩ a).setCell ⟨N, 1, none⟩ b).setCell ⟨N, 2, none⟩ c).setCell ⟨N, 3, none⟩ d).setCell ⟨N, 4, none⟩ e).heap[N]? = some (.cells #[a, b, c, d, e] t (0, 0)) := by
  have h0 := blk_set (i := 0) h a
  have h1 := blk_set (i := 1) h0 b
  have h2 := blk_set (i := 2) h1 c
  have h3 := blk_set (i := 3) h2 d
  have h4 := blk_set (i := 4) h3 e
  rw [h4]
  simp
theorem tch5 (w : World) (N : Nat) (a b c d e : Value) : Tch (fun i => i = N) w (((((w.setCell ⟨N, 0, none⟩ a).setCell ⟨N, 1, none⟩ b).setCell ⟨N, 2, none⟩ c).setCell ⟨N, 3, none⟩ d).setCell ⟨N, 4, none⟩ e) :=
  ((((Tch.setCell (fun i => i = N) w ⟨N, 0, none⟩ a rfl).setCellR ⟨N, 1, none⟩ b rfl).setCellR ⟨N, 2, none⟩ c rfl).setCellR ⟨N, 3, none⟩ d rfl).setCellR ⟨N, 4, none⟩ e rfl
/-- What At gives. -/
def AtOut (T : Tbl) (E : Int) (N : Nat) (r : Ending) (w' : World) : Prop := ∃ v, r = .returned (.tuple #[tA T.id T.ver T.nm v T.key, .int .i64 E]) ∧ w'.ownsRow N 80 3 v T.cols.length (ccl T.cols)

set_option maxHeartbeats 2000000 in
theorem at_f {w : World} {F : Nat → Prop} {b : Nat} {h : Hs} (H : HF w F b h) (x i : Int) (hi : inR i) (hT : h.T < 70368744177664) :
    Calls Try.prog 15 #[.pointer (some ⟨b, 0, none⟩), .int .i64 x, .int .i64 i] w fun r w' => AtOut (atT h x i) (atE h x i) w.heap.size r w' ∧ Tch (fun _ => False) w w' := by
  obtain ⟨mb, sb, ns, H⟩ := H
  obtain ⟨N, hN⟩ : ∃ N, N = w.heap.size := ⟨_, rfl⟩
  obtain ⟨w1, hw1⟩ : ∃ w1, w1 = w.alloc (.cells #[.int .i64 0, .int .i64 0, .string ⟨#[]⟩, .slice none 0 0, .int .i64 0] 36) := ⟨_, rfl⟩
  have t1 : Tch (fun _ => False) w w1 := by rw [hw1]; exact Tch.alloc _ _ _
  have bN : w1.heap[N]? = some (.cells #[.int .i64 0, .int .i64 0, .string ⟨#[]⟩, .slice none 0 0, .int .i64 0] 36 (0, 0)) := by rw [hw1, hN]; exact alloc_new _ _
  have H1 := H.tch t1 (fun _ _ e => e.elim)
  have q1 := was_w H1 x i hi (by omega)
  have HE : Hid (atE h x i = if x < h.b then 170 else if (wasL (h.K i) x).th = true then 0 else 170) := rfl
  have HA : Hid (atT h x i = if atE h x i = 0 then (wasL (h.K i) x).t else tblZ) := rfl
  have HI : Hid ((wasL (h.K i) x).th = true → NtIn w1 (own3 F b mb sb) (wasL (h.K i) x)) := fun e => H1.nt i _ (wasL_th e).2
  obtain ⟨n, hn⟩ : ∃ n, n = wasL (h.K i) x := ⟨_, rfl⟩
  rw [← hn] at q1 HE HA HI
  obtain ⟨nt, hnt⟩ : ∃ nt, nt = n.th := ⟨_, rfl⟩
  unfold Nt.v at q1
  rw [← hnt] at q1 HE HI
  have c1 := H1.c.1
  have HB1 : Hid _ := bN
  have HT1 : Hid (Tch (fun _ => False) w w1) := t1
  have HW1 : Hid (w1 = _) := hw1
  have HN : Hid (N = w.heap.size) := hN
  have hrs : Try.f15.results = #[.cell 6 36, .tmp 7] := by kernel_rfl
  have y0 : w1.cell? ⟨N, 0, none⟩ = some (.int .i64 0) := blk_cell bN 0
  have y1 : w1.cell? ⟨N, 1, none⟩ = some (.int .i64 0) := blk_cell bN 1
  have y2 : w1.cell? ⟨N, 2, none⟩ = some (.string ⟨#[]⟩) := blk_cell bN 2
  have y3 : w1.cell? ⟨N, 3, none⟩ = some (.slice none 0 0) := blk_cell bN 3
  have y4 : w1.cell? ⟨N, 4, none⟩ = some (.int .i64 0) := blk_cell bN 4
  have yf := blk_frozen bN
  clear hw1 hN t1 bN H H1 hn hnt hT
  go_enter Try.func15, Try.ntmps15
  go_upto_region 1 with (fail)
  rw [← HW1.out, ← HN.out]
  by_cases hlt : x < h.b
  · have e0 : atE h x i = 170 := by rw [HE.out, if_pos hlt]
    have e1 : atT h x i = tblZ := by rw [HA.out, e0]; rfl
    have HE0 : Hid (atE h x i = 170 ∧ atT h x i = tblZ) := ⟨e0, e1⟩
    clear e0 e1
    go_wp2_with fail
    rw [HE0.out.1, HE0.out.2]
    refine bodyPost_ret (res_pair hrs rfl rfl (set5 HB1.out _ _ _ _ _)) rfl ⟨⟨_, rfl, rfl, .inl ⟨rfl, rfl⟩⟩, HT1.out.trans (tch5 w1 N _ _ _ _ _) (fun g hg e => by have := HN.out; have e' : g = N := e; omega)⟩
  · go_wp2_with fail
    refine q1.mono ?_
    rintro e w2 ⟨rfl, t2⟩
    clear q1 c1
    have b2 := (t2.block N (blk_lt HB1.out) (fun e => e)).trans HB1.out
    obtain ⟨M, hM⟩ : ∃ M, M = w2.heap.size := ⟨_, rfl⟩
    obtain ⟨w3, hw3⟩ : ∃ w3, w3 = w2.alloc (.cells #[.int .i64 n.l, .bool nt, .int .i64 n.t.id, .int .i64 n.t.ver, .string n.t.nm, .slice n.ao n.t.cols.length n.c, .int .i64 n.t.key] 77) := ⟨_, rfl⟩
    have t3 : Tch (fun _ => False) w2 w3 := by rw [hw3]; exact Tch.alloc _ _ _
    have bM : w3.heap[M]? = some (.cells #[.int .i64 n.l, .bool nt, .int .i64 n.t.id, .int .i64 n.t.ver, .string n.t.nm, .slice n.ao n.t.cols.length n.c, .int .i64 n.t.key] 77 (0, 0)) := by rw [hw3, hM]; exact alloc_new _ _
    have b3 := (t3.block N (blk_lt b2) (fun e => e)).trans b2
    have HW3 : Hid (w3 = _) := hw3
    have HM : Hid (M = w2.heap.size) := hM
    have HT3 : Hid (Tch (fun _ => False) w1 w3) := t2.trans' t3
    have HB3 : Hid _ := b3
    have HBM : Hid _ := bM
    have m1 : w3.cell? ⟨M, 1, none⟩ = some (.bool nt) := blk_cell bM 1
    clear hw3 hM b2 y0 y1 y2 y3 y4 yf t2 t3
    go_upto_region 4 with (fail)
    rw [← HW3.out, ← HM.out]
    have y0 : w3.cell? ⟨N, 0, none⟩ = some (.int .i64 0) := blk_cell b3 0
    have y1 : w3.cell? ⟨N, 1, none⟩ = some (.int .i64 0) := blk_cell b3 1
    have y2 : w3.cell? ⟨N, 2, none⟩ = some (.string ⟨#[]⟩) := blk_cell b3 2
    have y3 : w3.cell? ⟨N, 3, none⟩ = some (.slice none 0 0) := blk_cell b3 3
    have y4 : w3.cell? ⟨N, 4, none⟩ = some (.int .i64 0) := blk_cell b3 4
    have yf := blk_frozen b3
    cases nt with
    | false =>
      have e0 : atE h x i = 170 := by rw [HE.out, if_neg (by omega)]; rfl
      have e1 : atT h x i = tblZ := by rw [HA.out, e0]; rfl
      have HE0 : Hid (atE h x i = 170 ∧ atT h x i = tblZ) := ⟨e0, e1⟩
      clear e0 e1 b3 bM
      go_wp2_with fail
      rw [HE0.out.1, HE0.out.2]
      refine bodyPost_ret (res_pair hrs rfl rfl (set5 HB3.out _ _ _ _ _)) rfl ⟨⟨_, rfl, rfl, .inl ⟨rfl, rfl⟩⟩, (HT1.out.trans' HT3.out).trans (tch5 w3 N _ _ _ _ _) (fun g hg e => by have := HN.out; have e' : g = N := e; omega)⟩
    | true =>
      have e0 : atE h x i = 0 := by rw [HE.out, if_neg (by omega)]; rfl
      have e1 : atT h x i = n.t := by rw [HA.out, if_pos e0]
      have HE0 : Hid (atE h x i = 0 ∧ atT h x i = n.t) := ⟨e0, e1⟩
      have hin := (HI.out rfl).tch HT3.out (fun _ _ e => e.elim)
      have q2 := copied_any n.t n.ao n.c w3 hin.sl hin.no (by have := hin.le; omega)
      have m2 : w3.cell? ⟨M, 2, none⟩ = some (.int .i64 n.t.id) := blk_cell bM 2
      have m3 : w3.cell? ⟨M, 3, none⟩ = some (.int .i64 n.t.ver) := blk_cell bM 3
      have m4 : w3.cell? ⟨M, 4, none⟩ = some (.string n.t.nm) := blk_cell bM 4
      have m5 : w3.cell? ⟨M, 5, none⟩ = some (.slice n.ao n.t.cols.length n.c) := blk_cell bM 5
      have m6 : w3.cell? ⟨M, 6, none⟩ = some (.int .i64 n.t.key) := blk_cell bM 6
      clear e0 e1 b3 bM hin y0 y1 y2 y3 y4 yf
      go_wp2_with fail
      refine q2.mono ?_
      rintro e w4 ⟨⟨v, rfl, hv⟩, t4⟩
      obtain ⟨vo, vc, rfl⟩ := row_slice hv
      have b4 := (t4.block N (blk_lt HB3.out) (fun e => e)).trans HB3.out
      have HB4 : Hid _ := b4
      have HT4 : Hid (Tch (fun _ => False) w3 w4) := t4
      have HV : Hid (w4.ownsRow w3.heap.size 80 3 (.slice vo n.t.cols.length vc) n.t.cols.length (ccl n.t.cols)) := hv
      have y0 : w4.cell? ⟨N, 0, none⟩ = some (.int .i64 0) := blk_cell b4 0
      have y1 : w4.cell? ⟨N, 1, none⟩ = some (.int .i64 0) := blk_cell b4 1
      have y2 : w4.cell? ⟨N, 2, none⟩ = some (.string ⟨#[]⟩) := blk_cell b4 2
      have y3 : w4.cell? ⟨N, 3, none⟩ = some (.slice none 0 0) := blk_cell b4 3
      have y4 : w4.cell? ⟨N, 4, none⟩ = some (.int .i64 0) := blk_cell b4 4
      have yf := blk_frozen b4
      clear q2 m1 m2 m3 m4 m5 m6 b4 t4 hv
      go_wp2_with fail
      rw [HE0.out.1, HE0.out.2]
      have t5 := tch5 w4 N (.int .i64 n.t.id) (.int .i64 n.t.ver) (.string n.t.nm) (.slice vo n.t.cols.length vc) (.int .i64 n.t.key)
      have hN3 : N < w3.heap.size := blk_lt HB3.out
      have hw3 := (HT1.out.trans' HT3.out).size
      refine bodyPost_ret (res_pair hrs rfl rfl (set5 HB4.out _ _ _ _ _)) rfl ⟨⟨_, rfl, own_low (own_tch HV.out t5 (fun g e e' => by have := row_ge HV.out e; have e2 : g = N := e'; omega)) hw3⟩, ((HT1.out.trans' HT3.out).trans' HT4.out).trans t5 (fun g hg e => by have := HN.out; have e' : g = N := e; omega)⟩
end Go.Proofs.Ytkcmpipipelgoaa
