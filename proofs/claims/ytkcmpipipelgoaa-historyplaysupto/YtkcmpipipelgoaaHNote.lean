import Derived.Test.YtkcmpipipelgoaaHMem
import Derived.Deep.DeepCutAuto
import Derived.Deep.CutBlock
import Derived.BigRegion
import Derived.Test.YtkcmpipipelgoaaOrdv
import Derived.Laws.Rows
/- upTo and was. -/
namespace Go.Proofs.Ytkcmpipipelgoaa
open Go.RowKit Go
set_option maxRecDepth 100000

theorem HW.c {w : World} {F : Nat → Prop} {b mb sb ns : Nat} {h : Hs} (H : HW w F b mb sb ns h) : w.cell? ⟨b, 0, none⟩ = some (.int .i64 h.b) ∧ w.cell? ⟨b, 1, none⟩ = some (.int .i64 h.l) ∧ w.cell? ⟨b, 2, none⟩ = some (.map (some mb)) ∧ w.cell? ⟨b, 3, none⟩ = some (.map (some sb)) :=
  ⟨blk_cell H.blk 0, blk_cell H.blk 1, blk_cell H.blk 2, blk_cell H.blk 3⟩
theorem wrap_ok {n : Int} (h1 : -9223372036854775808 ≤ n) (h2 : n ≤ 9223372036854775807) : IntKind.i64.wrap n = n := by
  simp [IntKind.wrap, IntKind.signed, IntKind.bits]; omega
theorem fld0 (a b c d e f g : Value) (W : World) : (Instr.field 77 (.agg #[a, b, c, d, e, f, g]) 0).run Try.prog W = .ok a W := by rfl
theorem fld1 (a b c d e f g : Value) (W : World) : (Instr.field 77 (.agg #[a, b, c, d, e, f, g]) 1).run Try.prog W = .ok b W := by rfl
theorem sfld0 (a b : Value) (W : World) : (Instr.field 95 (.agg #[a, b]) 0).run Try.prog W = .ok a W := by rfl
set_option maxHeartbeats 1000000 in
theorem upTo_w {w : World} {F : Nat → Prop} {b mb sb ns : Nat} {h : Hs} (H : HW w F b mb sb ns h) (x i : Int) (hi : inR i) (hT : h.T ≤ 140737488355328) :
    Calls Try.prog 47 #[.pointer (some ⟨b, 0, none⟩), .int .i64 x, .int .i64 i] w fun r w' => r = .returned (.int .i64 (upL (h.K i) x)) ∧ Tch (fun _ => False) w w' := by
  obtain ⟨N, hN⟩ : ∃ N, N = w.heap.size := ⟨_, rfl⟩
  obtain ⟨fi, hfi⟩ : ∃ fi, fi = h.f i := ⟨_, rfl⟩
  obtain ⟨Li, hLi⟩ : ∃ Li, Li = (h.K i).length := ⟨_, rfl⟩
  have hpl : fi + Li ≤ 140737488355328 := by have := H.pl i; omega
  obtain ⟨w1, hw1⟩ : ∃ w1, w1 = w.alloc (.cells #[.int .i64 fi, .int .i64 ((fi : Int) + Li)] 95) := ⟨_, rfl⟩
  have t1 : Tch (fun _ => False) w w1 := by rw [hw1]; exact Tch.alloc _ _ _
  have H1 := H.tch t1 (fun _ _ e => e.elim)
  obtain ⟨-, -, -, c3⟩ := H.c
  obtain ⟨-, -, d2, -⟩ := H1.c
  have hs := H.span hi
  rw [← hfi, ← hLi] at hs
  have bN : w1.heap[N]? = some (.cells #[.int .i64 fi, .int .i64 ((fi : Int) + Li)] 95 (0, 0)) := by rw [hw1, hN]; exact alloc_new _ _
  have s0 : w1.cell? ⟨N, 0, none⟩ = some (.int .i64 fi) := blk_cell bN 0
  have s1 : w1.cell? ⟨N, 1, none⟩ = some (.int .i64 ((fi : Int) + Li)) := blk_cell bN 1
  have HL : Hid (∀ W, Tch (fun _ => False) w1 W → W.cell? ⟨b, 2, none⟩ = some (.map (some mb)) ∧ W.cell? ⟨N, 1, none⟩ = some (.int .i64 ((fi : Int) + Li)) ∧ ∀ (j : Nat) (n : Nt), (h.K i)[j]? = some n → (Instr.lookup 70 (.map (some mb)) (keyV i ((fi : Int) + j)) false).run Try.prog W = .ok n.v W) := fun W tW => by
    have HWW := H1.tch tW (fun _ _ e => e.elim)
    exact ⟨HWW.c.2.2.1, (tW.cell (p := ⟨N, 1, none⟩) (cell_lt s1) (fun e => e)).trans s1, fun j n hn => HWW.note hi (by rw [hfi]) hn hT⟩
  have HW1 : Hid (w1 = _) := hw1
  have HN : Hid (N = w.heap.size) := hN
  have HLi : Hid (Li = (h.K i).length) := hLi
  have HT1 : Hid (Tch (fun _ => False) w w1) := t1
  have hx1 : (fi : Int) + Li - fi = Li := by omega
  clear hw1 hN hLi hfi t1 bN H H1 hi hT
  go_enter Try.func47, Try.ntmps47
  go_upto_region 2 with (fail)
  rw [← HW1.out, ← HN.out]
  go_wp2_with fail
  skip
  clear s0 s1 c3 d2 hs hx1
  go_loopg [9, 22] Li (fun kx s9 s22 wr => ∃ k : Nat, s22 = .int .i64 k ∧ Li - k ≤ kx ∧ k ≤ Li ∧ Hid (Tch (fun _ => False) w1 wr ∧ ∀ j n, (h.K i)[j]? = some n → Li - k ≤ j → x < n.l))
  case atStart => exact ⟨0, rfl, by omega, by omega, Tch.refl _ _, fun j n hn hj => by have := (List.getElem?_eq_some_iff.1 hn).1; have := HLi.out; omega⟩
  case round =>
    rename World => wr
    obtain ⟨k, rfl, hkx, hkl, J⟩ := hrel
    by_cases hk : k < Li
    · have hk' : (k : Int) < (Li : Int) := by omega
      obtain ⟨n, hn⟩ : ∃ n, (h.K i)[Li - 1 - k]? = some n := ⟨_, List.getElem?_eq_getElem (by have := HLi.out; omega)⟩
      obtain ⟨d2, s1, hl⟩ := HL.out wr J.out.1
      have hl' : ∀ m, (Instr.lookup 70 (.map (some mb)) (.agg #[.int .i64 i, .int .i64 ((fi : Int) + Li - 1 - k)]) false).run Try.prog (wr.drewN m) = .ok n.v (wr.drewN m) := fun m => by
        have := (HL.out (wr.drewN m) (J.out.1.drewN m)).2.2 _ _ hn
        rw [show (fi : Int) + ((Li - 1 - k : Nat) : Int) = (fi : Int) + Li - 1 - k by omega] at this
        exact this
      unfold Nt.v at hl'
      have e1 : IntKind.i64.wrap ((fi : Int) + Li - 1) = (fi : Int) + Li - 1 := wrap_ok (by omega) (by omega)
      have e2 : IntKind.i64.wrap ((fi : Int) + Li - 1 - k) = (fi : Int) + Li - 1 - k := wrap_ok (by omega) (by omega)
      have hfd := fun W => fld0 (.int .i64 n.l) (.bool n.th) (.int .i64 n.t.id) (.int .i64 n.t.ver) (.string n.t.nm) (.slice n.ao n.t.cols.length n.c) (.int .i64 n.t.key) W
      have HK : Hid ((h.K i)[Li - 1 - k]? = some n) := hn
      clear hl hn
      go_wp2_with fail
      go_quiet (fail)
      have HW9 : Hid (Tch (fun _ => False) w1 (wr.drewN nq)) := J.out.1.drewN nq
      obtain ⟨w9, hw9⟩ : ∃ w9, w9 = wr.drewN nq := ⟨_, rfl⟩
      rw [← hw9] at HW9 ⊢
      clear d2 s1 hl' e1 e2 hfd hw9
      have e0 : (Li : Int) - k = ((Li - k : Nat) : Int) := by omega
      by_cases hle : n.l ≤ x
      · go_wp2_with fail
        go_ret
        refine ⟨?_, HT1.out.trans' HW9.out⟩
        rw [upL_eq (u := Li - k) (by have := HLi.out; omega) J.out.2 (fun j m hm hj => by
          have e3 : j = Li - 1 - k := by omega
          rw [e3, HK.out] at hm
          injection hm with hm
          subst hm
          exact hle)]
        rfl
      · have HQ : Hid (Tch (fun _ => False) w1 w9 ∧ ∀ j n, (h.K i)[j]? = some n → Li - (k + 1) ≤ j → x < n.l) := ⟨HW9.out, fun j m hm hj => by
          rcases Nat.lt_or_ge j (Li - k) with h1 | h1
          · have e3 : j = Li - 1 - k := by omega
            rw [e3, HK.out] at hm
            injection hm with hm
            subst hm
            omega
          · exact J.out.2 j m hm h1⟩
        go_wp2_with fail
        go_roundg (Li - (k + 1))
        case measure => omega
        case rel => exact ⟨k + 1, rfl, by omega, by omega, HQ⟩
    · have hk' : ¬ (k : Int) < (Li : Int) := by omega
      go_wp2_with fail
      go_ret
      refine ⟨?_, HT1.out.trans' J.out.1⟩
      rw [upL_eq (u := 0) (Nat.zero_le _) (fun j n hn _ => J.out.2 j n hn (by omega)) (fun j n _ hj => by omega)]
      rfl

theorem siz_note : (Try.prog.info? 77).map (·.size) = some 7 := by kernel_rfl
theorem set7 {w : World} {N : Nat} {t : TypeId} {x0 x1 x2 x3 x4 x5 x6 : Value} (h : w.heap[N]? = some (.cells #[x0, x1, x2, x3, x4, x5, x6] t (0, 0))) (a b c d e f g : Value) :
    (((((((w.setCell ⟨N, 0, none⟩ a).setCell ⟨N, 1, none⟩ b).setCell ⟨N, 2, none⟩ c).setCell ⟨N, 3, none⟩ d).setCell ⟨N, 4, none⟩ e).setCell ⟨N, 5, none⟩ f).setCell ⟨N, 6, none⟩ g).heap[N]? = some (.cells #[a, b, c, d, e, f, g] t (0, 0)) := by
  have h0 := blk_set (i := 0) h a
  have h1 := blk_set (i := 1) h0 b
  have h2 := blk_set (i := 2) h1 c
  have h3 := blk_set (i := 3) h2 d
  have h4 := blk_set (i := 4) h3 e
  have h5 := blk_set (i := 5) h4 f
  have h6 := blk_set (i := 6) h5 g
  rw [h6]
  simp
theorem tch7 (w : World) (N : Nat) (a b c d e f g : Value) : Tch (fun i => i = N) w (((((((w.setCell ⟨N, 0, none⟩ a).setCell ⟨N, 1, none⟩ b).setCell ⟨N, 2, none⟩ c).setCell ⟨N, 3, none⟩ d).setCell ⟨N, 4, none⟩ e).setCell ⟨N, 5, none⟩ f).setCell ⟨N, 6, none⟩ g) :=
  ((((((Tch.setCell (fun i => i = N) w ⟨N, 0, none⟩ a rfl).setCellR ⟨N, 1, none⟩ b rfl).setCellR ⟨N, 2, none⟩ c rfl).setCellR ⟨N, 3, none⟩ d rfl).setCellR ⟨N, 4, none⟩ e rfl).setCellR ⟨N, 5, none⟩ f rfl).setCellR ⟨N, 6, none⟩ g rfl
set_option maxHeartbeats 1000000 in
theorem was_w {w : World} {F : Nat → Prop} {b mb sb ns : Nat} {h : Hs} (H : HW w F b mb sb ns h) (x i : Int) (hi : inR i) (hT : h.T ≤ 140737488355328) :
    Calls Try.prog 25 #[.pointer (some ⟨b, 0, none⟩), .int .i64 x, .int .i64 i] w fun r w' => r = .returned (wasL (h.K i) x).v ∧ Tch (fun _ => False) w w' := by
  obtain ⟨N, hN⟩ : ∃ N, N = w.heap.size := ⟨_, rfl⟩
  obtain ⟨w1, hw1⟩ : ∃ w1, w1 = w.alloc (.cells #[.int .i64 0, .bool false, .int .i64 0, .int .i64 0, .string ⟨#[]⟩, .slice none 0 0, .int .i64 0] 77) := ⟨_, rfl⟩
  have t1 : Tch (fun _ => False) w w1 := by rw [hw1]; exact Tch.alloc _ _ _
  have H1 := H.tch t1 (fun _ _ e => e.elim)
  have bN : w1.heap[N]? = some (.cells #[.int .i64 0, .bool false, .int .i64 0, .int .i64 0, .string ⟨#[]⟩, .slice none 0 0, .int .i64 0] 77 (0, 0)) := by rw [hw1, hN]; exact alloc_new _ _
  have q1 := upTo_w H1 x i hi hT
  obtain ⟨u, hu⟩ : ∃ u, u = upL (h.K i) x := ⟨_, rfl⟩
  rw [← hu] at q1
  have HU : Hid (u = upL (h.K i) x) := hu
  have HW1 : Hid (w1 = _) := hw1
  have HN : Hid (N = w.heap.size) := hN
  have HH : Hid (HW w1 F b mb sb ns h) := H1
  have HB : Hid _ := bN
  have HT1 : Hid (Tch (fun _ => False) w w1) := t1
  clear hu hw1 hN H H1 t1 bN
  go_enter Try.func25, Try.ntmps25
  go_upto_region 1 with (fail)
  rw [← HW1.out, ← HN.out]
  go_wp2_with fail
  refine q1.mono ?_
  rintro e w2 ⟨rfl, t2⟩
  clear q1
  have H2 := HH.out.tch t2 (fun _ _ e => e.elim)
  have b2 := (t2.block N (blk_lt HB.out) (fun e => e)).trans HB.out
  have fr := blk_frozen b2
  have x0 := blk_cell b2 0
  have x1 := blk_cell b2 1
  have x2 := blk_cell b2 2
  have x3 := blk_cell b2 3
  have x4 := blk_cell b2 4
  have x5 := blk_cell b2 5
  have x6 := blk_cell b2 6
  have hrs : Try.f25.results = #[.cell 6 77] := by kernel_rfl
  by_cases h0 : u = 0
  · have hu0 : ((u : Int) == 0) = true := by simp [h0]
    go_wp2_with fail
    refine bodyPost_ret (results_cell_row hrs _ _ N 77 _ (0, 0) _ rfl (set7 b2 _ _ _ _ _ _ _) Try.underlying77 rfl siz_note) rfl ⟨?_, (HT1.out.trans' t2).trans (tch7 w2 N _ _ _ _ _ _ _) (fun g hg e => by have := HN.out; have e' : g = N := e; omega)⟩
    unfold wasL
    rw [if_pos (HU.out.symm.trans h0)]
    rfl
  · have hu0 : ((u : Int) == 0) = false := by simp; omega
    have hle := upL_le (h.K i) x
    rw [← HU.out] at hle
    obtain ⟨n, hn⟩ : ∃ n, (h.K i)[u - 1]? = some n := ⟨_, List.getElem?_eq_getElem (by omega)⟩
    have HK : Hid ((h.K i)[u - 1]? = some n) := hn
    obtain ⟨fi, hfi⟩ : ∃ fi, fi = h.f i := ⟨_, rfl⟩
    obtain ⟨Li, hLi⟩ : ∃ Li, Li = (h.K i).length := ⟨_, rfl⟩
    have hpl : fi + Li ≤ 140737488355328 := by have := H2.pl i; omega
    rw [← hLi] at hle
    obtain ⟨-, -, d2, d3⟩ := H2.c
    have hs : ∀ m, (Instr.lookup 71 (.map (some sb)) (.int .i64 i) false).run Try.prog (w2.drewN m) = .ok (.agg #[.int .i64 fi, .int .i64 ((fi : Int) + Li)]) (w2.drewN m) := fun m => by
      have := (H2.tch ((Tch.refl (fun _ => False) w2).drewN m) (fun _ _ e => e.elim)).span hi
      rw [← hfi, ← hLi] at this
      exact this
    have hl' : ∀ m, (Instr.lookup 70 (.map (some mb)) (.agg #[.int .i64 i, .int .i64 ((fi : Int) + u - 1)]) false).run Try.prog (w2.drewN m) = .ok n.v (w2.drewN m) := fun m => by
      have := (H2.tch ((Tch.refl (fun _ => False) w2).drewN m) (fun _ _ e => e.elim)).note (p := (fi : Int) + u - 1) hi (by rw [hfi]; omega) hn hT
      exact this
    unfold Nt.v at hl'
    have hfd := fun W => sfld0 (.int .i64 fi) (.int .i64 ((fi : Int) + Li)) W
    have e1 : IntKind.i64.wrap ((fi : Int) + u) = (fi : Int) + u := wrap_ok (by omega) (by omega)
    have e2 : IntKind.i64.wrap ((fi : Int) + u - 1) = (fi : Int) + u - 1 := wrap_ok (by omega) (by omega)
    have HB2 : Hid _ := b2
    have HT2 : Hid (Tch (fun _ => False) w w2) := HT1.out.trans' t2
    clear H2 hfi hLi hn b2 t2 h0
    go_wp2_with fail
    refine wp_region_drew_tail 17 (by kernel_rfl) (by kernel_rfl) ?_
    repeat (quiet_step (fail))
    refine wpQuiet_nil ?_
    rintro w7 ⟨q, rfl⟩
    obtain ⟨w9, hw9⟩ : ∃ w9, w9 = w2.drewN q := ⟨_, rfl⟩
    have t9 : Tch (fun _ => False) w2 w9 := by rw [hw9]; exact (Tch.refl _ _).drewN q
    rw [← hw9]
    have b9 := (t9.block N (blk_lt HB2.out) (fun e => e)).trans HB2.out
    have HB9 : Hid _ := b9
    have HT9 : Hid (Tch (fun _ => False) w w9) := HT2.out.trans' t9
    clear hw9 d2 d3 hs hl' hfd e1 e2 x0 x1 x2 x3 x4 x5 x6 fr t9
    have fr := blk_frozen b9
    have x0 := blk_cell b9 0
    have x1 := blk_cell b9 1
    have x2 := blk_cell b9 2
    have x3 := blk_cell b9 3
    have x4 := blk_cell b9 4
    have x5 := blk_cell b9 5
    have x6 := blk_cell b9 6
    clear b9
    go_wp2_with fail
    refine bodyPost_ret (results_cell_row hrs _ _ N 77 _ (0, 0) _ rfl (set7 HB9.out _ _ _ _ _ _ _) Try.underlying77 rfl siz_note) rfl ⟨?_, HT9.out.trans (tch7 w9 N _ _ _ _ _ _ _) (fun g hg e => by have := HN.out; have e' : g = N := e; omega)⟩
    unfold wasL
    rw [← HU.out, if_neg (by intro e; simp [e] at hu0), HK.out]
    rfl
end Go.Proofs.Ytkcmpipipelgoaa
/- note. -/
namespace Go.Proofs.Ytkcmpipipelgoaa
open Go.RowKit Go
set_option maxRecDepth 100000

theorem nG_new (K : Int → List Nt) (f : Int → Nat) (i : Int) : nG K f i ((f i : Int) + (K i).length) = none := by
  unfold nG
  rw [if_pos (by omega), show ((f i : Int) + (K i).length - f i).toNat = (K i).length by omega, List.getElem?_eq_none (Nat.le_refl _)]
  rfl
theorem nG_at (K : Int → List Nt) (f : Int → Nat) (i : Int) (n : Nt) : nG (updK K i (K i ++ [n])) f i ((f i : Int) + (K i).length) = some n.v := by
  unfold nG
  rw [if_pos (by omega), updK_same, show ((f i : Int) + (K i).length - f i).toNat = (K i).length by omega]
  simp
theorem nG_else (K : Int → List Nt) (f : Int → Nat) (i : Int) (n : Nt) (x y : Int) (h : ¬ (x = i ∧ y = (f i : Int) + (K i).length)) : nG (updK K i (K i ++ [n])) f x y = nG K f x y := by
  unfold nG
  by_cases hx : x = i
  · subst hx
    rw [updK_same]
    by_cases hy : (f x : Int) ≤ y
    · rw [if_pos hy, if_pos hy]
      have hne : (y - f x).toNat ≠ (K x).length := fun e => h ⟨rfl, by omega⟩
      rcases Nat.lt_or_ge (y - f x).toNat (K x).length with h1 | h1
      · rw [List.getElem?_append_left h1]
      · rw [List.getElem?_eq_none (by simp; omega), List.getElem?_eq_none h1]
    · rw [if_neg hy, if_neg hy]
  · rw [updK_ne _ _ hx]
theorem sG_at (K : Int → List Nt) (f : Int → Nat) (i : Int) (n : Nt) : sG (updK K i (K i ++ [n])) f i = some (spanV (f i) ((f i : Int) + (K i).length + 1)) := by
  unfold sG
  rw [updK_same, if_neg (by simp)]
  simp
  omega
theorem sG_else (K : Int → List Nt) (f : Int → Nat) (i : Int) (n : Nt) (x : Int) (h : x ≠ i) : sG (updK K i (K i ++ [n])) f x = sG K f x := by
  unfold sG
  rw [updK_ne _ _ h]
theorem set2 {w : World} {N : Nat} {t : TypeId} {x0 x1 : Value} (h : w.heap[N]? = some (.cells #[x0, x1] t (0, 0))) (b : Value) : (w.setCell ⟨N, 1, none⟩ b).heap[N]? = some (.cells #[x0, b] t (0, 0)) := by
  rw [blk_set h]; simp
theorem set4 {w : World} {N : Nat} {t : TypeId} {x0 x1 x2 x3 : Value} (h : w.heap[N]? = some (.cells #[x0, x1, x2, x3] t (0, 0))) (b : Value) : (w.setCell ⟨N, 1, none⟩ b).heap[N]? = some (.cells #[x0, b, x2, x3] t (0, 0)) := by
  rw [blk_set h]; simp

set_option maxHeartbeats 2000000 in
theorem note_w {w : World} {F : Nat → Prop} {b mb sb ns : Nat} {h : Hs} (H : HW w F b mb sb ns h) (i : Int) (n : Nt) (hi : inR i) (hn : NtIn w (own3 F b mb sb) n) (hT : h.T < 70368744177664) :
    Calls Try.prog 22 #[.pointer (some ⟨b, 0, none⟩), .int .i64 i, n.v] w fun r w' => r = .returned (.tuple #[]) ∧ (∃ ns', HW w' F b mb sb ns' (h.add i n)) ∧ Tch (fun g => g = b ∨ g = mb ∨ g = sb) w w' := by
  obtain ⟨N, hN⟩ : ∃ N, N = w.heap.size := ⟨_, rfl⟩
  obtain ⟨fi, hfi⟩ : ∃ fi, fi = h.f i := ⟨_, rfl⟩
  obtain ⟨Li, hLi⟩ : ∃ Li, Li = (h.K i).length := ⟨_, rfl⟩
  have hpl : fi + Li ≤ 70368744177664 := by have := H.pl i; omega
  obtain ⟨w1, hw1⟩ : ∃ w1, w1 = w.alloc (.cells #[.int .i64 n.l, .bool n.th, .int .i64 n.t.id, .int .i64 n.t.ver, .string n.t.nm, .slice n.ao n.t.cols.length n.c, .int .i64 n.t.key] 77) := ⟨_, rfl⟩
  obtain ⟨w2, hw2⟩ : ∃ w2, w2 = w1.alloc (.cells #[.int .i64 fi, .int .i64 ((fi : Int) + Li)] 95) := ⟨_, rfl⟩
  have t1 : Tch (fun _ => False) w w1 := by rw [hw1]; exact Tch.alloc _ _ _
  have t2 : Tch (fun _ => False) w1 w2 := by rw [hw2]; exact Tch.alloc _ _ _
  have z1 : w1.heap.size = N + 1 := by rw [hw1, World.size_alloc, hN]
  have H1 := H.tch t1 (fun _ _ e => e.elim)
  have H2 := H1.tch t2 (fun _ _ e => e.elim)
  have bN1 : w1.heap[N]? = some (.cells #[.int .i64 n.l, .bool n.th, .int .i64 n.t.id, .int .i64 n.t.ver, .string n.t.nm, .slice n.ao n.t.cols.length n.c, .int .i64 n.t.key] 77 (0, 0)) := by rw [hw1, hN]; exact alloc_new _ _
  have bN2 := (t2.block N (by omega) (fun e => e)).trans bN1
  have bS2 : w2.heap[N + 1]? = some (.cells #[.int .i64 fi, .int .i64 ((fi : Int) + Li)] 95 (0, 0)) := by rw [hw2, ← z1]; exact alloc_new _ _
  have c3 := H1.c.2.2.2
  have hs := H1.span hi
  rw [← hfi, ← hLi] at hs
  have HT2 : Hid (Tch (fun _ => False) w w2) := t1.trans' t2
  have HH2 : Hid (HW w2 F b mb sb ns h) := H2
  have HH0 : Hid (HW w F b mb sb ns h) := H
  have HB2 : Hid _ := And.intro bN2 bS2
  have HW1 : Hid (w1 = _) := hw1
  have HW2 : Hid (w2 = _) := hw2
  have HN : Hid (N = w.heap.size) := hN
  have HZ1 : Hid (w1.heap.size = N + 1) := z1
  have HF : Hid (fi = h.f i ∧ Li = (h.K i).length) := ⟨hfi, hLi⟩
  have HT' : Hid (h.T < 70368744177664) := hT
  have Hn : Hid _ := hn
  clear hw1 hw2 hN z1 hfi hLi t1 t2 bN1 bN2 bS2 H H1 H2 hT hn
  go_enter Try.func22, Try.ntmps22
  go_upto_region 1 with (fail)
  rw [← HW1.out, ← HN.out]
  go_upto_region 2 with (fail)
  rw [← HW2.out, HZ1.out]
  clear c3 hs
  have d2 := HH2.out.c.2.2.1
  have s1 : w2.cell? ⟨N + 1, 1, none⟩ = some (.int .i64 ((fi : Int) + Li)) := blk_cell HB2.out.2 1
  have x0 : w2.cell? ⟨N, 0, none⟩ = some (.int .i64 n.l) := blk_cell HB2.out.1 0
  have x1 : w2.cell? ⟨N, 1, none⟩ = some (.bool n.th) := blk_cell HB2.out.1 1
  have x2 : w2.cell? ⟨N, 2, none⟩ = some (.int .i64 n.t.id) := blk_cell HB2.out.1 2
  have x3 : w2.cell? ⟨N, 3, none⟩ = some (.int .i64 n.t.ver) := blk_cell HB2.out.1 3
  have x4 : w2.cell? ⟨N, 4, none⟩ = some (.string n.t.nm) := blk_cell HB2.out.1 4
  have x5 : w2.cell? ⟨N, 5, none⟩ = some (.slice n.ao n.t.cols.length n.c) := blk_cell HB2.out.1 5
  have x6 : w2.cell? ⟨N, 6, none⟩ = some (.int .i64 n.t.key) := blk_cell HB2.out.1 6
  go_wp2_with fail
  refine wp_region_drew_tail 9 (by kernel_rfl) (by kernel_rfl) ?_
  repeat (quiet_step (fail))
  refine wpQuiet_nil ?_
  rintro w7 ⟨q, rfl⟩
  obtain ⟨w3, hw3⟩ : ∃ w3, w3 = w2.drewN q := ⟨_, rfl⟩
  have t3 : Tch (fun _ => False) w2 w3 := by rw [hw3]; exact (Tch.refl _ _).drewN q
  rw [← hw3]
  have H3 := HH2.out.tch t3 (fun _ _ e => e.elim)
  obtain ⟨w4, hr4, hM4, t4⟩ := H3.nm.put (i := i) (p := (fi : Int) + Li) hi (by unfold inR; omega) (by have := H3.sz; have := HT'.out; unfold maxLen; omega) (by rw [HF.out.1, HF.out.2]; exact nG_new _ _ _) n.v (g' := nG (updK h.K i (h.K i ++ [n])) h.f) (by rw [HF.out.1, HF.out.2]; exact nG_at _ _ _ _) (fun x y hxy => nG_else _ _ _ _ _ _ (by rw [← HF.out.1, ← HF.out.2]; exact hxy))
  unfold Nt.v at hr4
  have t24 : Tch (fun g => g = mb) w2 w4 := (t3.mono (fun _ _ e => e.elim)).trans' t4
  have nN : N ≠ mb := fun e => by have h1 := HB2.out.1; rw [e] at h1; obtain ⟨f, ⟨D, ⟨es, cl, hb, _⟩, _⟩, _⟩ := HH2.out.nm; rw [h1] at hb; cases hb
  have nS : N + 1 ≠ mb := fun e => by have h1 := HB2.out.2; rw [e] at h1; obtain ⟨f, ⟨D, ⟨es, cl, hb, _⟩, _⟩, _⟩ := HH2.out.nm; rw [h1] at hb; cases hb
  have nS' : N + 1 ≠ sb := fun e => by have h1 := HB2.out.2; rw [e] at h1; obtain ⟨f, ⟨D, ⟨es, cl, hb, _⟩, _⟩, _⟩ := HH2.out.sm; rw [h1] at hb; cases hb
  have nN' : N ≠ sb := fun e => by have h1 := HB2.out.1; rw [e] at h1; obtain ⟨f, ⟨D, ⟨es, cl, hb, _⟩, _⟩, _⟩ := HH2.out.sm; rw [h1] at hb; cases hb
  have bN4 := (t24.block N (blk_lt HB2.out.1) nN).trans HB2.out.1
  have bS4 := (t24.block (N + 1) (blk_lt HB2.out.2) nS).trans HB2.out.2
  have bb4 := (t24.block b (blk_lt HH2.out.blk) HH2.out.bm).trans HH2.out.blk
  have hS4 := HH2.out.sm.tch t24 (fun e => HH2.out.ms e.symm)
  clear d2 s1 x0 x1 x2 x3 x4 x5 x6 hw3 H3 t3 t4
  have s1 : w4.cell? ⟨N + 1, 1, none⟩ = some (.int .i64 ((fi : Int) + Li)) := blk_cell bS4 1
  have f1 : w4.frozen? ⟨N + 1, 1, none⟩ = false := blk_frozen bS4 1
  obtain ⟨w5, hw5⟩ : ∃ w5, w5 = w4.setCell ⟨N + 1, 1, none⟩ (.int .i64 ((fi : Int) + Li + 1)) := ⟨_, rfl⟩
  have t5 : Tch (fun g => g = N + 1) w4 w5 := by rw [hw5]; exact Tch.setCell _ _ _ _ rfl
  have bS5 : w5.heap[N + 1]? = some (.cells #[.int .i64 fi, .int .i64 ((fi : Int) + Li + 1)] 95 (0, 0)) := by rw [hw5]; exact set2 bS4 _
  have bN5 := (t5.block N (blk_lt bN4) (by show ¬ N = N + 1; omega)).trans bN4
  have nb1 : b ≠ N + 1 := fun e => by have h1 := HH2.out.blk; have h2 := HB2.out.2; rw [e, h2] at h1; injection h1 with h1; injection h1 with _ h1; exact absurd h1 (by decide)
  have nb0 : b ≠ N := fun e => by have h1 := HH2.out.blk; have h2 := HB2.out.1; rw [e, h2] at h1; injection h1 with h1; injection h1 with _ h1; exact absurd h1 (by decide)
  have bb5 := (t5.block b (blk_lt bb4) nb1).trans bb4
  have hM5 := hM4.tch t5 (fun e => nS e.symm)
  have hS5 := hS4.tch t5 (fun e => nS' e.symm)
  have HW5 : Hid (w5 = _) := hw5
  have HM5 : Hid (NM w5 mb (h.sz + 1) (nG (updK h.K i (h.K i ++ [n])) h.f)) := hM5
  have HS5 : Hid (SM w5 sb ns (sG h.K h.f)) := hS5
  have H25 : Hid (Tch (fun g => g = mb ∨ g = N + 1) w2 w5) := (t24.mono (fun _ _ e => .inl e)).trans t5 (fun g _ e => .inr e)
  have HB5 : Hid _ := And.intro bN5 (And.intro bS5 bb5)
  have HNE : Hid (N ≠ mb ∧ N + 1 ≠ mb ∧ N ≠ sb ∧ N + 1 ≠ sb ∧ b ≠ N ∧ b ≠ N + 1) := ⟨nN, nS, nN', nS', nb0, nb1⟩
  clear hw5 hM4 hM5 hS4 hS5 t24 t5 bN4 bS4 bb4 bN5 bS5 bb5 nN nS nN' nS' nb0 nb1
  go_upto_region 4 with (fail)
  rw [← HW5.out]
  clear hr4 s1 f1
  have d3 : w5.cell? ⟨b, 3, none⟩ = some (.map (some sb)) := blk_cell HB5.out.2.2 3
  have s0 : w5.cell? ⟨N + 1, 0, none⟩ = some (.int .i64 fi) := blk_cell HB5.out.2.1 0
  have s1 : w5.cell? ⟨N + 1, 1, none⟩ = some (.int .i64 ((fi : Int) + Li + 1)) := blk_cell HB5.out.2.1 1
  go_wp2_with fail
  refine wp_region_drew_tail 6 (by kernel_rfl) (by kernel_rfl) ?_
  repeat (quiet_step (fail))
  refine wpQuiet_nil ?_
  rintro w7 ⟨q2, rfl⟩
  obtain ⟨w6, hw6⟩ : ∃ w6, w6 = w5.drewN q2 := ⟨_, rfl⟩
  have t6 : Tch (fun _ => False) w5 w6 := by rw [hw6]; exact (Tch.refl _ _).drewN q2
  rw [← hw6]
  have hS6 := HS5.out.tch t6 (fun e => e)
  have hns : ns ≤ h.T := HH2.out.nl
  obtain ⟨w7, hr7, hS7, t7⟩ := hS6.put (i := i) hi (by have := HT'.out; unfold maxLen; omega) (spanV fi ((fi : Int) + Li + 1)) (g' := sG (updK h.K i (h.K i ++ [n])) h.f) (by rw [HF.out.1, HF.out.2]; exact sG_at _ _ _ _) (fun x hx => sG_else _ _ _ _ _ hx)
  unfold spanV at hr7
  have t57 : Tch (fun g => g = sb) w5 w7 := (t6.mono (fun _ _ e => e.elim)).trans' t7
  have bN7 := (t57.block N (blk_lt HB5.out.1) HNE.out.2.2.1).trans HB5.out.1
  have bb7 := (t57.block b (blk_lt HB5.out.2.2) HH2.out.bs).trans HB5.out.2.2
  have hM7 := HM5.out.tch t57 HH2.out.ms
  obtain ⟨w8, hw8⟩ : ∃ w8, w8 = w7.setCell ⟨b, 1, none⟩ (.int .i64 n.l) := ⟨_, rfl⟩
  have t8 : Tch (fun g => g = b) w7 w8 := by rw [hw8]; exact Tch.setCell _ _ _ _ rfl
  have b8 : w8.heap[b]? = some (.cells #[.int .i64 h.b, .int .i64 n.l, .map (some mb), .map (some sb)] 73 (0, 0)) := by rw [hw8]; exact set4 bb7 _
  have hM8 := hM7.tch t8 (fun e => HH2.out.bm e.symm)
  have hS8 := hS7.tch t8 (fun e => HH2.out.bs e.symm)
  have t58 : Tch (fun g => g = b ∨ g = mb ∨ g = sb) w5 w8 := (t57.mono (fun _ _ e => .inr (.inr e))).trans t8 (fun _ _ e => .inl e)
  have t28 : Tch (fun g => (g = b ∨ g = mb ∨ g = sb) ∨ g = N + 1) w2 w8 := (H25.out.mono (fun _ _ e => e.elim (fun e => .inl (.inr (.inl e))) .inr)).trans t58 (fun _ _ e => .inl e)
  have t08 : Tch (fun g => g = b ∨ g = mb ∨ g = sb) w w8 := (HT2.out.mono (fun _ _ e => e.elim)).trans t28 (fun g hg e => e.elim (fun e => e) (fun e => by have := HN.out; omega))
  have HFin : Hid (∃ ns', HW w8 F b mb sb ns' (h.add i n)) := by
    refine ⟨_, { blk := b8, nm := hM8, sm := hS8, fb := HH0.out.fb, fm := HH0.out.fm, fs := HH0.out.fs, bm := HH0.out.bm, bs := HH0.out.bs, ms := HH0.out.ms, nt := fun j m hm => ?_, f0 := fun j hj => ?_, pl := fun j => ?_, sz := ?_, nl := ?_, id := fun j hj => ?_, tot := HH0.out.tot.add i n }⟩
    · have hn8 := Hn.out.tch t08 (fun g _ e => .inr e)
      by_cases hji : j = i
      · subst hji
        have hm' : m ∈ h.K j ++ [n] := by
          have : m ∈ updK h.K j (h.K j ++ [n]) j := hm
          rwa [updK_same] at this
        rcases List.mem_append.1 hm' with h1 | h1
        · exact (HH0.out.nt j m h1).tch t08 (fun g _ e => .inr e)
        · rw [List.mem_singleton.1 h1]
          exact hn8
      · have hm' : m ∈ h.K j := by
          have : m ∈ updK h.K i (h.K i ++ [n]) j := hm
          rwa [updK_ne _ _ hji] at this
        exact (HH0.out.nt j m hm').tch t08 (fun g _ e => .inr e)
    · by_cases hji : j = i
      · subst hji
        have : updK h.K j (h.K j ++ [n]) j = [] := hj
        rw [updK_same] at this
        simp at this
      · have : updK h.K i (h.K i ++ [n]) j = [] := hj
        rw [updK_ne _ _ hji] at this
        exact HH0.out.f0 j this
    · have hpj := HH0.out.pl j
      show h.f j + (updK h.K i (h.K i ++ [n]) j).length ≤ h.T + 1
      by_cases hji : j = i
      · subst hji
        rw [updK_same, List.length_append, List.length_singleton]
        omega
      · rw [updK_ne _ _ hji]
        omega
    · have := HH0.out.sz
      show h.sz + 1 ≤ h.T + 1
      omega
    · have h9 : (if (sG h.K h.f i).isSome then ns else ns + 1) ≤ h.T + 1 := by split <;> omega
      exact h9
    · by_cases hji : j = i
      · subst hji; exact hi
      · refine HH0.out.id j (fun e => hj ?_)
        show updK h.K i (h.K i ++ [n]) j = []
        rw [updK_ne _ _ hji]
        exact e
  have HT8 : Hid (Tch (fun g => g = b ∨ g = mb ∨ g = sb) w w8) := t08
  have x0 : w7.cell? ⟨N, 0, none⟩ = some (.int .i64 n.l) := blk_cell bN7 0
  have y1 : w7.cell? ⟨b, 1, none⟩ = some (.int .i64 h.l) := blk_cell bb7 1
  have f1 : w7.frozen? ⟨b, 1, none⟩ = false := blk_frozen bb7 1
  have HW8 : Hid (w8 = _) := hw8
  clear hw6 hw8 t6 hS6 hS7 t7 t57 bN7 bb7 hM7 t8 b8 hM8 hS8 t58 t28 t08 d3 s0 s1
  go_wp2_with fail
  go_end0
  rw [← HW8.out]
  exact ⟨rfl, HFin.out, HT8.out⟩
end Go.Proofs.Ytkcmpipipelgoaa
