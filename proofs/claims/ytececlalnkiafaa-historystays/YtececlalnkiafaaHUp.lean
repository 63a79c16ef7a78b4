import Derived.Test.YtececlalnkiafaaHMem
import Derived.Deep.DeepCutAuto
import Derived.Deep.CutBlock
import Derived.BigRegion
import Derived.Test.YtececlalnkiafaaOrdv
import Derived.Laws.Rows
/- upTo and was. -/
namespace Go.Proofs.Ytececlalnkiafaa
open Go.RowKit Go
set_option maxRecDepth 100000

theorem HW.c {w : World} {F : Nat → Prop} {b mb sb ns : Nat} {h : Hs} (H : HW w F b mb sb ns h) : w.cell? ⟨b, 0, none⟩ = some (.int .i64 h.b) ∧ w.cell? ⟨b, 1, none⟩ = some (.int .i64 h.l) ∧ w.cell? ⟨b, 2, none⟩ = some (.map (some mb)) ∧ w.cell? ⟨b, 3, none⟩ = some (.map (some sb)) :=
  ⟨blk_cell H.blk 0, blk_cell H.blk 1, blk_cell H.blk 2, blk_cell H.blk 3⟩
theorem wrap_ok {n : Int} (h1 : -9223372036854775808 ≤ n) (h2 : n ≤ 9223372036854775807) : IntKind.i64.wrap n = n := by
  simp [IntKind.wrap, IntKind.signed, IntKind.bits]; omega
theorem fld0 (a b c d e f g : Value) (W : World) : (Instr.field 77 (.agg #[a, b, c, d, e, f, g]) 0).run Try.prog W = .ok a W := by rfl
theorem fld1 (a b c d e f g : Value) (W : World) : (Instr.field 77 (.agg #[a, b, c, d, e, f, g]) 1).run Try.prog W = .ok b W := by rfl
theorem sfld0 (a b : Value) (W : World) : (Instr.field 95 (.agg #[a, b]) 0).run Try.prog W = .ok a W := by rfl
set_option maxHeartbeats 1000000 in
theorem upTo_w {w : World} {F : Nat → Prop} {b mb sb ns : Nat} {h : Hs} (H : HW w F b mb sb ns h) (x i : Int) (hi : inR i) (hT : h.T ≤ 140737488355328) :
    Calls Try.prog 47 #[.pointer (some ⟨b, 0, none⟩), .int .i64 x, .int .i64 i] w fun r w' => r = .returned (.int .i64 (upL (h.K i) x)) ∧ Tch (fun _ => False) w w' := by
  obtain ⟨N, hN⟩ : ∃ N, N = w.heap.size := ⟨_, rfl⟩
  obtain ⟨fi, hfi⟩ : ∃ fi, fi = h.f i := ⟨_, rfl⟩
  obtain ⟨Li, hLi⟩ : ∃ Li, Li = (h.K i).length := ⟨_, rfl⟩
  have hpl : fi + Li ≤ 140737488355328 := by have := H.pl i; omega
  obtain ⟨w1, hw1⟩ : ∃ w1, w1 = w.alloc (.cells #[.int .i64 fi, .int .i64 ((fi : Int) + Li)] 95) := ⟨_, rfl⟩
  have t1 : Tch (fun _ => False) w w1 := by rw [hw1]; exact Tch.alloc _ _ _
  have H1 := H.tch t1 (fun _ _ e => e.elim)
  obtain ⟨-, -, -, c3⟩ := H.c
  obtain ⟨-, -, d2, -⟩ := H1.c
  have hs := H.span hi
  rw [← hfi, ← hLi] at hs
  have bN : w1.heap[N]? = some (.cells #[.int .i64 fi, .int .i64 ((fi : Int) + Li)] 95 (0, 0)) := by rw [hw1, hN]; exact alloc_new _ _
  have s0 : w1.cell? ⟨N, 0, none⟩ = some (.int .i64 fi) := blk_cell bN 0
  have s1 : w1.cell? ⟨N, 1, none⟩ = some (.int .i64 ((fi : Int) + Li)) := blk_cell bN 1
  have HL : Hid (∀ W, Tch (fun _ => False) w1 W → W.cell? ⟨b, 2, none⟩ = some (.map (some mb)) ∧ W.cell? ⟨N, 1, none⟩ = some (.int .i64 ((fi : Int) + Li)) ∧ ∀ (j : Nat) (n : Nt), (h.K i)[j]? = some n → (Instr.lookup 70 (.map (some mb)) (keyV i ((fi : Int) + j)) false).run Try.prog W = .ok n.v W) := fun W tW => by
    have HWW := H1.tch tW (fun _ _ e => e.elim)
    exact ⟨HWW.c.2.2.1, (tW.cell (p := ⟨N, 1, none⟩) (cell_lt s1) (fun e => e)).trans s1, fun j n hn => HWW.note hi (by rw [hfi]) hn hT⟩
  have HW1 : Hid (w1 = _) := hw1
  have HN : Hid (N = w.heap.size) := hN
  have HLi : Hid (Li = (h.K i).length) := hLi
  have HT1 : Hid (Tch (fun _ => False) w w1) := t1
  have hx1 : (fi : Int) + Li - fi = Li := by omega
  clear hw1 hN hLi hfi t1 bN H H1 hi hT
  go_enter Try.func47, Try.ntmps47
  go_upto_region 2 with (fail)
  rw [← HW1.out, ← HN.out]
  go_wp2_with fail
  skip
  clear s0 s1 c3 d2 hs hx1
  go_loopg [9, 22] Li (fun kx s9 s22 wr => ∃ k : Nat, s22 = .int .i64 k ∧ Li - k ≤ kx ∧ k ≤ Li ∧ Hid (Tch (fun _ => False) w1 wr ∧ ∀ j n, (h.K i)[j]? = some n → Li - k ≤ j → x < n.l))
  case atStart => exact ⟨0, rfl, by omega, by omega, Tch.refl _ _, fun j n hn hj => by have := (List.getElem?_eq_some_iff.1 hn).1; have := HLi.out; omega⟩
  case round =>
    rename World => wr
    obtain ⟨k, rfl, hkx, hkl, J⟩ := hrel
    by_cases hk : k < Li
    · have hk' : (k : Int) < (Li : Int) := by omega
      obtain ⟨n, hn⟩ : ∃ n, (h.K i)[Li - 1 - k]? = some n := ⟨_, List.getElem?_eq_getElem (by have := HLi.out; omega)⟩
      obtain ⟨d2, s1, hl⟩ := HL.out wr J.out.1
      have hl' : ∀ m, (Instr.lookup 70 (.map (some mb)) (.agg #[.int .i64 i, .int .i64 ((fi : Int) + Li - 1 - k)]) false).run Try.prog (wr.drewN m) = .ok n.v (wr.drewN m) := fun m => by
        have := (HL.out (wr.drewN m) (J.out.1.drewN m)).2.2 _ _ hn
        rw [show (fi : Int) + ((Li - 1 - k : Nat) : Int) = (fi : Int) + Li - 1 - k by omega] at this
        exact this
      unfold Nt.v at hl'
      have e1 : IntKind.i64.wrap ((fi : Int) + Li - 1) = (fi : Int) + Li - 1 := wrap_ok (by omega) (by omega)
      have e2 : IntKind.i64.wrap ((fi : Int) + Li - 1 - k) = (fi : Int) + Li - 1 - k := wrap_ok (by omega) (by omega)
      have hfd := fun W => fld0 (.int .i64 n.l) (.bool n.th) (.int .i64 n.t.id) (.int .i64 n.t.ver) (.string n.t.nm) (.slice n.ao n.t.cols.length n.c) (.int .i64 n.t.key) W
      have HK : Hid ((h.K i)[Li - 1 - k]? = some n) := hn
      clear hl hn
      go_wp2_with fail
      go_quiet (fail)
      have HW9 : Hid (Tch (fun _ => False) w1 (wr.drewN nq)) := J.out.1.drewN nq
      obtain ⟨w9, hw9⟩ : ∃ w9, w9 = wr.drewN nq := ⟨_, rfl⟩
      rw [← hw9] at HW9 ⊢
      clear d2 s1 hl' e1 e2 hfd hw9
      have e0 : (Li : Int) - k = ((Li - k : Nat) : Int) := by omega
      by_cases hle : n.l ≤ x
      · go_wp2_with fail
        go_ret
        refine ⟨?_, HT1.out.trans' HW9.out⟩
        rw [upL_eq (u := Li - k) (by have := HLi.out; omega) J.out.2 (fun j m hm hj => by
          have e3 : j = Li - 1 - k := by omega
          rw [e3, HK.out] at hm
          injection hm with hm
          subst hm
          exact hle)]
        rfl
      · have HQ : Hid (Tch (fun _ => False) w1 w9 ∧ ∀ j n, (h.K i)[j]? = some n → Li - (k + 1) ≤ j → x < n.l) := ⟨HW9.out, fun j m hm hj => by
          rcases Nat.lt_or_ge j (Li - k) with h1 | h1
          · have e3 : j = Li - 1 - k := by omega
            rw [e3, HK.out] at hm
            injection hm with hm
            subst hm
            omega
          · exact J.out.2 j m hm h1⟩
        go_wp2_with fail
        go_roundg (Li - (k + 1))
        case measure => omega
        case rel => exact ⟨k + 1, rfl, by omega, by omega, HQ⟩
    · have hk' : ¬ (k : Int) < (Li : Int) := by omega
      go_wp2_with fail
      go_ret
      refine ⟨?_, HT1.out.trans' J.out.1⟩
      rw [upL_eq (u := 0) (Nat.zero_le _) (fun j n hn _ => J.out.2 j n hn (by omega)) (fun j n _ hj => by omega)]
      rfl

theorem siz_note : (Try.prog.info? 77).map (·.size) = some 7 := by kernel_rfl
theorem set7 {w : World} {N : Nat} {t : TypeId} {x0 x1 x2 x3 x4 x5 x6 : Value} (h : w.heap[N]? = some (.cells #[x0, x1, x2, x3, x4, x5, x6] t (0, 0))) (a b c d e f g : Value) :
    (((((((w.setCell ⟨N, 0, none⟩ a).setCell ⟨N, 1, none⟩ b).setCell ⟨N, 2, none⟩ c).setCell ⟨N, 3, none⟩ d).setCell ⟨N, 4, none⟩ e).setCell ⟨N, 5, none⟩ f).setCell ⟨N, 6, none⟩ g).heap[N]? = some (.cells #[a, b, c, d, e, f, g] t (0, 0)) := by
  have h0 := blk_set (i := 0) h a
  have h1 := blk_set (i := 1) h0 b
  have h2 := blk_set (i := 2) h1 c
  have h3 := blk_set (i := 3) h2 d
  have h4 := blk_set (i := 4) h3 e
  have h5 := blk_set (i := 5) h4 f
  have h6 := blk_set (i := 6) h5 g
  rw [h6]
  simp
theorem tch7 (w : World) (N : Nat) (a b c d e f g : Value) : Tch (fun i => i = N) w (((((((w.setCell ⟨N, 0, none⟩ a).setCell ⟨N, 1, none⟩ b).setCell ⟨N, 2, none⟩ c).setCell ⟨N, 3, none⟩ d).setCell ⟨N, 4, none⟩ e).setCell ⟨N, 5, none⟩ f).setCell ⟨N, 6, none⟩ g) :=
  ((((((Tch.setCell (fun i => i = N) w ⟨N, 0, none⟩ a rfl).setCellR ⟨N, 1, none⟩ b rfl).setCellR ⟨N, 2, none⟩ c rfl).setCellR ⟨N, 3, none⟩ d rfl).setCellR ⟨N, 4, none⟩ e rfl).setCellR ⟨N, 5, none⟩ f rfl).setCellR ⟨N, 6, none⟩ g rfl
set_option maxHeartbeats 1000000 in
theorem was_w {w : World} {F : Nat → Prop} {b mb sb ns : Nat} {h : Hs} (H : HW w F b mb sb ns h) (x i : Int) (hi : inR i) (hT : h.T ≤ 140737488355328) :
    Calls Try.prog 25 #[.pointer (some ⟨b, 0, none⟩), .int .i64 x, .int .i64 i] w fun r w' => r = .returned (wasL (h.K i) x).v ∧ Tch (fun _ => False) w w' := by
  obtain ⟨N, hN⟩ : ∃ N, N = w.heap.size := ⟨_, rfl⟩
  obtain ⟨w1, hw1⟩ : ∃ w1, w1 = w.alloc (.cells #[.int .i64 0, .bool false, .int .i64 0, .int .i64 0, .string ⟨#[]⟩, .slice none 0 0, .int .i64 0] 77) := ⟨_, rfl⟩
  have t1 : Tch (fun _ => False) w w1 := by rw [hw1]; exact Tch.alloc _ _ _
  have H1 := H.tch t1 (fun _ _ e => e.elim)
  have bN : w1.heap[N]? = some (.cells #[.int .i64 0, .bool false, .int .i64 0, .int .i64 0, .string ⟨#[]⟩, .slice none 0 0, .int .i64 0] 77 (0, 0)) := by rw [hw1, hN]; exact alloc_new _ _
  have q1 := upTo_w H1 x i hi hT
  obtain ⟨u, hu⟩ : ∃ u, u = upL (h.K i) x := ⟨_, rfl⟩
  rw [← hu] at q1
  have HU : Hid (u = upL (h.K i) x) := hu
  have HW1 : Hid (w1 = _) := hw1
  have HN : Hid (N = w.heap.size) := hN
  have HH : Hid (HW w1 F b mb sb ns h) := H1
  have HB : Hid _ := bN
  have HT1 : Hid (Tch (fun _ => False) w w1) := t1
  clear hu hw1 hN H H1 t1 bN
  go_enter Try.func25, Try.ntmps25
  go_upto_region 1 with (fail)
  rw [← HW1.out, ← HN.out]
  go_wp2_with fail
  refine q1.mono ?_
  rintro e w2 ⟨rfl, t2⟩
  clear q1
  have H2 := HH.out.tch t2 (fun _ _ e => e.elim)
  have b2 := (t2.block N (blk_lt HB.out) (fun e => e)).trans HB.out
  have fr := blk_frozen b2
  have x0 := blk_cell b2 0
  have x1 := blk_cell b2 1
  have x2 := blk_cell b2 2
  have x3 := blk_cell b2 3
  have x4 := blk_cell b2 4
  have x5 := blk_cell b2 5
  have x6 := blk_cell b2 6
  have hrs : Try.f25.results = #[.cell 6 77] := by kernel_rfl
  by_cases h0 : u = 0
  · have hu0 : ((u : Int) == 0) = true := by simp [h0]
    go_wp2_with fail
    refine bodyPost_ret (results_cell_row hrs _ _ N 77 _ (0, 0) _ rfl (set7 b2 _ _ _ _ _ _ _) Try.underlying77 rfl siz_note) rfl ⟨?_, (HT1.out.trans' t2).trans (tch7 w2 N _ _ _ _ _ _ _) (fun g hg e => by have := HN.out; have e' : g = N := e; omega)⟩
    unfold wasL
    rw [if_pos (HU.out.symm.trans h0)]
    rfl
  · have hu0 : ((u : Int) == 0) = false := by simp; omega
    have hle := upL_le (h.K i) x
    rw [← HU.out] at hle
    obtain ⟨n, hn⟩ : ∃ n, (h.K i)[u - 1]? = some n := ⟨_, List.getElem?_eq_getElem (by omega)⟩
    have HK : Hid ((h.K i)[u - 1]? = some n) := hn
    obtain ⟨fi, hfi⟩ : ∃ fi, fi = h.f i := ⟨_, rfl⟩
    obtain ⟨Li, hLi⟩ : ∃ Li, Li = (h.K i).length := ⟨_, rfl⟩
    have hpl : fi + Li ≤ 140737488355328 := by have := H2.pl i; omega
    rw [← hLi] at hle
    obtain ⟨-, -, d2, d3⟩ := H2.c
    have hs : ∀ m, (Instr.lookup 71 (.map (some sb)) (.int .i64 i) false).run Try.prog (w2.drewN m) = .ok (.agg #[.int .i64 fi, .int .i64 ((fi : Int) + Li)]) (w2.drewN m) := fun m => by
      have := (H2.tch ((Tch.refl (fun _ => False) w2).drewN m) (fun _ _ e => e.elim)).span hi
      rw [← hfi, ← hLi] at this
      exact this
    have hl' : ∀ m, (Instr.lookup 70 (.map (some mb)) (.agg #[.int .i64 i, .int .i64 ((fi : Int) + u - 1)]) false).run Try.prog (w2.drewN m) = .ok n.v (w2.drewN m) := fun m => by
      have := (H2.tch ((Tch.refl (fun _ => False) w2).drewN m) (fun _ _ e => e.elim)).note (p := (fi : Int) + u - 1) hi (by rw [hfi]; omega) hn hT
      exact this
    unfold Nt.v at hl'
    have hfd := fun W => sfld0 (.int .i64 fi) (.int .i64 ((fi : Int) + Li)) W
    have e1 : IntKind.i64.wrap ((fi : Int) + u) = (fi : Int) + u := wrap_ok (by omega) (by omega)
    have e2 : IntKind.i64.wrap ((fi : Int) + u - 1) = (fi : Int) + u - 1 := wrap_ok (by omega) (by omega)
    have HB2 : Hid _ := b2
    have HT2 : Hid (Tch (fun _ => False) w w2) := HT1.out.trans' t2
    clear H2 hfi hLi hn b2 t2 h0
    go_wp2_with fail
    refine wp_region_drew_tail 17 (by kernel_rfl) (by kernel_rfl) ?_
    repeat (quiet_step (fail))
    refine wpQuiet_nil ?_
    rintro w7 ⟨q, rfl⟩
    obtain ⟨w9, hw9⟩ : ∃ w9, w9 = w2.drewN q := ⟨_, rfl⟩
    have t9 : Tch (fun _ => False) w2 w9 := by rw [hw9]; exact (Tch.refl _ _).drewN q
    rw [← hw9]
    have b9 := (t9.block N (blk_lt HB2.out) (fun e => e)).trans HB2.out
    have HB9 : Hid _ := b9
    have HT9 : Hid (Tch (fun _ => False) w w9) := HT2.out.trans' t9
    clear hw9 d2 d3 hs hl' hfd e1 e2 x0 x1 x2 x3 x4 x5 x6 fr t9
    have fr := blk_frozen b9
    have x0 := blk_cell b9 0
    have x1 := blk_cell b9 1
    have x2 := blk_cell b9 2
    have x3 := blk_cell b9 3
    have x4 := blk_cell b9 4
    have x5 := blk_cell b9 5
    have x6 := blk_cell b9 6
    clear b9
    go_wp2_with fail
    refine bodyPost_ret (results_cell_row hrs _ _ N 77 _ (0, 0) _ rfl (set7 HB9.out _ _ _ _ _ _ _) Try.underlying77 rfl siz_note) rfl ⟨?_, HT9.out.trans (tch7 w9 N _ _ _ _ _ _ _) (fun g hg e => by have := HN.out; have e' : g = N := e; omega)⟩
    unfold wasL
    rw [← HU.out, if_neg (by intro e; simp [e] at hu0), HK.out]
    rfl
end Go.Proofs.Ytececlalnkiafaa
