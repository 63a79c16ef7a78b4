import Derived.Test.YtmnhkgibplnnnaaGPop
import Derived.Deep.RegionWith
/- Changes in the world; own, of a change without rows. -/
namespace Go.Proofs.Ytmnhkgibplnnnaa
open Go.RowKit Go

/-- A change without rows. -/
structure Kc where
  l : Int
  x : Int
  k : Int
  t : Int
def kcV (c : Kc) : Value := .agg #[.int .i64 c.l, .int .i64 c.x, .int .i64 c.k, .int .i64 c.t, .slice none 0 0, .slice none 0 0]
theorem veq_nil (w : World) : (binOp .eql 25 (.slice none 0 0) (.slice none 0 0)).run Try.prog w = .ok (.bool true) w := Lib.run_eql_slice_nil_nil w 0 0 Try.underlying25
theorem clone_nil (w : World) : Calls Try.prog 32 #[.slice none 0 0] w fun x w' => x = .returned (.slice none 0 0) ∧ w' = w := by
  have he := veq_nil
  go_enter Try.func32, Try.ntmps32
  go_wp2
  go_ret
  exact ⟨rfl, rfl⟩
theorem rs_own : Try.f29.results = #[.cell 2 27] := by kernel_rfl
theorem res_ch {fn : Func} {tmps : Array Value} {W : World} {B k : Nat} {a b c d e f : Value} (hrs : fn.results = #[.cell k 27]) (hk : tmps[k]?.getD undef = .pointer (some ⟨B, 0, none⟩))
    (hb : W.heap[B]? = some (.cells #[a, b, c, d, e, f] 27 (0, 0))) :
    (results fn tmps).run Try.prog W = .ok (.agg #[a, b, c, d, e, f]) W := by
  have c0 : W.cell? ⟨B, 0, none⟩ = some a := by rw [blk_cell hb]; rfl
  have c1 : W.cell? ⟨B, 1, none⟩ = some b := by rw [blk_cell hb]; rfl
  have c2 : W.cell? ⟨B, 2, none⟩ = some c := by rw [blk_cell hb]; rfl
  have c3 : W.cell? ⟨B, 3, none⟩ = some d := by rw [blk_cell hb]; rfl
  have c4 : W.cell? ⟨B, 4, none⟩ = some e := by rw [blk_cell hb]; rfl
  have c5 : W.cell? ⟨B, 5, none⟩ = some f := by rw [blk_cell hb]; rfl
  simp only [results, hrs]
  go_simp
theorem res_ch2 {fn : Func} {tmps : Array Value} {W : World} {B k j : Nat} {a b c d e f v : Value} (hrs : fn.results = #[.cell k 27, .tmp j]) (hk : tmps[k]?.getD undef = .pointer (some ⟨B, 0, none⟩)) (hj : tmps[j]?.getD undef = v)
    (hb : W.heap[B]? = some (.cells #[a, b, c, d, e, f] 27 (0, 0))) :
    (results fn tmps).run Try.prog W = .ok (.tuple #[.agg #[a, b, c, d, e, f], v]) W := by
  have c0 : W.cell? ⟨B, 0, none⟩ = some a := by rw [blk_cell hb]; rfl
  have c1 : W.cell? ⟨B, 1, none⟩ = some b := by rw [blk_cell hb]; rfl
  have c2 : W.cell? ⟨B, 2, none⟩ = some c := by rw [blk_cell hb]; rfl
  have c3 : W.cell? ⟨B, 3, none⟩ = some d := by rw [blk_cell hb]; rfl
  have c4 : W.cell? ⟨B, 4, none⟩ = some e := by rw [blk_cell hb]; rfl
  have c5 : W.cell? ⟨B, 5, none⟩ = some f := by rw [blk_cell hb]; rfl
  simp only [results, hrs]
  go_simp
set_option maxHeartbeats 4000000 in
set_option maxRecDepth 1000000 in
theorem own_nil (c : Kc) (w : World) : Calls Try.prog 29 #[kcV c] w fun e w' => e = .returned (kcV c) ∧ Tch (fun _ => False) w w' := by
  obtain ⟨w1, hw1⟩ : ∃ w1, w1 = (w.alloc (.cells #[.int .i64 c.l, .int .i64 c.x, .int .i64 c.k, .int .i64 c.t, .slice none 0 0, .slice none 0 0] 27)).alloc (.cells #[.int .i64 0, .int .i64 0, .int .i64 0, .int .i64 0, .slice none 0 0, .slice none 0 0] 27) := ⟨_, rfl⟩
  have HW : Hid (w1 = _) := hw1
  have t1 : Tch (fun _ => False) w w1 := by rw [hw1]; exact (Tch.alloc _ _ _).allocR _
  have b0 : w1.heap[w.heap.size]? = some (.cells #[.int .i64 c.l, .int .i64 c.x, .int .i64 c.k, .int .i64 c.t, .slice none 0 0, .slice none 0 0] 27 (0, 0)) := by
    rw [hw1, (Tch.alloc (fun _ => False) _ _).block _ (by simp) (fun h => h)]; exact alloc_new _ _
  have b1 : w1.heap[w.heap.size + 1]? = some (.cells #[.int .i64 0, .int .i64 0, .int .i64 0, .int .i64 0, .slice none 0 0, .slice none 0 0] 27 (0, 0)) := by
    rw [hw1, ← World.size_alloc]; exact alloc_new _ _
  have c4 : w1.cell? ⟨w.heap.size, 4, none⟩ = some (.slice none 0 0) := blk_cell b0 4
  have c5 : w1.cell? ⟨w.heap.size, 5, none⟩ = some (.slice none 0 0) := blk_cell b0 5
  have f0 := blk_frozen b0
  have q := clone_nil
  have HB : Hid _ := And.intro b0 (And.intro b1 t1)
  clear b0 b1 t1 hw1
  unfold kcV
  go_enter Try.func29, Try.ntmps29
  go_wp2_with fail
  rw [← HW.out]
  go_region_with (go_at_call 32; refine (q _).mono ?_; rintro e w1 ⟨rfl, rfl⟩)
  all_goals
    obtain ⟨w2, hw2⟩ : ∃ w2, w2 = ((w1.setCell ⟨w.heap.size, 4, none⟩ (.slice none 0 0)).setCell ⟨w.heap.size, 5, none⟩ (.slice none 0 0)).drew := ⟨_, rfl⟩
    rw [← hw2]
    have t2 : Tch (fun i => i = w.heap.size) w1 w2 := by rw [hw2]; exact ((Tch.setCell (fun i => i = w.heap.size) _ _ _ rfl).setCellR _ _ rfl).drew
    have b2 : w2.heap[w.heap.size]? = some (.cells #[.int .i64 c.l, .int .i64 c.x, .int .i64 c.k, .int .i64 c.t, .slice none 0 0, .slice none 0 0] 27 (0, 0)) := by
      rw [hw2]; exact blk_set (blk_set HB.out.1 _) _
    have b3 := (t2.block (w.heap.size + 1) (blk_lt HB.out.2.1) (by omega)).trans HB.out.2.1
    have HT : Hid (Tch (fun _ => False) w w2) := HB.out.2.2.trans t2 (fun i hi e => by omega)
    have d0 : w2.cell? ⟨w.heap.size, 0, none⟩ = some (.int .i64 c.l) := blk_cell b2 0
    have d1 : w2.cell? ⟨w.heap.size, 1, none⟩ = some (.int .i64 c.x) := blk_cell b2 1
    have d2 : w2.cell? ⟨w.heap.size, 2, none⟩ = some (.int .i64 c.k) := blk_cell b2 2
    have d3 : w2.cell? ⟨w.heap.size, 3, none⟩ = some (.int .i64 c.t) := blk_cell b2 3
    have d4 : w2.cell? ⟨w.heap.size, 4, none⟩ = some (.slice none 0 0) := blk_cell b2 4
    have d5 : w2.cell? ⟨w.heap.size, 5, none⟩ = some (.slice none 0 0) := blk_cell b2 5
    have e0 : w2.cell? ⟨w.heap.size + 1, 0, none⟩ = some (.int .i64 0) := blk_cell b3 0
    have e1 : w2.cell? ⟨w.heap.size + 1, 1, none⟩ = some (.int .i64 0) := blk_cell b3 1
    have e2 : w2.cell? ⟨w.heap.size + 1, 2, none⟩ = some (.int .i64 0) := blk_cell b3 2
    have e3 : w2.cell? ⟨w.heap.size + 1, 3, none⟩ = some (.int .i64 0) := blk_cell b3 3
    have e4 : w2.cell? ⟨w.heap.size + 1, 4, none⟩ = some (.slice none 0 0) := blk_cell b3 4
    have e5 : w2.cell? ⟨w.heap.size + 1, 5, none⟩ = some (.slice none 0 0) := blk_cell b3 5
    have f3 := blk_frozen b3
    have B3 : Hid _ := b3
    clear hw2 t2 b2 b3 c4 c5 f0 q
    go_wp2
    refine bodyPost_ret (res_ch rs_own rfl (by rw [blk_set (blk_set (blk_set (blk_set (blk_set (blk_set B3.out _) _) _) _) _) _]; rfl)) rfl ?_
    exact ⟨rfl, HT.out.trans ((((((Tch.setCell (fun i => i = w.heap.size + 1) _ _ _ rfl).setCellR _ _ rfl).setCellR _ _ rfl).setCellR _ _ rfl).setCellR _ _ rfl).setCellR _ _ rfl) (fun i hi e => by omega)⟩
end Go.Proofs.Ytmnhkgibplnnnaa
