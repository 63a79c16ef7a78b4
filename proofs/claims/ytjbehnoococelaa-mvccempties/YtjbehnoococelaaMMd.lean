import Derived.Test.YtjbehnoococelaaMSt
/- model. -/
namespace Go.Proofs.Ytjbehnoococelaa
open Go.RowKit Go Go.Sort Go.Maps

set_option maxHeartbeats 4000000 in
set_option maxRecDepth 100000 in
theorem model_any (w : World) : Calls Try.prog 5 #[] w fun x w' => ∃ qb hb mb, x = .returned (.pointer (some ⟨qb, 0, none⟩)) ∧ ∃ o, St w w' hb mb ⟨1, [], []⟩ [] 0 [(qb, o)] ∧ w'.cell? ⟨qb, 0, none⟩ = some (.pointer (some ⟨mb, 0, none⟩)) ∧ w'.cell? ⟨qb, 1, none⟩ = some (.pointer (some ⟨hb, 0, none⟩)) := by
  have qN := new_ok 1 w (by omega) (by omega)
  go_enter Try.func5, Try.ntmps5
  go_wp2_with fail
  refine qN.mono ?_
  rintro x w1 ⟨⟨mb, rfl, hmb, hM⟩, t1⟩
  clear qN
  have hM1 := hM (fun i => i < w.heap.size) (fun _ h => h)
  have qH := mnew_any mb ⟨1, [], []⟩ w1 _ hM1
  clear hM hM1
  go_wp2_with fail
  refine qH.mono ?_
  rintro x w2 ⟨⟨hb, rfl, hhb, hS⟩, t2⟩
  clear qH
  have ST2 : Hid (St w w2 hb mb ⟨1, [], []⟩ [] 0 []) := St.first hS (t1.trans' t2)
  clear hS t1 t2 hmb hhb
  go_wp2
  go_ret
  have st := ST2.out.alloc (.cells ((Try.zeroCells37.setIfInBounds 0 (.pointer (some ⟨mb, 0, none⟩))).setIfInBounds 1 (.pointer (some ⟨hb, 0, none⟩))) 37)
  refine ⟨w2.heap.size, hb, mb, rfl, _, st, ?_, ?_⟩
  · rw [blk_cell (alloc_new _ _)]; rfl
  · rw [blk_cell (alloc_new _ _)]; rfl
end Go.Proofs.Ytjbehnoococelaa
