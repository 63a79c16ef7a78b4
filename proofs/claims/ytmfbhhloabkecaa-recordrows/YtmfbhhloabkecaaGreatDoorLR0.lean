import Derived.Test.YtmfbhhloabkecaaGreatDoorLL
import Derived.Test.YtmfbhhloabkecaaGreatDoorLP0
import Derived.Test.YtmfbhhloabkecaaGreatDoorCWlaw
/- RecordRows: what it reads of its records; small laws. -/
namespace Go.Proofs.YtmfbhhloabkecaaGreatDoor.C
open Go.RowKit Go Go.Sort

theorem info_rec : (Tryz.prog.info? 37).map (fun i => (i.zero, i.size, i.bytes)) = some (some (.agg #[.int .i64 0, .int .i64 0, .int .i64 0, .int .i64 0, .slice none 0 0, .slice none 0 0, .string ⟨#[]⟩, .int .i64 0, .int .i64 0, .int .i64 0, .string ⟨#[]⟩, .slice none 0 0, .int .i64 0, .slice none 0 0]), 14, 192) := by kernel_rfl
theorem rw_shape {W : World} {k x : Int} {t : Tbl} {vo : Option Addr} {vc base : Nat} (h : W.ownsRow base 43 3 (.slice vo t.cols.length vc) t.cols.length (ccl t.cols)) (hl : t.cols.length ≤ 8) : RW W (fun _ => False) { rc0 k with x := x, tb := t } { sk0 with co := vo, cc := vc } := by
  obtain ⟨co, cc, hck⟩ := own_ck (p := (t, .slice vo t.cols.length vc)) h
  have e := hck.eq
  simp only [Value.slice.injEq] at e
  obtain ⟨e1, _, e2⟩ := e
  subst e1 e2
  have n0 : ∀ v ∈ ([] : List Val), v.i64 := fun v hv => by simp at hv
  have z0 : (0 : Nat) ≤ 9223372036854775807 := Nat.zero_le _
  exact ⟨sl_nil W _ rfl, sl_nil W _ rfl, ⟨hck.eq, hck.sl, hck.no, hck.cap, fun h1 g o e => ⟨fun h => h, (hck.nf h1 g o e).2⟩⟩, tl_nil W _, rfl, fun h => absurd rfl h, fun h => absurd rfl h, n0, n0, z0, z0, (show t.cols.length ≤ _ by omega), z0, fun i hi => absurd hi (Nat.not_lt_zero i)⟩
theorem rw_check {W : World} {x n : Int} {t : Tbl} {tw : Option Addr} {tc base : Nat} {Q : List (Tbl × Value)} (h : TO W base (.slice tw Q.length tc) Q) (he : Q.map Prod.fst = [t]) (hl : t.cols.length ≤ 8) : RW W (fun _ => False) { rc0 15 with x := x, t := n, tbs := [t] } { sk0 with P := Q, «to» := tw, tc := tc } := by
  have n0 : ∀ v ∈ ([] : List Val), v.i64 := fun v hv => by simp at hv
  have z0 : (0 : Nat) ≤ 9223372036854775807 := Nat.zero_le _
  have hQ : Q.length = 1 := by have := congrArg List.length he; simpa using this
  refine ⟨sl_nil W _ rfl, sl_nil W _ rfl, ck_nil W _, h.toTL.fresh (fun _ _ h => h.elim), he, fun h => absurd rfl h, fun h => absurd rfl h, n0, n0, z0, z0, z0, (show Q.length ≤ _ by omega), fun i hi => ?_⟩
  have hi : i < Q.length := hi
  have h1 : Q[i].1 ∈ Q.map Prod.fst := List.mem_map_of_mem (List.getElem_mem hi)
  rw [he] at h1
  show Q[i].1.cols.length ≤ _
  rw [List.mem_singleton.1 h1]; omega
theorem rw_rows {W : World} {k x ti : Int} {al : List Val} {ao : Option Addr} {ac base : Nat} (h : W.ownsRow base 58 3 (.slice ao al.length ac) al.length (vcl al)) (hl : al.length ≤ 8) (hi : ∀ v ∈ al, v.i64) :
    RW W (fun _ => False) { rc0 k with x := x, t := ti, n := al } { sk0 with no := ao, nc := ac } ∧ RW W (fun _ => False) { rc0 k with x := x, t := ti, o := al } { sk0 with oo := ao, oc := ac } ∧ RW W (fun _ => False) { rc0 k with x := x, t := ti, o := al, n := al } { sk0 with oo := ao, oc := ac, no := ao, nc := ac } := by
  have n0 : ∀ v ∈ ([] : List Val), v.i64 := fun v hv => by simp at hv
  have z0 : (0 : Nat) ≤ 9223372036854775807 := Nat.zero_le _
  have zl : al.length ≤ 9223372036854775807 := by omega
  have hs := own_sl h
  have p0 : ∀ i (hi : i < ([] : List (Tbl × Value)).length), ([] : List (Tbl × Value))[i].1.cols.length ≤ 9223372036854775807 := fun i hi => by simp at hi
  exact ⟨⟨sl_nil W _ rfl, hs, ck_nil W _, tl_nil W _, rfl, fun h => absurd rfl h, fun _ _ _ _ h => h, n0, hi, z0, zl, z0, z0, p0⟩, ⟨hs, sl_nil W _ rfl, ck_nil W _, tl_nil W _, rfl, fun _ _ _ _ h => h, fun h => absurd rfl h, hi, n0, zl, z0, z0, z0, p0⟩, ⟨hs, hs, ck_nil W _, tl_nil W _, rfl, fun _ _ _ _ h => h, fun _ _ _ _ h => h, hi, hi, zl, zl, z0, z0, p0⟩⟩
theorem own_two {W : World} (a b : Rc × Sk) : (W.alloc (.cells (rcl [a, b]).toArray 37)).ownsRow W.heap.size 37 14 (.slice (some ⟨W.heap.size, 0, none⟩) 2 2) 2 (rcl [a, b]) := by
  refine ⟨rfl, Or.inr ⟨W.heap.size, 2, _, rfl, Nat.le_refl _, heap_new W _, Nat.le_refl _, by unfold maxLen; omega, rfl, ?_⟩⟩
  rfl
theorem rcs_one (p : Rc × Sk) : ∀ u ∈ rcs p, u.oneCell' = true := fun u hu => by
  simp only [rcs, List.mem_cons, List.not_mem_nil, or_false] at hu
  rcases hu with rfl | rfl | rfl | rfl | rfl | rfl | rfl | rfl | rfl | rfl | rfl | rfl | rfl | rfl <;> rfl
theorem rcl_one (l : List (Rc × Sk)) : ∀ u ∈ rcl l, u.oneCell' = true := fun u hu => by
  obtain ⟨p, _, h⟩ := List.mem_flatMap.1 hu
  exact rcs_one p u h
theorem rcl_append (l m : List (Rc × Sk)) : rcl (l ++ m) = rcl l ++ rcl m := by simp [rcl]
theorem pos_one {P : List (Tbl × Value)} {T : Tbl} (h : P.map Prod.fst = [T]) : posP (fun t => decide (t.nm = T.nm)) P = (0 : Nat) ∧ 0 < P.length ∧ ∀ (hk : 0 < P.length), P[0].1 = T := by
  have hl : P.length = 1 := by have := congrArg List.length h; simpa using this
  obtain ⟨p, rfl⟩ : ∃ p, P = [p] := List.length_eq_one_iff.1 hl
  have e : p.1 = T := by simpa using h
  refine ⟨?_, by simp, fun _ => e⟩
  exact posP_some (k := 0) (by simp) (by simp [e]) (fun i hi hi2 => by omega)
end Go.Proofs.YtmfbhhloabkecaaGreatDoor.C
