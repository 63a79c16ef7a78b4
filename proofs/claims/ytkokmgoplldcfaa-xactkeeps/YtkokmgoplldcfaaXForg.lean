/- last, the closure of forget, DeleteFunc. -/
import Derived.Test.YtkokmgoplldcfaaXFace
import Derived.Lib.SlMapFilter
import Derived.Laws.IdiomRangeMap
import Derived.Deep.LoopGhost
namespace Go.Proofs.Ytkokmgoplldcfaa
open Go.RowKit Go Go.Sort Go.Maps

/-- The greatest number of a transaction and its parts. -/
def lastX (t : Tx) : Nat := match t.ps.getLast? with
  | some p => p.x
  | none => t.x
theorem last_any (σ : Nat → Option Nat) (tb : Nat) (t : Tx) (w : World) (h : XB w σ tb t) (h64 : t.ps.length ≤ 64) : Calls Try.prog 66 #[.pointer (some ⟨tb, 0, none⟩)] w fun x w' => x = .returned (.int .i64 (lastX t)) ∧ w' = w := by
  obtain ⟨v, c0, _, c2, hv⟩ := h.c
  obtain ⟨ao, cap, rfl⟩ := row_slice hv
  obtain ⟨n, hn⟩ : ∃ n, n = t.ps.length := ⟨_, rfl⟩
  rw [← hn] at c2 h64
  by_cases h0 : n = 0
  · have HL : Hid (lastX t = t.x) := by
      show _ = _
      have : t.ps = [] := List.length_eq_zero_iff.1 (by omega)
      simp [lastX, this]
    subst h0
    clear hv hn h
    go_enter Try.func66, Try.ntmps66
    go_wp2
    go_ret
    exact ⟨by rw [HL.out]; rfl, rfl⟩
  · obtain ⟨p, hp⟩ : ∃ p, t.ps[n - 1]? = some p := ⟨_, List.getElem?_eq_getElem (by omega)⟩
    have HL : Hid (lastX t = p.x) := by
      show _ = _
      have : t.ps.getLast? = some p := by rw [List.getLast?_eq_getElem?, ← hn]; exact hp
      simp [lastX, this]
    obtain ⟨g, cap', d2, e0, _, _⟩ := h.part hp
    obtain rfl : ao = some ⟨g, 0, none⟩ := by
      rw [d2, ← hn] at c2
      injection c2 with c2
      injection c2 with c2
      exact c2.symm
    obtain ⟨k, rfl⟩ : ∃ k, n = k + 1 := ⟨n - 1, by omega⟩
    have e0' : w.cell? ⟨g, k * 3, none⟩ = some (.int .i64 p.x) := e0
    have hk0 : (0 : Int) < (k : Int) + 1 := by omega
    clear hv hn h hp d2 e0 h0
    go_enter Try.func66, Try.ntmps66
    go_wp2
    go_ret
    exact ⟨by rw [HL.out]; rfl, rfl⟩

/-- Is it forgotten? -/
def goneT (t : Tx) (below : Int) : Bool := decide (3 ≤ t.st) && decide ((lastX t : Int) < below)
theorem forget1_any (σ : Nat → Option Nat) (tb : Nat) (t : Tx) (i : Int) (kv : Value) (bb : Nat) (below : Int) (w : World) (h : XB w σ tb t) (h64 : t.ps.length ≤ 64) (hbb : w.cell? ⟨bb, 0, none⟩ = some (.int .i64 below)) :
    Calls Try.prog 65 #[kv, numV (some (tb, i)), .pointer (some ⟨bb, 0, none⟩)] w fun x w' => x = .returned (.bool (goneT t below)) ∧ Tch (fun _ => False) w w' := by
  obtain ⟨w0, hw0⟩ : ∃ w0, w0 = w.alloc (.cells #[.pointer (some ⟨tb, 0, none⟩), .int .i64 i] 72) := ⟨_, rfl⟩
  have hb : w0.heap[w.heap.size]? = some (.cells #[.pointer (some ⟨tb, 0, none⟩), .int .i64 i] 72 (0, 0)) := by rw [hw0]; exact alloc_new _ _
  have t0 : Tch (fun _ => False) w w0 := by rw [hw0]; exact Tch.alloc _ _ _
  have d0 : w0.cell? ⟨w.heap.size, 0, none⟩ = some (.pointer (some ⟨tb, 0, none⟩)) := by rw [blk_cell hb]; rfl
  have b0 : w0.cell? ⟨bb, 0, none⟩ = some (.int .i64 below) := by rw [t0.cell (p := ⟨bb, 0, none⟩) (cell_lt hbb) (fun h => h)]; exact hbb
  have q1 : ∀ q, Calls Try.prog 61 #[.pointer (some ⟨tb, 0, none⟩)] (w0.drewN q) fun e w'' => e = .returned (.bool (decide (3 ≤ t.st))) ∧ ∃ m, w'' = w0.drewN m := fun q => Calls.quiet_of_same (over_any σ tb t (w0.drewN q) (h.same (t0.drewN q)))
  have q2 : ∀ q, Calls Try.prog 66 #[.pointer (some ⟨tb, 0, none⟩)] (w0.drewN q) fun e w'' => e = .returned (.int .i64 (lastX t)) ∧ ∃ m, w'' = w0.drewN m := fun q => Calls.quiet_of_same (last_any σ tb t (w0.drewN q) (h.same (t0.drewN q)) h64)
  simp only [numV]
  have HT : Hid (∀ q, Tch (fun _ => False) w (w0.drewN q)) := fun q => t0.drewN q
  have HG : Hid (goneT t below = (decide (3 ≤ t.st) && decide ((lastX t : Int) < below))) := rfl
  obtain ⟨lx, hlx⟩ : ∃ lx, lx = lastX t := ⟨_, rfl⟩
  rw [← hlx] at q2 HG
  have Hw0 : Hid _ := hw0
  clear h h64 hbb hb t0 hlx hw0
  by_cases h3 : 3 ≤ t.st
  · rw [decide_eq_true h3] at q1 HG
    go_enter Try.func65, Try.ntmps65
    go_wp2_with fail
    have hw0 := Hw0.out
    rw [← hw0]
    clear hw0
    refine wp_region_quiet_lit (by kernel_rfl) (by kernel_rfl) ?_
    go_big_quiet_step (fail)
    go_big_quiet_step (fail)
    go_big_quiet_step ((go_at_call 61; exact q1 _))
    go_big_quiet_step (fail)
    go_big_quiet_step (fail)
    go_big_quiet_step (fail)
    go_big_quiet_step ((go_at_call 66; exact q2 _))
    repeat (go_big_quiet_step (fail))
    refine wpQuiet_nil ?_
    rintro w1 ⟨nq, rfl⟩
    go_wp2
    go_ret
    exact ⟨by rw [HG.out]; rfl, HT.out nq⟩
  · rw [decide_eq_false h3] at q1 HG
    go_enter Try.func65, Try.ntmps65
    go_wp2_with fail
    have hw0 := Hw0.out
    rw [← hw0]
    clear hw0
    refine wp_region_quiet_lit (by kernel_rfl) (by kernel_rfl) ?_
    go_big_quiet_step (fail)
    go_big_quiet_step (fail)
    go_big_quiet_step ((go_at_call 61; exact q1 _))
    repeat (go_big_quiet_step (fail))
    refine wpQuiet_nil ?_
    rintro w1 ⟨nq, rfl⟩
    go_wp2
    go_ret
    exact ⟨by rw [HG.out]; rfl, HT.out nq⟩

theorem Tch.grown {w w' : World} (h : Tch (fun _ => False) w w') : w.grownBy w' none := ⟨h.os, h.tape, h.output, h.size, fun k hk _ => h.block k hk (fun h => h)⟩
theorem num_shape {v : Value} {y : DataW Unit × List MemPlace} (h : numElem v = some y) : ∃ c : Option Addr × Int, v = .agg #[.pointer c.1, .int .i64 c.2] := by
  unfold numElem at h
  split at h
  · rename_i l
    split at h
    · rename_i hl
      exact ⟨(none, 0), by rw [← Array.toArray_toList (xs := l), hl]⟩
    · rename_i p i hl
      exact ⟨(some p, i), by rw [← Array.toArray_toList (xs := l), hl]⟩
    · cases h
  · cases h

set_option maxHeartbeats 4000000 in
set_option maxRecDepth 100000 in
theorem df_any (pd : Lit → DataW Unit → Bool) (cb : Value) (mb n : Nat) (D : DataW Unit) (w : World) (hown : w.ownsMap Try.prog 3 numElem mb n D)
    (hdel : ∀ (W : World) (key val : Value) (kl : Lit) (yd : DataW Unit) (yp : List MemPlace), w.grownBy W (some mb) → keyOf Try.prog 3 key = some kl → numElem val = some (yd, yp) → (∃ left, ∀ zd, (Fk pd (match D with | .map es => es | _ => []) left).atKey kl zd = yd) →
      Calls Try.prog 65 #[key, val, cb] W fun e w' => e = .returned (.bool (pd kl yd)) ∧ W.grownBy w' none) :
    Calls Try.prog 64 #[.map (some mb), .func (.func 65) #[] #[cb]] w fun e w' => e = .returned (.tuple #[]) ∧ w'.ownsMap Try.prog 3 numElem mb n (Lib.deleteFuncD pd D) ∧ w.grownBy w' (some mb) := by
  obtain ⟨es0, rfl, hap, hkeys⟩ := hown.entries law_int
  have HD : Hid _ := hdel
  clear hdel
  go_enter Try.func64, Try.ntmps64
  go_wp2_with (first
    | (at_range; refine wpList_range_own _ rfl _ 64 rfl 3 72 law_int Try.underlying64 numElem mb n _ rfl hown ?_; intro w0 hrg0 hg0 hs0)
    | go_in)
  go_loopw [8] (fun _ wr => ∃ (left : Lit → Bool) (cnt : Nat), wr.ranges Try.prog 3 numElem mb w.heap.size n (Fk pd es0 left) left cnt ∧ w.grownBy wr (some mb))
    (fun _ wr => wr.rangeLeft mb w.heap.size)
  case atStart => exact ⟨_, _, by rw [Fk_start hkeys]; exact hrg0, hg0.but _⟩
  case round =>
    obtain ⟨left, cnt, hrg, hgw⟩ := hrel
    go_wp2_with (first
      | (at_next; refine wpList_next_ranges _ rfl _ rfl 3 law_int numElem id id (fun key _ _ => ⟨key, rfl⟩) (fun v _ _ => ⟨v, rfl⟩) mb w.heap.size n _ _ _ rfl hrg ?_ ?_)
      | go_in)
    · intro _ hl0
      go_wp2
      go_end0
      exact ⟨rfl, by rw [← Fk_end hl0]; exact hrg.owns, hgw⟩
    · intro x c kl yd yp w1 cnt1 hkey hlx hv hat hrg1 hlt hg1 hs1 hen
      have hv' : numElem c = some (yd, yp) := hv
      obtain ⟨⟨p, i⟩, rfl⟩ := num_shape hv'
      have hgw1 := hgw.andThen hg1 (fun j hj => by cases hj; exact Or.inl (Nat.le_refl _))
      obtain ⟨w2, hw2⟩ : ∃ w2, w2 = w1.alloc (.cells #[.pointer p, .int .i64 i] 72) := ⟨_, rfl⟩
      have hga : w1.grownBy w2 none := by rw [hw2]; exact World.grownBy_alloc w1 _ none
      have hgw2 := hgw1.andThen hga (fun j hj => by cases hj)
      have hc := HD.out w2 x _ kl yd yp hgw2 hkey hv' ⟨left, hat⟩
      have hrg2 := hrg1.kept hga (by simp) (by simp)
      have hb2 : w2.heap[w1.heap.size]? = some (.cells #[.pointer p, .int .i64 i] 72 (0, 0)) := by rw [hw2]; exact alloc_new _ _
      have Hw2 : Hid _ := hw2
      cases hp : pd kl yd <;> rw [hp] at hc
      · clear hw2
        go_wp2_with fail
        have hw2 := Hw2.out
        rw [← hw2]
        clear hw2
        refine hc.mono ?_
        rintro e w3 ⟨rfl, hg3⟩
        have hrg3 := hrg2.kept hg3 (by simp) (by simp)
        go_wp2_with fail
        go_roundw
        case rel => exact ⟨_, cnt1, by rw [← Fk_stays hap (law_int.key hkey) hlx hp hat]; exact hrg3, hgw2.andThen hg3 (fun j hj => by cases hj)⟩
        case measure => rw [hrg3.left_eq, hrg.left_eq]; exact hlt
      · clear hw2
        go_wp2_with fail
        have hw2 := Hw2.out
        rw [← hw2]
        clear hw2
        refine hc.mono ?_
        rintro e w3 ⟨rfl, hg3⟩
        have hrg3 := hrg2.kept hg3 (by simp) (by simp)
        go_wp2_with (first
          | (at_delete; refine wpList_delete_ranges _ rfl _ _ 64 3 rfl 72 law_int Try.underlying64 numElem mb w.heap.size n _ _ _ rfl hrg3 _ _ rfl hkey ?_; intro w4 cnt4 hrg4 hle hturn; go_frame)
          | go_in)
        rw [strike_twice] at hrg4
        go_roundw
        case rel => exact ⟨_, cnt4, by rw [← Fk_struck hap (law_int.key hkey) hlx hp hat]; exact hrg4, (hgw2.andThen hg3 (fun j hj => by cases hj)).andThen hturn.grown (fun j hj => by cases hj; exact Or.inr rfl)⟩
        case measure => rw [hrg4.left_eq, hrg.left_eq]; omega
end Go.Proofs.Ytkokmgoplldcfaa
