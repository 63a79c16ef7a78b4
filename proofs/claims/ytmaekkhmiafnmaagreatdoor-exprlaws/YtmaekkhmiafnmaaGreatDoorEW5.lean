import Derived.Test.YtmaekkhmiafnmaaGreatDoorEW2
import Derived.Test.YtmaekkhmiafnmaaGreatDoorEV5
import Derived.BigQuiet
set_option maxHeartbeats 4000000
set_option maxRecDepth 100000
namespace Go.Proofs.YtmaekkhmiafnmaaGreatDoor
open Go.RowKit Go Go.Lib
theorem len1 {l : List Val} (h : l.length = 1) : ∃ u, l = [u] := by
  match l, h with
  | [u], _ => exact ⟨u, rfl⟩
theorem len2 {l : List Val} (h : l.length = 2) : ∃ u v, l = [u, v] := by
  match l, h with
  | [u, v], _ => exact ⟨u, v, rfl⟩
theorem len3 {l : List Val} (h : l.length = 3) : ∃ u v z, l = [u, v, z] := by
  match l, h with
  | [u, v, z], _ => exact ⟨u, v, z, rfl⟩
theorem vc_at {w : World} {g : Nat} {l : List Val} (h : At w g 0 (rcl l)) {k : Nat} {v : Val} (hk : l[k]? = some v) : VC w g (k * 3) v := by
  obtain ⟨h1, rfl⟩ := List.getElem?_eq_some_iff.1 hk
  obtain ⟨r0, r1, r2⟩ := rcl_get l k h1
  have a0 := h _ _ r0
  have a1 := h _ _ r1
  have a2 := h _ _ r2
  rw [Nat.zero_add] at a0 a1 a2
  exact ⟨a0, a1, a2⟩
theorem hk_30 (b g c : Nat) (u : Val) (l : List Val) (w : World) (h0 : w.cell? ⟨b, 0, none⟩ = some (.int .i64 30)) (h : At w g 0 (rcl (u :: l))) (hl : l.length ≤ 1000000) :
    Calls Tryz.prog 130 #[.pointer (some ⟨b, 0, none⟩), .slice (some ⟨g, 0, none⟩) (l.length + 1) c] w fun x w' => x = .returned (.tuple #[vV (hk 30 (u :: l)).1, .int .i64 (hk 30 (u :: l)).2]) ∧ Tch (fun _ => False) w w' := by
  have hbl : b < w.heap.size := cell_lt h0
  have e0 : ∀ ob, (w.alloc ob).cell? ⟨b, 0, none⟩ = some (.int .i64 30) := fun ob => by rw [World.cell?_alloc_lt _ _ _ hbl]; exact h0
  have HB : Hid (∀ W, Tch (fun _ => False) (w.alloc (.cells #[.int .i64 0, .int .i64 0, .string ⟨#[]⟩] 29)) W → OneB w.heap.size W ∧ Tch (fun _ => False) w W) := fun W t => ⟨oneB t, (Tch.alloc _ _ _).trans' t⟩
  have Hq := maxV_any u l (some ⟨g, 0, none⟩) c (w.alloc (.cells #[.int .i64 0, .int .i64 0, .string ⟨#[]⟩] 29)) (fun _ => ⟨g, 0, rfl, h.tch (Tch.alloc (fun _ => False) _ _) (fun _ h => h)⟩) hl
  obtain ⟨R, hR⟩ : ∃ R, R = maxV u l := ⟨_, rfl⟩
  rw [← hR] at Hq
  have HR : Hid (hk 30 (u :: l) = (R, 0)) := (show _ = _ from by rw [hR]; rfl)
  obtain ⟨n, hn⟩ : ∃ n, n = l.length + 1 := ⟨_, rfl⟩
  rw [← hn] at Hq ⊢
  clear hR h h0 hn hl
  go_enter Tryz.func130, Tryz.ntmps130
  go_wp2_with (go_at_call 158; refine Hq.mono ?_; rintro y v1 ⟨rfl, t1⟩; obtain ⟨⟨⟨x0, x1, x2⟩, f0, f1, f2⟩, hw⟩ := HB.out _ t1)
  obtain ⟨k0, k1, k2⟩ := box_set v1 w.heap.size _ _ _ (.int .i64 R.k) (.int .i64 R.n) (.string R.s) x0 x1 x2
  exact bodyPost_ret (res_ve (j := 4) (m := 5) (by kernel_rfl) _ _ w.heap.size R (.int .i64 0) rfl rfl k0 k1 k2) rfl ⟨by rw [HR.out], hw.trans (box_set_tch v1 w.heap.size _ _ _) (fun i hi h => by omega)⟩
theorem hk_31 (b g c : Nat) (u : Val) (l : List Val) (w : World) (h0 : w.cell? ⟨b, 0, none⟩ = some (.int .i64 31)) (h : At w g 0 (rcl (u :: l))) (hl : l.length ≤ 1000000) :
    Calls Tryz.prog 130 #[.pointer (some ⟨b, 0, none⟩), .slice (some ⟨g, 0, none⟩) (l.length + 1) c] w fun x w' => x = .returned (.tuple #[vV (hk 31 (u :: l)).1, .int .i64 (hk 31 (u :: l)).2]) ∧ Tch (fun _ => False) w w' := by
  have hbl : b < w.heap.size := cell_lt h0
  have e0 : ∀ ob, (w.alloc ob).cell? ⟨b, 0, none⟩ = some (.int .i64 31) := fun ob => by rw [World.cell?_alloc_lt _ _ _ hbl]; exact h0
  have HB : Hid (∀ W, Tch (fun _ => False) (w.alloc (.cells #[.int .i64 0, .int .i64 0, .string ⟨#[]⟩] 29)) W → OneB w.heap.size W ∧ Tch (fun _ => False) w W) := fun W t => ⟨oneB t, (Tch.alloc _ _ _).trans' t⟩
  have Hq := minV_any u l (some ⟨g, 0, none⟩) c (w.alloc (.cells #[.int .i64 0, .int .i64 0, .string ⟨#[]⟩] 29)) (fun _ => ⟨g, 0, rfl, h.tch (Tch.alloc (fun _ => False) _ _) (fun _ h => h)⟩) hl
  obtain ⟨R, hR⟩ : ∃ R, R = minV u l := ⟨_, rfl⟩
  rw [← hR] at Hq
  have HR : Hid (hk 31 (u :: l) = (R, 0)) := (show _ = _ from by rw [hR]; rfl)
  obtain ⟨n, hn⟩ : ∃ n, n = l.length + 1 := ⟨_, rfl⟩
  rw [← hn] at Hq ⊢
  clear hR h h0 hn hl
  go_enter Tryz.func130, Tryz.ntmps130
  go_wp2_with (go_at_call 159; refine Hq.mono ?_; rintro y v1 ⟨rfl, t1⟩; obtain ⟨⟨⟨x0, x1, x2⟩, f0, f1, f2⟩, hw⟩ := HB.out _ t1)
  obtain ⟨k0, k1, k2⟩ := box_set v1 w.heap.size _ _ _ (.int .i64 R.k) (.int .i64 R.n) (.string R.s) x0 x1 x2
  exact bodyPost_ret (res_ve (j := 4) (m := 5) (by kernel_rfl) _ _ w.heap.size R (.int .i64 0) rfl rfl k0 k1 k2) rfl ⟨by rw [HR.out], hw.trans (box_set_tch v1 w.heap.size _ _ _) (fun i hi h => by omega)⟩
theorem hk_any (o b g c : Nat) (l : List Val) (w : World) (ho : 4 ≤ o ∧ o ∉ [11, 12, 13, 22, 27, 29]) (ha : arOk o l.length) (h0 : w.cell? ⟨b, 0, none⟩ = some (.int .i64 (o : Nat))) (h : At w g 0 (rcl l)) (hv : ∀ v ∈ l, i64v v.n ∧ v.s.size ≤ 1000000000) (hl : l.length ≤ 1000000) :
    Calls Tryz.prog 130 #[.pointer (some ⟨b, 0, none⟩), .slice (some ⟨g, 0, none⟩) l.length c] w fun x w' => x = .returned (.tuple #[vV (hk o l).1, .int .i64 (hk o l).2]) ∧ Tch (fun _ => False) w w' := by
  have h32 := ha.1
  simp only [List.mem_cons, List.not_mem_nil, or_false, not_or] at ho
  rcases (by omega : o = 4 ∨ o = 5 ∨ o = 6 ∨ o = 7 ∨ o = 8 ∨ o = 9 ∨ o = 10 ∨ o = 14 ∨ o = 15 ∨ o = 16 ∨ o = 17 ∨ o = 18 ∨ o = 19 ∨ o = 20 ∨ o = 21 ∨ o = 23 ∨ o = 24 ∨ o = 25 ∨ o = 26 ∨ o = 28 ∨ o = 30 ∨ o = 31) with rfl | rfl | rfl | rfl | rfl | rfl | rfl | rfl | rfl | rfl | rfl | rfl | rfl | rfl | rfl | rfl | rfl | rfl | rfl | rfl | rfl | rfl
  · obtain ⟨u, rfl⟩ := len1 (show l.length = 1 from ha.2)
    exact hk_4 b g c u w h0 (vc_at h (k := 0) rfl) 
  · obtain ⟨u, v, rfl⟩ := len2 (show l.length = 2 from ha.2)
    exact hk_5 b g c u v w h0 (vc_at h (k := 0) rfl) (vc_at h (k := 1) rfl) 
  · obtain ⟨u, v, rfl⟩ := len2 (show l.length = 2 from ha.2)
    exact hk_6 b g c u v w h0 (vc_at h (k := 0) rfl) (vc_at h (k := 1) rfl) 
  · obtain ⟨u, v, rfl⟩ := len2 (show l.length = 2 from ha.2)
    exact hk_7 b g c u v w h0 (vc_at h (k := 0) rfl) (vc_at h (k := 1) rfl) 
  · obtain ⟨u, v, rfl⟩ := len2 (show l.length = 2 from ha.2)
    exact hk_8 b g c u v w h0 (vc_at h (k := 0) rfl) (vc_at h (k := 1) rfl) 
  · obtain ⟨u, v, rfl⟩ := len2 (show l.length = 2 from ha.2)
    exact hk_9 b g c u v w h0 (vc_at h (k := 0) rfl) (vc_at h (k := 1) rfl) 
  · obtain ⟨u, v, rfl⟩ := len2 (show l.length = 2 from ha.2)
    exact hk_10 b g c u v w h0 (vc_at h (k := 0) rfl) (vc_at h (k := 1) rfl) 
  · obtain ⟨u, v, rfl⟩ := len2 (show l.length = 2 from ha.2)
    exact hk_14 b g c u v w h0 (vc_at h (k := 0) rfl) (vc_at h (k := 1) rfl) (hv u (by simp)).2 (hv v (by simp)).2
  · obtain ⟨u, v, rfl⟩ := len2 (show l.length = 2 from ha.2)
    exact hk_15 b g c u v w h0 (vc_at h (k := 0) rfl) (vc_at h (k := 1) rfl) (hv u (by simp)).2 (hv v (by simp)).2
  · obtain ⟨u, v, rfl⟩ := len2 (show l.length = 2 from ha.2)
    exact hk_16 b g c u v w h0 (vc_at h (k := 0) rfl) (vc_at h (k := 1) rfl) (hv u (by simp)).1 (hv v (by simp)).1
  · obtain ⟨u, v, rfl⟩ := len2 (show l.length = 2 from ha.2)
    exact hk_17 b g c u v w h0 (vc_at h (k := 0) rfl) (vc_at h (k := 1) rfl) (hv u (by simp)).1 (hv v (by simp)).1
  · obtain ⟨u, v, rfl⟩ := len2 (show l.length = 2 from ha.2)
    exact hk_18 b g c u v w h0 (vc_at h (k := 0) rfl) (vc_at h (k := 1) rfl) (hv u (by simp)).1 (hv v (by simp)).1
  · obtain ⟨u, v, rfl⟩ := len2 (show l.length = 2 from ha.2)
    exact hk_19 b g c u v w h0 (vc_at h (k := 0) rfl) (vc_at h (k := 1) rfl) (hv u (by simp)).1 (hv v (by simp)).1
  · obtain ⟨u, v, rfl⟩ := len2 (show l.length = 2 from ha.2)
    exact hk_20 b g c u v w h0 (vc_at h (k := 0) rfl) (vc_at h (k := 1) rfl) (hv u (by simp)).1 (hv v (by simp)).1
  · obtain ⟨u, rfl⟩ := len1 (show l.length = 1 from ha.2)
    exact hk_21 b g c u w h0 (vc_at h (k := 0) rfl) (hv u (by simp)).1
  · obtain ⟨u, rfl⟩ := len1 (show l.length = 1 from by have h : few 23 ≤ l.length ∧ l.length ≤ mst 23 := ha.2; have e1 : few 23 = 1 := rfl; have e2 : mst 23 = 1 := rfl; omega)
    exact hk_23 b g c u w h0 (vc_at h (k := 0) rfl) 
  · obtain ⟨u, rfl⟩ := len1 (show l.length = 1 from by have h : few 24 ≤ l.length ∧ l.length ≤ mst 24 := ha.2; have e1 : few 24 = 1 := rfl; have e2 : mst 24 = 1 := rfl; omega)
    exact hk_24 b g c u w h0 (vc_at h (k := 0) rfl) (hv u (by simp)).1
  · obtain ⟨u, rfl⟩ := len1 (show l.length = 1 from by have h : few 25 ≤ l.length ∧ l.length ≤ mst 25 := ha.2; have e1 : few 25 = 1 := rfl; have e2 : mst 25 = 1 := rfl; omega)
    exact hk_25 b g c u w h0 (vc_at h (k := 0) rfl) (hv u (by simp)).2
  · obtain ⟨u, rfl⟩ := len1 (show l.length = 1 from by have h : few 26 ≤ l.length ∧ l.length ≤ mst 26 := ha.2; have e1 : few 26 = 1 := rfl; have e2 : mst 26 = 1 := rfl; omega)
    exact hk_26 b g c u w h0 (vc_at h (k := 0) rfl) (hv u (by simp)).2
  · obtain ⟨u, v, z, rfl⟩ := len3 (show l.length = 3 from by have h : few 28 ≤ l.length ∧ l.length ≤ mst 28 := ha.2; have e1 : few 28 = 3 := rfl; have e2 : mst 28 = 3 := rfl; omega)
    exact hk_28 b g c u v z w h0 (vc_at h (k := 0) rfl) (vc_at h (k := 1) rfl) (vc_at h (k := 2) rfl) (hv u (by simp)).2 (hv v (by simp)).1
  · have h1 : few 30 ≤ l.length := (show few 30 ≤ l.length ∧ l.length ≤ mst 30 from ha.2).1
    have e1 : few 30 = 1 := rfl
    cases l with
    | nil => simp at h1; omega
    | cons u l => exact hk_30 b g c u l w h0 h (by simp at hl; omega)
  · have h1 : few 31 ≤ l.length := (show few 31 ≤ l.length ∧ l.length ≤ mst 31 from ha.2).1
    have e1 : few 31 = 1 := rfl
    cases l with
    | nil => simp at h1; omega
    | cons u l => exact hk_31 b g c u l w h0 h (by simp at hl; omega)
end Go.Proofs.YtmaekkhmiafnmaaGreatDoor
namespace Go.Proofs.YtmaekkhmiafnmaaGreatDoor
open Go.RowKit Go Go.Lib
theorem neq_dec (a b : Val) (w : World) : (binOp .neq 29 (vV a) (vV b)).run Tryz.prog w = .ok (.bool (!decide (a = b))) w := by
  obtain ⟨d, h1, h2⟩ := ne_val a b
  rw [h2]
  by_cases h : a = b
  · rw [decide_eq_true h]
    cases d with
    | true => exact absurd h (h1.1 rfl)
    | false => rfl
  · rw [decide_eq_false h, h1.2 h]; rfl
theorem hld_11 (b g c : Nat) (u : Val) (w : World) (h0 : w.cell? ⟨b, 0, none⟩ = some (.int .i64 11)) (hu : VC w g 0 u) :
    Calls Tryz.prog 92 #[.pointer (some ⟨b, 0, none⟩), .slice (some ⟨g, 0, none⟩) 1 c] w fun x w' => x = .returned (.tuple #[vV (hldV 11 [u]).1, .int .i64 (hldV 11 [u]).2]) ∧ Tch (fun _ => False) w w' := by
  have hbl : b < w.heap.size := cell_lt h0
  have e0 : ∀ ob, (w.alloc ob).cell? ⟨b, 0, none⟩ = some (.int .i64 11) := fun ob => by rw [World.cell?_alloc_lt _ _ _ hbl]; exact h0
  have HB : Hid (∀ W, Tch (fun _ => False) (w.alloc (.cells #[.int .i64 0, .int .i64 0, .string ⟨#[]⟩] 29)) W → OneB w.heap.size W ∧ Tch (fun _ => False) w W) := fun W t => ⟨oneB t, (Tch.alloc _ _ _).trans' t⟩
  have du0 : ∀ ob, (w.alloc ob).cell? ⟨g, 0, none⟩ = some (.int .i64 u.k) := fun ob => hu.alloc ob |>.1
  have du1 : ∀ ob, (w.alloc ob).cell? ⟨g, 1, none⟩ = some (.int .i64 u.n) := fun ob => hu.alloc ob |>.2.1
  have du2 : ∀ ob, (w.alloc ob).cell? ⟨g, 2, none⟩ = some (.string u.s) := fun ob => hu.alloc ob |>.2.2
  obtain ⟨q, hq⟩ : ∃ q, q = decide (u = zV) := ⟨_, rfl⟩
  have e1 : ∀ W, (binOp .eql 29 (vV u) (.agg #[.int .i64 0, .int .i64 0, .string ⟨#[]⟩])).run Tryz.prog W = .ok (.bool q) W := fun W => by rw [hq]; exact eql_z u W
  have Hq : Hid _ := fun W => truth_any q W
  obtain ⟨R, hR⟩ : ∃ R, R = tr q := ⟨_, rfl⟩
  rw [← hR] at Hq
  have HR : Hid (hldV 11 [u] = (R, 0)) := (show _ = _ from by rw [hR, hq]; rfl)
  clear hR hq hu h0
  go_enter Tryz.func92, Tryz.ntmps92
  go_wp2_with (go_at_call 93; refine (Hq.out _).mono ?_; rintro y v1 ⟨rfl, t1⟩; obtain ⟨⟨⟨x0, x1, x2⟩, f0, f1, f2⟩, hw⟩ := HB.out _ t1)
  obtain ⟨k0, k1, k2⟩ := box_set v1 w.heap.size _ _ _ (.int .i64 R.k) (.int .i64 R.n) (.string R.s) x0 x1 x2
  exact bodyPost_ret (res_ve (j := 4) (m := 5) (by kernel_rfl) _ _ w.heap.size R (.int .i64 0) rfl rfl k0 k1 k2) rfl ⟨by rw [HR.out], hw.trans (box_set_tch v1 w.heap.size _ _ _) (fun i hi h => by omega)⟩
theorem hld_13 (b g c : Nat) (u v z : Val) (w : World) (h0 : w.cell? ⟨b, 0, none⟩ = some (.int .i64 13)) (hu : VC w g 0 u) (hv : VC w g 3 v) (hz : VC w g 6 z) :
    Calls Tryz.prog 92 #[.pointer (some ⟨b, 0, none⟩), .slice (some ⟨g, 0, none⟩) 3 c] w fun x w' => x = .returned (.tuple #[vV (hldV 13 [u, v, z]).1, .int .i64 (hldV 13 [u, v, z]).2]) ∧ Tch (fun _ => False) w w' := by
  have hbl : b < w.heap.size := cell_lt h0
  have e0 : ∀ ob, (w.alloc ob).cell? ⟨b, 0, none⟩ = some (.int .i64 13) := fun ob => by rw [World.cell?_alloc_lt _ _ _ hbl]; exact h0
  obtain ⟨w0, hw0⟩ : ∃ w0, w0 = w.alloc (.cells #[.int .i64 0, .int .i64 0, .string ⟨#[]⟩] 29) := ⟨_, rfl⟩
  have t0 : Tch (fun _ => False) w w0 := by rw [hw0]; exact Tch.alloc _ _ _
  have HB : Hid (∀ W, Tch (fun _ => False) w0 W → OneB w.heap.size W ∧ Tch (fun _ => False) w W) := fun W t => ⟨oneB (by rw [← hw0]; exact t), t0.trans' t⟩
  have hgl : g < w.heap.size := cell_lt hu.1
  have HC : Hid (∀ W, Tch (fun i => i = w.heap.size) w0 W → Tch (fun i => i = w.heap.size) w0 W ∧ W.cell? ⟨g, 0, none⟩ = some (.int .i64 u.k) ∧ W.cell? ⟨g, 1, none⟩ = some (.int .i64 u.n) ∧ W.cell? ⟨g, 2, none⟩ = some (.string u.s) ∧ W.cell? ⟨g, 3, none⟩ = some (.int .i64 v.k) ∧ W.cell? ⟨g, 4, none⟩ = some (.int .i64 v.n) ∧ W.cell? ⟨g, 5, none⟩ = some (.string v.s) ∧ W.cell? ⟨g, 6, none⟩ = some (.int .i64 z.k) ∧ W.cell? ⟨g, 7, none⟩ = some (.int .i64 z.n) ∧ W.cell? ⟨g, 8, none⟩ = some (.string z.s)) := fun W t => by
    have T : Tch (fun i => i = w.heap.size) w W := (t0.mono (fun _ _ h => h.elim)).trans' t
    exact ⟨t, (hu.tch T (by show ¬ g = w.heap.size; omega)).1, (hu.tch T (by show ¬ g = w.heap.size; omega)).2.1, (hu.tch T (by show ¬ g = w.heap.size; omega)).2.2, (hv.tch T (by show ¬ g = w.heap.size; omega)).1, (hv.tch T (by show ¬ g = w.heap.size; omega)).2.1, (hv.tch T (by show ¬ g = w.heap.size; omega)).2.2, (hz.tch T (by show ¬ g = w.heap.size; omega)).1, (hz.tch T (by show ¬ g = w.heap.size; omega)).2.1, (hz.tch T (by show ¬ g = w.heap.size; omega)).2.2⟩
  have Ho : Hid (∀ a b W, Calls Tryz.prog 128 #[vV a, vV b] W fun x w' => x = .returned (vV (ordV a b)) ∧ Tch (fun _ => False) W w') := ordered_any
  obtain ⟨R, hR⟩ : ∃ R, R = bothV (ordV v u) (ordV u z) := ⟨_, rfl⟩
  have Hb : Hid (∀ W, Calls Tryz.prog 127 #[vV (ordV v u), vV (ordV u z)] W fun x w' => x = .returned (vV R) ∧ Tch (fun _ => False) W w') := fun W => by rw [hR]; exact both_any _ _ W
  have HR : Hid (hldV 13 [u, v, z] = (R, 0)) := (show _ = _ from by rw [hR]; rfl)
  have Hw0 : Hid _ := hw0
  clear hR hu hv hz h0 hw0 t0 hgl
  go_enter Tryz.func92, Tryz.ntmps92
  go_wp2_with fail
  rw [← Hw0.out]
  clear e0
  obtain ⟨_, q0, q1, q2, q3, q4, q5, q6, q7, q8⟩ := HC.out w0 (Tch.refl _ _)
  go_region_held3 (fun W => Tch (fun i => i = w.heap.size) w0 W ∧ W.cell? ⟨g, 0, none⟩ = some (.int .i64 u.k) ∧ W.cell? ⟨g, 1, none⟩ = some (.int .i64 u.n) ∧ W.cell? ⟨g, 2, none⟩ = some (.string u.s) ∧ W.cell? ⟨g, 3, none⟩ = some (.int .i64 v.k) ∧ W.cell? ⟨g, 4, none⟩ = some (.int .i64 v.n) ∧ W.cell? ⟨g, 5, none⟩ = some (.string v.s) ∧ W.cell? ⟨g, 6, none⟩ = some (.int .i64 z.k) ∧ W.cell? ⟨g, 7, none⟩ = some (.int .i64 z.n) ∧ W.cell? ⟨g, 8, none⟩ = some (.string z.s))
    ((refine HC.out _ ?_; first | assumption | exact (Tch.refl _ _).drew | exact no_mono (by assumption) | exact (no_mono (by assumption)).trans' (box_set_tch _ _ _ _ _)))
    (first
      | (go_at_call 128; refine (Ho.out _ _ _).mono ?_; rintro y v ⟨rfl, t⟩; have V : Tch (fun _ => False) w0 v := by first | exact Tch.trans' (Tch.refl _ _) t | exact Tch.trans' (Tch.refl _ _).drew t | (refine Tch.trans' ?_ t; assumption))
      | (go_at_call 127; refine (Hb.out _).mono ?_; rintro y v9 ⟨rfl, t⟩; have V9 : Tch (fun _ => False) w0 v9 := Tch.trans' (by assumption) t; obtain ⟨⟨⟨x0, x1, x2⟩, f0, f1, f2⟩, hw⟩ := HB.out _ V9))
  all_goals
    go_wp2_with fail
    obtain ⟨k0, k1, k2⟩ := box_set v9 w.heap.size _ _ _ (.int .i64 R.k) (.int .i64 R.n) (.string R.s) x0 x1 x2
    exact bodyPost_ret (res_ve (j := 4) (m := 5) (by kernel_rfl) _ _ w.heap.size R (.int .i64 0) rfl rfl k0 k1 k2) rfl ⟨by rw [HR.out], hw.trans (box_set_tch v9 w.heap.size _ _ _) (fun i hi h => by omega)⟩
end Go.Proofs.YtmaekkhmiafnmaaGreatDoor
namespace Go.Proofs.YtmaekkhmiafnmaaGreatDoor
open Go.RowKit Go Go.Lib
theorem hld_27 (b g c : Nat) (u v : Val) (w : World) (h0 : w.cell? ⟨b, 0, none⟩ = some (.int .i64 27)) (hu : VC w g 0 u) (hv : VC w g 3 v) :
    Calls Tryz.prog 92 #[.pointer (some ⟨b, 0, none⟩), .slice (some ⟨g, 0, none⟩) 2 c] w fun x w' => x = .returned (.tuple #[vV (hldV 27 [u, v]).1, .int .i64 (hldV 27 [u, v]).2]) ∧ Tch (fun _ => False) w w' := by
  have hbl : b < w.heap.size := cell_lt h0
  obtain ⟨w0, hw0⟩ : ∃ w0, w0 = w.alloc (.cells #[.int .i64 0, .int .i64 0, .string ⟨#[]⟩] 29) := ⟨_, rfl⟩
  have t0 : Tch (fun _ => False) w w0 := by rw [hw0]; exact Tch.alloc _ _ _
  have HB : Hid (∀ W, Tch (fun _ => False) w0 W → OneB w.heap.size W ∧ Tch (fun _ => False) w W) := fun W t => ⟨oneB (by rw [← hw0]; exact t), t0.trans' t⟩
  have HC : Hid (∀ W, Tch (fun _ => False) w0 W → W.cell? ⟨b, 0, none⟩ = some (.int .i64 27) ∧ W.cell? ⟨g, 0, none⟩ = some (.int .i64 u.k) ∧ W.cell? ⟨g, 1, none⟩ = some (.int .i64 u.n) ∧ W.cell? ⟨g, 2, none⟩ = some (.string u.s) ∧ W.cell? ⟨g, 3, none⟩ = some (.int .i64 v.k) ∧ W.cell? ⟨g, 4, none⟩ = some (.int .i64 v.n) ∧ W.cell? ⟨g, 5, none⟩ = some (.string v.s)) := fun W t => by
    have T : Tch (fun _ => False) w W := t0.trans' t
    exact ⟨(T.cell (p := ⟨b, 0, none⟩) hbl (fun h => h)).trans h0, (hu.tch T (fun h => h)).1, (hu.tch T (fun h => h)).2.1, (hu.tch T (fun h => h)).2.2, (hv.tch T (fun h => h)).1, (hv.tch T (fun h => h)).2.1, (hv.tch T (fun h => h)).2.2⟩
  have e0 : ∀ ob, (w.alloc ob).cell? ⟨b, 0, none⟩ = some (.int .i64 27) := fun ob => by rw [World.cell?_alloc_lt _ _ _ hbl]; exact h0
  obtain ⟨q, hq⟩ : ∃ q, q = !decide (u = v) := ⟨_, rfl⟩
  have e1 : ∀ W, (binOp .neq 29 (vV u) (vV v)).run Tryz.prog W = .ok (.bool q) W := fun W => by rw [hq]; exact neq_dec u v W
  have HQ : Hid _ := hq
  have Hw0 : Hid _ := hw0
  clear hq hu hv h0 hw0 t0
  cases q with
  | true =>
    have HR : Hid (hldV 27 [u, v] = (u, 0)) := (show _ = _ from by
      have h : ¬ u = v := of_decide_eq_false (by have := HQ.out; revert this; cases decide (u = v) <;> simp)
      show (if u = v then zV else u, (0 : Int)) = _
      rw [if_neg h])
    go_enter Tryz.func92, Tryz.ntmps92
    go_wp2_with fail
    rw [← Hw0.out]
    clear e0
    obtain ⟨q0, q1, q2, q3, q4, q5, q6⟩ := HC.out w0 (Tch.refl _ _)
    obtain ⟨⟨⟨x0, x1, x2⟩, f0, f1, f2⟩, hw⟩ := HB.out _ (Tch.refl _ _)
    go_quiet (fail)
    obtain ⟨W, hW⟩ : ∃ W, W = w0.drewN nq := ⟨_, rfl⟩
    have tW : Tch (fun _ => False) w0 W := by rw [hW]; exact (Tch.refl _ _).drewN _
    rw [← hW]
    clear hW q0 q1 q2 q3 q4 q5 q6 x0 x1 x2 f0 f1 f2 hw
    obtain ⟨q0, q1, q2, q3, q4, q5, q6⟩ := HC.out W tW
    obtain ⟨⟨⟨x0, x1, x2⟩, f0, f1, f2⟩, hw⟩ := HB.out _ tW
    go_wp2_with fail
    obtain ⟨k0, k1, k2⟩ := box_set W w.heap.size _ _ _ (.int .i64 u.k) (.int .i64 u.n) (.string u.s) x0 x1 x2
    exact bodyPost_ret (res_ve (j := 4) (m := 5) (by kernel_rfl) _ _ w.heap.size u (.int .i64 0) rfl rfl k0 k1 k2) rfl ⟨by rw [HR.out], hw.trans (box_set_tch W w.heap.size _ _ _) (fun i hi h => by omega)⟩
  | false =>
    have HR : Hid (hldV 27 [u, v] = (zV, 0)) := (show _ = _ from by
      have h : u = v := of_decide_eq_true (by have := HQ.out; revert this; cases decide (u = v) <;> simp)
      show (if u = v then zV else u, (0 : Int)) = _
      rw [if_pos h])
    go_enter Tryz.func92, Tryz.ntmps92
    go_wp2_with fail
    rw [← Hw0.out]
    clear e0
    obtain ⟨q0, q1, q2, q3, q4, q5, q6⟩ := HC.out w0 (Tch.refl _ _)
    obtain ⟨⟨⟨x0, x1, x2⟩, f0, f1, f2⟩, hw⟩ := HB.out _ (Tch.refl _ _)
    go_quiet (fail)
    obtain ⟨W, hW⟩ : ∃ W, W = w0.drewN nq := ⟨_, rfl⟩
    have tW : Tch (fun _ => False) w0 W := by rw [hW]; exact (Tch.refl _ _).drewN _
    rw [← hW]
    clear hW q0 q1 q2 q3 q4 q5 q6 x0 x1 x2 f0 f1 f2 hw
    obtain ⟨q0, q1, q2, q3, q4, q5, q6⟩ := HC.out W tW
    obtain ⟨⟨⟨x0, x1, x2⟩, f0, f1, f2⟩, hw⟩ := HB.out _ tW
    go_wp2_with fail
    obtain ⟨k0, k1, k2⟩ := box_set W w.heap.size _ _ _ (.int .i64 zV.k) (.int .i64 zV.n) (.string zV.s) x0 x1 x2
    exact bodyPost_ret (res_ve (j := 4) (m := 5) (by kernel_rfl) _ _ w.heap.size zV (.int .i64 0) rfl rfl k0 k1 k2) rfl ⟨by rw [HR.out], hw.trans (box_set_tch W w.heap.size _ _ _) (fun i hi h => by omega)⟩
theorem hld_gen (o b g c : Nat) (l : List Val) (w : World) (ho : 4 ≤ o ∧ o ∉ [11, 12, 13, 22, 27, 29]) (ha : arOk o l.length) (h0 : w.cell? ⟨b, 0, none⟩ = some (.int .i64 (o : Nat))) (h : At w g 0 (rcl l)) (hv : ∀ v ∈ l, i64v v.n ∧ v.s.size ≤ 1000000000) (hl : l.length ≤ 1000000) :
    Calls Tryz.prog 92 #[.pointer (some ⟨b, 0, none⟩), .slice (some ⟨g, 0, none⟩) l.length c] w fun x w' => x = .returned (.tuple #[vV (hldV o l).1, .int .i64 (hldV o l).2]) ∧ Tch (fun _ => False) w w' := by
  have hbl : b < w.heap.size := cell_lt h0
  have n1 : ¬ o = 11 := fun e => ho.2 (by simp [e])
  have n2 : ¬ o = 13 := fun e => ho.2 (by simp [e])
  have n3 : ¬ o = 27 := fun e => ho.2 (by simp [e])
  obtain ⟨w0, hw0⟩ : ∃ w0, w0 = w.alloc (.cells #[.int .i64 0, .int .i64 0, .string ⟨#[]⟩] 29) := ⟨_, rfl⟩
  have t0 : Tch (fun _ => False) w w0 := by rw [hw0]; exact Tch.alloc _ _ _
  have HB : Hid (∀ W, Tch (fun _ => False) w0 W → OneB w.heap.size W ∧ Tch (fun _ => False) w W) := fun W t => ⟨oneB (by rw [← hw0]; exact t), t0.trans' t⟩
  have HC : Hid (∀ W, Tch (fun _ => False) w0 W → W.cell? ⟨b, 0, none⟩ = some (.int .i64 (o : Nat))) := fun W t => ((t0.trans' t).cell (p := ⟨b, 0, none⟩) hbl (fun h => h)).trans h0
  have e0 : ∀ ob, (w.alloc ob).cell? ⟨b, 0, none⟩ = some (.int .i64 (o : Nat)) := fun ob => by rw [World.cell?_alloc_lt _ _ _ hbl]; exact h0
  obtain ⟨q, hq⟩ : ∃ q, q = l.any (fun x => decide (x = zV)) := ⟨_, rfl⟩
  have Hc : Hid (∀ W, Tch (fun _ => False) w0 W → Calls Tryz.prog 129 #[.slice (some ⟨g, 0, none⟩) l.length c, vV zV] W fun x w' => x = .returned (.bool q) ∧ Tch (fun _ => False) W w') := fun W t => by
    rw [hq]
    exact vcontains_any zV l (some ⟨g, 0, none⟩) c W (fun _ => ⟨g, 0, rfl, h.tch (t0.trans' t) (fun _ h => h)⟩) (by omega)
  obtain ⟨R, hR⟩ : ∃ R, R = hk o l := ⟨_, rfl⟩
  have Hk : Hid (∀ W, Tch (fun _ => False) w0 W → Calls Tryz.prog 130 #[.pointer (some ⟨b, 0, none⟩), .slice (some ⟨g, 0, none⟩) l.length c] W fun x w' => x = .returned (.tuple #[vV R.1, .int .i64 R.2]) ∧ Tch (fun _ => False) W w') := fun W t => by
    rw [hR]
    exact hk_any o b g c l W ho ha (((t0.trans' t).cell (p := ⟨b, 0, none⟩) hbl (fun h => h)).trans h0) (h.tch (t0.trans' t) (fun _ h => h)) hv hl
  have HR : Hid (hldV o l = if q = true then (zV, 0) else R) := (show _ = _ from by
    unfold hldV
    rw [if_neg n1, if_neg n2, if_neg n3, hq, hR])
  have e11 : (((o : Nat) : Int) == 11) = false := by simp; omega
  have e13 : (((o : Nat) : Int) == 13) = false := by simp; omega
  have e27 : (((o : Nat) : Int) == 27) = false := by simp; omega
  have i11 : ¬ ((o : Nat) : Int) = 11 := by omega
  have i13 : ¬ ((o : Nat) : Int) = 13 := by omega
  have i27 : ¬ ((o : Nat) : Int) = 27 := by omega
  obtain ⟨n, hn⟩ : ∃ n, n = l.length := ⟨_, rfl⟩
  rw [← hn] at Hc Hk ⊢
  have Hw0 : Hid _ := hw0
  clear hq h hv h0 hw0 t0 hR ha ho hn hl n1 n2 n3
  cases q with
  | true =>
    go_enter Tryz.func92, Tryz.ntmps92
    go_wp2_with fail
    rw [← Hw0.out]
    clear e0
    have q0 := HC.out w0 (Tch.refl _ _)
    go_quiet (fail)
    obtain ⟨W, hW⟩ : ∃ W, W = w0.drewN nq := ⟨_, rfl⟩
    have tW : Tch (fun _ => False) w0 W := by rw [hW]; exact (Tch.refl _ _).drewN _
    rw [← hW]
    clear hW q0
    have q0 := HC.out W tW
    go_wp2_with (go_at_call 129; refine (Hc.out _ tW).mono ?_; rintro y v1 ⟨rfl, t1⟩; obtain ⟨⟨⟨x0, x1, x2⟩, f0, f1, f2⟩, hw⟩ := HB.out _ (Tch.trans' tW t1))
    obtain ⟨k0, k1, k2⟩ := box_set v1 w.heap.size _ _ _ (.int .i64 zV.k) (.int .i64 zV.n) (.string zV.s) x0 x1 x2
    exact bodyPost_ret (res_ve (j := 4) (m := 5) (by kernel_rfl) _ _ w.heap.size zV (.int .i64 0) rfl rfl k0 k1 k2) rfl ⟨by rw [HR.out]; rfl, hw.trans (box_set_tch v1 w.heap.size _ _ _) (fun i hi h => by omega)⟩
  | false =>
    go_enter Tryz.func92, Tryz.ntmps92
    go_wp2_with fail
    rw [← Hw0.out]
    clear e0
    have q0 := HC.out w0 (Tch.refl _ _)
    go_quiet (fail)
    obtain ⟨W, hW⟩ : ∃ W, W = w0.drewN nq := ⟨_, rfl⟩
    have tW : Tch (fun _ => False) w0 W := by rw [hW]; exact (Tch.refl _ _).drewN _
    rw [← hW]
    clear hW q0
    have q0 := HC.out W tW
    go_wp2_with (first
      | (go_at_call 129; refine (Hc.out _ tW).mono ?_; rintro y v1 ⟨rfl, t1⟩; have V1 := Tch.trans' tW t1)
      | (go_at_call 130; refine (Hk.out _ V1).mono ?_; rintro y v2 ⟨rfl, t2⟩; obtain ⟨⟨⟨x0, x1, x2⟩, f0, f1, f2⟩, hw⟩ := HB.out _ (Tch.trans' V1 t2)))
    obtain ⟨k0, k1, k2⟩ := box_set v2 w.heap.size _ _ _ (.int .i64 R.1.k) (.int .i64 R.1.n) (.string R.1.s) x0 x1 x2
    exact bodyPost_ret (res_ve (j := 4) (m := 5) (by kernel_rfl) _ _ w.heap.size R.1 (.int .i64 R.2) rfl rfl k0 k1 k2) rfl ⟨by rw [HR.out]; rfl, hw.trans (box_set_tch v2 w.heap.size _ _ _) (fun i hi h => by omega)⟩
theorem hold_any (o b g c : Nat) (l : List Val) (w : World) (ho : 4 ≤ o ∧ o ∉ [12, 22, 29]) (ha : arOk o l.length) (h0 : w.cell? ⟨b, 0, none⟩ = some (.int .i64 (o : Nat))) (h : At w g 0 (rcl l)) (hv : ∀ v ∈ l, i64v v.n ∧ v.s.size ≤ 1000000000) (hl : l.length ≤ 1000000) :
    Calls Tryz.prog 92 #[.pointer (some ⟨b, 0, none⟩), .slice (some ⟨g, 0, none⟩) l.length c] w fun x w' => x = .returned (.tuple #[vV (hldV o l).1, .int .i64 (hldV o l).2]) ∧ Tch (fun _ => False) w w' := by
  by_cases h1 : o = 11
  · subst h1
    obtain ⟨u, rfl⟩ := len1 (show l.length = 1 from ha.2)
    exact hld_11 b g c u w h0 (vc_at h (k := 0) rfl)
  by_cases h2 : o = 13
  · subst h2
    obtain ⟨u, v, z, rfl⟩ := len3 (show l.length = 3 from ha.2)
    exact hld_13 b g c u v z w h0 (vc_at h (k := 0) rfl) (vc_at h (k := 1) rfl) (vc_at h (k := 2) rfl)
  by_cases h3 : o = 27
  · subst h3
    obtain ⟨u, v, rfl⟩ := len2 (show l.length = 2 from by have h : few 27 ≤ l.length ∧ l.length ≤ mst 27 := ha.2; have e1 : few 27 = 2 := rfl; have e2 : mst 27 = 2 := rfl; omega)
    exact hld_27 b g c u v w h0 (vc_at h (k := 0) rfl) (vc_at h (k := 1) rfl)
  exact hld_gen o b g c l w ⟨ho.1, fun hm => by
    have h4 := ho.2
    simp only [List.mem_cons, List.not_mem_nil, or_false, not_or] at hm h4
    omega⟩ ha h0 h hv hl
end Go.Proofs.YtmaekkhmiafnmaaGreatDoor
