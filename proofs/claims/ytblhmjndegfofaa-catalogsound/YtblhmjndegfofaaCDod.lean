import Derived.Test.YtblhmjndegfofaaCDo0
/- does, a dropping. -/
namespace Go.Proofs.Ytblhmjndegfofaa
open Go.RowKit Go

set_option maxHeartbeats 4000000 in
set_option maxRecDepth 100000 in
theorem does_drop (b : Nat) (d : Dd) (E : Int) (R : World → World → Prop) (w : World) (hd : d.ok) (hk : pk d.k 4 = 2)
    (hq : ∀ W, Tch (fun _ => False) w W → Calls Try.prog 49 #[.pointer (some ⟨b, 0, none⟩), .string (nmS (pk d.nm 6))] W fun y w' => Shp E y ∧ R W w')
    (hR : ∀ W W' W'', Tch (fun _ => False) w W → R W W' → Tch (fun _ => False) W' W'' → R w W'') :
    Calls Try.prog 17 #[.pointer (some ⟨b, 0, none⟩), .agg #[.int .i64 d.k, .int .i64 d.nm, .int .i64 d.n, .int .i64 d.m]] w fun x w' => x = .returned (.int .i64 E) ∧ R w w' := by
  obtain ⟨N, hN⟩ : ∃ N, N = w.heap.size := ⟨_, rfl⟩
  obtain ⟨w0, hw0⟩ : ∃ w0, w0 = (w.alloc (.cells #[.int .i64 d.k, .int .i64 d.nm, .int .i64 d.n, .int .i64 d.m] 56)).alloc (.cells #[.int .i64 1, .int .i64 2, .int .i64 3] 3) := ⟨_, rfl⟩
  have t0 : Tch (fun _ => False) w w0 := by rw [hw0]; exact (Tch.alloc _ _ _).allocR _
  have hX : w0.heap[N]? = some (.cells #[.int .i64 d.k, .int .i64 d.nm, .int .i64 d.n, .int .i64 d.m] 56 (0, 0)) := by
    rw [hw0, hN]; exact (Tch.alloc (fun _ => False) _ _).block _ (by simp) (fun h => h) |>.trans (alloc_new _ _)
  have q0 := pk4_any d.k hd.1.1 hd.1.2 w0
  rw [hk] at q0
  have q1 := nameK_any d.nm hd.2.1.1 hd.2.1.2 w0
  have a1 : w0.cell? ⟨N, 1, none⟩ = some (.int .i64 d.nm) := by rw [blk_cell hX]; rfl
  have Hw0 : Hid _ := hw0
  have HN : Hid (N = w.heap.size) := hN
  have Ht0 : Hid (Tch (fun _ => False) w w0) := t0
  have HR : Hid _ := hR
  have Hq : Hid _ := hq
  have Hd : Hid _ := hd
  clear hN hw0 t0 hR hq hd hX hk
  go_enter Try.func17, Try.ntmps17
  go_wp2_with fail
  have hw0 := Hw0.out
  rw [← hw0]
  clear hw0
  refine q0.mono ?_
  rintro y w1 ⟨rfl, hw1⟩
  obtain rfl := hw1.symm
  clear hw1 q0
  rw [HN.out] at a1
  go_wp2_with fail
  refine q1.mono ?_
  rintro y w2 ⟨rfl, t2⟩
  clear q1 a1
  have Ht2 : Hid (Tch (fun _ => False) w w2) := Ht0.out.trans' t2
  clear t2
  go_wp2_with fail
  refine (Hq.out w2 Ht2.out).mono ?_
  rintro y v5 ⟨⟨i, j, s, vo, vn, vc, kk, rfl⟩, r5⟩
  have Hr5 : Hid (R w2 v5) := r5
  clear r5
  go_wp2_with fail
  go_ret
  exact ⟨rfl, HR.out _ _ _ Ht2.out Hr5.out (Tch.alloc _ _ _)⟩
end Go.Proofs.Ytblhmjndegfofaa
