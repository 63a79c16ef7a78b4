import Derived.Test.YtmnhkgibplnnnaaVSrc
/- MergePlays: source.next at its end. -/
namespace Go.Proofs.Ytmnhkgibplnnnaa
open Go.RowKit Go

set_option maxHeartbeats 8000000 in
set_option maxRecDepth 1000000 in
theorem src_none (W w : World) (sb : Nat) (la : Option Addr) (lc : Nat) (L L' : List Rc) (k : Nat) (h : SW W w sb la lc L L' k) (hk : k = L'.length) (hn : L'.length ≤ 2000000) :
    Calls Try.prog 11 #[.pointer (some ⟨sb, 0, none⟩)] w fun e w' => e = .returned (.tuple #[zV, .bool false]) ∧ w'.heap[sb]? = some (.cells #[.slice la L'.length lc, .int .i64 ((k + 1 : Nat) : Int), .bool false] 48 (0, 0)) ∧ Tch (fun g => g = sb ∨ Ov L' k g) w w' := by
  obtain ⟨nl, nr⟩ := src_ne h
  obtain ⟨n, hnn⟩ : ∃ n, n = L'.length := ⟨_, rfl⟩
  obtain ⟨N, hN⟩ : ∃ N, N = w.heap.size := ⟨_, rfl⟩
  obtain ⟨w0, hw0⟩ : ∃ w0, w0 = w.alloc (.cells #[.int .i64 0, .int .i64 0, .int .i64 0, .int .i64 0, .slice none 0 0, .slice none 0 0] 27) := ⟨_, rfl⟩
  obtain ⟨w1, hw1⟩ : ∃ w1, w1 = w0.setCell ⟨sb, 1, none⟩ (.int .i64 ((k : Int) + 1)) := ⟨_, rfl⟩
  have t0 : Tch (fun _ => False) w w0 := by rw [hw0]; exact Tch.alloc _ _ _
  have bz : w0.heap[N]? = some (.cells #[.int .i64 0, .int .i64 0, .int .i64 0, .int .i64 0, .slice none 0 0, .slice none 0 0] 27 (0, 0)) := by rw [hw0, hN]; exact alloc_new _ _
  have hsb : sb < N := by rw [hN]; exact blk_lt h.blk
  have bs0 := (t0.block sb (blk_lt h.blk) (fun h => h)).trans h.blk
  have t1 : Tch (fun g => g = sb) w0 w1 := by rw [hw1]; exact Tch.setCell (fun g => g = sb) _ _ _ rfl
  have bs1 : w1.heap[sb]? = some (.cells #[.slice la L'.length lc, .int .i64 ((k : Int) + 1), .bool false] 48 (0, 0)) := by rw [hw1, blk_set bs0]; rfl
  have bz1 := (t1.block N (blk_lt bz) (by omega)).trans bz
  have own1 := own_tch (own_tch h.own t0 (fun _ _ h => h)) t1 (fun g e => nl g e)
  have el1 : ∀ (j : Nat) (c c' : Rc), L[j]? = some c → L'[j]? = some c' → k ≤ j + 1 → Cpy W 0 w1 c c' := fun j c c' h1 h2 h3 => ((h.el j c c' h1 h2 h3).keep t0 (fun _ _ h => h)).keep t1 (fun g hg => (nr j c' h2 h3 g hg).1)
  have own_c := own_cap h.own
  rw [← hnn] at own_c hn
  have hkn : k = n := by omega
  have hkn' : (k : Int) = (n : Int) := by omega
  have hkn2 : ¬ (n : Int) < (k : Int) := by omega
  have hkn3 : (n : Int) ≤ (k : Int) := by omega
  have hkn4 : (k : Int) ≤ (n : Int) := by omega
  have kw : ((k : Int) + 1 - 1) = (k : Int) := by omega
  have s1 : w0.cell? ⟨sb, 1, none⟩ = some (.int .i64 (k : Int)) := blk_cell bs0 1
  have fs := blk_frozen bs0
  -- whatever over does
  have HY : Hid (∀ (S : Nat → Prop) Wy, Tch S w1 Wy → (∀ g, S g → Ov L' k g) → Wy.cell? ⟨sb, 0, none⟩ = some (.slice la n lc) ∧ Wy.cell? ⟨sb, 1, none⟩ = some (.int .i64 ((k : Int) + 1)) ∧ Wy.heap[N]? = some (.cells #[.int .i64 0, .int .i64 0, .int .i64 0, .int .i64 0, .slice none 0 0, .slice none 0 0] 27 (0, 0)) ∧
      ∀ W5, Tch (fun g => g = N) Wy W5 → W5.heap[sb]? = some (.cells #[.slice la L'.length lc, .int .i64 ((k + 1 : Nat) : Int), .bool false] 48 (0, 0)) ∧ Tch (fun g => g = sb ∨ Ov L' k g) w W5) := fun S Wy ty hS => by
    have hSs : ¬ S sb := fun e => by
      obtain ⟨j, d, rfl, hd, hb⟩ := hS sb e
      exact (nr j d hd (Nat.le_refl _) sb hb).1 rfl
    have hSN : ¬ S N := fun e => by
      obtain ⟨j, d, rfl, hd, hb⟩ := hS N e
      have := (nr j d hd (Nat.le_refl _) N hb).2.2
      omega
    have bsY := (ty.block sb (blk_lt bs1) hSs).trans bs1
    refine ⟨by rw [blk_cell bsY, hnn]; rfl, by rw [blk_cell bsY]; rfl, (ty.block N (blk_lt bz1) hSN).trans bz1, fun W5 t5 => ?_⟩
    have tt : Tch (fun g => g = sb ∨ Ov L' k g) w W5 := (((t0.mono (fun _ _ h => h.elim)).trans t1 (fun g _ e => .inl e)).trans ty (fun g _ e => .inr (hS g e))).trans t5 (fun g hg e => by omega)
    exact ⟨(t5.block sb (blk_lt bsY) (by omega)).trans bsY, tt⟩
  have HW0 : Hid (w0 = _) := hw0
  have HW1 : Hid (w1 = _) := hw1
  have HN : Hid (N = w.heap.size) := hN
  have HE : Hid _ := And.intro el1 (And.intro h.len hnn)
  have HO1 : Hid _ := own1
  clear h nl nr hw0 hw1 t0 t1 bz bs0 bs1 bz1 own1 el1 hnn hN hk hkn hkn'
  go_enter Try.func11, Try.ntmps11
  go_upto_region 1 with (fail)
  rw [← HW0.out, ← HN.out]
  go_upto_region 2 with (fail)
  rw [← HW1.out]
  clear s1 fs
  rcases Nat.eq_zero_or_pos k with hk0 | hk0
  · have hk0' : ¬ (0 : Int) < (k : Int) := by omega
    obtain ⟨y0, y1, bz, hfin⟩ := HY.out (fun _ => False) w1 (Tch.refl _ _) (fun _ h => h.elim)
    obtain ⟨e0, e1, e2, e3, e4, e5⟩ := get6 bz
    have f5 := blk_frozen bz
    have HB : Hid _ := bz
    have HF : Hid _ := hfin
    clear bz hfin hk0
    go_wp2
    refine bodyPost_ret (res_ch2 rs_sn rfl rfl (set6 HB.out _ _ _ _ _ _)) rfl ?_
    exact ⟨rfl, HF.out _ (tch6 _ _ _ _ _ _ _ _)⟩
  · have hk0' : (0 : Int) < (k : Int) := by omega
    obtain ⟨j, hj⟩ : ∃ j, k = j + 1 := ⟨k - 1, by omega⟩
    obtain ⟨d, hd⟩ : ∃ d, L'[j]? = some d := ⟨_, List.getElem?_eq_getElem (by have := HE.out.2.2; omega)⟩
    obtain ⟨d0, hd0⟩ : ∃ d0, L[j]? = some d0 := ⟨_, List.getElem?_eq_getElem (by have := HE.out.2.2; have := HE.out.2.1; omega)⟩
    have r := HE.out.1 j d0 d hd0 hd (by omega)
    obtain ⟨y0, y1, -, -⟩ := HY.out (fun _ => False) w1 (Tch.refl _ _) (fun _ h => h.elim)
    obtain ⟨gl, e, -, hx⟩ := own_nth HO1.out hd
    obtain rfl := e
    obtain ⟨x0, x1, x2, x3, x4, x5⟩ := And.intro (hx 0 _ rfl) (And.intro (hx 1 _ rfl) (And.intro (hx 2 _ rfl) (And.intro (hx 3 _ rfl) (And.intro (hx 4 _ rfl) (hx 5 _ rfl)))))
    rw [Nat.add_zero] at x0
    have hb1 := r.ch.o.bd
    have hb2 := r.ch.n.bd
    have so := r.sm.o
    have sn := r.sm.n
    have q := lover_any d 0 _ _ w1 r.own (by omega) (by omega)
    unfold rcV at q
    have hj' : (k : Int) - 1 = (j : Int) := by omega
    have hj0 : (j : Int) < (n : Int) := by omega
    have HJ : Hid (k = j + 1 ∧ L'[j]? = some d) := ⟨hj, hd⟩
    clear hx hd hd0 r hj hb1 hb2 so sn hk0
    go_wp2_with fail
    refine q.mono ?_
    rintro e w2 ⟨rfl, t2⟩
    clear q x0 x1 x2 x3 x4 x5 y0 y1
    obtain ⟨y0, y1, bz, hfin⟩ := HY.out _ w2 t2 (fun g hg => ⟨j, d, HJ.out.1, HJ.out.2, hg⟩)
    obtain ⟨e0, e1, e2, e3, e4, e5⟩ := get6 bz
    have f5 := blk_frozen bz
    have HB : Hid _ := bz
    have HF : Hid _ := hfin
    clear bz hfin t2
    go_wp2
    refine bodyPost_ret (res_ch2 rs_sn rfl rfl (set6 HB.out _ _ _ _ _ _)) rfl ?_
    exact ⟨rfl, HF.out _ (tch6 _ _ _ _ _ _ _ _)⟩
end Go.Proofs.Ytmnhkgibplnnnaa
