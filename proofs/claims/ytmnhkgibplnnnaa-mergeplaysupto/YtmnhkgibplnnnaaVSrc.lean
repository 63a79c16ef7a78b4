import Derived.Test.YtmnhkgibplnnnaaVOver
import Derived.Test.YtmnhkgibplnnnaaUMl2
/- MergePlays: a row that is asked: source.next. -/
namespace Go.Proofs.Ytmnhkgibplnnnaa
open Go.RowKit Go

/-- A source whose list is L, held as L'; k calls were made, it has not said false. -/
structure SW (W w : World) (sb : Nat) (la : Option Addr) (lc : Nat) (L L' : List Rc) (k : Nat) : Prop where
  blk : w.heap[sb]? = some (.cells #[.slice la L'.length lc, .int .i64 k, .bool false] 48 (0, 0))
  own : w.ownsRow 0 27 6 (.slice la L'.length lc) L'.length (kcl L')
  len : L.length = L'.length
  el : ∀ (j : Nat) (c c' : Rc), L[j]? = some c → L'[j]? = some c' → k ≤ j + 1 → Cpy W 0 w c c'
  dis : ∀ (i j : Nat) (c c' : Rc), L'[i]? = some c → L'[j]? = some c' → i ≠ j → ∀ g, Bk c g → ¬ Bk c' g
  kn : k ≤ L'.length
/-- The blocks of what was told last. -/
def Ov (L' : List Rc) (k g : Nat) : Prop := ∃ (j : Nat) (d : Rc), k = j + 1 ∧ L'[j]? = some d ∧ Bk d g
/-- Its blocks. -/
def Fs (sb : Nat) (la : Option Addr) (lc : Nat) (L' : List Rc) (k g : Nat) : Prop := g = sb ∨ (Value.slice la L'.length lc).ownBlock = some g ∨ ∃ (j : Nat) (c' : Rc), L'[j]? = some c' ∧ k ≤ j + 1 ∧ Bk c' g
theorem Cpy.keep {S : Nat → Prop} {W : World} {base : Nat} {w w' : World} {c c' : Rc} (h : Cpy W base w c c') (t : Tch S w w') (hS : ∀ g, Bk c' g → ¬ S g) : Cpy W base w' c c' := ⟨h.sm, ⟨own_tch h.own.o t (fun g e => hS g (.inl e)), own_tch h.own.n t (fun g e => hS g (.inr e)), h.own.ne⟩, h.ch⟩
theorem SW.tch {S : Nat → Prop} {W w w' : World} {sb : Nat} {la : Option Addr} {lc : Nat} {L L' : List Rc} {k : Nat} (h : SW W w sb la lc L L' k) (t : Tch S w w') (hS : ∀ g, Fs sb la lc L' k g → ¬ S g) : SW W w' sb la lc L L' k :=
  ⟨(t.block sb (blk_lt h.blk) (hS sb (.inl rfl))).trans h.blk, own_tch h.own t (fun g e => hS g (.inr (.inl e))), h.len, fun j c c' hc hc' hk => (h.el j c c' hc hc' hk).keep t (fun g hg => hS g (.inr (.inr ⟨j, c', hc', hk, hg⟩))), h.dis, h.kn⟩
theorem SW.fty {W w : World} {sb : Nat} {la : Option Addr} {lc : Nat} {L L' : List Rc} {k : Nat} (h : SW W w sb la lc L L' k) {g : Nat} (hg : Fs sb la lc L' k g) : ∃ cur t, w.heap[g]? = some (.cells cur t (0, 0)) ∧ (t = 48 ∨ t = 27 ∨ t = 76) := by
  rcases hg with e | e | ⟨j, c', hc', hk, hb⟩
  · subst e; exact ⟨_, _, h.blk, .inl rfl⟩
  · obtain ⟨cu, hcu⟩ := own_ty h.own e
    exact ⟨_, _, hcu, .inr (.inl rfl)⟩
  · have r := h.el j _ c' (List.getElem?_eq_getElem (by rw [h.len]; exact (List.getElem?_eq_some_iff.1 hc').1)) hc' hk
    have hty : ∃ cur, w.heap[g]? = some (.cells cur 76 (0, 0)) := hb.elim (fun e => own_ty r.own.o e) (fun e => own_ty r.own.n e)
    obtain ⟨cu, hcu⟩ := hty
    exact ⟨_, _, hcu, .inr (.inr rfl)⟩
theorem Ov.fs {sb : Nat} {la : Option Addr} {lc : Nat} {L' : List Rc} {k g : Nat} (h : Ov L' k g) : Fs sb la lc L' k g := by
  obtain ⟨j, d, hj, hd, hb⟩ := h
  exact .inr (.inr ⟨j, d, hd, by omega, hb⟩)
theorem Fs.down {sb : Nat} {la : Option Addr} {lc : Nat} {L' : List Rc} {k k' g : Nat} (h : Fs sb la lc L' k' g) (hk : k ≤ k') : Fs sb la lc L' k g := by
  rcases h with e | e | ⟨j, c', hc', h1, hb⟩
  · exact .inl e
  · exact .inr (.inl e)
  · exact .inr (.inr ⟨j, c', hc', by omega, hb⟩)
/-- A call was made: the last one told is nobody's any more. -/
theorem SW.next {S : Nat → Prop} {W w w' : World} {sb : Nat} {la : Option Addr} {lc : Nat} {L L' : List Rc} {k : Nat} (h : SW W w sb la lc L L' k) (hk : k < L'.length) (t : Tch S w w') (hb : w'.heap[sb]? = some (.cells #[.slice la L'.length lc, .int .i64 ((k + 1 : Nat) : Int), .bool false] 48 (0, 0)))
    (hl : ∀ g, (Value.slice la L'.length lc).ownBlock = some g → ¬ S g) (hS : ∀ (j : Nat) (c' : Rc), L'[j]? = some c' → k ≤ j → ∀ g, Bk c' g → ¬ S g) : SW W w' sb la lc L L' (k + 1) :=
  ⟨hb, own_tch h.own t hl, h.len, fun j c c' hc hc' hj => (h.el j c c' hc hc' (by omega)).keep t (hS j c' hc' (by omega)), h.dis, hk⟩
theorem rs_sn : Try.f11.results = #[.cell 2 27, .tmp 3] := by kernel_rfl
theorem src_ne {W w : World} {sb : Nat} {la : Option Addr} {lc : Nat} {L L' : List Rc} {k : Nat} (h : SW W w sb la lc L L' k) : (∀ g, (Value.slice la L'.length lc).ownBlock = some g → g ≠ sb) ∧ ∀ (j : Nat) (c' : Rc), L'[j]? = some c' → k ≤ j + 1 → ∀ g, Bk c' g → g ≠ sb ∧ (Value.slice la L'.length lc).ownBlock ≠ some g ∧ g < w.heap.size := by
  refine ⟨fun g e => ?_, fun j c' hc' hk g hg => ?_⟩
  · obtain ⟨cu, hcu⟩ := own_ty h.own e
    exact ne_ty hcu h.blk (by decide)
  · have hj := (List.getElem?_eq_some_iff.1 hc').1
    have r := h.el j _ c' (List.getElem?_eq_getElem (by rw [h.len]; exact hj)) hc' hk
    have hlt := (r.own.lt hg).2
    have hty : ∃ cur, w.heap[g]? = some (.cells cur 76 (0, 0)) := hg.elim (fun e => own_ty r.own.o e) (fun e => own_ty r.own.n e)
    obtain ⟨cu, hcu⟩ := hty
    refine ⟨ne_ty hcu h.blk (by decide), fun e => ?_, hlt⟩
    obtain ⟨cv, hcv⟩ := own_ty h.own e
    exact ne_ty hcu hcv (by decide) rfl
set_option maxHeartbeats 8000000 in
set_option maxRecDepth 1000000 in
theorem src_some (W w : World) (sb : Nat) (la : Option Addr) (lc : Nat) (L L' : List Rc) (k : Nat) (h : SW W w sb la lc L L' k) (hk : k < L'.length) (hn : L'.length ≤ 2000000) :
    Calls Try.prog 11 #[.pointer (some ⟨sb, 0, none⟩)] w fun e w' => ∃ c', L'[k]? = some c' ∧ e = .returned (.tuple #[rcV c', .bool true]) ∧ SW W w' sb la lc L L' (k + 1) ∧ Tch (fun g => g = sb ∨ Ov L' k g) w w' := by
  obtain ⟨c', hc'⟩ : ∃ c', L'[k]? = some c' := ⟨_, List.getElem?_eq_getElem hk⟩
  obtain ⟨nl, nr⟩ := src_ne h
  obtain ⟨n, hnn⟩ : ∃ n, n = L'.length := ⟨_, rfl⟩
  obtain ⟨N, hN⟩ : ∃ N, N = w.heap.size := ⟨_, rfl⟩
  obtain ⟨w0, hw0⟩ : ∃ w0, w0 = w.alloc (.cells #[.int .i64 0, .int .i64 0, .int .i64 0, .int .i64 0, .slice none 0 0, .slice none 0 0] 27) := ⟨_, rfl⟩
  obtain ⟨w1, hw1⟩ : ∃ w1, w1 = w0.setCell ⟨sb, 1, none⟩ (.int .i64 ((k : Int) + 1)) := ⟨_, rfl⟩
  have t0 : Tch (fun _ => False) w w0 := by rw [hw0]; exact Tch.alloc _ _ _
  have bz : w0.heap[N]? = some (.cells #[.int .i64 0, .int .i64 0, .int .i64 0, .int .i64 0, .slice none 0 0, .slice none 0 0] 27 (0, 0)) := by rw [hw0, hN]; exact alloc_new _ _
  have hsb : sb < N := by rw [hN]; exact blk_lt h.blk
  have bs0 := (t0.block sb (blk_lt h.blk) (fun h => h)).trans h.blk
  have t1 : Tch (fun g => g = sb) w0 w1 := by rw [hw1]; exact Tch.setCell (fun g => g = sb) _ _ _ rfl
  have bs1 : w1.heap[sb]? = some (.cells #[.slice la L'.length lc, .int .i64 ((k : Int) + 1), .bool false] 48 (0, 0)) := by rw [hw1, blk_set bs0]; rfl
  have bz1 := (t1.block N (blk_lt bz) (by omega)).trans bz
  have own1 := own_tch (own_tch h.own t0 (fun _ _ h => h)) t1 (fun g e => nl g e)
  have el1 : ∀ (j : Nat) (c c' : Rc), L[j]? = some c → L'[j]? = some c' → k ≤ j + 1 → Cpy W 0 w1 c c' := fun j c c' h1 h2 h3 => ((h.el j c c' h1 h2 h3).keep t0 (fun _ _ h => h)).keep t1 (fun g hg => (nr j c' h2 h3 g hg).1)
  have own_c := own_cap h.own
  rw [← hnn] at own_c hn
  have hkn : k < n := by omega
  have hkn' : (k : Int) < (n : Int) := by omega
  have kw : ((k : Int) + 1 - 1) = (k : Int) := by omega
  have s1 : w0.cell? ⟨sb, 1, none⟩ = some (.int .i64 (k : Int)) := blk_cell bs0 1
  have fs := blk_frozen bs0
  -- whatever over does
  have HY : Hid (∀ (S : Nat → Prop) Wy, Tch S w1 Wy → (∀ g, S g → Ov L' k g) → Wy.cell? ⟨sb, 0, none⟩ = some (.slice la n lc) ∧ Wy.cell? ⟨sb, 1, none⟩ = some (.int .i64 ((k : Int) + 1)) ∧ Wy.heap[N]? = some (.cells #[.int .i64 0, .int .i64 0, .int .i64 0, .int .i64 0, .slice none 0 0, .slice none 0 0] 27 (0, 0)) ∧ Wy.ownsRow 0 27 6 (.slice la L'.length lc) L'.length (kcl L') ∧
      ∀ W5, Tch (fun g => g = N) Wy W5 → SW W W5 sb la lc L L' (k + 1) ∧ Tch (fun g => g = sb ∨ Ov L' k g) w W5) := fun S Wy ty hS => by
    have hSs : ¬ S sb := fun e => by
      obtain ⟨j, d, rfl, hd, hb⟩ := hS sb e
      exact (nr j d hd (Nat.le_refl _) sb hb).1 rfl
    have hSN : ¬ S N := fun e => by
      obtain ⟨j, d, rfl, hd, hb⟩ := hS N e
      have := (nr j d hd (Nat.le_refl _) N hb).2.2
      omega
    have hSl : ∀ g, (Value.slice la L'.length lc).ownBlock = some g → ¬ S g := fun g e e2 => by
      obtain ⟨j, d, rfl, hd, hb⟩ := hS g e2
      exact (nr j d hd (Nat.le_refl _) g hb).2.1 e
    have bsY := (ty.block sb (blk_lt bs1) hSs).trans bs1
    refine ⟨by rw [blk_cell bsY, hnn]; rfl, by rw [blk_cell bsY]; rfl, (ty.block N (blk_lt bz1) hSN).trans bz1, own_tch own1 ty hSl, fun W5 t5 => ?_⟩
    have tt : Tch (fun g => g = sb ∨ Ov L' k g) w W5 := (((t0.mono (fun _ _ h => h.elim)).trans t1 (fun g _ e => .inl e)).trans ty (fun g _ e => .inr (hS g e))).trans t5 (fun g hg e => by omega)
    refine ⟨h.next hk tt ?_ (fun g e e2 => ?_) (fun j d hd hj g hg e2 => ?_), tt⟩
    · rw [t5.block sb (blk_lt bsY) (by omega)]; exact bsY
    · rcases e2 with e2 | ⟨j, d, rfl, hd, hb⟩
      · exact nl g e e2
      · exact (nr j d hd (Nat.le_refl _) g hb).2.1 e
    · rcases e2 with e2 | ⟨i, d', rfl, hd', hb⟩
      · exact (nr j d hd (by omega) g hg).1 e2
      · exact h.dis i j d' d hd' hd (by omega) g hb hg
  have HW0 : Hid (w0 = _) := hw0
  have HW1 : Hid (w1 = _) := hw1
  have HN : Hid (N = w.heap.size) := hN
  have HE : Hid _ := And.intro el1 (And.intro hc' (And.intro h.len hnn))
  have HO1 : Hid _ := own1
  clear h nl nr hw0 hw1 t0 t1 bz bs0 bs1 bz1 own1 el1 hc' hnn hN hk
  go_enter Try.func11, Try.ntmps11
  go_upto_region 1 with (fail)
  rw [← HW0.out, ← HN.out]
  go_upto_region 2 with (fail)
  rw [← HW1.out]
  clear s1 fs
  rcases Nat.eq_zero_or_pos k with hk0 | hk0
  · have hk0' : ¬ (0 : Int) < (k : Int) := by omega
    obtain ⟨y0, y1, bz, hoY, hfin⟩ := HY.out (fun _ => False) w1 (Tch.refl _ _) (fun _ h => h.elim)
    obtain ⟨gl, e, -, hx⟩ := own_nth hoY HE.out.2.1
    obtain rfl := e
    obtain ⟨x0, x1, x2, x3, x4, x5⟩ := And.intro (hx 0 _ rfl) (And.intro (hx 1 _ rfl) (And.intro (hx 2 _ rfl) (And.intro (hx 3 _ rfl) (And.intro (hx 4 _ rfl) (hx 5 _ rfl)))))
    rw [Nat.add_zero] at x0
    obtain ⟨e0, e1, e2, e3, e4, e5⟩ := get6 bz
    have f5 := blk_frozen bz
    have HB : Hid _ := bz
    have HF : Hid _ := hfin
    clear hoY hx bz hfin hk0
    go_wp2
    refine bodyPost_ret (res_ch2 rs_sn rfl rfl (set6 HB.out _ _ _ _ _ _)) rfl ?_
    exact ⟨c', HE.out.2.1, rfl, HF.out _ (tch6 _ _ _ _ _ _ _ _)⟩
  · have hk0' : (0 : Int) < (k : Int) := by omega
    obtain ⟨j, hj⟩ : ∃ j, k = j + 1 := ⟨k - 1, by omega⟩
    obtain ⟨d, hd⟩ : ∃ d, L'[j]? = some d := ⟨_, List.getElem?_eq_getElem (by have := HE.out.2.2.2; omega)⟩
    obtain ⟨d0, hd0⟩ : ∃ d0, L[j]? = some d0 := ⟨_, List.getElem?_eq_getElem (by have := HE.out.2.2.2; have := HE.out.2.2.1; omega)⟩
    have r := HE.out.1 j d0 d hd0 hd (by omega)
    obtain ⟨y0, y1, -, -, -⟩ := HY.out (fun _ => False) w1 (Tch.refl _ _) (fun _ h => h.elim)
    obtain ⟨gl, e, -, hx⟩ := own_nth HO1.out hd
    obtain rfl := e
    obtain ⟨x0, x1, x2, x3, x4, x5⟩ := And.intro (hx 0 _ rfl) (And.intro (hx 1 _ rfl) (And.intro (hx 2 _ rfl) (And.intro (hx 3 _ rfl) (And.intro (hx 4 _ rfl) (hx 5 _ rfl)))))
    rw [Nat.add_zero] at x0
    have hb1 := r.ch.o.bd
    have hb2 := r.ch.n.bd
    have so := r.sm.o
    have sn := r.sm.n
    have q := lover_any d 0 _ _ w1 r.own (by omega) (by omega)
    unfold rcV at q
    have hj' : (k : Int) - 1 = (j : Int) := by omega
    have hj0 : (j : Int) < (n : Int) := by omega
    have hkl : (k : Int) ≤ (n : Int) := by omega
    have HJ : Hid (k = j + 1 ∧ L'[j]? = some d) := ⟨hj, hd⟩
    clear hx hd hd0 r hj hb1 hb2 so sn hk0
    go_wp2_with fail
    refine q.mono ?_
    rintro e w2 ⟨rfl, t2⟩
    clear q x0 x1 x2 x3 x4 x5 y0 y1
    obtain ⟨y0, y1, bz, hoY, hfin⟩ := HY.out _ w2 t2 (fun g hg => ⟨j, d, HJ.out.1, HJ.out.2, hg⟩)
    obtain ⟨gl', e, -, hx⟩ := own_nth hoY HE.out.2.1
    have e' : gl = gl' := by simpa using e
    subst e'
    obtain ⟨x0, x1, x2, x3, x4, x5⟩ := And.intro (hx 0 _ rfl) (And.intro (hx 1 _ rfl) (And.intro (hx 2 _ rfl) (And.intro (hx 3 _ rfl) (And.intro (hx 4 _ rfl) (hx 5 _ rfl)))))
    rw [Nat.add_zero] at x0
    obtain ⟨e0, e1, e2, e3, e4, e5⟩ := get6 bz
    have f5 := blk_frozen bz
    have HB : Hid _ := bz
    have HF : Hid _ := hfin
    clear hoY hx bz hfin t2 e
    go_wp2
    refine bodyPost_ret (res_ch2 rs_sn rfl rfl (set6 HB.out _ _ _ _ _ _)) rfl ?_
    exact ⟨c', HE.out.2.1, rfl, HF.out _ (tch6 _ _ _ _ _ _ _ _)⟩
end Go.Proofs.Ytmnhkgibplnnnaa
