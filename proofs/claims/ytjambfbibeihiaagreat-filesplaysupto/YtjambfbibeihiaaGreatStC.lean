import Derived.Test.YtjambfbibeihiaaGreatSt
/- Steps that turn the disks. -/
namespace Go.Proofs.YtjambfbibeihiaaGreat
set_option maxRecDepth 100000
open Go.RowKit Go.ChangeMaps Go.Sort

section
variable (bb T k db rb : Nat) (d : Dsk) (c N M : Int) (tw : Bool) (nm S : ByteArray) (lo : Option Addr) (ln lc : Nat) (hN wN hF wF : Value) (ω : Nat → Nat) (w : World)

set_option maxHeartbeats 4000000 in
theorem step_1 (hb : BO w ω bb T hN wN hF wF) (hp : PR w ω k db rb d) (hk : 1 ≤ k ∧ k ≤ 3) (hl : (d.m.length + 1) * 40 ≤ 140737488355328) (_hn1 : N ≤ 9223372036854775807) :
    Calls Tryz.prog 6 #[pairV db rb c, .pointer (some ⟨bb, 0, none⟩), opV 1 N M tw nm S lo ln lc] w fun x w' => x = .returned (.tuple #[pairV db rb c, .bool true]) ∧ Stepped w ω bb T k d w' db rb := by
  have hBd := Bd.of hp.df hl
  obtain ⟨e, d', hE⟩ : ∃ e d', (e, d') = d.create nm.data.toList := ⟨_, _, rfl⟩
  have hlen : d'.m.length ≤ d.m.length + 1 ∧ (Nok d → Nok d') := by have h1 := len_create d nm.data.toList; have h2 := fun h : Nok d => nok_create h nm.data.toList; rw [← hE] at h1; exact ⟨h1, fun h => by have h3 := h2 h; rw [← hE] at h3; exact h3⟩
  obtain ⟨C, hC⟩ : ∃ C : Nat → World → Prop, C = fun j W => (j = 0 ∧ ∃ ω', CW w ω bb T k db rb (pairC db rb c) (opC 1 N M tw nm S lo ln lc) hN wN hF wF d d W ω') ∨ (j = 1 ∧ ∃ ω', CW w ω bb T k db rb (pairC db rb c) (opC 1 N M tw nm S lo ln lc) hN wN hF wF d' d W ω') ∨ (j = 2 ∧ ∃ ω', CW w ω bb T k db rb (pairC db rb c) (opC 1 N M tw nm S lo ln lc) hN wN hF wF d' d' W ω') ∨ (j = 3 ∧ ∃ ω', CW w ω bb T k db rb (pairC db rb c) (opC 1 N M tw nm S lo ln lc) hN wN hF wF d' d' W ω' ∧ W.heap[w.heap.size + 2]? = some (.cells (pairC db rb c) 26 (0, 0))) := ⟨_, rfl⟩
  have c0 : ∀ W, C 0 W → ∃ ω', CW w ω bb T k db rb (pairC db rb c) (opC 1 N M tw nm S lo ln lc) hN wN hF wF d d W ω' := fun W h => by rw [hC] at h; rcases h with ⟨_, h⟩ | ⟨h, _⟩ | ⟨h, _⟩ | ⟨h, _⟩ <;> first | exact h | (exfalso; omega)
  have c1 : ∀ W, C 1 W → ∃ ω', CW w ω bb T k db rb (pairC db rb c) (opC 1 N M tw nm S lo ln lc) hN wN hF wF d' d W ω' := fun W h => by rw [hC] at h; rcases h with ⟨h, _⟩ | ⟨_, h⟩ | ⟨h, _⟩ | ⟨h, _⟩ <;> first | exact h | (exfalso; omega)
  have c2 : ∀ W, C 2 W → ∃ ω', CW w ω bb T k db rb (pairC db rb c) (opC 1 N M tw nm S lo ln lc) hN wN hF wF d' d' W ω' := fun W h => by rw [hC] at h; rcases h with ⟨h, _⟩ | ⟨h, _⟩ | ⟨_, h⟩ | ⟨h, _⟩ <;> first | exact h | (exfalso; omega)
  have c3 : ∀ W, C 3 W → ∃ ω', CW w ω bb T k db rb (pairC db rb c) (opC 1 N M tw nm S lo ln lc) hN wN hF wF d' d' W ω' ∧ W.heap[w.heap.size + 2]? = some (.cells (pairC db rb c) 26 (0, 0)) := fun W h => by rw [hC] at h; rcases h with ⟨h, _⟩ | ⟨h, _⟩ | ⟨h, _⟩ | ⟨_, h⟩ <;> first | exact h | (exfalso; omega)
  have hc : ∀ j W, C j W → (W.cell? ⟨w.heap.size, 0, none⟩ = some (.pointer (some ⟨db, 0, none⟩)) ∧ W.cell? ⟨w.heap.size, 1, none⟩ = some (.pointer (some ⟨rb, 0, none⟩)) ∧ W.cell? ⟨w.heap.size, 2, none⟩ = some (.int .i64 c)) ∧ W.cell? ⟨w.heap.size + 1, 1, none⟩ = some (.int .i64 N) ∧ W.cell? ⟨w.heap.size + 1, 4, none⟩ = some (.string nm) ∧ W.cell? ⟨w.heap.size + 1, 5, none⟩ = some (.string S) := fun j W h => by
    have key : W.heap[w.heap.size]? = some (.cells (pairC db rb c) 26 (0, 0)) ∧ W.heap[w.heap.size + 1]? = some (.cells (opC 1 N M tw nm S lo ln lc) 41 (0, 0)) := by
      rw [hC] at h
      rcases h with ⟨_, _, h⟩ | ⟨_, _, h⟩ | ⟨_, _, h⟩ | ⟨_, _, h, _⟩ <;> exact ⟨h.b0, h.b1⟩
    exact ⟨⟨by rw [blk_cell key.1]; rfl, by rw [blk_cell key.1]; rfl, by rw [blk_cell key.1]; rfl⟩, by rw [blk_cell key.2]; rfl, by rw [blk_cell key.2]; rfl, by rw [blk_cell key.2]; rfl⟩
  have hA1 : ∀ W, C 0 W → Calls Tryz.prog 12 #[.pointer (some ⟨db, 0, none⟩), .string nm] W fun x w' => x = .returned (.int .i64 e) ∧ C 1 w' := fun W h => by
    obtain ⟨ω', h'⟩ := c0 W h
    have := create_f db d _ W nm h'.df (by unfold maxLen; omega)
    rw [← hE] at this
    refine this.mono ?_
    rintro x w' ⟨hx, h1, h2⟩
    exact ⟨hx, by rw [hC]; exact Or.inr (Or.inl ⟨rfl, _, h'.actA hk h1 h2⟩)⟩
  have hR1 : ∀ W, C 1 W → Calls Tryz.prog 13 #[.pointer (some ⟨rb, 0, none⟩), .string nm] W fun x w' => x = .returned (.int .i64 e) ∧ C 2 w' := fun W h => by
    obtain ⟨ω', h'⟩ := c1 W h
    have := rcreate_f rb d _ W nm h'.rf hBd
    rw [← hE] at this
    refine this.mono ?_
    rintro x w' ⟨hx, h1, h2⟩
    exact ⟨hx, by rw [hC]; exact Or.inr (Or.inr (Or.inl ⟨rfl, _, h'.actR hk h1 h2⟩))⟩
  have hS1 : ∀ W, C 2 W → ((∃ y, W.cell? ⟨w.heap.size + 2, 0, none⟩ = some y) ∧ (∃ y, W.cell? ⟨w.heap.size + 2, 1, none⟩ = some y) ∧ ∃ y, W.cell? ⟨w.heap.size + 2, 2, none⟩ = some y) ∧ (∀ j, W.frozen? ⟨w.heap.size + 2, j, none⟩ = false) ∧ C 3 (((W.setCell ⟨w.heap.size + 2, 0, none⟩ (.pointer (some ⟨db, 0, none⟩))).setCell ⟨w.heap.size + 2, 1, none⟩ (.pointer (some ⟨rb, 0, none⟩))).setCell ⟨w.heap.size + 2, 2, none⟩ (.int .i64 c)) := fun W h => by
    obtain ⟨ω', h'⟩ := c2 W h
    obtain ⟨rc, hr, hz⟩ := h'.b2
    refine ⟨⟨⟨rc[0], by rw [blk_cell hr]; exact Array.getElem?_eq_getElem _⟩, ⟨rc[1], by rw [blk_cell hr]; exact Array.getElem?_eq_getElem _⟩, ⟨rc[2], by rw [blk_cell hr]; exact Array.getElem?_eq_getElem _⟩⟩, fun j => blk_frozen hr j, ?_⟩
    obtain ⟨g1, g2⟩ := h'.put hk (.pointer (some ⟨db, 0, none⟩)) (.pointer (some ⟨rb, 0, none⟩)) (.int .i64 c)
    rw [hC]
    exact Or.inr (Or.inr (Or.inr ⟨rfl, _, g1, g2⟩))
  have s0 : C 0 (((w.alloc (.cells (pairC db rb c) 26)).alloc (.cells (opC 1 N M tw nm S lo ln lc) 41)).alloc (.cells #[.pointer none, .pointer none, .int .i64 0] 26)).drew := by
    rw [hC]
    exact Or.inl ⟨rfl, _, (CW.start hp hb hk).drewN 1⟩
  have hfin : ∀ W, C 3 W → Stepped w ω bb T k d W db rb ∧ W.cell? ⟨w.heap.size + 2, 0, none⟩ = some (.pointer (some ⟨db, 0, none⟩)) ∧ W.cell? ⟨w.heap.size + 2, 1, none⟩ = some (.pointer (some ⟨rb, 0, none⟩)) ∧ W.cell? ⟨w.heap.size + 2, 2, none⟩ = some (.int .i64 c) := fun W h => by
    obtain ⟨ω', h', hr⟩ := c3 W h
    exact ⟨h'.stepped hlen, by rw [blk_cell hr]; rfl, by rw [blk_cell hr]; rfl, by rw [blk_cell hr]; rfl⟩
  clear hC c0 c1 c2 c3 hlen hp hb hE
  go_enter Tryz.func6, Tryz.ntmps6
  go_wp2_with fail
  refine wp_region_staged [5, 10, 12] C (by kernel_rfl) (by kernel_rfl) (by kernel_rfl) s0 ?_
  clear s0
  repeat (first
    | (refine stage_read (by go_simp) (by rfl) ?_
       apply Exists.intro
       refine ⟨fun j W hW b K Q hK => ?_, fun K hK => ?_⟩
       obtain ⟨⟨q0, q1, q2⟩, q3, q4, q5⟩ := hc j W hW
       go_simp
       exact hK W hW
       go_simp
       refine hK _ ?_
       clear hK K)
    | (refine stage_turn (by go_simp) (by rfl) ?_
       apply Exists.intro
       refine ⟨fun W hW b K Q hK => ?_, fun K hK => ?_⟩
       go_simp
       first
         | (go_at_call 12; refine (hA1 W hW).mono ?_; rintro x w' ⟨rfl, h1⟩; exact hK _ h1)
         | (go_at_call 13; refine (hR1 W hW).mono ?_; rintro x w' ⟨rfl, h1⟩; exact hK _ h1)
       go_simp
       refine hK _ ?_
       clear hK K)
    | (refine stage_turn (by go_simp) (by rfl) ?_
       refine ⟨undef, fun W hW b K Q hK => ?_, fun K hK => ?_⟩
       obtain ⟨⟨⟨y0, g0⟩, ⟨y1, g1⟩, ⟨y2, g2⟩⟩, gf, g3⟩ := hS1 W hW
       have gf0 := gf 0
       have gf1 := gf 1
       have gf2 := gf 2
       go_simp
       exact hK _ g3
       go_simp
       refine hK _ ?_
       clear hK K))
  refine stage_nil ?_
  intro w8 hw8
  obtain ⟨hst, g0, g1, g2⟩ := hfin w8 hw8
  have HST : Hid _ := hst
  clear hst hw8 hfin hc hA1 hR1 hS1
  go_wp2
  have hres : ∀ tmps : Array Value, tmps[6]?.getD undef = .pointer (some ⟨w.heap.size + 2, 0, none⟩) → tmps[7]?.getD undef = .bool true → (results Tryz.f6 tmps).run Tryz.prog w8 = .ok (.tuple #[pairV db rb c, .bool true]) w8 := fun tmps h4 h5 => by
    have hrs : Tryz.f6.results = #[.cell 6 26, .tmp 7] := by kernel_rfl
    simp only [results, hrs]
    go_simp
  refine bodyPost_ret (hres _ rfl rfl) rfl ?_
  exact ⟨rfl, HST.out⟩
end
end Go.Proofs.YtjambfbibeihiaaGreat
/- Steps that turn the disks. -/
namespace Go.Proofs.YtjambfbibeihiaaGreat
set_option maxRecDepth 100000
open Go.RowKit Go.ChangeMaps Go.Sort

section
variable (bb T k db rb : Nat) (d : Dsk) (c N M : Int) (tw : Bool) (nm S : ByteArray) (lo : Option Addr) (ln lc : Nat) (hN wN hF wF : Value) (ω : Nat → Nat) (w : World)

set_option maxHeartbeats 4000000 in
theorem step_2 (hb : BO w ω bb T hN wN hF wF) (hp : PR w ω k db rb d) (hk : 1 ≤ k ∧ k ≤ 3) (hl : (d.m.length + 1) * 40 ≤ 140737488355328) (_hn1 : N ≤ 9223372036854775807) :
    Calls Tryz.prog 6 #[pairV db rb c, .pointer (some ⟨bb, 0, none⟩), opV 2 N M tw nm S lo ln lc] w fun x w' => x = .returned (.tuple #[pairV db rb c, .bool true]) ∧ Stepped w ω bb T k d w' db rb := by
  have hBd := Bd.of hp.df hl
  obtain ⟨e, d', hE⟩ : ∃ e d', (e, d') = d.append nm.data.toList S.data.toList := ⟨_, _, rfl⟩
  have hlen : d'.m.length ≤ d.m.length + 1 ∧ (Nok d → Nok d') := by have h1 := len_append d nm.data.toList S.data.toList; have h2 := fun h : Nok d => nok_append h nm.data.toList S.data.toList; rw [← hE] at h1; exact ⟨h1, fun h => by have h3 := h2 h; rw [← hE] at h3; exact h3⟩
  obtain ⟨C, hC⟩ : ∃ C : Nat → World → Prop, C = fun j W => (j = 0 ∧ ∃ ω', CW w ω bb T k db rb (pairC db rb c) (opC 2 N M tw nm S lo ln lc) hN wN hF wF d d W ω') ∨ (j = 1 ∧ ∃ ω', CW w ω bb T k db rb (pairC db rb c) (opC 2 N M tw nm S lo ln lc) hN wN hF wF d' d W ω') ∨ (j = 2 ∧ ∃ ω', CW w ω bb T k db rb (pairC db rb c) (opC 2 N M tw nm S lo ln lc) hN wN hF wF d' d' W ω') ∨ (j = 3 ∧ ∃ ω', CW w ω bb T k db rb (pairC db rb c) (opC 2 N M tw nm S lo ln lc) hN wN hF wF d' d' W ω' ∧ W.heap[w.heap.size + 2]? = some (.cells (pairC db rb c) 26 (0, 0))) := ⟨_, rfl⟩
  have c0 : ∀ W, C 0 W → ∃ ω', CW w ω bb T k db rb (pairC db rb c) (opC 2 N M tw nm S lo ln lc) hN wN hF wF d d W ω' := fun W h => by rw [hC] at h; rcases h with ⟨_, h⟩ | ⟨h, _⟩ | ⟨h, _⟩ | ⟨h, _⟩ <;> first | exact h | (exfalso; omega)
  have c1 : ∀ W, C 1 W → ∃ ω', CW w ω bb T k db rb (pairC db rb c) (opC 2 N M tw nm S lo ln lc) hN wN hF wF d' d W ω' := fun W h => by rw [hC] at h; rcases h with ⟨h, _⟩ | ⟨_, h⟩ | ⟨h, _⟩ | ⟨h, _⟩ <;> first | exact h | (exfalso; omega)
  have c2 : ∀ W, C 2 W → ∃ ω', CW w ω bb T k db rb (pairC db rb c) (opC 2 N M tw nm S lo ln lc) hN wN hF wF d' d' W ω' := fun W h => by rw [hC] at h; rcases h with ⟨h, _⟩ | ⟨h, _⟩ | ⟨_, h⟩ | ⟨h, _⟩ <;> first | exact h | (exfalso; omega)
  have c3 : ∀ W, C 3 W → ∃ ω', CW w ω bb T k db rb (pairC db rb c) (opC 2 N M tw nm S lo ln lc) hN wN hF wF d' d' W ω' ∧ W.heap[w.heap.size + 2]? = some (.cells (pairC db rb c) 26 (0, 0)) := fun W h => by rw [hC] at h; rcases h with ⟨h, _⟩ | ⟨h, _⟩ | ⟨h, _⟩ | ⟨_, h⟩ <;> first | exact h | (exfalso; omega)
  have hc : ∀ j W, C j W → (W.cell? ⟨w.heap.size, 0, none⟩ = some (.pointer (some ⟨db, 0, none⟩)) ∧ W.cell? ⟨w.heap.size, 1, none⟩ = some (.pointer (some ⟨rb, 0, none⟩)) ∧ W.cell? ⟨w.heap.size, 2, none⟩ = some (.int .i64 c)) ∧ W.cell? ⟨w.heap.size + 1, 1, none⟩ = some (.int .i64 N) ∧ W.cell? ⟨w.heap.size + 1, 4, none⟩ = some (.string nm) ∧ W.cell? ⟨w.heap.size + 1, 5, none⟩ = some (.string S) := fun j W h => by
    have key : W.heap[w.heap.size]? = some (.cells (pairC db rb c) 26 (0, 0)) ∧ W.heap[w.heap.size + 1]? = some (.cells (opC 2 N M tw nm S lo ln lc) 41 (0, 0)) := by
      rw [hC] at h
      rcases h with ⟨_, _, h⟩ | ⟨_, _, h⟩ | ⟨_, _, h⟩ | ⟨_, _, h, _⟩ <;> exact ⟨h.b0, h.b1⟩
    exact ⟨⟨by rw [blk_cell key.1]; rfl, by rw [blk_cell key.1]; rfl, by rw [blk_cell key.1]; rfl⟩, by rw [blk_cell key.2]; rfl, by rw [blk_cell key.2]; rfl, by rw [blk_cell key.2]; rfl⟩
  have hA1 : ∀ W, C 0 W → Calls Tryz.prog 14 #[.pointer (some ⟨db, 0, none⟩), .string nm, .string S] W fun x w' => x = .returned (.int .i64 e) ∧ C 1 w' := fun W h => by
    obtain ⟨ω', h'⟩ := c0 W h
    have := append_f db d _ W nm S h'.df
    rw [← hE] at this
    refine this.mono ?_
    rintro x w' ⟨hx, h1, h2⟩
    exact ⟨hx, by rw [hC]; exact Or.inr (Or.inl ⟨rfl, _, h'.actA hk h1 h2⟩)⟩
  have hR1 : ∀ W, C 1 W → Calls Tryz.prog 15 #[.pointer (some ⟨rb, 0, none⟩), .string nm, .string S] W fun x w' => x = .returned (.int .i64 e) ∧ C 2 w' := fun W h => by
    obtain ⟨ω', h'⟩ := c1 W h
    have := rappend_f rb d _ W nm S h'.rf hBd
    rw [← hE] at this
    refine this.mono ?_
    rintro x w' ⟨hx, h1, h2⟩
    exact ⟨hx, by rw [hC]; exact Or.inr (Or.inr (Or.inl ⟨rfl, _, h'.actR hk h1 h2⟩))⟩
  have hS1 : ∀ W, C 2 W → ((∃ y, W.cell? ⟨w.heap.size + 2, 0, none⟩ = some y) ∧ (∃ y, W.cell? ⟨w.heap.size + 2, 1, none⟩ = some y) ∧ ∃ y, W.cell? ⟨w.heap.size + 2, 2, none⟩ = some y) ∧ (∀ j, W.frozen? ⟨w.heap.size + 2, j, none⟩ = false) ∧ C 3 (((W.setCell ⟨w.heap.size + 2, 0, none⟩ (.pointer (some ⟨db, 0, none⟩))).setCell ⟨w.heap.size + 2, 1, none⟩ (.pointer (some ⟨rb, 0, none⟩))).setCell ⟨w.heap.size + 2, 2, none⟩ (.int .i64 c)) := fun W h => by
    obtain ⟨ω', h'⟩ := c2 W h
    obtain ⟨rc, hr, hz⟩ := h'.b2
    refine ⟨⟨⟨rc[0], by rw [blk_cell hr]; exact Array.getElem?_eq_getElem _⟩, ⟨rc[1], by rw [blk_cell hr]; exact Array.getElem?_eq_getElem _⟩, ⟨rc[2], by rw [blk_cell hr]; exact Array.getElem?_eq_getElem _⟩⟩, fun j => blk_frozen hr j, ?_⟩
    obtain ⟨g1, g2⟩ := h'.put hk (.pointer (some ⟨db, 0, none⟩)) (.pointer (some ⟨rb, 0, none⟩)) (.int .i64 c)
    rw [hC]
    exact Or.inr (Or.inr (Or.inr ⟨rfl, _, g1, g2⟩))
  have s0 : C 0 (((w.alloc (.cells (pairC db rb c) 26)).alloc (.cells (opC 2 N M tw nm S lo ln lc) 41)).alloc (.cells #[.pointer none, .pointer none, .int .i64 0] 26)).drew := by
    rw [hC]
    exact Or.inl ⟨rfl, _, (CW.start hp hb hk).drewN 1⟩
  have hfin : ∀ W, C 3 W → Stepped w ω bb T k d W db rb ∧ W.cell? ⟨w.heap.size + 2, 0, none⟩ = some (.pointer (some ⟨db, 0, none⟩)) ∧ W.cell? ⟨w.heap.size + 2, 1, none⟩ = some (.pointer (some ⟨rb, 0, none⟩)) ∧ W.cell? ⟨w.heap.size + 2, 2, none⟩ = some (.int .i64 c) := fun W h => by
    obtain ⟨ω', h', hr⟩ := c3 W h
    exact ⟨h'.stepped hlen, by rw [blk_cell hr]; rfl, by rw [blk_cell hr]; rfl, by rw [blk_cell hr]; rfl⟩
  clear hC c0 c1 c2 c3 hlen hp hb hE
  go_enter Tryz.func6, Tryz.ntmps6
  go_wp2_with fail
  refine wp_region_staged [7, 14, 16] C (by kernel_rfl) (by kernel_rfl) (by kernel_rfl) s0 ?_
  clear s0
  repeat (first
    | (refine stage_read (by go_simp) (by rfl) ?_
       apply Exists.intro
       refine ⟨fun j W hW b K Q hK => ?_, fun K hK => ?_⟩
       obtain ⟨⟨q0, q1, q2⟩, q3, q4, q5⟩ := hc j W hW
       go_simp
       exact hK W hW
       go_simp
       refine hK _ ?_
       clear hK K)
    | (refine stage_turn (by go_simp) (by rfl) ?_
       apply Exists.intro
       refine ⟨fun W hW b K Q hK => ?_, fun K hK => ?_⟩
       go_simp
       first
         | (go_at_call 14; refine (hA1 W hW).mono ?_; rintro x w' ⟨rfl, h1⟩; exact hK _ h1)
         | (go_at_call 15; refine (hR1 W hW).mono ?_; rintro x w' ⟨rfl, h1⟩; exact hK _ h1)
       go_simp
       refine hK _ ?_
       clear hK K)
    | (refine stage_turn (by go_simp) (by rfl) ?_
       refine ⟨undef, fun W hW b K Q hK => ?_, fun K hK => ?_⟩
       obtain ⟨⟨⟨y0, g0⟩, ⟨y1, g1⟩, ⟨y2, g2⟩⟩, gf, g3⟩ := hS1 W hW
       have gf0 := gf 0
       have gf1 := gf 1
       have gf2 := gf 2
       go_simp
       exact hK _ g3
       go_simp
       refine hK _ ?_
       clear hK K))
  refine stage_nil ?_
  intro w8 hw8
  obtain ⟨hst, g0, g1, g2⟩ := hfin w8 hw8
  have HST : Hid _ := hst
  clear hst hw8 hfin hc hA1 hR1 hS1
  go_wp2
  have hres : ∀ tmps : Array Value, tmps[6]?.getD undef = .pointer (some ⟨w.heap.size + 2, 0, none⟩) → tmps[7]?.getD undef = .bool true → (results Tryz.f6 tmps).run Tryz.prog w8 = .ok (.tuple #[pairV db rb c, .bool true]) w8 := fun tmps h4 h5 => by
    have hrs : Tryz.f6.results = #[.cell 6 26, .tmp 7] := by kernel_rfl
    simp only [results, hrs]
    go_simp
  refine bodyPost_ret (hres _ rfl rfl) rfl ?_
  exact ⟨rfl, HST.out⟩

set_option maxHeartbeats 4000000 in
theorem step_5 (hb : BO w ω bb T hN wN hF wF) (hp : PR w ω k db rb d) (hk : 1 ≤ k ∧ k ≤ 3) (hl : (d.m.length + 1) * 40 ≤ 140737488355328) (_hn1 : N ≤ 9223372036854775807) :
    Calls Tryz.prog 6 #[pairV db rb c, .pointer (some ⟨bb, 0, none⟩), opV 5 N M tw nm S lo ln lc] w fun x w' => x = .returned (.tuple #[pairV db rb c, .bool true]) ∧ Stepped w ω bb T k d w' db rb := by
  have hBd := Bd.of hp.df hl
  obtain ⟨e, d', hE⟩ : ∃ e d', (e, d') = d.sync nm.data.toList := ⟨_, _, rfl⟩
  have hlen : d'.m.length ≤ d.m.length + 1 ∧ (Nok d → Nok d') := by have h1 := len_sync d nm.data.toList; have h2 := fun h : Nok d => nok_sync h nm.data.toList; rw [← hE] at h1; exact ⟨h1, fun h => by have h3 := h2 h; rw [← hE] at h3; exact h3⟩
  obtain ⟨C, hC⟩ : ∃ C : Nat → World → Prop, C = fun j W => (j = 0 ∧ ∃ ω', CW w ω bb T k db rb (pairC db rb c) (opC 5 N M tw nm S lo ln lc) hN wN hF wF d d W ω') ∨ (j = 1 ∧ ∃ ω', CW w ω bb T k db rb (pairC db rb c) (opC 5 N M tw nm S lo ln lc) hN wN hF wF d' d W ω') ∨ (j = 2 ∧ ∃ ω', CW w ω bb T k db rb (pairC db rb c) (opC 5 N M tw nm S lo ln lc) hN wN hF wF d' d' W ω') ∨ (j = 3 ∧ ∃ ω', CW w ω bb T k db rb (pairC db rb c) (opC 5 N M tw nm S lo ln lc) hN wN hF wF d' d' W ω' ∧ W.heap[w.heap.size + 2]? = some (.cells (pairC db rb c) 26 (0, 0))) := ⟨_, rfl⟩
  have c0 : ∀ W, C 0 W → ∃ ω', CW w ω bb T k db rb (pairC db rb c) (opC 5 N M tw nm S lo ln lc) hN wN hF wF d d W ω' := fun W h => by rw [hC] at h; rcases h with ⟨_, h⟩ | ⟨h, _⟩ | ⟨h, _⟩ | ⟨h, _⟩ <;> first | exact h | (exfalso; omega)
  have c1 : ∀ W, C 1 W → ∃ ω', CW w ω bb T k db rb (pairC db rb c) (opC 5 N M tw nm S lo ln lc) hN wN hF wF d' d W ω' := fun W h => by rw [hC] at h; rcases h with ⟨h, _⟩ | ⟨_, h⟩ | ⟨h, _⟩ | ⟨h, _⟩ <;> first | exact h | (exfalso; omega)
  have c2 : ∀ W, C 2 W → ∃ ω', CW w ω bb T k db rb (pairC db rb c) (opC 5 N M tw nm S lo ln lc) hN wN hF wF d' d' W ω' := fun W h => by rw [hC] at h; rcases h with ⟨h, _⟩ | ⟨h, _⟩ | ⟨_, h⟩ | ⟨h, _⟩ <;> first | exact h | (exfalso; omega)
  have c3 : ∀ W, C 3 W → ∃ ω', CW w ω bb T k db rb (pairC db rb c) (opC 5 N M tw nm S lo ln lc) hN wN hF wF d' d' W ω' ∧ W.heap[w.heap.size + 2]? = some (.cells (pairC db rb c) 26 (0, 0)) := fun W h => by rw [hC] at h; rcases h with ⟨h, _⟩ | ⟨h, _⟩ | ⟨h, _⟩ | ⟨_, h⟩ <;> first | exact h | (exfalso; omega)
  have hc : ∀ j W, C j W → (W.cell? ⟨w.heap.size, 0, none⟩ = some (.pointer (some ⟨db, 0, none⟩)) ∧ W.cell? ⟨w.heap.size, 1, none⟩ = some (.pointer (some ⟨rb, 0, none⟩)) ∧ W.cell? ⟨w.heap.size, 2, none⟩ = some (.int .i64 c)) ∧ W.cell? ⟨w.heap.size + 1, 1, none⟩ = some (.int .i64 N) ∧ W.cell? ⟨w.heap.size + 1, 4, none⟩ = some (.string nm) ∧ W.cell? ⟨w.heap.size + 1, 5, none⟩ = some (.string S) := fun j W h => by
    have key : W.heap[w.heap.size]? = some (.cells (pairC db rb c) 26 (0, 0)) ∧ W.heap[w.heap.size + 1]? = some (.cells (opC 5 N M tw nm S lo ln lc) 41 (0, 0)) := by
      rw [hC] at h
      rcases h with ⟨_, _, h⟩ | ⟨_, _, h⟩ | ⟨_, _, h⟩ | ⟨_, _, h, _⟩ <;> exact ⟨h.b0, h.b1⟩
    exact ⟨⟨by rw [blk_cell key.1]; rfl, by rw [blk_cell key.1]; rfl, by rw [blk_cell key.1]; rfl⟩, by rw [blk_cell key.2]; rfl, by rw [blk_cell key.2]; rfl, by rw [blk_cell key.2]; rfl⟩
  have hA1 : ∀ W, C 0 W → Calls Tryz.prog 16 #[.pointer (some ⟨db, 0, none⟩), .string nm] W fun x w' => x = .returned (.int .i64 e) ∧ C 1 w' := fun W h => by
    obtain ⟨ω', h'⟩ := c0 W h
    have := sync_f db d _ W nm h'.df
    rw [← hE] at this
    refine this.mono ?_
    rintro x w' ⟨hx, h1, h2⟩
    exact ⟨hx, by rw [hC]; exact Or.inr (Or.inl ⟨rfl, _, h'.actA hk h1 h2⟩)⟩
  have hR1 : ∀ W, C 1 W → Calls Tryz.prog 17 #[.pointer (some ⟨rb, 0, none⟩), .string nm] W fun x w' => x = .returned (.int .i64 e) ∧ C 2 w' := fun W h => by
    obtain ⟨ω', h'⟩ := c1 W h
    have := rsync_f rb d _ W nm h'.rf hBd
    rw [← hE] at this
    refine this.mono ?_
    rintro x w' ⟨hx, h1, h2⟩
    exact ⟨hx, by rw [hC]; exact Or.inr (Or.inr (Or.inl ⟨rfl, _, h'.actR hk h1 h2⟩))⟩
  have hS1 : ∀ W, C 2 W → ((∃ y, W.cell? ⟨w.heap.size + 2, 0, none⟩ = some y) ∧ (∃ y, W.cell? ⟨w.heap.size + 2, 1, none⟩ = some y) ∧ ∃ y, W.cell? ⟨w.heap.size + 2, 2, none⟩ = some y) ∧ (∀ j, W.frozen? ⟨w.heap.size + 2, j, none⟩ = false) ∧ C 3 (((W.setCell ⟨w.heap.size + 2, 0, none⟩ (.pointer (some ⟨db, 0, none⟩))).setCell ⟨w.heap.size + 2, 1, none⟩ (.pointer (some ⟨rb, 0, none⟩))).setCell ⟨w.heap.size + 2, 2, none⟩ (.int .i64 c)) := fun W h => by
    obtain ⟨ω', h'⟩ := c2 W h
    obtain ⟨rc, hr, hz⟩ := h'.b2
    refine ⟨⟨⟨rc[0], by rw [blk_cell hr]; exact Array.getElem?_eq_getElem _⟩, ⟨rc[1], by rw [blk_cell hr]; exact Array.getElem?_eq_getElem _⟩, ⟨rc[2], by rw [blk_cell hr]; exact Array.getElem?_eq_getElem _⟩⟩, fun j => blk_frozen hr j, ?_⟩
    obtain ⟨g1, g2⟩ := h'.put hk (.pointer (some ⟨db, 0, none⟩)) (.pointer (some ⟨rb, 0, none⟩)) (.int .i64 c)
    rw [hC]
    exact Or.inr (Or.inr (Or.inr ⟨rfl, _, g1, g2⟩))
  have s0 : C 0 (((w.alloc (.cells (pairC db rb c) 26)).alloc (.cells (opC 5 N M tw nm S lo ln lc) 41)).alloc (.cells #[.pointer none, .pointer none, .int .i64 0] 26)).drew := by
    rw [hC]
    exact Or.inl ⟨rfl, _, (CW.start hp hb hk).drewN 1⟩
  have hfin : ∀ W, C 3 W → Stepped w ω bb T k d W db rb ∧ W.cell? ⟨w.heap.size + 2, 0, none⟩ = some (.pointer (some ⟨db, 0, none⟩)) ∧ W.cell? ⟨w.heap.size + 2, 1, none⟩ = some (.pointer (some ⟨rb, 0, none⟩)) ∧ W.cell? ⟨w.heap.size + 2, 2, none⟩ = some (.int .i64 c) := fun W h => by
    obtain ⟨ω', h', hr⟩ := c3 W h
    exact ⟨h'.stepped hlen, by rw [blk_cell hr]; rfl, by rw [blk_cell hr]; rfl, by rw [blk_cell hr]; rfl⟩
  clear hC c0 c1 c2 c3 hlen hp hb hE
  go_enter Tryz.func6, Tryz.ntmps6
  go_wp2_with fail
  refine wp_region_staged [5, 10, 12] C (by kernel_rfl) (by kernel_rfl) (by kernel_rfl) s0 ?_
  clear s0
  repeat (first
    | (refine stage_read (by go_simp) (by rfl) ?_
       apply Exists.intro
       refine ⟨fun j W hW b K Q hK => ?_, fun K hK => ?_⟩
       obtain ⟨⟨q0, q1, q2⟩, q3, q4, q5⟩ := hc j W hW
       go_simp
       exact hK W hW
       go_simp
       refine hK _ ?_
       clear hK K)
    | (refine stage_turn (by go_simp) (by rfl) ?_
       apply Exists.intro
       refine ⟨fun W hW b K Q hK => ?_, fun K hK => ?_⟩
       go_simp
       first
         | (go_at_call 16; refine (hA1 W hW).mono ?_; rintro x w' ⟨rfl, h1⟩; exact hK _ h1)
         | (go_at_call 17; refine (hR1 W hW).mono ?_; rintro x w' ⟨rfl, h1⟩; exact hK _ h1)
       go_simp
       refine hK _ ?_
       clear hK K)
    | (refine stage_turn (by go_simp) (by rfl) ?_
       refine ⟨undef, fun W hW b K Q hK => ?_, fun K hK => ?_⟩
       obtain ⟨⟨⟨y0, g0⟩, ⟨y1, g1⟩, ⟨y2, g2⟩⟩, gf, g3⟩ := hS1 W hW
       have gf0 := gf 0
       have gf1 := gf 1
       have gf2 := gf 2
       go_simp
       exact hK _ g3
       go_simp
       refine hK _ ?_
       clear hK K))
  refine stage_nil ?_
  intro w8 hw8
  obtain ⟨hst, g0, g1, g2⟩ := hfin w8 hw8
  have HST : Hid _ := hst
  clear hst hw8 hfin hc hA1 hR1 hS1
  go_wp2
  have hres : ∀ tmps : Array Value, tmps[6]?.getD undef = .pointer (some ⟨w.heap.size + 2, 0, none⟩) → tmps[7]?.getD undef = .bool true → (results Tryz.f6 tmps).run Tryz.prog w8 = .ok (.tuple #[pairV db rb c, .bool true]) w8 := fun tmps h4 h5 => by
    have hrs : Tryz.f6.results = #[.cell 6 26, .tmp 7] := by kernel_rfl
    simp only [results, hrs]
    go_simp
  refine bodyPost_ret (hres _ rfl rfl) rfl ?_
  exact ⟨rfl, HST.out⟩

set_option maxHeartbeats 4000000 in
theorem step_6 (hb : BO w ω bb T hN wN hF wF) (hp : PR w ω k db rb d) (hk : 1 ≤ k ∧ k ≤ 3) (hl : (d.m.length + 1) * 40 ≤ 140737488355328) (_hn1 : N ≤ 9223372036854775807) :
    Calls Tryz.prog 6 #[pairV db rb c, .pointer (some ⟨bb, 0, none⟩), opV 6 N M tw nm S lo ln lc] w fun x w' => x = .returned (.tuple #[pairV db rb c, .bool true]) ∧ Stepped w ω bb T k d w' db rb := by
  have hBd := Bd.of hp.df hl
  obtain ⟨e, d', hE⟩ : ∃ e d', (e, d') = d.trunc nm.data.toList N := ⟨_, _, rfl⟩
  have hlen : d'.m.length ≤ d.m.length + 1 ∧ (Nok d → Nok d') := by have h1 := len_trunc d nm.data.toList N; have h2 := fun h : Nok d => nok_trunc h nm.data.toList N; rw [← hE] at h1; exact ⟨h1, fun h => by have h3 := h2 h; rw [← hE] at h3; exact h3⟩
  obtain ⟨C, hC⟩ : ∃ C : Nat → World → Prop, C = fun j W => (j = 0 ∧ ∃ ω', CW w ω bb T k db rb (pairC db rb c) (opC 6 N M tw nm S lo ln lc) hN wN hF wF d d W ω') ∨ (j = 1 ∧ ∃ ω', CW w ω bb T k db rb (pairC db rb c) (opC 6 N M tw nm S lo ln lc) hN wN hF wF d' d W ω') ∨ (j = 2 ∧ ∃ ω', CW w ω bb T k db rb (pairC db rb c) (opC 6 N M tw nm S lo ln lc) hN wN hF wF d' d' W ω') ∨ (j = 3 ∧ ∃ ω', CW w ω bb T k db rb (pairC db rb c) (opC 6 N M tw nm S lo ln lc) hN wN hF wF d' d' W ω' ∧ W.heap[w.heap.size + 2]? = some (.cells (pairC db rb c) 26 (0, 0))) := ⟨_, rfl⟩
  have c0 : ∀ W, C 0 W → ∃ ω', CW w ω bb T k db rb (pairC db rb c) (opC 6 N M tw nm S lo ln lc) hN wN hF wF d d W ω' := fun W h => by rw [hC] at h; rcases h with ⟨_, h⟩ | ⟨h, _⟩ | ⟨h, _⟩ | ⟨h, _⟩ <;> first | exact h | (exfalso; omega)
  have c1 : ∀ W, C 1 W → ∃ ω', CW w ω bb T k db rb (pairC db rb c) (opC 6 N M tw nm S lo ln lc) hN wN hF wF d' d W ω' := fun W h => by rw [hC] at h; rcases h with ⟨h, _⟩ | ⟨_, h⟩ | ⟨h, _⟩ | ⟨h, _⟩ <;> first | exact h | (exfalso; omega)
  have c2 : ∀ W, C 2 W → ∃ ω', CW w ω bb T k db rb (pairC db rb c) (opC 6 N M tw nm S lo ln lc) hN wN hF wF d' d' W ω' := fun W h => by rw [hC] at h; rcases h with ⟨h, _⟩ | ⟨h, _⟩ | ⟨_, h⟩ | ⟨h, _⟩ <;> first | exact h | (exfalso; omega)
  have c3 : ∀ W, C 3 W → ∃ ω', CW w ω bb T k db rb (pairC db rb c) (opC 6 N M tw nm S lo ln lc) hN wN hF wF d' d' W ω' ∧ W.heap[w.heap.size + 2]? = some (.cells (pairC db rb c) 26 (0, 0)) := fun W h => by rw [hC] at h; rcases h with ⟨h, _⟩ | ⟨h, _⟩ | ⟨h, _⟩ | ⟨_, h⟩ <;> first | exact h | (exfalso; omega)
  have hc : ∀ j W, C j W → (W.cell? ⟨w.heap.size, 0, none⟩ = some (.pointer (some ⟨db, 0, none⟩)) ∧ W.cell? ⟨w.heap.size, 1, none⟩ = some (.pointer (some ⟨rb, 0, none⟩)) ∧ W.cell? ⟨w.heap.size, 2, none⟩ = some (.int .i64 c)) ∧ W.cell? ⟨w.heap.size + 1, 1, none⟩ = some (.int .i64 N) ∧ W.cell? ⟨w.heap.size + 1, 4, none⟩ = some (.string nm) ∧ W.cell? ⟨w.heap.size + 1, 5, none⟩ = some (.string S) := fun j W h => by
    have key : W.heap[w.heap.size]? = some (.cells (pairC db rb c) 26 (0, 0)) ∧ W.heap[w.heap.size + 1]? = some (.cells (opC 6 N M tw nm S lo ln lc) 41 (0, 0)) := by
      rw [hC] at h
      rcases h with ⟨_, _, h⟩ | ⟨_, _, h⟩ | ⟨_, _, h⟩ | ⟨_, _, h, _⟩ <;> exact ⟨h.b0, h.b1⟩
    exact ⟨⟨by rw [blk_cell key.1]; rfl, by rw [blk_cell key.1]; rfl, by rw [blk_cell key.1]; rfl⟩, by rw [blk_cell key.2]; rfl, by rw [blk_cell key.2]; rfl, by rw [blk_cell key.2]; rfl⟩
  have hA1 : ∀ W, C 0 W → Calls Tryz.prog 18 #[.pointer (some ⟨db, 0, none⟩), .string nm, .int .i64 N] W fun x w' => x = .returned (.int .i64 e) ∧ C 1 w' := fun W h => by
    obtain ⟨ω', h'⟩ := c0 W h
    have := trunc_f db d _ W nm N h'.df
    rw [← hE] at this
    refine this.mono ?_
    rintro x w' ⟨hx, h1, h2⟩
    exact ⟨hx, by rw [hC]; exact Or.inr (Or.inl ⟨rfl, _, h'.actA hk h1 h2⟩)⟩
  have hR1 : ∀ W, C 1 W → Calls Tryz.prog 19 #[.pointer (some ⟨rb, 0, none⟩), .string nm, .int .i64 N] W fun x w' => x = .returned (.int .i64 e) ∧ C 2 w' := fun W h => by
    obtain ⟨ω', h'⟩ := c1 W h
    have := rtrunc_f rb d _ W nm N h'.rf hBd
    rw [← hE] at this
    refine this.mono ?_
    rintro x w' ⟨hx, h1, h2⟩
    exact ⟨hx, by rw [hC]; exact Or.inr (Or.inr (Or.inl ⟨rfl, _, h'.actR hk h1 h2⟩))⟩
  have hS1 : ∀ W, C 2 W → ((∃ y, W.cell? ⟨w.heap.size + 2, 0, none⟩ = some y) ∧ (∃ y, W.cell? ⟨w.heap.size + 2, 1, none⟩ = some y) ∧ ∃ y, W.cell? ⟨w.heap.size + 2, 2, none⟩ = some y) ∧ (∀ j, W.frozen? ⟨w.heap.size + 2, j, none⟩ = false) ∧ C 3 (((W.setCell ⟨w.heap.size + 2, 0, none⟩ (.pointer (some ⟨db, 0, none⟩))).setCell ⟨w.heap.size + 2, 1, none⟩ (.pointer (some ⟨rb, 0, none⟩))).setCell ⟨w.heap.size + 2, 2, none⟩ (.int .i64 c)) := fun W h => by
    obtain ⟨ω', h'⟩ := c2 W h
    obtain ⟨rc, hr, hz⟩ := h'.b2
    refine ⟨⟨⟨rc[0], by rw [blk_cell hr]; exact Array.getElem?_eq_getElem _⟩, ⟨rc[1], by rw [blk_cell hr]; exact Array.getElem?_eq_getElem _⟩, ⟨rc[2], by rw [blk_cell hr]; exact Array.getElem?_eq_getElem _⟩⟩, fun j => blk_frozen hr j, ?_⟩
    obtain ⟨g1, g2⟩ := h'.put hk (.pointer (some ⟨db, 0, none⟩)) (.pointer (some ⟨rb, 0, none⟩)) (.int .i64 c)
    rw [hC]
    exact Or.inr (Or.inr (Or.inr ⟨rfl, _, g1, g2⟩))
  have s0 : C 0 (((w.alloc (.cells (pairC db rb c) 26)).alloc (.cells (opC 6 N M tw nm S lo ln lc) 41)).alloc (.cells #[.pointer none, .pointer none, .int .i64 0] 26)).drew := by
    rw [hC]
    exact Or.inl ⟨rfl, _, (CW.start hp hb hk).drewN 1⟩
  have hfin : ∀ W, C 3 W → Stepped w ω bb T k d W db rb ∧ W.cell? ⟨w.heap.size + 2, 0, none⟩ = some (.pointer (some ⟨db, 0, none⟩)) ∧ W.cell? ⟨w.heap.size + 2, 1, none⟩ = some (.pointer (some ⟨rb, 0, none⟩)) ∧ W.cell? ⟨w.heap.size + 2, 2, none⟩ = some (.int .i64 c) := fun W h => by
    obtain ⟨ω', h', hr⟩ := c3 W h
    exact ⟨h'.stepped hlen, by rw [blk_cell hr]; rfl, by rw [blk_cell hr]; rfl, by rw [blk_cell hr]; rfl⟩
  clear hC c0 c1 c2 c3 hlen hp hb hE
  go_enter Tryz.func6, Tryz.ntmps6
  go_wp2_with fail
  refine wp_region_staged [7, 14, 16] C (by kernel_rfl) (by kernel_rfl) (by kernel_rfl) s0 ?_
  clear s0
  repeat (first
    | (refine stage_read (by go_simp) (by rfl) ?_
       apply Exists.intro
       refine ⟨fun j W hW b K Q hK => ?_, fun K hK => ?_⟩
       obtain ⟨⟨q0, q1, q2⟩, q3, q4, q5⟩ := hc j W hW
       go_simp
       exact hK W hW
       go_simp
       refine hK _ ?_
       clear hK K)
    | (refine stage_turn (by go_simp) (by rfl) ?_
       apply Exists.intro
       refine ⟨fun W hW b K Q hK => ?_, fun K hK => ?_⟩
       go_simp
       first
         | (go_at_call 18; refine (hA1 W hW).mono ?_; rintro x w' ⟨rfl, h1⟩; exact hK _ h1)
         | (go_at_call 19; refine (hR1 W hW).mono ?_; rintro x w' ⟨rfl, h1⟩; exact hK _ h1)
       go_simp
       refine hK _ ?_
       clear hK K)
    | (refine stage_turn (by go_simp) (by rfl) ?_
       refine ⟨undef, fun W hW b K Q hK => ?_, fun K hK => ?_⟩
       obtain ⟨⟨⟨y0, g0⟩, ⟨y1, g1⟩, ⟨y2, g2⟩⟩, gf, g3⟩ := hS1 W hW
       have gf0 := gf 0
       have gf1 := gf 1
       have gf2 := gf 2
       go_simp
       exact hK _ g3
       go_simp
       refine hK _ ?_
       clear hK K))
  refine stage_nil ?_
  intro w8 hw8
  obtain ⟨hst, g0, g1, g2⟩ := hfin w8 hw8
  have HST : Hid _ := hst
  clear hst hw8 hfin hc hA1 hR1 hS1
  go_wp2
  have hres : ∀ tmps : Array Value, tmps[6]?.getD undef = .pointer (some ⟨w.heap.size + 2, 0, none⟩) → tmps[7]?.getD undef = .bool true → (results Tryz.f6 tmps).run Tryz.prog w8 = .ok (.tuple #[pairV db rb c, .bool true]) w8 := fun tmps h4 h5 => by
    have hrs : Tryz.f6.results = #[.cell 6 26, .tmp 7] := by kernel_rfl
    simp only [results, hrs]
    go_simp
  refine bodyPost_ret (hres _ rfl rfl) rfl ?_
  exact ⟨rfl, HST.out⟩

set_option maxHeartbeats 4000000 in
theorem step_7 (hb : BO w ω bb T hN wN hF wF) (hp : PR w ω k db rb d) (hk : 1 ≤ k ∧ k ≤ 3) (hl : (d.m.length + 1) * 40 ≤ 140737488355328) (_hn1 : N ≤ 9223372036854775807) :
    Calls Tryz.prog 6 #[pairV db rb c, .pointer (some ⟨bb, 0, none⟩), opV 7 N M tw nm S lo ln lc] w fun x w' => x = .returned (.tuple #[pairV db rb c, .bool true]) ∧ Stepped w ω bb T k d w' db rb := by
  have hBd := Bd.of hp.df hl
  obtain ⟨e, d', hE⟩ : ∃ e d', (e, d') = d.remove nm.data.toList := ⟨_, _, rfl⟩
  have hlen : d'.m.length ≤ d.m.length + 1 ∧ (Nok d → Nok d') := by have h1 := len_remove d nm.data.toList; have h2 := fun h : Nok d => nok_remove h nm.data.toList; rw [← hE] at h1; exact ⟨h1, fun h => by have h3 := h2 h; rw [← hE] at h3; exact h3⟩
  obtain ⟨C, hC⟩ : ∃ C : Nat → World → Prop, C = fun j W => (j = 0 ∧ ∃ ω', CW w ω bb T k db rb (pairC db rb c) (opC 7 N M tw nm S lo ln lc) hN wN hF wF d d W ω') ∨ (j = 1 ∧ ∃ ω', CW w ω bb T k db rb (pairC db rb c) (opC 7 N M tw nm S lo ln lc) hN wN hF wF d' d W ω') ∨ (j = 2 ∧ ∃ ω', CW w ω bb T k db rb (pairC db rb c) (opC 7 N M tw nm S lo ln lc) hN wN hF wF d' d' W ω') ∨ (j = 3 ∧ ∃ ω', CW w ω bb T k db rb (pairC db rb c) (opC 7 N M tw nm S lo ln lc) hN wN hF wF d' d' W ω' ∧ W.heap[w.heap.size + 2]? = some (.cells (pairC db rb c) 26 (0, 0))) := ⟨_, rfl⟩
  have c0 : ∀ W, C 0 W → ∃ ω', CW w ω bb T k db rb (pairC db rb c) (opC 7 N M tw nm S lo ln lc) hN wN hF wF d d W ω' := fun W h => by rw [hC] at h; rcases h with ⟨_, h⟩ | ⟨h, _⟩ | ⟨h, _⟩ | ⟨h, _⟩ <;> first | exact h | (exfalso; omega)
  have c1 : ∀ W, C 1 W → ∃ ω', CW w ω bb T k db rb (pairC db rb c) (opC 7 N M tw nm S lo ln lc) hN wN hF wF d' d W ω' := fun W h => by rw [hC] at h; rcases h with ⟨h, _⟩ | ⟨_, h⟩ | ⟨h, _⟩ | ⟨h, _⟩ <;> first | exact h | (exfalso; omega)
  have c2 : ∀ W, C 2 W → ∃ ω', CW w ω bb T k db rb (pairC db rb c) (opC 7 N M tw nm S lo ln lc) hN wN hF wF d' d' W ω' := fun W h => by rw [hC] at h; rcases h with ⟨h, _⟩ | ⟨h, _⟩ | ⟨_, h⟩ | ⟨h, _⟩ <;> first | exact h | (exfalso; omega)
  have c3 : ∀ W, C 3 W → ∃ ω', CW w ω bb T k db rb (pairC db rb c) (opC 7 N M tw nm S lo ln lc) hN wN hF wF d' d' W ω' ∧ W.heap[w.heap.size + 2]? = some (.cells (pairC db rb c) 26 (0, 0)) := fun W h => by rw [hC] at h; rcases h with ⟨h, _⟩ | ⟨h, _⟩ | ⟨h, _⟩ | ⟨_, h⟩ <;> first | exact h | (exfalso; omega)
  have hc : ∀ j W, C j W → (W.cell? ⟨w.heap.size, 0, none⟩ = some (.pointer (some ⟨db, 0, none⟩)) ∧ W.cell? ⟨w.heap.size, 1, none⟩ = some (.pointer (some ⟨rb, 0, none⟩)) ∧ W.cell? ⟨w.heap.size, 2, none⟩ = some (.int .i64 c)) ∧ W.cell? ⟨w.heap.size + 1, 1, none⟩ = some (.int .i64 N) ∧ W.cell? ⟨w.heap.size + 1, 4, none⟩ = some (.string nm) ∧ W.cell? ⟨w.heap.size + 1, 5, none⟩ = some (.string S) := fun j W h => by
    have key : W.heap[w.heap.size]? = some (.cells (pairC db rb c) 26 (0, 0)) ∧ W.heap[w.heap.size + 1]? = some (.cells (opC 7 N M tw nm S lo ln lc) 41 (0, 0)) := by
      rw [hC] at h
      rcases h with ⟨_, _, h⟩ | ⟨_, _, h⟩ | ⟨_, _, h⟩ | ⟨_, _, h, _⟩ <;> exact ⟨h.b0, h.b1⟩
    exact ⟨⟨by rw [blk_cell key.1]; rfl, by rw [blk_cell key.1]; rfl, by rw [blk_cell key.1]; rfl⟩, by rw [blk_cell key.2]; rfl, by rw [blk_cell key.2]; rfl, by rw [blk_cell key.2]; rfl⟩
  have hA1 : ∀ W, C 0 W → Calls Tryz.prog 20 #[.pointer (some ⟨db, 0, none⟩), .string nm] W fun x w' => x = .returned (.int .i64 e) ∧ C 1 w' := fun W h => by
    obtain ⟨ω', h'⟩ := c0 W h
    have := remove_f db d _ W nm h'.df
    rw [← hE] at this
    refine this.mono ?_
    rintro x w' ⟨hx, h1, h2⟩
    exact ⟨hx, by rw [hC]; exact Or.inr (Or.inl ⟨rfl, _, h'.actA hk h1 h2⟩)⟩
  have hR1 : ∀ W, C 1 W → Calls Tryz.prog 21 #[.pointer (some ⟨rb, 0, none⟩), .string nm] W fun x w' => x = .returned (.int .i64 e) ∧ C 2 w' := fun W h => by
    obtain ⟨ω', h'⟩ := c1 W h
    have := rremove_f rb d _ W nm h'.rf hBd
    rw [← hE] at this
    refine this.mono ?_
    rintro x w' ⟨hx, h1, h2⟩
    exact ⟨hx, by rw [hC]; exact Or.inr (Or.inr (Or.inl ⟨rfl, _, h'.actR hk h1 h2⟩))⟩
  have hS1 : ∀ W, C 2 W → ((∃ y, W.cell? ⟨w.heap.size + 2, 0, none⟩ = some y) ∧ (∃ y, W.cell? ⟨w.heap.size + 2, 1, none⟩ = some y) ∧ ∃ y, W.cell? ⟨w.heap.size + 2, 2, none⟩ = some y) ∧ (∀ j, W.frozen? ⟨w.heap.size + 2, j, none⟩ = false) ∧ C 3 (((W.setCell ⟨w.heap.size + 2, 0, none⟩ (.pointer (some ⟨db, 0, none⟩))).setCell ⟨w.heap.size + 2, 1, none⟩ (.pointer (some ⟨rb, 0, none⟩))).setCell ⟨w.heap.size + 2, 2, none⟩ (.int .i64 c)) := fun W h => by
    obtain ⟨ω', h'⟩ := c2 W h
    obtain ⟨rc, hr, hz⟩ := h'.b2
    refine ⟨⟨⟨rc[0], by rw [blk_cell hr]; exact Array.getElem?_eq_getElem _⟩, ⟨rc[1], by rw [blk_cell hr]; exact Array.getElem?_eq_getElem _⟩, ⟨rc[2], by rw [blk_cell hr]; exact Array.getElem?_eq_getElem _⟩⟩, fun j => blk_frozen hr j, ?_⟩
    obtain ⟨g1, g2⟩ := h'.put hk (.pointer (some ⟨db, 0, none⟩)) (.pointer (some ⟨rb, 0, none⟩)) (.int .i64 c)
    rw [hC]
    exact Or.inr (Or.inr (Or.inr ⟨rfl, _, g1, g2⟩))
  have s0 : C 0 (((w.alloc (.cells (pairC db rb c) 26)).alloc (.cells (opC 7 N M tw nm S lo ln lc) 41)).alloc (.cells #[.pointer none, .pointer none, .int .i64 0] 26)).drew := by
    rw [hC]
    exact Or.inl ⟨rfl, _, (CW.start hp hb hk).drewN 1⟩
  have hfin : ∀ W, C 3 W → Stepped w ω bb T k d W db rb ∧ W.cell? ⟨w.heap.size + 2, 0, none⟩ = some (.pointer (some ⟨db, 0, none⟩)) ∧ W.cell? ⟨w.heap.size + 2, 1, none⟩ = some (.pointer (some ⟨rb, 0, none⟩)) ∧ W.cell? ⟨w.heap.size + 2, 2, none⟩ = some (.int .i64 c) := fun W h => by
    obtain ⟨ω', h', hr⟩ := c3 W h
    exact ⟨h'.stepped hlen, by rw [blk_cell hr]; rfl, by rw [blk_cell hr]; rfl, by rw [blk_cell hr]; rfl⟩
  clear hC c0 c1 c2 c3 hlen hp hb hE
  go_enter Tryz.func6, Tryz.ntmps6
  go_wp2_with fail
  refine wp_region_staged [5, 10, 12] C (by kernel_rfl) (by kernel_rfl) (by kernel_rfl) s0 ?_
  clear s0
  repeat (first
    | (refine stage_read (by go_simp) (by rfl) ?_
       apply Exists.intro
       refine ⟨fun j W hW b K Q hK => ?_, fun K hK => ?_⟩
       obtain ⟨⟨q0, q1, q2⟩, q3, q4, q5⟩ := hc j W hW
       go_simp
       exact hK W hW
       go_simp
       refine hK _ ?_
       clear hK K)
    | (refine stage_turn (by go_simp) (by rfl) ?_
       apply Exists.intro
       refine ⟨fun W hW b K Q hK => ?_, fun K hK => ?_⟩
       go_simp
       first
         | (go_at_call 20; refine (hA1 W hW).mono ?_; rintro x w' ⟨rfl, h1⟩; exact hK _ h1)
         | (go_at_call 21; refine (hR1 W hW).mono ?_; rintro x w' ⟨rfl, h1⟩; exact hK _ h1)
       go_simp
       refine hK _ ?_
       clear hK K)
    | (refine stage_turn (by go_simp) (by rfl) ?_
       refine ⟨undef, fun W hW b K Q hK => ?_, fun K hK => ?_⟩
       obtain ⟨⟨⟨y0, g0⟩, ⟨y1, g1⟩, ⟨y2, g2⟩⟩, gf, g3⟩ := hS1 W hW
       have gf0 := gf 0
       have gf1 := gf 1
       have gf2 := gf 2
       go_simp
       exact hK _ g3
       go_simp
       refine hK _ ?_
       clear hK K))
  refine stage_nil ?_
  intro w8 hw8
  obtain ⟨hst, g0, g1, g2⟩ := hfin w8 hw8
  have HST : Hid _ := hst
  clear hst hw8 hfin hc hA1 hR1 hS1
  go_wp2
  have hres : ∀ tmps : Array Value, tmps[6]?.getD undef = .pointer (some ⟨w.heap.size + 2, 0, none⟩) → tmps[7]?.getD undef = .bool true → (results Tryz.f6 tmps).run Tryz.prog w8 = .ok (.tuple #[pairV db rb c, .bool true]) w8 := fun tmps h4 h5 => by
    have hrs : Tryz.f6.results = #[.cell 6 26, .tmp 7] := by kernel_rfl
    simp only [results, hrs]
    go_simp
  refine bodyPost_ret (hres _ rfl rfl) rfl ?_
  exact ⟨rfl, HST.out⟩
end
end Go.Proofs.YtjambfbibeihiaaGreat
/- Steps that turn the disks. -/
namespace Go.Proofs.YtjambfbibeihiaaGreat
set_option maxRecDepth 100000
open Go.RowKit Go.ChangeMaps Go.Sort

section
variable (bb T k db rb : Nat) (d : Dsk) (c N M : Int) (tw : Bool) (nm S : ByteArray) (lo : Option Addr) (ln lc : Nat) (hN wN hF wF : Value) (ω : Nat → Nat) (w : World)

set_option maxHeartbeats 4000000 in
theorem step_8 (hb : BO w ω bb T hN wN hF wF) (hp : PR w ω k db rb d) (hk : 1 ≤ k ∧ k ≤ 3) (hl : (d.m.length + 1) * 40 ≤ 140737488355328) (_hn1 : N ≤ 9223372036854775807) :
    Calls Tryz.prog 6 #[pairV db rb c, .pointer (some ⟨bb, 0, none⟩), opV 8 N M tw nm S lo ln lc] w fun x w' => x = .returned (.tuple #[pairV db rb c, .bool true]) ∧ Stepped w ω bb T k d w' db rb := by
  have hBd := Bd.of hp.df hl
  obtain ⟨e, d', hE⟩ : ∃ e d', (e, d') = d.rename nm.data.toList S.data.toList := ⟨_, _, rfl⟩
  have hlen : d'.m.length ≤ d.m.length + 1 ∧ (Nok d → Nok d') := by have h1 := len_rename d nm.data.toList S.data.toList; have h2 := fun h : Nok d => nok_rename h nm.data.toList S.data.toList; rw [← hE] at h1; exact ⟨h1, fun h => by have h3 := h2 h; rw [← hE] at h3; exact h3⟩
  obtain ⟨C, hC⟩ : ∃ C : Nat → World → Prop, C = fun j W => (j = 0 ∧ ∃ ω', CW w ω bb T k db rb (pairC db rb c) (opC 8 N M tw nm S lo ln lc) hN wN hF wF d d W ω') ∨ (j = 1 ∧ ∃ ω', CW w ω bb T k db rb (pairC db rb c) (opC 8 N M tw nm S lo ln lc) hN wN hF wF d' d W ω') ∨ (j = 2 ∧ ∃ ω', CW w ω bb T k db rb (pairC db rb c) (opC 8 N M tw nm S lo ln lc) hN wN hF wF d' d' W ω') ∨ (j = 3 ∧ ∃ ω', CW w ω bb T k db rb (pairC db rb c) (opC 8 N M tw nm S lo ln lc) hN wN hF wF d' d' W ω' ∧ W.heap[w.heap.size + 2]? = some (.cells (pairC db rb c) 26 (0, 0))) := ⟨_, rfl⟩
  have c0 : ∀ W, C 0 W → ∃ ω', CW w ω bb T k db rb (pairC db rb c) (opC 8 N M tw nm S lo ln lc) hN wN hF wF d d W ω' := fun W h => by rw [hC] at h; rcases h with ⟨_, h⟩ | ⟨h, _⟩ | ⟨h, _⟩ | ⟨h, _⟩ <;> first | exact h | (exfalso; omega)
  have c1 : ∀ W, C 1 W → ∃ ω', CW w ω bb T k db rb (pairC db rb c) (opC 8 N M tw nm S lo ln lc) hN wN hF wF d' d W ω' := fun W h => by rw [hC] at h; rcases h with ⟨h, _⟩ | ⟨_, h⟩ | ⟨h, _⟩ | ⟨h, _⟩ <;> first | exact h | (exfalso; omega)
  have c2 : ∀ W, C 2 W → ∃ ω', CW w ω bb T k db rb (pairC db rb c) (opC 8 N M tw nm S lo ln lc) hN wN hF wF d' d' W ω' := fun W h => by rw [hC] at h; rcases h with ⟨h, _⟩ | ⟨h, _⟩ | ⟨_, h⟩ | ⟨h, _⟩ <;> first | exact h | (exfalso; omega)
  have c3 : ∀ W, C 3 W → ∃ ω', CW w ω bb T k db rb (pairC db rb c) (opC 8 N M tw nm S lo ln lc) hN wN hF wF d' d' W ω' ∧ W.heap[w.heap.size + 2]? = some (.cells (pairC db rb c) 26 (0, 0)) := fun W h => by rw [hC] at h; rcases h with ⟨h, _⟩ | ⟨h, _⟩ | ⟨h, _⟩ | ⟨_, h⟩ <;> first | exact h | (exfalso; omega)
  have hc : ∀ j W, C j W → (W.cell? ⟨w.heap.size, 0, none⟩ = some (.pointer (some ⟨db, 0, none⟩)) ∧ W.cell? ⟨w.heap.size, 1, none⟩ = some (.pointer (some ⟨rb, 0, none⟩)) ∧ W.cell? ⟨w.heap.size, 2, none⟩ = some (.int .i64 c)) ∧ W.cell? ⟨w.heap.size + 1, 1, none⟩ = some (.int .i64 N) ∧ W.cell? ⟨w.heap.size + 1, 4, none⟩ = some (.string nm) ∧ W.cell? ⟨w.heap.size + 1, 5, none⟩ = some (.string S) := fun j W h => by
    have key : W.heap[w.heap.size]? = some (.cells (pairC db rb c) 26 (0, 0)) ∧ W.heap[w.heap.size + 1]? = some (.cells (opC 8 N M tw nm S lo ln lc) 41 (0, 0)) := by
      rw [hC] at h
      rcases h with ⟨_, _, h⟩ | ⟨_, _, h⟩ | ⟨_, _, h⟩ | ⟨_, _, h, _⟩ <;> exact ⟨h.b0, h.b1⟩
    exact ⟨⟨by rw [blk_cell key.1]; rfl, by rw [blk_cell key.1]; rfl, by rw [blk_cell key.1]; rfl⟩, by rw [blk_cell key.2]; rfl, by rw [blk_cell key.2]; rfl, by rw [blk_cell key.2]; rfl⟩
  have hA1 : ∀ W, C 0 W → Calls Tryz.prog 22 #[.pointer (some ⟨db, 0, none⟩), .string nm, .string S] W fun x w' => x = .returned (.int .i64 e) ∧ C 1 w' := fun W h => by
    obtain ⟨ω', h'⟩ := c0 W h
    have := rename_f db d _ W nm S h'.df
    rw [← hE] at this
    refine this.mono ?_
    rintro x w' ⟨hx, h1, h2⟩
    exact ⟨hx, by rw [hC]; exact Or.inr (Or.inl ⟨rfl, _, h'.actA hk h1 h2⟩)⟩
  have hR1 : ∀ W, C 1 W → Calls Tryz.prog 23 #[.pointer (some ⟨rb, 0, none⟩), .string nm, .string S] W fun x w' => x = .returned (.int .i64 e) ∧ C 2 w' := fun W h => by
    obtain ⟨ω', h'⟩ := c1 W h
    have := rrename_f rb d _ W nm S h'.rf hBd
    rw [← hE] at this
    refine this.mono ?_
    rintro x w' ⟨hx, h1, h2⟩
    exact ⟨hx, by rw [hC]; exact Or.inr (Or.inr (Or.inl ⟨rfl, _, h'.actR hk h1 h2⟩))⟩
  have hS1 : ∀ W, C 2 W → ((∃ y, W.cell? ⟨w.heap.size + 2, 0, none⟩ = some y) ∧ (∃ y, W.cell? ⟨w.heap.size + 2, 1, none⟩ = some y) ∧ ∃ y, W.cell? ⟨w.heap.size + 2, 2, none⟩ = some y) ∧ (∀ j, W.frozen? ⟨w.heap.size + 2, j, none⟩ = false) ∧ C 3 (((W.setCell ⟨w.heap.size + 2, 0, none⟩ (.pointer (some ⟨db, 0, none⟩))).setCell ⟨w.heap.size + 2, 1, none⟩ (.pointer (some ⟨rb, 0, none⟩))).setCell ⟨w.heap.size + 2, 2, none⟩ (.int .i64 c)) := fun W h => by
    obtain ⟨ω', h'⟩ := c2 W h
    obtain ⟨rc, hr, hz⟩ := h'.b2
    refine ⟨⟨⟨rc[0], by rw [blk_cell hr]; exact Array.getElem?_eq_getElem _⟩, ⟨rc[1], by rw [blk_cell hr]; exact Array.getElem?_eq_getElem _⟩, ⟨rc[2], by rw [blk_cell hr]; exact Array.getElem?_eq_getElem _⟩⟩, fun j => blk_frozen hr j, ?_⟩
    obtain ⟨g1, g2⟩ := h'.put hk (.pointer (some ⟨db, 0, none⟩)) (.pointer (some ⟨rb, 0, none⟩)) (.int .i64 c)
    rw [hC]
    exact Or.inr (Or.inr (Or.inr ⟨rfl, _, g1, g2⟩))
  have s0 : C 0 (((w.alloc (.cells (pairC db rb c) 26)).alloc (.cells (opC 8 N M tw nm S lo ln lc) 41)).alloc (.cells #[.pointer none, .pointer none, .int .i64 0] 26)).drew := by
    rw [hC]
    exact Or.inl ⟨rfl, _, (CW.start hp hb hk).drewN 1⟩
  have hfin : ∀ W, C 3 W → Stepped w ω bb T k d W db rb ∧ W.cell? ⟨w.heap.size + 2, 0, none⟩ = some (.pointer (some ⟨db, 0, none⟩)) ∧ W.cell? ⟨w.heap.size + 2, 1, none⟩ = some (.pointer (some ⟨rb, 0, none⟩)) ∧ W.cell? ⟨w.heap.size + 2, 2, none⟩ = some (.int .i64 c) := fun W h => by
    obtain ⟨ω', h', hr⟩ := c3 W h
    exact ⟨h'.stepped hlen, by rw [blk_cell hr]; rfl, by rw [blk_cell hr]; rfl, by rw [blk_cell hr]; rfl⟩
  clear hC c0 c1 c2 c3 hlen hp hb hE
  go_enter Tryz.func6, Tryz.ntmps6
  go_wp2_with fail
  refine wp_region_staged [7, 14, 16] C (by kernel_rfl) (by kernel_rfl) (by kernel_rfl) s0 ?_
  clear s0
  repeat (first
    | (refine stage_read (by go_simp) (by rfl) ?_
       apply Exists.intro
       refine ⟨fun j W hW b K Q hK => ?_, fun K hK => ?_⟩
       obtain ⟨⟨q0, q1, q2⟩, q3, q4, q5⟩ := hc j W hW
       go_simp
       exact hK W hW
       go_simp
       refine hK _ ?_
       clear hK K)
    | (refine stage_turn (by go_simp) (by rfl) ?_
       apply Exists.intro
       refine ⟨fun W hW b K Q hK => ?_, fun K hK => ?_⟩
       go_simp
       first
         | (go_at_call 22; refine (hA1 W hW).mono ?_; rintro x w' ⟨rfl, h1⟩; exact hK _ h1)
         | (go_at_call 23; refine (hR1 W hW).mono ?_; rintro x w' ⟨rfl, h1⟩; exact hK _ h1)
       go_simp
       refine hK _ ?_
       clear hK K)
    | (refine stage_turn (by go_simp) (by rfl) ?_
       refine ⟨undef, fun W hW b K Q hK => ?_, fun K hK => ?_⟩
       obtain ⟨⟨⟨y0, g0⟩, ⟨y1, g1⟩, ⟨y2, g2⟩⟩, gf, g3⟩ := hS1 W hW
       have gf0 := gf 0
       have gf1 := gf 1
       have gf2 := gf 2
       go_simp
       exact hK _ g3
       go_simp
       refine hK _ ?_
       clear hK K))
  refine stage_nil ?_
  intro w8 hw8
  obtain ⟨hst, g0, g1, g2⟩ := hfin w8 hw8
  have HST : Hid _ := hst
  clear hst hw8 hfin hc hA1 hR1 hS1
  go_wp2
  have hres : ∀ tmps : Array Value, tmps[6]?.getD undef = .pointer (some ⟨w.heap.size + 2, 0, none⟩) → tmps[7]?.getD undef = .bool true → (results Tryz.f6 tmps).run Tryz.prog w8 = .ok (.tuple #[pairV db rb c, .bool true]) w8 := fun tmps h4 h5 => by
    have hrs : Tryz.f6.results = #[.cell 6 26, .tmp 7] := by kernel_rfl
    simp only [results, hrs]
    go_simp
  refine bodyPost_ret (hres _ rfl rfl) rfl ?_
  exact ⟨rfl, HST.out⟩

set_option maxHeartbeats 4000000 in
theorem step_11 (hb : BO w ω bb T hN wN hF wF) (hp : PR w ω k db rb d) (hk : 1 ≤ k ∧ k ≤ 3) (_hl : (d.m.length + 1) * 40 ≤ 140737488355328) (hn1 : N ≤ 9223372036854775807) :
    Calls Tryz.prog 6 #[pairV db rb c, .pointer (some ⟨bb, 0, none⟩), opV 11 N M tw nm S lo ln lc] w fun x w' => x = .returned (.tuple #[pairV db rb c, .bool true]) ∧ Stepped w ω bb T k d w' db rb := by
  obtain ⟨e, d', hE⟩ : ∃ e d', (e, d') = d.arm N := ⟨_, _, rfl⟩
  have hlen : d'.m.length ≤ d.m.length + 1 ∧ (Nok d → Nok d') := by have h1 := len_arm d N; have h2 := fun h : Nok d => nok_arm h N; rw [← hE] at h1; exact ⟨h1, fun h => by have h3 := h2 h; rw [← hE] at h3; exact h3⟩
  obtain ⟨C, hC⟩ : ∃ C : Nat → World → Prop, C = fun j W => (j = 0 ∧ ∃ ω', CW w ω bb T k db rb (pairC db rb c) (opC 11 N M tw nm S lo ln lc) hN wN hF wF d d W ω') ∨ (j = 1 ∧ ∃ ω', CW w ω bb T k db rb (pairC db rb c) (opC 11 N M tw nm S lo ln lc) hN wN hF wF d' d W ω') ∨ (j = 2 ∧ ∃ ω', CW w ω bb T k db rb (pairC db rb c) (opC 11 N M tw nm S lo ln lc) hN wN hF wF d' d' W ω') ∨ (j = 3 ∧ ∃ ω', CW w ω bb T k db rb (pairC db rb c) (opC 11 N M tw nm S lo ln lc) hN wN hF wF d' d' W ω' ∧ W.heap[w.heap.size + 2]? = some (.cells (pairC db rb c) 26 (0, 0))) := ⟨_, rfl⟩
  have c0 : ∀ W, C 0 W → ∃ ω', CW w ω bb T k db rb (pairC db rb c) (opC 11 N M tw nm S lo ln lc) hN wN hF wF d d W ω' := fun W h => by rw [hC] at h; rcases h with ⟨_, h⟩ | ⟨h, _⟩ | ⟨h, _⟩ | ⟨h, _⟩ <;> first | exact h | (exfalso; omega)
  have c1 : ∀ W, C 1 W → ∃ ω', CW w ω bb T k db rb (pairC db rb c) (opC 11 N M tw nm S lo ln lc) hN wN hF wF d' d W ω' := fun W h => by rw [hC] at h; rcases h with ⟨h, _⟩ | ⟨_, h⟩ | ⟨h, _⟩ | ⟨h, _⟩ <;> first | exact h | (exfalso; omega)
  have c2 : ∀ W, C 2 W → ∃ ω', CW w ω bb T k db rb (pairC db rb c) (opC 11 N M tw nm S lo ln lc) hN wN hF wF d' d' W ω' := fun W h => by rw [hC] at h; rcases h with ⟨h, _⟩ | ⟨h, _⟩ | ⟨_, h⟩ | ⟨h, _⟩ <;> first | exact h | (exfalso; omega)
  have c3 : ∀ W, C 3 W → ∃ ω', CW w ω bb T k db rb (pairC db rb c) (opC 11 N M tw nm S lo ln lc) hN wN hF wF d' d' W ω' ∧ W.heap[w.heap.size + 2]? = some (.cells (pairC db rb c) 26 (0, 0)) := fun W h => by rw [hC] at h; rcases h with ⟨h, _⟩ | ⟨h, _⟩ | ⟨h, _⟩ | ⟨_, h⟩ <;> first | exact h | (exfalso; omega)
  have hc : ∀ j W, C j W → (W.cell? ⟨w.heap.size, 0, none⟩ = some (.pointer (some ⟨db, 0, none⟩)) ∧ W.cell? ⟨w.heap.size, 1, none⟩ = some (.pointer (some ⟨rb, 0, none⟩)) ∧ W.cell? ⟨w.heap.size, 2, none⟩ = some (.int .i64 c)) ∧ W.cell? ⟨w.heap.size + 1, 1, none⟩ = some (.int .i64 N) ∧ W.cell? ⟨w.heap.size + 1, 4, none⟩ = some (.string nm) ∧ W.cell? ⟨w.heap.size + 1, 5, none⟩ = some (.string S) := fun j W h => by
    have key : W.heap[w.heap.size]? = some (.cells (pairC db rb c) 26 (0, 0)) ∧ W.heap[w.heap.size + 1]? = some (.cells (opC 11 N M tw nm S lo ln lc) 41 (0, 0)) := by
      rw [hC] at h
      rcases h with ⟨_, _, h⟩ | ⟨_, _, h⟩ | ⟨_, _, h⟩ | ⟨_, _, h, _⟩ <;> exact ⟨h.b0, h.b1⟩
    exact ⟨⟨by rw [blk_cell key.1]; rfl, by rw [blk_cell key.1]; rfl, by rw [blk_cell key.1]; rfl⟩, by rw [blk_cell key.2]; rfl, by rw [blk_cell key.2]; rfl, by rw [blk_cell key.2]; rfl⟩
  have hA1 : ∀ W, C 0 W → Calls Tryz.prog 24 #[.pointer (some ⟨db, 0, none⟩), .int .i64 N] W fun x w' => x = .returned (.int .i64 e) ∧ C 1 w' := fun W h => by
    obtain ⟨ω', h'⟩ := c0 W h
    have := arm_f db d _ W N h'.df hn1
    rw [← hE] at this
    refine this.mono ?_
    rintro x w' ⟨hx, h1, h2⟩
    exact ⟨hx, by rw [hC]; exact Or.inr (Or.inl ⟨rfl, _, h'.actA hk h1 h2⟩)⟩
  have hR1 : ∀ W, C 1 W → Calls Tryz.prog 25 #[.pointer (some ⟨rb, 0, none⟩), .int .i64 N] W fun x w' => x = .returned (.int .i64 e) ∧ C 2 w' := fun W h => by
    obtain ⟨ω', h'⟩ := c1 W h
    have := rarm_f rb d _ W N h'.rf
    rw [← hE] at this
    refine this.mono ?_
    rintro x w' ⟨hx, h1, h2⟩
    exact ⟨hx, by rw [hC]; exact Or.inr (Or.inr (Or.inl ⟨rfl, _, h'.actR hk h1 h2⟩))⟩
  have hS1 : ∀ W, C 2 W → ((∃ y, W.cell? ⟨w.heap.size + 2, 0, none⟩ = some y) ∧ (∃ y, W.cell? ⟨w.heap.size + 2, 1, none⟩ = some y) ∧ ∃ y, W.cell? ⟨w.heap.size + 2, 2, none⟩ = some y) ∧ (∀ j, W.frozen? ⟨w.heap.size + 2, j, none⟩ = false) ∧ C 3 (((W.setCell ⟨w.heap.size + 2, 0, none⟩ (.pointer (some ⟨db, 0, none⟩))).setCell ⟨w.heap.size + 2, 1, none⟩ (.pointer (some ⟨rb, 0, none⟩))).setCell ⟨w.heap.size + 2, 2, none⟩ (.int .i64 c)) := fun W h => by
    obtain ⟨ω', h'⟩ := c2 W h
    obtain ⟨rc, hr, hz⟩ := h'.b2
    refine ⟨⟨⟨rc[0], by rw [blk_cell hr]; exact Array.getElem?_eq_getElem _⟩, ⟨rc[1], by rw [blk_cell hr]; exact Array.getElem?_eq_getElem _⟩, ⟨rc[2], by rw [blk_cell hr]; exact Array.getElem?_eq_getElem _⟩⟩, fun j => blk_frozen hr j, ?_⟩
    obtain ⟨g1, g2⟩ := h'.put hk (.pointer (some ⟨db, 0, none⟩)) (.pointer (some ⟨rb, 0, none⟩)) (.int .i64 c)
    rw [hC]
    exact Or.inr (Or.inr (Or.inr ⟨rfl, _, g1, g2⟩))
  have s0 : C 0 (((w.alloc (.cells (pairC db rb c) 26)).alloc (.cells (opC 11 N M tw nm S lo ln lc) 41)).alloc (.cells #[.pointer none, .pointer none, .int .i64 0] 26)).drew := by
    rw [hC]
    exact Or.inl ⟨rfl, _, (CW.start hp hb hk).drewN 1⟩
  have hfin : ∀ W, C 3 W → Stepped w ω bb T k d W db rb ∧ W.cell? ⟨w.heap.size + 2, 0, none⟩ = some (.pointer (some ⟨db, 0, none⟩)) ∧ W.cell? ⟨w.heap.size + 2, 1, none⟩ = some (.pointer (some ⟨rb, 0, none⟩)) ∧ W.cell? ⟨w.heap.size + 2, 2, none⟩ = some (.int .i64 c) := fun W h => by
    obtain ⟨ω', h', hr⟩ := c3 W h
    exact ⟨h'.stepped hlen, by rw [blk_cell hr]; rfl, by rw [blk_cell hr]; rfl, by rw [blk_cell hr]; rfl⟩
  clear hC c0 c1 c2 c3 hlen hp hb hE
  go_enter Tryz.func6, Tryz.ntmps6
  go_wp2_with fail
  refine wp_region_staged [5, 10, 12] C (by kernel_rfl) (by kernel_rfl) (by kernel_rfl) s0 ?_
  clear s0
  repeat (first
    | (refine stage_read (by go_simp) (by rfl) ?_
       apply Exists.intro
       refine ⟨fun j W hW b K Q hK => ?_, fun K hK => ?_⟩
       obtain ⟨⟨q0, q1, q2⟩, q3, q4, q5⟩ := hc j W hW
       go_simp
       exact hK W hW
       go_simp
       refine hK _ ?_
       clear hK K)
    | (refine stage_turn (by go_simp) (by rfl) ?_
       apply Exists.intro
       refine ⟨fun W hW b K Q hK => ?_, fun K hK => ?_⟩
       go_simp
       first
         | (go_at_call 24; refine (hA1 W hW).mono ?_; rintro x w' ⟨rfl, h1⟩; exact hK _ h1)
         | (go_at_call 25; refine (hR1 W hW).mono ?_; rintro x w' ⟨rfl, h1⟩; exact hK _ h1)
       go_simp
       refine hK _ ?_
       clear hK K)
    | (refine stage_turn (by go_simp) (by rfl) ?_
       refine ⟨undef, fun W hW b K Q hK => ?_, fun K hK => ?_⟩
       obtain ⟨⟨⟨y0, g0⟩, ⟨y1, g1⟩, ⟨y2, g2⟩⟩, gf, g3⟩ := hS1 W hW
       have gf0 := gf 0
       have gf1 := gf 1
       have gf2 := gf 2
       go_simp
       exact hK _ g3
       go_simp
       refine hK _ ?_
       clear hK K))
  refine stage_nil ?_
  intro w8 hw8
  obtain ⟨hst, g0, g1, g2⟩ := hfin w8 hw8
  have HST : Hid _ := hst
  clear hst hw8 hfin hc hA1 hR1 hS1
  go_wp2
  have hres : ∀ tmps : Array Value, tmps[6]?.getD undef = .pointer (some ⟨w.heap.size + 2, 0, none⟩) → tmps[7]?.getD undef = .bool true → (results Tryz.f6 tmps).run Tryz.prog w8 = .ok (.tuple #[pairV db rb c, .bool true]) w8 := fun tmps h4 h5 => by
    have hrs : Tryz.f6.results = #[.cell 6 26, .tmp 7] := by kernel_rfl
    simp only [results, hrs]
    go_simp
  refine bodyPost_ret (hres _ rfl rfl) rfl ?_
  exact ⟨rfl, HST.out⟩

set_option maxHeartbeats 4000000 in
theorem step_12 (hb : BO w ω bb T hN wN hF wF) (hp : PR w ω k db rb d) (hk : 1 ≤ k ∧ k ≤ 3) (_hl : (d.m.length + 1) * 40 ≤ 140737488355328) (hn1 : N ≤ 9223372036854775807) :
    Calls Tryz.prog 6 #[pairV db rb c, .pointer (some ⟨bb, 0, none⟩), opV 12 N M tw nm S lo ln lc] w fun x w' => x = .returned (.tuple #[pairV db rb c, .bool true]) ∧ Stepped w ω bb T k d w' db rb := by
  obtain ⟨e, d', hE⟩ : ∃ e d', (e, d') = d.failSync N := ⟨_, _, rfl⟩
  have hlen : d'.m.length ≤ d.m.length + 1 ∧ (Nok d → Nok d') := by have h1 := len_failSync d N; have h2 := fun h : Nok d => nok_failSync h N; rw [← hE] at h1; exact ⟨h1, fun h => by have h3 := h2 h; rw [← hE] at h3; exact h3⟩
  obtain ⟨C, hC⟩ : ∃ C : Nat → World → Prop, C = fun j W => (j = 0 ∧ ∃ ω', CW w ω bb T k db rb (pairC db rb c) (opC 12 N M tw nm S lo ln lc) hN wN hF wF d d W ω') ∨ (j = 1 ∧ ∃ ω', CW w ω bb T k db rb (pairC db rb c) (opC 12 N M tw nm S lo ln lc) hN wN hF wF d' d W ω') ∨ (j = 2 ∧ ∃ ω', CW w ω bb T k db rb (pairC db rb c) (opC 12 N M tw nm S lo ln lc) hN wN hF wF d' d' W ω') ∨ (j = 3 ∧ ∃ ω', CW w ω bb T k db rb (pairC db rb c) (opC 12 N M tw nm S lo ln lc) hN wN hF wF d' d' W ω' ∧ W.heap[w.heap.size + 2]? = some (.cells (pairC db rb c) 26 (0, 0))) := ⟨_, rfl⟩
  have c0 : ∀ W, C 0 W → ∃ ω', CW w ω bb T k db rb (pairC db rb c) (opC 12 N M tw nm S lo ln lc) hN wN hF wF d d W ω' := fun W h => by rw [hC] at h; rcases h with ⟨_, h⟩ | ⟨h, _⟩ | ⟨h, _⟩ | ⟨h, _⟩ <;> first | exact h | (exfalso; omega)
  have c1 : ∀ W, C 1 W → ∃ ω', CW w ω bb T k db rb (pairC db rb c) (opC 12 N M tw nm S lo ln lc) hN wN hF wF d' d W ω' := fun W h => by rw [hC] at h; rcases h with ⟨h, _⟩ | ⟨_, h⟩ | ⟨h, _⟩ | ⟨h, _⟩ <;> first | exact h | (exfalso; omega)
  have c2 : ∀ W, C 2 W → ∃ ω', CW w ω bb T k db rb (pairC db rb c) (opC 12 N M tw nm S lo ln lc) hN wN hF wF d' d' W ω' := fun W h => by rw [hC] at h; rcases h with ⟨h, _⟩ | ⟨h, _⟩ | ⟨_, h⟩ | ⟨h, _⟩ <;> first | exact h | (exfalso; omega)
  have c3 : ∀ W, C 3 W → ∃ ω', CW w ω bb T k db rb (pairC db rb c) (opC 12 N M tw nm S lo ln lc) hN wN hF wF d' d' W ω' ∧ W.heap[w.heap.size + 2]? = some (.cells (pairC db rb c) 26 (0, 0)) := fun W h => by rw [hC] at h; rcases h with ⟨h, _⟩ | ⟨h, _⟩ | ⟨h, _⟩ | ⟨_, h⟩ <;> first | exact h | (exfalso; omega)
  have hc : ∀ j W, C j W → (W.cell? ⟨w.heap.size, 0, none⟩ = some (.pointer (some ⟨db, 0, none⟩)) ∧ W.cell? ⟨w.heap.size, 1, none⟩ = some (.pointer (some ⟨rb, 0, none⟩)) ∧ W.cell? ⟨w.heap.size, 2, none⟩ = some (.int .i64 c)) ∧ W.cell? ⟨w.heap.size + 1, 1, none⟩ = some (.int .i64 N) ∧ W.cell? ⟨w.heap.size + 1, 4, none⟩ = some (.string nm) ∧ W.cell? ⟨w.heap.size + 1, 5, none⟩ = some (.string S) := fun j W h => by
    have key : W.heap[w.heap.size]? = some (.cells (pairC db rb c) 26 (0, 0)) ∧ W.heap[w.heap.size + 1]? = some (.cells (opC 12 N M tw nm S lo ln lc) 41 (0, 0)) := by
      rw [hC] at h
      rcases h with ⟨_, _, h⟩ | ⟨_, _, h⟩ | ⟨_, _, h⟩ | ⟨_, _, h, _⟩ <;> exact ⟨h.b0, h.b1⟩
    exact ⟨⟨by rw [blk_cell key.1]; rfl, by rw [blk_cell key.1]; rfl, by rw [blk_cell key.1]; rfl⟩, by rw [blk_cell key.2]; rfl, by rw [blk_cell key.2]; rfl, by rw [blk_cell key.2]; rfl⟩
  have hA1 : ∀ W, C 0 W → Calls Tryz.prog 26 #[.pointer (some ⟨db, 0, none⟩), .int .i64 N] W fun x w' => x = .returned (.int .i64 e) ∧ C 1 w' := fun W h => by
    obtain ⟨ω', h'⟩ := c0 W h
    have := failSync_f db d _ W N h'.df hn1
    rw [← hE] at this
    refine this.mono ?_
    rintro x w' ⟨hx, h1, h2⟩
    exact ⟨hx, by rw [hC]; exact Or.inr (Or.inl ⟨rfl, _, h'.actA hk h1 h2⟩)⟩
  have hR1 : ∀ W, C 1 W → Calls Tryz.prog 27 #[.pointer (some ⟨rb, 0, none⟩), .int .i64 N] W fun x w' => x = .returned (.int .i64 e) ∧ C 2 w' := fun W h => by
    obtain ⟨ω', h'⟩ := c1 W h
    have := rfailSync_f rb d _ W N h'.rf
    rw [← hE] at this
    refine this.mono ?_
    rintro x w' ⟨hx, h1, h2⟩
    exact ⟨hx, by rw [hC]; exact Or.inr (Or.inr (Or.inl ⟨rfl, _, h'.actR hk h1 h2⟩))⟩
  have hS1 : ∀ W, C 2 W → ((∃ y, W.cell? ⟨w.heap.size + 2, 0, none⟩ = some y) ∧ (∃ y, W.cell? ⟨w.heap.size + 2, 1, none⟩ = some y) ∧ ∃ y, W.cell? ⟨w.heap.size + 2, 2, none⟩ = some y) ∧ (∀ j, W.frozen? ⟨w.heap.size + 2, j, none⟩ = false) ∧ C 3 (((W.setCell ⟨w.heap.size + 2, 0, none⟩ (.pointer (some ⟨db, 0, none⟩))).setCell ⟨w.heap.size + 2, 1, none⟩ (.pointer (some ⟨rb, 0, none⟩))).setCell ⟨w.heap.size + 2, 2, none⟩ (.int .i64 c)) := fun W h => by
    obtain ⟨ω', h'⟩ := c2 W h
    obtain ⟨rc, hr, hz⟩ := h'.b2
    refine ⟨⟨⟨rc[0], by rw [blk_cell hr]; exact Array.getElem?_eq_getElem _⟩, ⟨rc[1], by rw [blk_cell hr]; exact Array.getElem?_eq_getElem _⟩, ⟨rc[2], by rw [blk_cell hr]; exact Array.getElem?_eq_getElem _⟩⟩, fun j => blk_frozen hr j, ?_⟩
    obtain ⟨g1, g2⟩ := h'.put hk (.pointer (some ⟨db, 0, none⟩)) (.pointer (some ⟨rb, 0, none⟩)) (.int .i64 c)
    rw [hC]
    exact Or.inr (Or.inr (Or.inr ⟨rfl, _, g1, g2⟩))
  have s0 : C 0 (((w.alloc (.cells (pairC db rb c) 26)).alloc (.cells (opC 12 N M tw nm S lo ln lc) 41)).alloc (.cells #[.pointer none, .pointer none, .int .i64 0] 26)).drew := by
    rw [hC]
    exact Or.inl ⟨rfl, _, (CW.start hp hb hk).drewN 1⟩
  have hfin : ∀ W, C 3 W → Stepped w ω bb T k d W db rb ∧ W.cell? ⟨w.heap.size + 2, 0, none⟩ = some (.pointer (some ⟨db, 0, none⟩)) ∧ W.cell? ⟨w.heap.size + 2, 1, none⟩ = some (.pointer (some ⟨rb, 0, none⟩)) ∧ W.cell? ⟨w.heap.size + 2, 2, none⟩ = some (.int .i64 c) := fun W h => by
    obtain ⟨ω', h', hr⟩ := c3 W h
    exact ⟨h'.stepped hlen, by rw [blk_cell hr]; rfl, by rw [blk_cell hr]; rfl, by rw [blk_cell hr]; rfl⟩
  clear hC c0 c1 c2 c3 hlen hp hb hE
  go_enter Tryz.func6, Tryz.ntmps6
  go_wp2_with fail
  refine wp_region_staged [5, 10, 12] C (by kernel_rfl) (by kernel_rfl) (by kernel_rfl) s0 ?_
  clear s0
  repeat (first
    | (refine stage_read (by go_simp) (by rfl) ?_
       apply Exists.intro
       refine ⟨fun j W hW b K Q hK => ?_, fun K hK => ?_⟩
       obtain ⟨⟨q0, q1, q2⟩, q3, q4, q5⟩ := hc j W hW
       go_simp
       exact hK W hW
       go_simp
       refine hK _ ?_
       clear hK K)
    | (refine stage_turn (by go_simp) (by rfl) ?_
       apply Exists.intro
       refine ⟨fun W hW b K Q hK => ?_, fun K hK => ?_⟩
       go_simp
       first
         | (go_at_call 26; refine (hA1 W hW).mono ?_; rintro x w' ⟨rfl, h1⟩; exact hK _ h1)
         | (go_at_call 27; refine (hR1 W hW).mono ?_; rintro x w' ⟨rfl, h1⟩; exact hK _ h1)
       go_simp
       refine hK _ ?_
       clear hK K)
    | (refine stage_turn (by go_simp) (by rfl) ?_
       refine ⟨undef, fun W hW b K Q hK => ?_, fun K hK => ?_⟩
       obtain ⟨⟨⟨y0, g0⟩, ⟨y1, g1⟩, ⟨y2, g2⟩⟩, gf, g3⟩ := hS1 W hW
       have gf0 := gf 0
       have gf1 := gf 1
       have gf2 := gf 2
       go_simp
       exact hK _ g3
       go_simp
       refine hK _ ?_
       clear hK K))
  refine stage_nil ?_
  intro w8 hw8
  obtain ⟨hst, g0, g1, g2⟩ := hfin w8 hw8
  have HST : Hid _ := hst
  clear hst hw8 hfin hc hA1 hR1 hS1
  go_wp2
  have hres : ∀ tmps : Array Value, tmps[6]?.getD undef = .pointer (some ⟨w.heap.size + 2, 0, none⟩) → tmps[7]?.getD undef = .bool true → (results Tryz.f6 tmps).run Tryz.prog w8 = .ok (.tuple #[pairV db rb c, .bool true]) w8 := fun tmps h4 h5 => by
    have hrs : Tryz.f6.results = #[.cell 6 26, .tmp 7] := by kernel_rfl
    simp only [results, hrs]
    go_simp
  refine bodyPost_ret (hres _ rfl rfl) rfl ?_
  exact ⟨rfl, HST.out⟩
end
end Go.Proofs.YtjambfbibeihiaaGreat
