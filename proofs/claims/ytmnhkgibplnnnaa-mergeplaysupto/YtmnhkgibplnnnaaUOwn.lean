import Derived.Test.YtmnhkgibplnnnaaGOwn
/- Rows of changes: Clone, and own of any change. -/
namespace Go.Proofs.Ytmnhkgibplnnnaa
open Go.RowKit Go

/-- A row for reading: its cells. -/
structure RdR (w : World) (ao : Option Addr) (n c : Nat) (cs : List Value) : Prop where
  len : cs.length = n * 3
  one : ∀ u ∈ cs, u.oneCell' = true
  sm : n ≤ 1000000000000
  at' : (ao = none ∧ n = 0 ∧ c = 0) ∨ ∃ a, ao = some a ∧ ∀ j u, cs[j]? = some u → w.cell? (a.add j) = some u
theorem add_block (a : Addr) (j : Nat) : (a.add j).block = a.block := by unfold Addr.add; split <;> rfl
theorem RdR.tch {S : Nat → Prop} {w w' : World} {ao : Option Addr} {n c : Nat} {cs : List Value} (h : RdR w ao n c cs) (t : Tch S w w') (hS : ∀ a, ao = some a → 0 < n → ¬ S a.block) : RdR w' ao n c cs := by
  refine ⟨h.len, h.one, h.sm, ?_⟩
  rcases h.at' with e | ⟨a, rfl, hc⟩
  · exact .inl e
  · exact .inr ⟨a, rfl, fun j u hu => (t.cell (p := a.add j) (cell_lt (hc j u hu)) (by rw [add_block]; exact hS a rfl (by have h1 := (List.getElem?_eq_some_iff.1 hu).1; have h2 := h.len; omega))).trans (hc j u hu)⟩
theorem RdR.no {w w' : World} {ao : Option Addr} {n c : Nat} {cs : List Value} (h : RdR w ao n c cs) (t : Tch (fun _ => False) w w') : RdR w' ao n c cs := h.tch t (fun _ _ _ h => h)
theorem info_val : (Try.prog.info? 76).map (fun i => (i.zero, i.size, i.bytes)) = some (some (.agg #[.int .i64 0, .int .i64 0, .string ⟨#[]⟩]), 3, 32) := by kernel_rfl
theorem veq_nil_no (ad : Addr) (n c : Nat) (w : World) : (binOp .eql 25 (.slice (some ad) n c) (.slice none 0 0)).run Try.prog w = .ok (.bool false) w := Lib.run_eql_slice_some_nil w ad n c Try.underlying25
theorem row_ge {w : World} {base sz n k : Nat} {t : TypeId} {v : Value} {xs : List Value} (h : w.ownsRow base t sz v n xs) (hk : v.ownBlock = some k) : base ≤ k := (h.lt k hk).1
set_option maxHeartbeats 1000000 in
set_option maxRecDepth 100000 in
theorem rclone_any (ao : Option Addr) (n c : Nat) (cs : List Value) (w : World) (h : RdR w ao n c cs) :
    Calls Try.prog 32 #[.slice ao n c] w fun x w' => (∃ ro rc, x = .returned (.slice ro n rc) ∧ w'.ownsRow w.heap.size 76 3 (.slice ro n rc) n cs) ∧ Tch (fun _ => False) w w' := by
  obtain ⟨hlen, hone, hsm, hat⟩ := h
  rcases hat with ⟨rfl, rfl, rfl⟩ | ⟨a, rfl, hc⟩
  · obtain rfl : cs = [] := List.length_eq_zero_iff.1 hlen
    refine (clone_nil w).mono ?_
    rintro x w' ⟨rfl, rfl⟩
    exact ⟨⟨_, _, rfl, rfl, Or.inl ⟨rfl, rfl⟩⟩, Tch.refl _ _⟩
  · obtain ⟨i0, hi, hz0, hz1, hz2⟩ := info_parts info_val
    have he := veq_nil_no a n c
    obtain ⟨w0, hw0⟩ : ∃ w0, w0 = w.alloc (.cells #[] 76) := ⟨_, rfl⟩
    have t0 : Tch (fun _ => False) w w0 := by rw [hw0]; exact Tch.alloc _ _ _
    have hown : w0.ownsRow w.heap.size 76 3 (.slice (some ⟨w.heap.size, 0, none⟩) 0 0) 0 [] := ⟨rfl, Or.inr ⟨w.heap.size, 0, #[], rfl, Nat.le_refl _, by rw [hw0]; exact alloc_new _ _, Nat.le_refl _, by unfold maxLen; omega, rfl, rfl⟩⟩
    obtain ⟨v1, w1, hr1, hown1, hgr1, _, _⟩ := run_append_own_at (P := Try.prog) w0 w.heap.size 25 25 76 i0 _ 3 32 Try.underlying25 hi hz0 hz1 hz2 rfl (by decide) _ _ _ hown a n c cs hlen (fun j u hu => (t0.cell (p := a.add j) (cell_lt (hc j u hu)) (fun h => h)).trans (hc j u hu)) hone (by unfold maxLen; omega) (by omega) t0.size
    rw [Nat.zero_add, List.nil_append] at hown1
    obtain ⟨o1, c1, rfl⟩ := row_slice hown1
    have HT : Hid (Tch (fun _ => False) w w1) := t0.trans (Tch.of_grown (S := fun i => i = w.heap.size) hgr1 (fun g e => by simpa [Value.ownBlock] using e.symm)) (fun i hi e => by omega)
    have HO : Hid _ := hown1
    rw [hw0] at hr1
    clear hown hown1 hgr1 t0 hw0 hc hone hi hz0 hz1 hz2
    go_enter Try.func32, Try.ntmps32
    go_wp2_with (at_builtin; refine wpList_app _ rfl _ _ 25 rfl rfl _ _ rfl rfl hr1 ?_)
    go_ret
    exact ⟨⟨_, _, rfl, HO.out⟩, HT.out⟩
/-- A change as it lies in memory: its rows are slices. -/
structure Rc where
  l : Int
  x : Int
  k : Int
  t : Int
  oa : Option Addr
  ol : Nat
  oc : Nat
  na : Option Addr
  nl : Nat
  nc : Nat
def rcV (c : Rc) : Value := .agg #[.int .i64 c.l, .int .i64 c.x, .int .i64 c.k, .int .i64 c.t, .slice c.oa c.ol c.oc, .slice c.na c.nl c.nc]
def rc6 (c : Rc) : List Value := [.int .i64 c.l, .int .i64 c.x, .int .i64 c.k, .int .i64 c.t, .slice c.oa c.ol c.oc, .slice c.na c.nl c.nc]
/-- A change whose rows are memory of its own, behind base; none is the other's. -/
structure OwnC (base : Nat) (w : World) (c : Rc) (ocs ncs : List Value) : Prop where
  o : w.ownsRow base 76 3 (.slice c.oa c.ol c.oc) c.ol ocs
  n : w.ownsRow base 76 3 (.slice c.na c.nl c.nc) c.nl ncs
  ne : ∀ g, (Value.slice c.oa c.ol c.oc).ownBlock = some g → (Value.slice c.na c.nl c.nc).ownBlock ≠ some g
set_option maxHeartbeats 4000000 in
set_option maxRecDepth 1000000 in
theorem own_any (c : Rc) (ocs ncs : List Value) (w : World) (ho : RdR w c.oa c.ol c.oc ocs) (hn : RdR w c.na c.nl c.nc ncs) : Calls Try.prog 29 #[rcV c] w fun e w' => ∃ c', e = .returned (rcV c') ∧ c'.l = c.l ∧ c'.x = c.x ∧ c'.k = c.k ∧ c'.t = c.t ∧ c'.ol = c.ol ∧ c'.nl = c.nl ∧ OwnC w.heap.size w' c' ocs ncs ∧ Tch (fun _ => False) w w' := by
  obtain ⟨w1, hw1⟩ : ∃ w1, w1 = (w.alloc (.cells #[.int .i64 c.l, .int .i64 c.x, .int .i64 c.k, .int .i64 c.t, .slice c.oa c.ol c.oc, .slice c.na c.nl c.nc] 27)).alloc (.cells #[.int .i64 0, .int .i64 0, .int .i64 0, .int .i64 0, .slice none 0 0, .slice none 0 0] 27) := ⟨_, rfl⟩
  have HW : Hid (w1 = _) := hw1
  have t1 : Tch (fun _ => False) w w1 := by rw [hw1]; exact (Tch.alloc _ _ _).allocR _
  have b0 : w1.heap[w.heap.size]? = some (.cells #[.int .i64 c.l, .int .i64 c.x, .int .i64 c.k, .int .i64 c.t, .slice c.oa c.ol c.oc, .slice c.na c.nl c.nc] 27 (0, 0)) := by
    rw [hw1, (Tch.alloc (fun _ => False) _ _).block _ (by simp) (fun h => h)]; exact alloc_new _ _
  have b1 : w1.heap[w.heap.size + 1]? = some (.cells #[.int .i64 0, .int .i64 0, .int .i64 0, .int .i64 0, .slice none 0 0, .slice none 0 0] 27 (0, 0)) := by
    rw [hw1, ← World.size_alloc]; exact alloc_new _ _
  have hkc : ∀ W, Tch (fun _ => False) w1 W → W.cell? ⟨w.heap.size, 4, none⟩ = some (.slice c.oa c.ol c.oc) ∧ W.cell? ⟨w.heap.size, 5, none⟩ = some (.slice c.na c.nl c.nc) ∧ ∀ j, W.frozen? ⟨w.heap.size, j, none⟩ = false := fun W t => by
    have b := (t.block w.heap.size (blk_lt b0) (fun h => h)).trans b0
    exact ⟨blk_cell b 4, blk_cell b 5, blk_frozen b⟩
  obtain ⟨c4, c5, f0⟩ := hkc w1 (Tch.refl _ _)
  have HO : Hid (∀ W, Tch (fun _ => False) w1 W → Calls Try.prog 32 #[.slice c.oa c.ol c.oc] W fun x w' => (∃ ro rc, x = .returned (.slice ro c.ol rc) ∧ w'.ownsRow W.heap.size 76 3 (.slice ro c.ol rc) c.ol ocs) ∧ Tch (fun _ => False) W w') := fun W t => rclone_any _ _ _ _ W ((ho.no t1).no t)
  have HQ : Hid (∀ W, Tch (fun _ => False) w1 W → Calls Try.prog 32 #[.slice c.na c.nl c.nc] W fun x w' => (∃ ro rc, x = .returned (.slice ro c.nl rc) ∧ w'.ownsRow W.heap.size 76 3 (.slice ro c.nl rc) c.nl ncs) ∧ Tch (fun _ => False) W w') := fun W t => rclone_any _ _ _ _ W ((hn.no t1).no t)
  have HK : Hid _ := hkc
  have HB : Hid _ := And.intro b0 (And.intro b1 t1)
  have T0 : Hid (Tch (fun _ => False) w1 w1) := Tch.refl _ _
  clear b0 b1 t1 hw1 hkc ho hn
  unfold rcV
  go_enter Try.func29, Try.ntmps29
  go_wp2_with fail
  rw [← HW.out]
  go_region_with (go_at_call 32; first
    | (refine (HO.out _ (by first | exact T0.out.drew | exact TN.out)).mono ?_; rintro e wO ⟨⟨ro, rc, rfl, hO⟩, tO⟩; have HOo : Hid (wO.ownsRow w1.heap.size 76 3 (.slice ro c.ol rc) c.ol ocs) := hO; have UO : Hid _ := tO; have TO : Hid (Tch (fun _ => False) w1 wO) := (by first | exact T0.out.drew.trans' tO | exact TN.out.trans' tO); obtain ⟨c4, c5, f0⟩ := HK.out wO TO.out; clear hO tO)
    | (refine (HQ.out _ (by first | exact T0.out.drew | exact TO.out)).mono ?_; rintro e wN ⟨⟨so, sc, rfl, hN⟩, tN⟩; have HNn : Hid (wN.ownsRow wO.heap.size 76 3 (.slice so c.nl sc) c.nl ncs) := hN; have UN : Hid (Tch (fun _ => False) wO wN) := tN; have TN : Hid (Tch (fun _ => False) w1 wN) := (by first | exact T0.out.drew.trans' tN | exact TO.out.trans' tN); obtain ⟨c4, c5, f0⟩ := HK.out wN TN.out; clear hN tN))
  all_goals
    obtain ⟨b0, b1, t1⟩ := HB.out
    obtain ⟨w2, hw2⟩ : ∃ w2, w2 = (wN.setCell ⟨w.heap.size, 4, none⟩ (.slice ro c.ol rc)).setCell ⟨w.heap.size, 5, none⟩ (.slice so c.nl sc) := ⟨_, rfl⟩
    rw [← hw2]
    have t2 : Tch (fun i => i = w.heap.size) wN w2 := by rw [hw2]; exact (Tch.setCell (fun i => i = w.heap.size) _ _ _ rfl).setCellR _ _ rfl
    have bN := (TN.out.block w.heap.size (blk_lt b0) (fun h => h)).trans b0
    have b2 : w2.heap[w.heap.size]? = some (.cells #[.int .i64 c.l, .int .i64 c.x, .int .i64 c.k, .int .i64 c.t, .slice ro c.ol rc, .slice so c.nl sc] 27 (0, 0)) := by
      rw [hw2]; exact blk_set (blk_set bN _) _
    have bZ := (TN.out.block (w.heap.size + 1) (blk_lt b1) (fun h => h)).trans b1
    have b3 := (t2.block (w.heap.size + 1) (blk_lt bZ) (by omega)).trans bZ
    have hsz : w.heap.size + 1 < w1.heap.size := blk_lt b1
    have hsO : w1.heap.size ≤ wO.heap.size := TO.out.size
    have hoN := own_tch HOo.out UN.out (fun _ _ h => h)
    have hne : ∀ g, (Value.slice ro c.ol rc).ownBlock = some g → (Value.slice so c.nl sc).ownBlock ≠ some g := fun g e e2 => by
      have h1 := (HOo.out.lt g e).2
      have h2 := (HNn.out.lt g e2).1
      omega
    have HE : Hid (∀ W, Tch (fun i => i = w.heap.size + 1) w2 W → ∃ c', Ending.returned (.agg #[.int .i64 c.l, .int .i64 c.x, .int .i64 c.k, .int .i64 c.t, .slice ro c.ol rc, .slice so c.nl sc]) = .returned (.agg #[.int .i64 c'.l, .int .i64 c'.x, .int .i64 c'.k, .int .i64 c'.t, .slice c'.oa c'.ol c'.oc, .slice c'.na c'.nl c'.nc]) ∧ c'.l = c.l ∧ c'.x = c.x ∧ c'.k = c.k ∧ c'.t = c.t ∧ c'.ol = c.ol ∧ c'.nl = c.nl ∧ OwnC w.heap.size W c' ocs ncs ∧ Tch (fun _ => False) w W) := fun W tW => by
      refine ⟨⟨c.l, c.x, c.k, c.t, ro, c.ol, rc, so, c.nl, sc⟩, rfl, rfl, rfl, rfl, rfl, rfl, rfl, ⟨?_, ?_, hne⟩, ?_⟩
      · have h1 := own_tch hoN t2 (fun g e e2 => by have := (HOo.out.lt g e).1; omega)
        exact own_low (own_tch h1 tW (fun g e e2 => by have := (HOo.out.lt g e).1; omega)) (by omega)
      · have h1 := own_tch HNn.out t2 (fun g e e2 => by have := (HNn.out.lt g e).1; omega)
        exact own_low (own_tch h1 tW (fun g e e2 => by have := (HNn.out.lt g e).1; omega)) (by omega)
      · exact ((t1.trans' TN.out).trans t2 (fun i hi e => by omega)).trans tW (fun i hi e => by omega)
    obtain ⟨d0, d1, d2, d3, d4, d5⟩ := And.intro (blk_cell b2 0) (And.intro (blk_cell b2 1) (And.intro (blk_cell b2 2) (And.intro (blk_cell b2 3) (And.intro (blk_cell b2 4) (blk_cell b2 5)))))
    obtain ⟨e0, e1, e2, e3, e4, e5⟩ := And.intro (blk_cell b3 0) (And.intro (blk_cell b3 1) (And.intro (blk_cell b3 2) (And.intro (blk_cell b3 3) (And.intro (blk_cell b3 4) (blk_cell b3 5)))))
    simp only [List.getElem?_toArray, List.getElem?_cons_zero, List.getElem?_cons_succ] at d0 d1 d2 d3 d4 d5 e0 e1 e2 e3 e4 e5
    have f3 := blk_frozen b3
    have B3 : Hid _ := b3
    clear hw2 t2 b2 b3 bN bZ b0 b1 t1 c4 c5 f0 hoN hne hsz hsO
    go_wp2
    refine bodyPost_ret (res_ch rs_own rfl (by rw [blk_set (blk_set (blk_set (blk_set (blk_set (blk_set B3.out _) _) _) _) _) _]; rfl)) rfl ?_
    exact HE.out _ ((((((Tch.setCell (fun i => i = w.heap.size + 1) _ _ _ rfl).setCellR _ _ rfl).setCellR _ _ rfl).setCellR _ _ rfl).setCellR _ _ rfl).setCellR _ _ rfl)
end Go.Proofs.Ytmnhkgibplnnnaa
