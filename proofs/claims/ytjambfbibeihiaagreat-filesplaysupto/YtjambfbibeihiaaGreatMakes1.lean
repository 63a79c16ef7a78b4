import Derived.Test.YtjambfbibeihiaaGreatMakes0
import Derived.BigQuiet
/- loads of the statements' package. -/
namespace Go.Proofs.YtjambfbibeihiaaGreat
set_option maxRecDepth 100000
open Go.RowKit Go.ChangeMaps Go.Sort

theorem rload_arg (c : Int) (v : Value) (w : World) (h : c < 1 ∨ 1000000000 < c) :
    Calls Tryz.prog 10 #[.int .i64 c, v] w fun x w' => x = .returned (.tuple #[.pointer none, .int .i64 1]) ∧ w' = w := by
  have hn := rnew_arg c w h
  go_enter Tryz.func10, Tryz.ntmps10
  go_wp2_with fail
  refine hn.mono ?_
  rintro x w1 ⟨rfl, hw1⟩
  subst hw1
  go_wp2
  go_ret2
  exact ⟨rfl, rfl⟩

theorem wrap_n1 {n : Nat} (h : n + 2 ≤ 9223372036854775807) : IntKind.i64.wrap ((n : Int) + 1) = (n : Int) + 1 := by
  simp only [IntKind.wrap, IntKind.bits, IntKind.signed]
  simp
  omega
/-- What both Loads tell. -/
def Both (c : Int) (n : Nat) (nm bs : Nat → ByteArray) (w' : World) (B : Nat) (dv rv : Value) (e : Int) : Prop :=
  (dv = .pointer none ∧ rv = .pointer none ∧ LoadsBad c n nm bs e) ∨ (e = 0 ∧ ∃ k : Nat, c = k ∧ LoadsOk k n nm bs ∧ ∃ b rb v, dv = .pointer (some ⟨b, 0, none⟩) ∧ rv = .pointer (some ⟨rb, 0, none⟩) ∧ DF w' b (mkD k (mk3 nm bs n n)) (fun i => i < B ∨ i = rb ∨ v.ownBlock = some i) ∧ RW w' rb (mkD k (mk3 nm bs n n)) v 0 ∧ B ≤ rb ∧ ∀ g, v.ownBlock = some g → B ≤ g)
theorem Both.tch {S : Nat → Prop} {c : Int} {n : Nat} {nm bs : Nat → ByteArray} {w w' : World} {B : Nat} {dv rv : Value} {e : Int} (h : Both c n nm bs w B dv rv e) (t : Tch S w w') (hS : ∀ i, S i → i < B) : Both c n nm bs w' B dv rv e := by
  rcases h with h | ⟨h0, k, h1, h2, b, rb, v, h3, h4, h5, h6, h7, h8⟩
  · exact Or.inl h
  · exact Or.inr ⟨h0, k, h1, h2, b, rb, v, h3, h4, h5.tch t (fun i _ hs => Or.inl (hS i hs)), h6.tch t (fun hs => by have := hS rb hs; omega) (fun g hg hs => by have := hS g hs; have := h8 g hg; omega), h7, h8⟩
theorem Both.mono {c : Int} {n : Nat} {nm bs : Nat → ByteArray} {w : World} {B B' : Nat} {dv rv : Value} {e : Int} (h : Both c n nm bs w B dv rv e) (hB : B' ≤ B) : Both c n nm bs w B' dv rv e := by
  rcases h with h | ⟨h0, k, h1, h2, b, rb, v, h3, h4, h5, h6, h7, h8⟩
  · exact Or.inl h
  · exact Or.inr ⟨h0, k, h1, h2, b, rb, v, h3, h4, h5.mono (fun i hi => hi.imp (fun h => by omega) id), h6, by omega, fun g hg => by have := h8 g hg; omega⟩
/-- Load, both cases. -/
theorem load_both (c : Int) (ao : Option Addr) (n cap : Nat) (nm bs : Nat → ByteArray) (w : World) (hL : FLs w ao n nm bs) (hn : n ≤ maxLen) :
    Calls Tryz.prog 9 #[.int .i64 c, .slice ao n cap] w fun x w' => ((∃ e, LoadsBad c n nm bs e ∧ x = .returned (.tuple #[.pointer none, .int .i64 e])) ∨ ∃ k : Nat, c = k ∧ LoadsOk k n nm bs ∧ ∃ b, x = .returned (.tuple #[.pointer (some ⟨b, 0, none⟩), .int .i64 0]) ∧ DF w' b (mkD k (mk3 nm bs n n)) (fun i => i < w.heap.size)) ∧ Tch (fun _ => False) w w' := by
  by_cases h : c < 1 ∨ 1000000000 < c
  · exact (load_arg c _ w h).mono fun x w' ⟨hx, hw⟩ => ⟨Or.inl ⟨1, Or.inl ⟨h, rfl⟩, hx⟩, by rw [hw]; exact Tch.refl _ _⟩
  · obtain ⟨k, rfl⟩ : ∃ k : Nat, c = k := ⟨c.toNat, by omega⟩
    exact (load_any k ao n cap nm bs w (by omega) (by omega) hL hn).mono fun x w' ⟨hx, ht⟩ => ⟨by
      rcases hx with hx | ⟨h1, h2⟩
      · exact Or.inl hx
      · exact Or.inr ⟨k, rfl, h1, h2⟩, ht⟩
theorem rload_both (c : Int) (ao : Option Addr) (n cap : Nat) (nm bs : Nat → ByteArray) (w : World) (hL : FLs w ao n nm bs) (hn : (n + 1) * 40 ≤ 140737488355328) (hs : lens bs n ≤ 4611686018427387904) :
    Calls Tryz.prog 10 #[.int .i64 c, .slice ao n cap] w fun x w' => ((∃ e, LoadsBad c n nm bs e ∧ x = .returned (.tuple #[.pointer none, .int .i64 e])) ∨ ∃ k : Nat, c = k ∧ LoadsOk k n nm bs ∧ ∃ rb v, x = .returned (.tuple #[.pointer (some ⟨rb, 0, none⟩), .int .i64 0]) ∧ RW w' rb (mkD k (mk3 nm bs n n)) v 0 ∧ w.heap.size ≤ rb ∧ ∀ g, v.ownBlock = some g → w.heap.size ≤ g) ∧ Tch (fun _ => False) w w' := by
  by_cases h : c < 1 ∨ 1000000000 < c
  · exact (rload_arg c _ w h).mono fun x w' ⟨hx, hw⟩ => ⟨Or.inl ⟨1, Or.inl ⟨h, rfl⟩, hx⟩, by rw [hw]; exact Tch.refl _ _⟩
  · obtain ⟨k, rfl⟩ : ∃ k : Nat, c = k := ⟨c.toNat, by omega⟩
    exact (rload_any k ao n cap nm bs w (by omega) (by omega) hL hn hs).mono fun x w' ⟨hx, ht⟩ => ⟨by
      rcases hx with hx | ⟨h1, h2⟩
      · exact Or.inl hx
      · exact Or.inr ⟨k, rfl, h1, h2⟩, ht⟩

/-- The list with two marks behind it. -/
structure AL (w : World) (sb n : Nat) : Prop where
  blk : ∃ cur, w.heap[sb]? = some (.cells cur 31 (0, 0)) ∧ cur.size = (n + 2) * 2
  m0 : w.cell? ⟨sb, n * 2, none⟩ = some (.string ⟨#[98, 101, 104, 105, 110, 100]⟩)
  m1 : w.cell? ⟨sb, (n + 1) * 2, none⟩ = some (.string ⟨#[102, 97, 114]⟩)
theorem AL.tch {S : Nat → Prop} {w w' : World} {sb n : Nat} (h : AL w sb n) (t : Tch S w w') (hs : ¬ S sb) : AL w' sb n := by
  obtain ⟨cur, h1, h2⟩ := h.blk
  have hl := blk_lt h1
  exact ⟨⟨cur, (t.block sb hl hs).trans h1, h2⟩, (t.cell (p := ⟨sb, _, none⟩) hl hs).trans h.m0, (t.cell (p := ⟨sb, _, none⟩) hl hs).trans h.m1⟩
theorem AL.step {w : World} {sb n k : Nat} (h : AL w sb n) (hk : k < n) (a b : Value) : AL ((w.setCell ⟨sb, k * 2, none⟩ a).setCell ⟨sb, k * 2 + 1, none⟩ b) sb n := by
  obtain ⟨cur, h1, h2⟩ := h.blk
  have h3 := blk_set (blk_set h1 (i := k * 2) a) (i := k * 2 + 1) b
  have g0 := h.m0
  have g1 := h.m1
  rw [blk_cell h1] at g0 g1
  refine ⟨⟨_, h3, by simp [h2]⟩, ?_, ?_⟩
  · rw [blk_cell h3, Array.getElem?_setIfInBounds_ne (by omega), Array.getElem?_setIfInBounds_ne (by omega)]; exact g0
  · rw [blk_cell h3, Array.getElem?_setIfInBounds_ne (by omega), Array.getElem?_setIfInBounds_ne (by omega)]; exact g1

theorem Tch.setRow (S : Nat → Prop) (w : World) (g : Nat) (cs : Array Value) (hg : S g) : Tch S w (w.setRow g cs) := by
  refine ⟨rfl, rfl, rfl, by simp [World.setRow], fun i hi hs => ?_⟩
  unfold World.setRow
  rw [Array.getElem?_modify, if_neg]
  intro e
  exact hs (e ▸ hg)
/-- The list laid, copied, marked. -/
theorem laid_all (ao : Option Addr) (n cap : Nat) (nm bs : Nat → ByteArray) (w : World) (hL : FLs w ao n nm bs) (hnil : ao = none → n = 0 ∧ cap = 0) (hn : 32 * (n + 2) ≤ 281474976710656) :
    ∃ w1 w2, ((Instr.makeSlice 32 (.int .i64 ((n : Int) + 2)) (.int .i64 ((n : Int) + 2))).run Tryz.prog w = .ok (.slice (some ⟨w.heap.size, 0, none⟩) (n + 2) (n + 2)) w1) ∧
      (∀ ty, (Builtin.copy_ #[32, 32] ty #[.slice (some ⟨w.heap.size, 0, none⟩) (n + 2) (n + 2), .slice ao n cap]).run Tryz.prog w1 = .ok (goInt n) w2) ∧
      (∃ cur, w2.heap[w.heap.size]? = some (.cells cur 31 (0, 0)) ∧ cur.size = (n + 2) * 2 ∧ ∀ i, i < n → cur[i * 2]? = some (.string (nm i)) ∧ cur[i * 2 + 1]? = some (.string (bs i))) ∧ Tch (fun _ => False) w w1 ∧ Tch (fun _ => False) w w2 := by
  have hmk := make_files (n + 2) w hn
  rw [show ((n + 2 : Nat) : Int) = (n : Int) + 2 by omega] at hmk
  obtain ⟨w1, hw1⟩ : ∃ w1, w1 = w.alloc (.cells (madeCells #[.string ⟨#[]⟩, .string ⟨#[]⟩] ((n + 2) * 2)) 31) := ⟨_, rfl⟩
  rw [← hw1] at hmk
  have t1 : Tch (fun _ => False) w w1 := by rw [hw1]; exact Tch.alloc _ _ _
  have hb : w1.heap[w.heap.size]? = some (.cells (madeCells #[.string ⟨#[]⟩, .string ⟨#[]⟩] ((n + 2) * 2)) 31 (0, 0)) := by rw [hw1]; exact box_one w _
  have hsz := size_madeCells #[.string ⟨#[]⟩, .string ⟨#[]⟩] ((n + 2) * 2)
  obtain ⟨cur0, hcur0⟩ : ∃ cur0, cur0 = madeCells #[.string ⟨#[]⟩, .string ⟨#[]⟩] ((n + 2) * 2) := ⟨_, rfl⟩
  rw [← hcur0] at hb hsz
  clear hcur0 hw1
  have hi : (Tryz.prog.info? 31).map (·.size) = some 2 := by kernel_rfl
  cases ao with
  | none =>
    obtain ⟨rfl, rfl⟩ := hnil rfl
    refine ⟨w1, w1, hmk, fun ty => run_copy_nil Tryz.prog w1 _ _ ty 31 _ _ _ Tryz.underlying32 (by rw [hi]; rfl), ⟨cur0, hb, hsz, fun i hi => by omega⟩, t1, t1⟩
  | some a =>
    have hr := fun ty => run_copy_row2 (P := Tryz.prog) w1 32 32 ty 31 w.heap.size 0 (n + 2) (n + 2) a n cap cur0 31 (fcl nm bs n) Tryz.underlying32 hi hb (by rw [fcl_len, show Nat.min n (n + 2) = n from Nat.min_eq_left (by omega)]) (fls_cells (hL.no t1)) (by rw [fcl_len]; omega) (fcl_one nm bs n)
    rw [show Nat.min n (n + 2) = n from Nat.min_eq_left (by omega)] at hr
    refine ⟨w1, _, hmk, hr, ⟨_, setRow_heap w1 _ cur0 _ 31 _ hb, ?_, fun i hi => ?_⟩, t1, ?_⟩
    · simp [fcl_len]; omega
    · obtain ⟨g1, g2⟩ := fcl_get nm bs n i hi
      have hl := fcl_len nm bs n
      simp only [List.take_zero, List.nil_append, List.getElem?_toArray]
      rw [List.getElem?_append_left (by omega), List.getElem?_append_left (by omega)]
      exact ⟨g1, g2⟩
    · exact t1.trans (Tch.setRow (fun i => i = w.heap.size) w1 _ _ rfl) (fun i hi e => by omega)

set_option maxHeartbeats 4000000 in
set_option maxRecDepth 100000 in
theorem loads_any (c : Int) (ao : Option Addr) (n cap : Nat) (nm bs : Nat → ByteArray) (w : World) (hL : FLs w ao n nm bs) (hnil : ao = none → n = 0 ∧ cap = 0) (hn : (n + 2) * 40 ≤ 140737488355328) (hs : lens bs n ≤ 4611686018427387904) :
    Calls Tryz.prog 4 #[.int .i64 c, .slice ao n cap] w fun x w' => ∃ dv rv, x = .returned (.tuple #[.agg #[dv, rv, .int .i64 c], .bool true]) ∧ (∃ e, Both c n nm bs w' w.heap.size dv rv e) ∧ Tch (fun _ => False) w w' := by
  have hn63 : n + 2 ≤ 9223372036854775807 := by omega
  obtain ⟨wA, hwA⟩ : ∃ wA, wA = w.alloc (.cells #[.pointer none, .pointer none, .int .i64 0] 26) := ⟨_, rfl⟩
  have tA : Tch (fun _ => False) w wA := by rw [hwA]; exact Tch.alloc _ _ _
  have hpb : wA.heap[w.heap.size]? = some (.cells #[.pointer none, .pointer none, .int .i64 0] 26 (0, 0)) := by rw [hwA]; exact box_one w _
  have hpl := blk_lt hpb
  obtain ⟨w1, w2, hmk, hcp, ⟨cur, hcb, hcs, hcc⟩, t1, t2⟩ := laid_all ao n cap nm bs wA (hL.no tA) hnil (by omega)
  obtain ⟨sb, hsb⟩ : ∃ sb, sb = wA.heap.size := ⟨_, rfl⟩
  rw [← hsb] at hmk hcp hcb
  have hsl := blk_lt hcb
  have T2 := tA.trans' t2
  obtain ⟨w4, hw4⟩ : ∃ w4, w4 = (w2.setCell ⟨sb, n * 2, none⟩ (.string ⟨#[98, 101, 104, 105, 110, 100]⟩)).setCell ⟨sb, (n + 1) * 2, none⟩ (.string ⟨#[102, 97, 114]⟩) := ⟨_, rfl⟩
  have t4 : Tch (fun i => i = sb) w2 w4 := by rw [hw4]; exact (Tch.setCell (fun i => i = sb) w2 ⟨sb, n * 2, none⟩ _ rfl).setCellR _ _ rfl
  have hb4 : w4.heap[sb]? = some (.cells ((cur.setIfInBounds (n * 2) (.string ⟨#[98, 101, 104, 105, 110, 100]⟩)).setIfInBounds ((n + 1) * 2) (.string ⟨#[102, 97, 114]⟩)) 31 (0, 0)) := by rw [hw4]; exact blk_set (blk_set hcb _) _
  have hA4 : AL w4 sb n := by
    refine ⟨⟨_, hb4, by simp [hcs]⟩, ?_, ?_⟩
    · rw [blk_cell hb4, Array.getElem?_setIfInBounds_ne (by omega), Array.getElem?_setIfInBounds_self_of_lt (by omega)]
    · rw [blk_cell hb4, Array.getElem?_setIfInBounds_self_of_lt (by simp; omega)]
  have hF4 : FLs w4 (some ⟨sb, 0, none⟩) n nm bs := fun i hi => by
    obtain ⟨g1, g2⟩ := hcc i hi
    refine ⟨sb, 0, rfl, ?_, ?_⟩
    · rw [blk_cell hb4, Nat.zero_add, Array.getElem?_setIfInBounds_ne (by omega), Array.getElem?_setIfInBounds_ne (by omega)]; exact g1
    · rw [blk_cell hb4, Nat.zero_add, Array.getElem?_setIfInBounds_ne (by omega), Array.getElem?_setIfInBounds_ne (by omega)]; exact g2
  have T4 : Tch (fun _ => False) w w4 := T2.trans t4 (fun i hi e => by have := tA.size; omega)
  have p4 : w4.heap[w.heap.size]? = some (.cells #[.pointer none, .pointer none, .int .i64 0] 26 (0, 0)) := (t4.block _ (Nat.lt_of_lt_of_le hpl t2.size) (by omega)).trans ((t2.block _ hpl (fun h => h)).trans hpb)
  obtain ⟨x0, k0⟩ : ∃ x0, w2.cell? ⟨sb, n * 2, none⟩ = some x0 := ⟨cur[n * 2]'(by omega), by rw [blk_cell hcb]; exact Array.getElem?_eq_getElem _⟩
  obtain ⟨x1, k1⟩ : ∃ x1, w2.cell? ⟨sb, (n + 1) * 2, none⟩ = some x1 := ⟨cur[(n + 1) * 2]'(by omega), by rw [blk_cell hcb]; exact Array.getElem?_eq_getElem _⟩
  have f0 := blk_frozen hcb (n * 2)
  have f1 := blk_frozen hcb ((n + 1) * 2)
  have hne : ¬ n * 2 = (n + 1) * 2 := by omega
  have HL4 : Hid (∀ W, Tch (fun _ => False) w4 W → FLs W (some ⟨sb, 0, none⟩) n nm bs ∧ FLs W ao n nm bs ∧ AL W sb n ∧ Tch (fun _ => False) w W) := fun W t => ⟨hF4.no t, hL.no (T4.trans' t), hA4.tch t (fun h => h), T4.trans' t⟩
  clear hL hnil tA hpb hcb hcs hcc t1 t2 T2 t4 hb4 hA4 hF4
  rw [hwA] at hmk
  have hsbw : w.heap.size < sb := by omega
  clear hwA hsb
  go_enter Tryz.func4, Tryz.ntmps4
  go_wp2_with fail
  rw [← hw4]
  clear hw4 hmk hcp k0 k1 f0 f1 hne
  refine (load_both c (some ⟨sb, 0, none⟩) n (n + 2) nm bs w4 (HL4.out w4 (Tch.refl _ _)).1 (by unfold maxLen; omega)).mono ?_
  rintro x w5 ⟨hx, t5⟩
  have hsb4 : sb < w4.heap.size := blk_lt (HL4.out w4 (Tch.refl _ _)).2.2.1.blk.choose_spec.1
  have hpb4 := blk_lt p4
  have hrl := rload_both c ao n cap nm bs w5 (HL4.out w5 t5).2.1 (by omega) hs
  rcases hx with ⟨e, hb, rfl⟩ | ⟨k, hck, hok, b, rfl, hD⟩
  · go_wp2_with fail
    refine hrl.mono ?_
    rintro x w6 ⟨hy, t6⟩
    rcases hy with ⟨e', hb', rfl⟩ | ⟨k, hck, hok', _⟩
    · obtain rfl := hb.uniq hb'
      have HB6 : Hid (Both c n nm bs w6 w4.heap.size (.pointer none) (.pointer none) e) := Or.inl ⟨rfl, rfl, hb⟩
      have hpn : True := trivial
      clear hb hb' hrl
      have T6 := t5.trans' t6
      clear t5 t6
      obtain ⟨l1, l2', _, _⟩ := HL4.out w6 T6
      have hsm := samef_any (some ⟨sb, 0, none⟩) ao n (n + 2) cap nm bs w6 l1 l2' (by omega)
      clear l1 l2'
      go_wp2_with fail
      refine hsm.mono ?_
      rintro x w7 ⟨rfl, m7, hw7⟩
      have T7 : Tch (fun _ => False) w4 w7 := by rw [hw7]; exact T6.drewN m7
      have HB7 : Hid (Both c n nm bs w7 w4.heap.size (.pointer none) (.pointer none) e) := HB6.out.tch (S := fun _ => False) (by rw [hw7]; exact (Tch.refl _ _).drewN m7) (fun _ h => h.elim)
      clear hw7 T6 HB6 hsm
      have hA7 := (HL4.out w7 T7).2.2.1
      go_wp2_with fail
      go_loopw [13] (fun i wr => ∃ k : Nat, i = .int .i64 k ∧ k ≤ n ∧ AL wr sb n ∧ Tch (fun i => i = sb) w7 wr) (fun i _ => n - (intOf i).toNat)
      case atStart => exact ⟨0, rfl, by omega, hA7, Tch.refl _ _⟩
      case round =>
        clear hA7
        obtain ⟨k, rfl, hk, hA, hT⟩ := hrel
        by_cases hlt : (k : Int) < n
        · obtain ⟨cur, hcur, hcs⟩ := hA.blk
          obtain ⟨y0, s0⟩ : ∃ y0, wr.cell? ⟨sb, k * 2, none⟩ = some y0 := ⟨cur[k * 2]'(by omega), by rw [blk_cell hcur]; exact Array.getElem?_eq_getElem _⟩
          obtain ⟨y1, s1⟩ : ∃ y1, wr.cell? ⟨sb, k * 2 + 1, none⟩ = some y1 := ⟨cur[k * 2 + 1]'(by omega), by rw [blk_cell hcur]; exact Array.getElem?_eq_getElem _⟩
          have z0 := blk_frozen hcur (k * 2)
          have z1 := blk_frozen hcur (k * 2 + 1)
          have HS : Hid (AL ((wr.setCell ⟨sb, k * 2, none⟩ (.string ⟨#[109, 105, 110, 101]⟩)).setCell ⟨sb, k * 2 + 1, none⟩ (.string ⟨#[110, 111, 119]⟩)) sb n ∧ Tch (fun i => i = sb) w7 ((wr.setCell ⟨sb, k * 2, none⟩ (.string ⟨#[109, 105, 110, 101]⟩)).setCell ⟨sb, k * 2 + 1, none⟩ (.string ⟨#[110, 111, 119]⟩))) := ⟨hA.step (by omega) _ _, (hT.setCellR _ _ rfl).setCellR _ _ rfl⟩
          clear hA hT hcur hcs
          go_wp2
          go_roundw
          case rel => exact ⟨k + 1, by go_num, by omega, HS.out.1, HS.out.2⟩
          case measure => simp [intOf]; omega
        · obtain rfl : n = k := by omega
          have pr : wr.heap[w.heap.size]? = some (.cells #[.pointer none, .pointer none, .int .i64 0] 26 (0, 0)) := (hT.block _ (Nat.lt_of_lt_of_le hpb4 T7.size) (by omega)).trans ((T7.block _ hpb4 (fun h => h)).trans p4)
          have p0 : wr.cell? ⟨w.heap.size, 0, none⟩ = some (.pointer none) := by rw [blk_cell pr]; rfl
          have p1 : wr.cell? ⟨w.heap.size, 1, none⟩ = some (.pointer none) := by rw [blk_cell pr]; rfl
          have p2 : wr.cell? ⟨w.heap.size, 2, none⟩ = some (.int .i64 0) := by rw [blk_cell pr]; rfl
          have z0 := blk_frozen pr 0
          have z1 := blk_frozen pr 1
          have z2 := blk_frozen pr 2
          obtain ⟨W8, hW8⟩ : ∃ W8, W8 = (((wr.setCell ⟨w.heap.size, 0, none⟩ (.pointer none)).setCell ⟨w.heap.size, 1, none⟩ (.pointer none)).setCell ⟨w.heap.size, 2, none⟩ (.int .i64 c)).drew := ⟨_, rfl⟩
          have t8 : Tch (fun i => i = w.heap.size) wr W8 := by rw [hW8]; exact (((Tch.setCell (fun i => i = w.heap.size) wr ⟨w.heap.size, 0, none⟩ _ rfl).setCellR _ _ rfl).setCellR _ _ rfl).drew
          have pr8 : W8.heap[w.heap.size]? = some (.cells #[(.pointer none), (.pointer none), .int .i64 c] 26 (0, 0)) := by rw [hW8]; exact blk_set (blk_set (blk_set pr _) _) _
          have HB8 : Hid (Both c n nm bs W8 w.heap.size (.pointer none) (.pointer none) e) := by
            have h1 := HB7.out.tch (hT.mono (T := fun i => i = sb) (fun _ _ h => h)) (fun i e => by omega)
            exact (h1.tch t8 (fun i e => by omega)).mono (by omega)
          have T8 : Tch (fun _ => False) w W8 := (((HL4.out w7 T7).2.2.2).trans hT (fun i hi e => by omega)).trans t8 (fun i hi e => by omega)
          obtain ⟨C, hCdef⟩ : ∃ C : Nat → World → Prop, C = fun j W => (j = 0 ∧ W = wr.drew) ∨ (j = 1 ∧ W = W8) := ⟨_, rfl⟩
          have hc : ∀ j W, C j W → W.cell? ⟨sb, n * 2, none⟩ = some (.string ⟨#[98, 101, 104, 105, 110, 100]⟩) ∧ W.cell? ⟨sb, (n + 1) * 2, none⟩ = some (.string ⟨#[102, 97, 114]⟩) := fun j W hW => by
            rw [hCdef] at hW
            have hne : ¬ sb = w.heap.size := by omega
            rcases hW with ⟨_, rfl⟩ | ⟨_, rfl⟩
            · exact ⟨hA.m0, hA.m1⟩
            · exact ⟨(t8.cell (p := ⟨sb, _, none⟩) (cell_lt hA.m0) hne).trans hA.m0, (t8.cell (p := ⟨sb, _, none⟩) (cell_lt hA.m1) hne).trans hA.m1⟩
          have e0 : ∀ W, C 0 W → W = wr.drew := fun W hW => by rw [hCdef] at hW; rcases hW with ⟨_, h⟩ | ⟨h, _⟩ <;> first | exact h | (exfalso; omega)
          have e1 : ∀ W, C 1 W → W = W8 := fun W hW => by rw [hCdef] at hW; rcases hW with ⟨h, _⟩ | ⟨_, h⟩ <;> first | exact h | (exfalso; omega)
          have s0 : C 0 wr.drew := by rw [hCdef]; exact Or.inl ⟨rfl, rfl⟩
          have s1 : C 1 W8 := by rw [hCdef]; exact Or.inr ⟨rfl, rfl⟩
          rw [hW8] at s1
          clear hCdef pr t8 hA hT HB7 T7
          have hsbn : ¬ sb = w.heap.size := by omega
          go_wp2_with fail
          have hx1 : (n : Int) < (n : Int) + 2 := by omega
          have hx2 : (n : Int) + 1 < (n : Int) + 2 := by omega
          have hx6 := wrap_n1 hn63
          have hx3 : (0 : Int) ≤ (n : Int) + 1 := by omega
          have hx4 : ((n : Int) + 1).toNat = n + 1 := by omega
          have hx5 : ¬ (n : Int) + 1 < 0 := by omega
          refine wp_region_staged [34] C (by kernel_rfl) (by kernel_rfl) (by kernel_rfl) s0 ?_
          repeat (first
            | (refine stage_read (by go_simp) (by rfl) ?_
               apply Exists.intro
               refine ⟨fun j W hW b K Q hK => ?_, fun K hK => ?_⟩
               obtain ⟨q1, q2⟩ := hc j W hW
               go_simp
               exact hK W hW
               go_simp
               refine hK _ ?_
               clear hK K))
          refine stage_turn (by go_simp) (by rfl) ?_
          refine ⟨undef, fun W hW b K Q hK => ?_, fun K hK => ?_⟩
          have hWe := e0 W hW
          subst hWe
          go_simp
          exact hK _ s1
          go_simp
          refine hK _ ?_
          clear hK K
          refine stage_read (by go_simp) (by rfl) ?_
          apply Exists.intro
          refine ⟨fun j W hW b K Q hK => ?_, fun K hK => ?_⟩
          go_simp
          exact hK W hW
          go_simp
          refine hK _ ?_
          clear hK K
          refine stage_nil ?_
          intro w2 hw2
          have hWe := e1 w2 hw2
          rw [hWe]
          clear hWe hw2 hW8 s1 s0 e0 e1 hc p0 p1 p2 z0 z1 z2
          have g0 : W8.cell? ⟨w.heap.size, 0, none⟩ = some (.pointer none) := by rw [blk_cell pr8]; rfl
          have g1 : W8.cell? ⟨w.heap.size, 1, none⟩ = some (.pointer none) := by rw [blk_cell pr8]; rfl
          have g2 : W8.cell? ⟨w.heap.size, 2, none⟩ = some (.int .i64 c) := by rw [blk_cell pr8]; rfl
          go_wp2
          have hres : ∀ tmps : Array Value, tmps[4]?.getD undef = .pointer (some ⟨w.heap.size, 0, none⟩) → tmps[5]?.getD undef = .bool true → (results Tryz.f4 tmps).run Tryz.prog W8 = .ok (.tuple #[.agg #[(.pointer none), (.pointer none), .int .i64 c], .bool true]) W8 := fun tmps h4 h5 => by
            have hrs : Tryz.f4.results = #[.cell 4 26, .tmp 5] := by kernel_rfl
            simp only [results, hrs]
            go_simp
          refine bodyPost_ret (hres _ rfl rfl) rfl ?_
          exact ⟨_, _, rfl, ⟨e, HB8.out⟩, T8⟩
    · subst hck
      exact (hb.not hok').elim
  · have HCK : Hid (c = (k : Int)) := hck
    clear hck
    go_wp2_with fail
    refine hrl.mono ?_
    rintro x w6 ⟨hy, t6⟩
    have hck := HCK.out
    rcases hy with ⟨e', hb', _⟩ | ⟨k', hck', hok', rb, v, rfl, hR, hrb, hv⟩
    · subst hck
      exact (hb'.not hok).elim
    · have HB6 : Hid (Both c n nm bs w6 w4.heap.size (.pointer (some ⟨b, 0, none⟩)) (.pointer (some ⟨rb, 0, none⟩)) 0) := by
        obtain rfl : k = k' := by omega
        have := t5.size
        exact Or.inr ⟨rfl, k, hck, hok, b, rb, v, rfl, rfl, (hD.fresh t6).mono (fun i hi => hi.elim (fun h => Or.inl h) (fun h => h.elim (fun h => Or.inr ⟨by rw [h]; exact hrb, by rw [h]; exact hR.lt⟩) (fun h => Or.inr ⟨hv i h, (hR.own.lt i h).2⟩))), hR, by omega, fun g hg => by have := hv g hg; omega⟩
      clear hD hR hrb hv hok hok' hck hck' hrl HCK
      have T6 := t5.trans' t6
      clear t5 t6
      obtain ⟨l1, l2', _, _⟩ := HL4.out w6 T6
      have hsm := samef_any (some ⟨sb, 0, none⟩) ao n (n + 2) cap nm bs w6 l1 l2' (by omega)
      clear l1 l2'
      go_wp2_with fail
      refine hsm.mono ?_
      rintro x w7 ⟨rfl, m7, hw7⟩
      have T7 : Tch (fun _ => False) w4 w7 := by rw [hw7]; exact T6.drewN m7
      have HB7 : Hid (Both c n nm bs w7 w4.heap.size (.pointer (some ⟨b, 0, none⟩)) (.pointer (some ⟨rb, 0, none⟩)) 0) := HB6.out.tch (S := fun _ => False) (by rw [hw7]; exact (Tch.refl _ _).drewN m7) (fun _ h => h.elim)
      clear hw7 T6 HB6 hsm
      have hA7 := (HL4.out w7 T7).2.2.1
      go_wp2_with fail
      go_loopw [13] (fun i wr => ∃ k : Nat, i = .int .i64 k ∧ k ≤ n ∧ AL wr sb n ∧ Tch (fun i => i = sb) w7 wr) (fun i _ => n - (intOf i).toNat)
      case atStart => exact ⟨0, rfl, by omega, hA7, Tch.refl _ _⟩
      case round =>
        clear hA7
        obtain ⟨k, rfl, hk, hA, hT⟩ := hrel
        by_cases hlt : (k : Int) < n
        · obtain ⟨cur, hcur, hcs⟩ := hA.blk
          obtain ⟨y0, s0⟩ : ∃ y0, wr.cell? ⟨sb, k * 2, none⟩ = some y0 := ⟨cur[k * 2]'(by omega), by rw [blk_cell hcur]; exact Array.getElem?_eq_getElem _⟩
          obtain ⟨y1, s1⟩ : ∃ y1, wr.cell? ⟨sb, k * 2 + 1, none⟩ = some y1 := ⟨cur[k * 2 + 1]'(by omega), by rw [blk_cell hcur]; exact Array.getElem?_eq_getElem _⟩
          have z0 := blk_frozen hcur (k * 2)
          have z1 := blk_frozen hcur (k * 2 + 1)
          have HS : Hid (AL ((wr.setCell ⟨sb, k * 2, none⟩ (.string ⟨#[109, 105, 110, 101]⟩)).setCell ⟨sb, k * 2 + 1, none⟩ (.string ⟨#[110, 111, 119]⟩)) sb n ∧ Tch (fun i => i = sb) w7 ((wr.setCell ⟨sb, k * 2, none⟩ (.string ⟨#[109, 105, 110, 101]⟩)).setCell ⟨sb, k * 2 + 1, none⟩ (.string ⟨#[110, 111, 119]⟩))) := ⟨hA.step (by omega) _ _, (hT.setCellR _ _ rfl).setCellR _ _ rfl⟩
          clear hA hT hcur hcs
          go_wp2
          go_roundw
          case rel => exact ⟨k + 1, by go_num, by omega, HS.out.1, HS.out.2⟩
          case measure => simp [intOf]; omega
        · obtain rfl : n = k := by omega
          have pr : wr.heap[w.heap.size]? = some (.cells #[.pointer none, .pointer none, .int .i64 0] 26 (0, 0)) := (hT.block _ (Nat.lt_of_lt_of_le hpb4 T7.size) (by omega)).trans ((T7.block _ hpb4 (fun h => h)).trans p4)
          have p0 : wr.cell? ⟨w.heap.size, 0, none⟩ = some (.pointer none) := by rw [blk_cell pr]; rfl
          have p1 : wr.cell? ⟨w.heap.size, 1, none⟩ = some (.pointer none) := by rw [blk_cell pr]; rfl
          have p2 : wr.cell? ⟨w.heap.size, 2, none⟩ = some (.int .i64 0) := by rw [blk_cell pr]; rfl
          have z0 := blk_frozen pr 0
          have z1 := blk_frozen pr 1
          have z2 := blk_frozen pr 2
          obtain ⟨W8, hW8⟩ : ∃ W8, W8 = (((wr.setCell ⟨w.heap.size, 0, none⟩ (.pointer (some ⟨b, 0, none⟩))).setCell ⟨w.heap.size, 1, none⟩ (.pointer (some ⟨rb, 0, none⟩))).setCell ⟨w.heap.size, 2, none⟩ (.int .i64 c)).drew := ⟨_, rfl⟩
          have t8 : Tch (fun i => i = w.heap.size) wr W8 := by rw [hW8]; exact (((Tch.setCell (fun i => i = w.heap.size) wr ⟨w.heap.size, 0, none⟩ _ rfl).setCellR _ _ rfl).setCellR _ _ rfl).drew
          have pr8 : W8.heap[w.heap.size]? = some (.cells #[(.pointer (some ⟨b, 0, none⟩)), (.pointer (some ⟨rb, 0, none⟩)), .int .i64 c] 26 (0, 0)) := by rw [hW8]; exact blk_set (blk_set (blk_set pr _) _) _
          have HB8 : Hid (Both c n nm bs W8 w.heap.size (.pointer (some ⟨b, 0, none⟩)) (.pointer (some ⟨rb, 0, none⟩)) 0) := by
            have h1 := HB7.out.tch (hT.mono (T := fun i => i = sb) (fun _ _ h => h)) (fun i e => by omega)
            exact (h1.tch t8 (fun i e => by omega)).mono (by omega)
          have T8 : Tch (fun _ => False) w W8 := (((HL4.out w7 T7).2.2.2).trans hT (fun i hi e => by omega)).trans t8 (fun i hi e => by omega)
          obtain ⟨C, hCdef⟩ : ∃ C : Nat → World → Prop, C = fun j W => (j = 0 ∧ W = wr.drew) ∨ (j = 1 ∧ W = W8) := ⟨_, rfl⟩
          have hc : ∀ j W, C j W → W.cell? ⟨sb, n * 2, none⟩ = some (.string ⟨#[98, 101, 104, 105, 110, 100]⟩) ∧ W.cell? ⟨sb, (n + 1) * 2, none⟩ = some (.string ⟨#[102, 97, 114]⟩) := fun j W hW => by
            rw [hCdef] at hW
            have hne : ¬ sb = w.heap.size := by omega
            rcases hW with ⟨_, rfl⟩ | ⟨_, rfl⟩
            · exact ⟨hA.m0, hA.m1⟩
            · exact ⟨(t8.cell (p := ⟨sb, _, none⟩) (cell_lt hA.m0) hne).trans hA.m0, (t8.cell (p := ⟨sb, _, none⟩) (cell_lt hA.m1) hne).trans hA.m1⟩
          have e0 : ∀ W, C 0 W → W = wr.drew := fun W hW => by rw [hCdef] at hW; rcases hW with ⟨_, h⟩ | ⟨h, _⟩ <;> first | exact h | (exfalso; omega)
          have e1 : ∀ W, C 1 W → W = W8 := fun W hW => by rw [hCdef] at hW; rcases hW with ⟨h, _⟩ | ⟨_, h⟩ <;> first | exact h | (exfalso; omega)
          have s0 : C 0 wr.drew := by rw [hCdef]; exact Or.inl ⟨rfl, rfl⟩
          have s1 : C 1 W8 := by rw [hCdef]; exact Or.inr ⟨rfl, rfl⟩
          rw [hW8] at s1
          clear hCdef pr t8 hA hT HB7 T7
          have hsbn : ¬ sb = w.heap.size := by omega
          go_wp2_with fail
          have hx1 : (n : Int) < (n : Int) + 2 := by omega
          have hx2 : (n : Int) + 1 < (n : Int) + 2 := by omega
          have hx6 := wrap_n1 hn63
          have hx3 : (0 : Int) ≤ (n : Int) + 1 := by omega
          have hx4 : ((n : Int) + 1).toNat = n + 1 := by omega
          have hx5 : ¬ (n : Int) + 1 < 0 := by omega
          refine wp_region_staged [34] C (by kernel_rfl) (by kernel_rfl) (by kernel_rfl) s0 ?_
          repeat (first
            | (refine stage_read (by go_simp) (by rfl) ?_
               apply Exists.intro
               refine ⟨fun j W hW b K Q hK => ?_, fun K hK => ?_⟩
               obtain ⟨q1, q2⟩ := hc j W hW
               go_simp
               exact hK W hW
               go_simp
               refine hK _ ?_
               clear hK K))
          refine stage_turn (by go_simp) (by rfl) ?_
          refine ⟨undef, fun W hW b K Q hK => ?_, fun K hK => ?_⟩
          have hWe := e0 W hW
          subst hWe
          go_simp
          exact hK _ s1
          go_simp
          refine hK _ ?_
          clear hK K
          refine stage_read (by go_simp) (by rfl) ?_
          apply Exists.intro
          refine ⟨fun j W hW b K Q hK => ?_, fun K hK => ?_⟩
          go_simp
          exact hK W hW
          go_simp
          refine hK _ ?_
          clear hK K
          refine stage_nil ?_
          intro w2 hw2
          have hWe := e1 w2 hw2
          rw [hWe]
          clear hWe hw2 hW8 s1 s0 e0 e1 hc p0 p1 p2 z0 z1 z2
          have g0 : W8.cell? ⟨w.heap.size, 0, none⟩ = some (.pointer (some ⟨b, 0, none⟩)) := by rw [blk_cell pr8]; rfl
          have g1 : W8.cell? ⟨w.heap.size, 1, none⟩ = some (.pointer (some ⟨rb, 0, none⟩)) := by rw [blk_cell pr8]; rfl
          have g2 : W8.cell? ⟨w.heap.size, 2, none⟩ = some (.int .i64 c) := by rw [blk_cell pr8]; rfl
          go_wp2
          have hres : ∀ tmps : Array Value, tmps[4]?.getD undef = .pointer (some ⟨w.heap.size, 0, none⟩) → tmps[5]?.getD undef = .bool true → (results Tryz.f4 tmps).run Tryz.prog W8 = .ok (.tuple #[.agg #[(.pointer (some ⟨b, 0, none⟩)), (.pointer (some ⟨rb, 0, none⟩)), .int .i64 c], .bool true]) W8 := fun tmps h4 h5 => by
            have hrs : Tryz.f4.results = #[.cell 4 26, .tmp 5] := by kernel_rfl
            simp only [results, hrs]
            go_simp
          refine bodyPost_ret (hres _ rfl rfl) rfl ?_
          exact ⟨_, _, rfl, ⟨0, HB8.out⟩, T8⟩
end Go.Proofs.YtjambfbibeihiaaGreat
