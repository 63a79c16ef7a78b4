import Derived.Test.YtjambfbibeihiaaGreatList
import Derived.Laws.MakeOwn
/- Files: what lasts, by rising names. -/
namespace Go.Proofs.YtjambfbibeihiaaGreat
set_option maxRecDepth 100000
open Go.RowKit Go.ChangeMaps Go.Sort

/-- What Files tells of one. -/
def nmAt (d : Dsk) (i : Nat) : ByteArray := ⟨((d.m.map (·.1)).getD i []).toArray⟩
def bsAt (d : Dsk) (i : Nat) : ByteArray := ⟨((d.m.map fun p => p.2.bs.take p.2.la).getD i []).toArray⟩
theorem nmAt_list (d : Dsk) (i : Nat) : (nmAt d i).data.toList = (d.m.map (·.1)).getD i [] := by simp [nmAt]
theorem DW.nth {w : World} {b : Nat} {d : Dsk} {σ : Nat → Option Nat} {mb : Nat} {gm : List (Nm × (Nat × Fl))} (h : DW w b d σ mb gm) {i : Nat} (hi : i < d.m.length) :
    ∃ fb f, getL (nmAt d i).data.toList gm = some (fb, f) ∧ bsAt d i = ⟨(f.bs.take f.la).toArray⟩ := by
  have hl : d.m.length = gm.length := by rw [h.m]; simp [mapL]
  have hi' : i < gm.length := by omega
  refine ⟨gm[i].2.1, gm[i].2.2, ?_, ?_⟩
  · rw [nmAt_list, h.names, List.getD_eq_getElem?_getD, List.getElem?_map, List.getElem?_eq_getElem hi']
    exact h.apart.get (n := gm[i].1) (a := gm[i].2) (List.getElem_mem hi')
  · unfold bsAt
    rw [List.getD_eq_getElem?_getD, List.getElem?_map, h.m]
    unfold mapL
    rw [List.getElem?_map, List.getElem?_eq_getElem hi']
    rfl

theorem DW.nlen {w : World} {b : Nat} {d : Dsk} {σ : Nat → Option Nat} {mb : Nat} {gm : List (Nm × (Nat × Fl))} (h : DW w b d σ mb gm) {p : Nm × (Nat × Fl)} (hp : p ∈ gm) : p.1.length ≤ maxLen := by
  obtain ⟨es, clock, _, F, _, hD⟩ := h.own
  have h1 : ((.string p.1, .lit (.int .i64 p.2.1)) : Lit × DataW Unit) ∈ (es.toList.map (WideElems.rg Tryz.prog 9 ptrElem)).foldr DataW.insert [] := by
    unfold encD at hD
    simp only [DataW.map.injEq] at hD
    rw [← hD]
    exact List.mem_map.2 ⟨p, hp, rfl⟩
  obtain ⟨x, hx, hxe⟩ := List.mem_map.1 (mem_sorted.1 h1)
  obtain ⟨y, hy⟩ := F.reads x hx
  rw [WideElems.rg_of hy] at hxe
  have h2 := WideElems.rd_key hy
  rw [hxe] at h2
  obtain ⟨z, _, hz, hzl⟩ := Maps.keyOf_str Tryz.underlying9 h2
  simp only [Lit.string.injEq] at hz
  rw [hz]; exact hzl

theorem info_file : (Tryz.prog.info? 31).map (fun i => (i.zero, i.size, i.bytes)) = some (some (.agg #[.string ⟨#[]⟩, .string ⟨#[]⟩]), 2, 32) := by kernel_rfl
theorem make_files (n : Nat) (w : World) (hn : 32 * n ≤ 281474976710656) :
    (Instr.makeSlice 32 (.int .i64 (n : Int)) (.int .i64 (n : Int))).run Tryz.prog w = .ok (.slice (some ⟨w.heap.size, 0, none⟩) n n) (w.alloc (.cells (madeCells #[.string ⟨#[]⟩, .string ⟨#[]⟩] (n * 2)) 31)) := by
  obtain ⟨i, hi, hzz⟩ := Option.map_eq_some_iff.1 info_file
  simp only [Prod.mk.injEq] at hzz
  obtain ⟨hz, hs, hb⟩ := hzz
  have hr := run_make (P := Tryz.prog) w 32 31 i (.agg #[.string ⟨#[]⟩, .string ⟨#[]⟩]) Tryz.underlying32 hi hz .i64 .i64 n n (by omega) (Int.le_refl _) (by rw [hb]; omega) (by omega)
  simp only [Int.toNat_natCast, hs] at hr
  exact hr

theorem conv_row {w : World} {v : Value} {bs : List UInt8} (h : w.ownsRow 0 5 1 v bs.length (Lib.byteCells bs)) : (convert 74 9 v).run Tryz.prog w = .ok (.string ⟨bs.toArray⟩) w := by
  rcases h.2 with ⟨rfl, h2⟩ | ⟨g, cap, cur, rfl, _, hh, _, _, _, hx⟩
  · obtain rfl : bs = [] := List.eq_nil_of_length_eq_zero h2
    exact Lib.run_convert_nil_bytes w 74 9 5 0 Tryz.underlying74 Tryz.underlying5 Tryz.underlying9
  · refine run_convert_bytes_back w 74 9 5 ⟨g, 0, none⟩ cap bs Tryz.underlying74 Tryz.underlying5 Tryz.underlying9 ?_
    exact Lib.bytes_of_row hh (by simpa using hx)

/-- The list that comes out, so far. -/
structure FO (w : World) (sb n k : Nat) (d : Dsk) : Prop where
  blk : ∃ cur, w.heap[sb]? = some (.cells cur 31 (0, 0)) ∧ cur.size = n * 2
  got : ∀ i, i < k → w.cell? ⟨sb, i * 2, none⟩ = some (.string (nmAt d i)) ∧ w.cell? ⟨sb, i * 2 + 1, none⟩ = some (.string (bsAt d i))
theorem FO.tch {S : Nat → Prop} {w w' : World} {sb n k : Nat} {d : Dsk} (h : FO w sb n k d) (t : Tch S w w') (hs : ¬ S sb) : FO w' sb n k d := by
  obtain ⟨cur, h1, h2⟩ := h.blk
  have hl := blk_lt h1
  exact ⟨⟨cur, (t.block sb hl hs).trans h1, h2⟩, fun i hi => ⟨(t.cell (p := ⟨sb, _, none⟩) hl hs).trans (h.got i hi).1, (t.cell (p := ⟨sb, _, none⟩) hl hs).trans (h.got i hi).2⟩⟩
theorem FO.step {w : World} {sb n k : Nat} {d : Dsk} (h : FO w sb n k d) (hk : k < n) : FO ((w.setCell ⟨sb, k * 2, none⟩ (.string (nmAt d k))).setCell ⟨sb, k * 2 + 1, none⟩ (.string (bsAt d k))) sb n (k + 1) d := by
  obtain ⟨cur, h1, h2⟩ := h.blk
  have h3 := blk_set (blk_set h1 (i := k * 2) (.string (nmAt d k))) (i := k * 2 + 1) (.string (bsAt d k))
  refine ⟨⟨_, h3, by simp [h2]⟩, fun i hi => ?_⟩
  rw [blk_cell h3, blk_cell h3]
  rcases Nat.lt_or_ge i k with hik | hik
  · obtain ⟨g1, g2⟩ := h.got i hik
    rw [blk_cell h1] at g1 g2
    constructor
    · rw [Array.getElem?_setIfInBounds_ne (by omega), Array.getElem?_setIfInBounds_ne (by omega)]; exact g1
    · rw [Array.getElem?_setIfInBounds_ne (by omega), Array.getElem?_setIfInBounds_ne (by omega)]; exact g2
  · obtain rfl : i = k := by omega
    constructor
    · rw [Array.getElem?_setIfInBounds_ne (by omega), Array.getElem?_setIfInBounds_self_of_lt (by omega)]
    · rw [Array.getElem?_setIfInBounds_self_of_lt (by simp; omega)]

set_option maxHeartbeats 4000000 in
set_option maxRecDepth 100000 in
theorem files_any (b : Nat) (d : Dsk) (σ : Nat → Option Nat) (w : World) (h : DK w b d σ) (hb : d.m.length * 32 ≤ 140737488355328) :
    Calls Tryz.prog 70 #[.pointer (some ⟨b, 0, none⟩)] w fun x w' => ∃ sb, x = .returned (.slice (some ⟨sb, 0, none⟩) d.m.length d.m.length) ∧ FO w' sb d.m.length d.m.length d ∧ w.heap.size ≤ sb ∧ Tch (fun _ => False) w w' := by
  have hli := list_any b d σ w h (by omega)
  have HD : Hid (DK w b d σ) := h
  obtain ⟨n, hn⟩ : ∃ n, n = d.m.length := ⟨_, rfl⟩
  have HI : Hid (∀ i, i < n → ∀ mb gm W, DW W b d σ mb gm → ∃ fb f, getL (nmAt d i).data.toList gm = some (fb, f) ∧ bsAt d i = ⟨(f.bs.take f.la).toArray⟩) := fun i hi mb gm W hW => hW.nth (by omega)
  rw [← hn] at hli hb ⊢
  clear hn h
  go_enter Tryz.func70, Tryz.ntmps70
  go_wp2_with fail
  refine hli.mono ?_
  rintro x w1 ⟨v, rfl, hrow, t1⟩
  obtain ⟨ao, cp, hv⟩ := slice_of hrow
  subst hv
  have hmk := make_files n w1 (by omega)
  obtain ⟨w2, hw2⟩ : ∃ w2, w2 = w1.alloc (.cells (madeCells #[.string ⟨#[]⟩, .string ⟨#[]⟩] (n * 2)) 31) := ⟨_, rfl⟩
  obtain ⟨sb, hsb⟩ : ∃ sb, sb = w1.heap.size := ⟨_, rfl⟩
  rw [← hw2, ← hsb] at hmk
  have t2 : Tch (fun _ => False) w1 w2 := by rw [hw2]; exact Tch.alloc _ _ _
  have hsn : w.heap.size ≤ sb := by rw [hsb]; exact t1.size
  have F0 : FO w2 sb n 0 d := ⟨⟨_, by rw [hw2, hsb]; exact box_one w1 _, size_madeCells _ _⟩, fun i hi => by omega⟩
  have T2 := t1.trans' t2
  have HR : Hid (w2.ownsRow w.heap.size 9 1 (.slice ao n cp) n ((d.m.map (·.1)).map encStr)) := ownsRow_tch' hrow t2 (fun _ _ h => h)
  have hnr : ∀ g, (Value.slice ao n cp).ownBlock = some g → g < sb := fun g hg => by rw [hsb]; exact (hrow.lt g hg).2
  clear hw2 hsb t1 t2 hrow hli
  have nn : ∀ i, w.heap.size ≤ i → σ i = none := fun i hi => by
    cases hs : σ i with
    | none => rfl
    | some a => have := HD.out.lt i (by rw [hs]; exact fun h => by cases h); omega
  have HW : Hid (∀ wr, Tch (fun i => i = sb) w2 wr → DK wr b d σ ∧ Tch (fun _ => False) w wr ∧ wr.ownsRow w.heap.size 9 1 (.slice ao n cp) n ((d.m.map (·.1)).map encStr)) := fun wr t =>
    ⟨(HD.out.no T2).tch t (fun i _ hi => by rw [hi]; exact nn sb hsn), T2.trans t (fun i hi e => by omega), ownsRow_tch' HR.out t (fun g hg e => by have := hnr g hg; omega)⟩
  go_wp2_with fail
  go_loopw [15] (fun i wr => ∃ k : Nat, i = .int .i64 k ∧ k ≤ n ∧ FO wr sb n k d ∧ Tch (fun i => i = sb) w2 wr) (fun i _ => n - (intOf i).toNat)
  case atStart => exact ⟨0, rfl, by omega, F0, Tch.refl _ _⟩
  case round =>
    obtain ⟨k, rfl, hk, hO, hT⟩ := hrel
    clear F0
    by_cases hlt : (k : Int) < n
    · obtain ⟨⟨mb, gm, hD⟩, hTn, hrow⟩ := HW.out wr hT
      obtain ⟨fb, f, hg, hbs⟩ := HI.out k (by omega) mb gm wr hD
      have hsz : (nmAt d k).size ≤ maxLen := by
        have := hD.nlen (getL_mem hg)
        simpa using this
      obtain ⟨g, rfl⟩ : ∃ g, ao = some ⟨g, 0, none⟩ := by
        rcases hrow.2 with ⟨h1, h2⟩ | ⟨g, _, _, h1, _⟩
        · omega
        · simp only [Value.slice.injEq] at h1
          exact ⟨g, h1.1⟩
      have hnm : wr.cell? ⟨g, k, none⟩ = some (.string (nmAt d k)) := by
        have h1 := hrow.cells (g := g) rfl k (.string (nmAt d k)) (by
          have hl := hrow.1
          simp only [List.length_map, Nat.mul_one] at hl
          rw [List.getElem?_map, List.getElem?_map]
          unfold nmAt
          rw [List.getD_eq_getElem?_getD, List.getElem?_map, List.getElem?_eq_getElem (by omega)]
          rfl)
        simpa [Addr.add_lit] using h1
      obtain ⟨ao', cp', e0, e1, hro⟩ := hD.fcell hg
      have hle := (hD.flen hg).2
      have hcp := row_cap hro
      have hlc : f.la ≤ cp' := by omega
      have c2 := hD.c2
      have hl := hD.look hsz
      rw [hg] at hl
      simp only [] at hl
      have hcv : ∀ m, (convert 74 9 (.slice ao' f.la cp')).run Tryz.prog (wr.drewN m) = .ok (.string (bsAt d k)) (wr.drewN m) := fun m => by
        rw [hbs]
        have h1 := ownsRow_take (ownsRow_tch' hro ((Tch.refl (fun _ => False) wr).drewN m) (fun _ _ h => h)) hle
        rw [byteCells_take] at h1
        have h2 : (f.bs.take f.la).length = f.la := by simp; omega
        refine conv_row (bs := f.bs.take f.la) ?_
        rw [h2]; exact h1
      obtain ⟨cur, hcur, hcs⟩ := hO.blk
      have s0 : wr.cell? ⟨sb, k * 2, none⟩ = some (cur[k * 2]'(by omega)) := by rw [blk_cell hcur]; exact Array.getElem?_eq_getElem _
      have s1 : wr.cell? ⟨sb, k * 2 + 1, none⟩ = some (cur[k * 2 + 1]'(by omega)) := by rw [blk_cell hcur]; exact Array.getElem?_eq_getElem _
      have z0 := blk_frozen hcur (k * 2)
      have z1 := blk_frozen hcur (k * 2 + 1)
      have HS : Hid (∀ m, FO (((wr.drewN m).setCell ⟨sb, k * 2, none⟩ (.string (nmAt d k))).setCell ⟨sb, k * 2 + 1, none⟩ (.string (bsAt d k))) sb n (k + 1) d ∧ Tch (fun i => i = sb) w2 (((wr.drewN m).setCell ⟨sb, k * 2, none⟩ (.string (nmAt d k))).setCell ⟨sb, k * 2 + 1, none⟩ (.string (bsAt d k)))) := fun m =>
        ⟨(hO.tch ((Tch.refl (fun _ => False) wr).drewN m) (fun h => h)).step (by omega), ((hT.drewN m).setCellR _ _ rfl).setCellR _ _ rfl⟩
      have hl63 : (n : Int) ≤ 9223372036854775807 := by omega
      clear hD hrow hro hO hbs hg
      go_wp2_with fail
      refine wp_region_drew_tail 15 (by kernel_rfl) (by kernel_rfl) ?_
      simp only [List.take_succ_cons, List.take_zero, List.drop_succ_cons, List.drop_zero]
      repeat (quiet_step (fail))
      refine wpQuiet_nil ?_
      rintro w3 ⟨m, rfl⟩
      obtain ⟨h9, T9⟩ := HS.out m
      go_wp2
      go_roundw
      case rel => exact ⟨k + 1, by go_num, by omega, h9, T9⟩
      case measure => simp [intOf]; omega
    · obtain rfl : n = k := by omega
      obtain ⟨_, hTn, _⟩ := HW.out wr hT
      go_wp2
      go_ret
      exact ⟨sb, rfl, hO, hsn, hTn⟩
end Go.Proofs.YtjambfbibeihiaaGreat
